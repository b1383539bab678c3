import PyProof.Rows.All
import Wide.All
import OpenK.AllK
import Wide.FinOn
import Lean
import PyProof.EqAt
import PyProof.EqKinds
import PyProof.TupleCall
import PySem.Challenge.RW_rowsmith_k33_passes_in_rings
import KE.KRevIter
import PyProof.ListRange
import PyProof.CollectIter
import PyProof.Rows.SortWalk
import PyProof.ListMulRoad
import PyProof.AutoListH
import PyProof.IsiH_list
import PyProof.TupleOfGen
import PyProof.EnumMake
set_option Elab.async false
set_option linter.all false
set_option maxRecDepth 100000
set_option maxHeartbeats 4000000
namespace L2
open PySem PySem.Spec PyProof.Rows
abbrev Key:=Sum Int Str
def sS:Key->Value->Bool
 | .inl k,v=>Value.isInt k v
 | .inr x,v=>Value.isStrOf x v
def Rz (w:World):Key->Int
 | .inl k=>hashInt k
 | .inr x=>hashStr w x
theorem dZ:∀ {k:Key} {v:Value},sS k v=true->(∃ i t,k=Sum.inl i/\v=Value.int i t)\/(∃ x t,k=Sum.inr x/\v=Value.str x t)
 | .inl i,v,h=>by
  obtain ⟨t,e⟩:=Value.isInt_shape (k:=i) (v:=v) h
  exact .inl ⟨i,t,rfl,e⟩
 | .inr x,v,h=>by
  obtain ⟨t,e⟩:=Value.isStrOf_shape (x:=x) (v:=v) h
  exact .inr ⟨x,t,rfl,e⟩
theorem G3 (i:Int) (t:Tok):sS (.inl i) (.int i t)=true:=by simp [sS,Value.isInt]
theorem GQ (x:Str) (t:Tok):sS (.inr x) (.str x t)=true:=by simp [sS,Value.isStrOf]
theorem OP (a b:Int):decide ((Sum.inl a:Key)=Sum.inl b)=(a == b):=by
 by_cases e:a=b
 ·subst e;simp
 ·have h:¬ (Sum.inl a:Key)=Sum.inl b:=fun q=>e (Sum.inl.inj q)
  rw [decide_eq_false h]
  exact (beq_eq_false_iff_ne.mpr e).symm
theorem OU (a b:Str):decide ((Sum.inr a:Key)=Sum.inr b)=decide (a=b):=by
 by_cases e:a=b
 ·subst e;simp
 ·have h:¬ (Sum.inr a:Key)=Sum.inr b:=fun q=>e (Sum.inr.inj q)
  rw [decide_eq_false h,decide_eq_false e]
theorem Oc (a:Int) (b:Str):decide ((Sum.inl a:Key)=Sum.inr b)=false:=decide_eq_false (fun q=>nomatch q)
theorem OS (a:Str) (b:Int):decide ((Sum.inr a:Key)=Sum.inl b)=false:=decide_eq_false (fun q=>nomatch q)
def cN (prog:Program) (w:World):PySem.KeyKind prog w Key where
 is:=sS
 hash:=Rz w
 inj:=fun v a b ha hb=>by
  rcases dZ ha with ⟨i,t,rfl,rfl⟩ | ⟨x,t,rfl,rfl⟩
  ·rcases dZ hb with ⟨j,u,rfl,e⟩ | ⟨y,u,rfl,e⟩
   ·injection e with e1 _;rw [e1]
   ·exact nomatch e
  ·rcases dZ hb with ⟨j,u,rfl,e⟩ | ⟨y,u,rfl,e⟩
   ·exact nomatch e
   ·injection e with e1 _;rw [e1]
 byValue:=fun k v h=>by
  rcases dZ h with ⟨i,t,rfl,rfl⟩ | ⟨x,t,rfl,rfl⟩ <;> rfl
 pyHash:=fun hv h=>by
  rcases dZ hv with ⟨i,t,rfl,rfl⟩ | ⟨x,t,rfl,rfl⟩
  ·exact wpAny_pyHash_int h
  ·exact wpAny_pyHash_str h
 eqBool:=fun hu hv h=>by
  rcases dZ hu with ⟨i,t,rfl,rfl⟩ | ⟨x,t,rfl,rfl⟩
  ·rcases dZ hv with ⟨j,u,rfl,rfl⟩ | ⟨y,u,rfl,rfl⟩
   ·rw [OP] at h;exact wpAny_eqBool_int h
   ·rw [Oc] at h;exact SeqAt.EqAt.int_str i t y u _ _ _ _ h
  ·rcases dZ hv with ⟨j,u,rfl,rfl⟩ | ⟨y,u,rfl,rfl⟩
   ·rw [OS] at h;exact SeqAt.EqAt.str_int x t j u _ _ _ _ h
   ·rw [OU] at h;exact wpAny_eqBool_str h
 «strs»:=fun k x t v h=>by
  rcases dZ h with ⟨i,u,rfl,e⟩ | ⟨y,u,rfl,e⟩
  ·exact nomatch e
  ·injection e with e1 _
   subst e1
   cases v <;> rfl
theorem D4 (prog:Program) (w:World) (i:Int) (t:Tok):(cN prog w).is (.inl i) (.int i t)=true:=G3 i t
theorem DO (prog:Program) (w:World) (x:Str) (t:Tok):(cN prog w).is (.inr x) (.str x t)=true:=GQ x t
inductive V where
 | non | bl (b:Bool) | int (i:Int) | str (x:Str) | byt (b:Array UInt8) | flt (b:UInt64) | ref (a:Addr) | ty (n:String)
 deriving DecidableEq
def RelV:V->Value->Prop
 | .non,u=>u=Value.none
 | .bl b,u=>u=Value.bool b
 | .int i,u=>∃ t,u=Value.int i t
 | .str x,u=>∃ t,u=Value.str x t
 | .byt b,u=>∃ t,u=Value.bytes b t
 | .flt b,u=>∃ t,u=Value.float b t
 | .ref a,u=>u=Value.ref a
 | .ty n,u=>u=Value.type n
abbrev Vals:List V->List Value->Prop:=Paired RelV
theorem Vals.length {xs:List V} {us:List Value} (r:Vals xs us):xs.length=us.length:=Paired.length r
theorem Vals.get:∀ {xs:List V} {us:List Value} {i:Nat} {x:V},Vals xs us->xs[i]?=some x->∃ u,us[i]?=some u/\RelV x u
 | _,_,_,_,.nil,e=>by simp at e
 | _,_,0,_,.cons r _,e=>by simp at e;subst e;exact ⟨_,rfl,r⟩
 | _,_,i + 1,x,.cons _ t,e=>by
  obtain ⟨u,h1,h2⟩:=Vals.get (i:=i) (x:=x) t (by simpa using e)
  exact ⟨u,by simpa using h1,h2⟩
theorem Vals.set {x:V} {u:Value} (r:RelV x u):∀ {xs:List V} {us:List Value} (i:Nat),Vals xs us->Vals (xs.set i x) (us.set i u)
 | _,_,_,.nil=>.nil
 | _,_,0,.cons _ t=>.cons r t
 | _,_,i + 1,.cons q t=>.cons q (Vals.set r i t)
theorem Vals.append:∀ {xs ys:List V} {us ws:List Value},Vals xs us->Vals ys ws->Vals (xs++ys) (us++ws)
 | _,_,_,_,.nil,s=>s
 | _,_,_,_,.cons r t,s=>.cons r (Vals.append t s)
theorem Vals.take:∀ {xs:List V} {us:List Value} (n:Nat),Vals xs us->Vals (xs.take n) (us.take n)
 | _,_,0,_=>.nil
 | _,_,_ + 1,.nil=>.nil
 | _,_,n + 1,.cons r t=>.cons r (Vals.take n t)
theorem Vals.drop:∀ {xs:List V} {us:List Value} (n:Nat),Vals xs us->Vals (xs.drop n) (us.drop n)
 | _,_,0,r=>r
 | _,_,_ + 1,.nil=>.nil
 | _,_,n + 1,.cons _ t=>Vals.drop n t
def nG:Option V->Option Value->Prop
 | some v,some u=>RelV v u
 | none,none=>True
 | _,_=>False
def KV {κ:Type}:List (κ × V)->List (κ × Value)->Prop:=Paired fun (p:κ × V) (q:κ × Value)=>p.1=q.1/\RelV p.2 q.2
def kV:Key->V
 | .inl i=>.int i
 | .inr x=>.str x
inductive HO where
  | lst (xs:List V)
  | tup (xs:List V)
  | dK (kvs:List (Key × V)) | dT (kvs:List (List Key × V))
  | set (S:Int->Bool) (n:Nat)
  | ins (C dx:Addr) (fs:List (Str × V))
  | own (x:Addr)
  | xd (fs:List (Str × V))
  | met (f x:Addr)
  | rng (lo hi:Int)
  | frz (o:Obj) (u:HO)
  | tbl (ps:Array Value)
  | ext (φ:Heap->Prop)
abbrev Hp:=Addr->Option HO
def upd (H:Hp) (a:Addr) (o:HO):Hp:=fun b=>if b=a then some o else H b
theorem cG {H:Hp} {a:Addr} {o:HO}:upd H a o a=some o:=by unfold upd;rw [if_pos rfl]
theorem bF {H:Hp} {a b:Addr} {o:HO} (h:b≠a):upd H a o b=H b:=by unfold upd;rw [if_neg h]
theorem Q1 {H:Hp} {a b:Addr} {o u:HO} (h:H a=some o) (h':H b=some u) (d:o≠u):a≠b:=by
 intro e;subst e;rw [h] at h';exact d (Option.some.inj h')
theorem cF {H:Hp} {a b:Addr} {o:HO} (h:H a=some o) (h':H b=none):a≠b:=by
 intro e;subst e;rw [h] at h';cases h'
section
variable (P:Program) (w:World)
def dB (H:Hp) (h:Heap) (a:Addr):HO->Prop
 | .lst xs=>xs.length<=sizeLine/\∃ (its:List Value) (n:Nat),Vals xs its/\h.get? a=some { cls:=.type "list",data:=.seq its.toArray n }
 | .tup xs=>xs.length<=sizeLine/\∃ its:List Value,Vals xs its/\IsTup h a its.toArray
 | .dK kvs=>kvs.length<=sizeLine/\(a == sysModules)=false/\∃ vs,KV kvs vs/\h.DictOf (cN P w) a vs
 | .dT kvs=>kvs.length<=sizeLine/\(a == sysModules)=false/\∃ xs:List (List Key × Addr × Value),
   Paired (fun (p:List Key × V) (q:List Key × Addr × Value)=>p.1=q.1/\H q.2.1=some (.tup (p.1.map kV))/\RelV p.2 q.2.2) kvs xs /\
   ∃ o es ep,h.get? a=some o/\o.ExactDict/\o.data=.dict es ep/\es.toList=xs.map (entryOfKey (tupleKind (cN P w)))/\(xs.map (·.1)).Nodup
 | .set S n=>h.SetOf (intKind P w) a S n
 | .ins C dx fs=>H dx=some (.own a)/\fs.length<=1000/\dx≠a/\h.get? a=some (PySem.W.instObj C dx) /\
   ∃ mA,h.Ns1 dx mA/\(∀ f,nG (fs.lookup f) (mA f))/\PySem.Within mA (fs.map (·.1))
 | .own _=>∃ o,h.get? a=some o
 | .xd fs=>∃ mA,h.Ns1 a mA/\∀ f,nG (fs.lookup f) (mA f)
 | .rng lo hi=>∃ t u v,h.get? a=some { cls:=.type "range",data:=.fields #[.int lo t,.int hi u,.int 1 v] }
 | .frz o u=>h.get? a=some o/\dB H h a u
 | .tbl ps=>h.get? a=some { cls:=.none,data:=.fields ps }
 | .met f x=>h.get? a=some (PySem.W.methodObj (.ref f) (.ref x))
 | .ext φ=>φ h/\(∃ o,h.get? a=some o)/\∀ h1 h2:Heap,φ h1->(∀ o,h1.get? a=some o->h2.get? a=some o)->φ h2
def fT (H:Hp) (h:Heap):Prop:=∀ a o,H a=some o->dB P w H h a o
end
section
variable {P:Program} {w:World} {H H':Hp} {h h':Heap} {a:Addr} {o:HO}
theorem dB.lt (x:dB P w H h a o):a < h.objs.size:=by
 cases o with
 | lst xs=>obtain ⟨_,_,_,_,e⟩:=x;exact Heap.lt_size e
 | tup xs=>obtain ⟨_,_,_,p⟩:=x;exact p.lt
 | dK kvs=>obtain ⟨_,_,_,_,o,_,_,e,_⟩:=x;exact Heap.lt_size e
 | dT kvs=>obtain ⟨_,_,_,_,o,_,_,e,_⟩:=x;exact Heap.lt_size e
 | set S n=>obtain ⟨o,_,_,_,e,_⟩:=x;exact Heap.lt_size e
 | ins C dx fs=>obtain ⟨_,_,_,e,_⟩:=x;exact Heap.lt_size e
 | own y=>obtain ⟨_,e⟩:=x;exact Heap.lt_size e
 | xd fs=>obtain ⟨_,⟨_,_,_,e,_⟩,_⟩:=x;exact Heap.lt_size e
 | rng lo hi=>obtain ⟨_,_,_,e⟩:=x;exact Heap.lt_size e
 | frz ob u=>obtain ⟨e,_⟩:=x;exact Heap.lt_size e
 | tbl ps=>exact Heap.lt_size (show h.get? a=some _ from x)
 | met f y=>exact Heap.lt_size (show h.get? a=some _ from x)
 | ext φ=>obtain ⟨_,⟨_,e⟩,_⟩:=x;exact Heap.lt_size e
theorem Paired.mapP {α β:Type} {F G:α->β->Prop}:∀ {l₁:List α} {l₂:List β},Paired F l₁ l₂->(∀ a b,F a b->G a b)->Paired G l₁ l₂
 | _,_,.nil,_=>.nil
 | _,_,.cons r t,f=>.cons (f _ _ r) (Paired.mapP t f)
theorem dB.stay (x:dB P w H h a o) (k:∀ b u,(b=a\/H b=some (.own a))->h.get? b=some u->h'.get? b=some u)
  (ho:∀ b,H b=some (.own a)->H' b=some (.own a)) (ht:∀ b xs,H b=some (.tup xs)->H' b=some (.tup xs)):dB P w H' h' a o:=by
 induction o with
 | lst xs=>obtain ⟨z,its,n,r,e⟩:=x;exact ⟨z,its,n,r,k _ _ (.inl rfl) e⟩
 | tup xs=>obtain ⟨z,its,r,ob,e,c⟩:=x;exact ⟨z,its,r,ob,k _ _ (.inl rfl) e,c⟩
 | dK kvs=>obtain ⟨z,y,vs,r,ob,es,ep,e,c⟩:=x;exact ⟨z,y,vs,r,ob,es,ep,k _ _ (.inl rfl) e,c⟩
 | dT kvs =>
  obtain ⟨z,y,xs,r,ob,es,ep,e,c⟩:=x
  exact ⟨z,y,xs,Paired.mapP r fun p q z=>⟨z.1,ht _ _ z.2.1,z.2.2⟩,ob,es,ep,k _ _ (.inl rfl) e,c⟩
 | set S n=>obtain ⟨ob,es,ep,t,e,c⟩:=x;exact ⟨ob,es,ep,t,k _ _ (.inl rfl) e,c⟩
 | ins C dx fs =>
  obtain ⟨d,z,ne,e,mA,⟨od,es,ep,e2,c⟩,r⟩:=x
  exact ⟨ho _ d,z,ne,k _ _ (.inl rfl) e,mA,⟨od,es,ep,k _ _ (.inr d) e2,c⟩,r⟩
 | own y=>obtain ⟨ob,e⟩:=x;exact ⟨ob,k _ _ (.inl rfl) e⟩
 | xd fs=>obtain ⟨mA,⟨od,es,ep,e,c⟩,r⟩:=x;exact ⟨mA,⟨od,es,ep,k _ _ (.inl rfl) e,c⟩,r⟩
 | rng lo hi=>obtain ⟨t,u,v,e⟩:=x;exact ⟨t,u,v,k _ _ (.inl rfl) e⟩
 | frz ob u ih=>obtain ⟨e,q⟩:=x;exact ⟨k _ _ (.inl rfl) e,ih q⟩
 | tbl ps =>
  have e:h.get? a=some { cls:=.none,data:=.fields ps }:=x
  show h'.get? a=some { cls:=.none,data:=.fields ps }
  exact k a _ (.inl rfl) e
 | met f y =>
  have e:h.get? a=some (PySem.W.methodObj (.ref f) (.ref y)):=x
  show h'.get? a=some (PySem.W.methodObj (.ref f) (.ref y))
  exact k a _ (.inl rfl) e
 | ext φ=>obtain ⟨p,⟨o,e⟩,st⟩:=x;exact ⟨st _ _ p fun o q=>k _ _ (.inl rfl) q,⟨o,k _ _ (.inl rfl) e⟩,st⟩
theorem fT.lt (x:fT P w H h) (e:H a=some o):a < h.objs.size:=(x a o e).lt
theorem fT.fresh (x:fT P w H h) (e:h.objs.size<=a):H a=none:=by
 cases q:H a with
 | none=>rfl
 | some u=>exact absurd (Nat.lt_of_lt_of_le (x.lt q) e) (Nat.lt_irrefl _)
theorem fT.kept (x:fT P w H h) (k:∀ b u,h.get? b=some u->h'.get? b=some u):fT P w H h':=fun a o e =>
 (x a o e).stay (fun b u _ q=>k b u q) (fun _ q=>q) fun _ _ q=>q
theorem fT.laid (x:fT P w H h) (k:∀ b u,h.get? b=some u->h'.get? b=some u) (hp:h.objs.size<=a) (new:dB P w (upd H a o) h' a o):fT P w (upd H a o) h':=fun b u e=>by
 have hn:=x.fresh hp
 by_cases hb:b=a
 ·subst hb;rw [cG] at e;cases e;exact new
 ·rw [bF hb] at e
  exact (x b u e).stay (fun c v _ q=>k c v q) (fun c q=>by rw [bF (cF q hn)];exact q) fun c xs q=>by rw [bF (cF q hn)];exact q
end
def Rd (H:Hp) (a:Addr) (u:HO):Prop:=H a=some u\/∃ o,H a=some (.frz o u)
theorem Rd.ok {P:Program} {w:World} {H:Hp} {h:Heap} {a:Addr} {u:HO} (r:Rd H a u) (x:fT P w H h):dB P w H h a u:=by
 rcases r with r | ⟨o,r⟩
 ·exact x a u r
 ·obtain ⟨_,q⟩:=x a _ r
  exact q
def Ie:Option HO->Prop
 | some (.lst _)=>True
 | some (.dK _)=>True
 | some (.dT _)=>True
 | some (.set _ _)=>True
 | some (.ins _ _ _)=>True
 | some (.ext _)=>True
 | _=>False
section
variable {P:Program} {w:World} {H:Hp} {h h':Heap} {x e:Addr} {o':HO}
theorem fT.write (ok:fT P w H h) (mu:Ie (H x)) (he:e=x\/H e=some (.own x)) (k:∀ b u,b≠e->h.get? b=some u->h'.get? b=some u) (heo:∃ u,h'.get? e=some u)
  (new:dB P w (upd H x o') h' x o'):fT P w (upd H x o') h':=fun b u q=>by
 have nown:∀ c y,H c=some (.own y)->c≠x:=fun c y r z=>by subst z;rw [r] at mu;exact mu
 have ntup:∀ c xs,H c=some (.tup xs)->c≠x:=fun c xs r z=>by subst z;rw [r] at mu;exact mu
 by_cases hb:b=x
 ·subst hb;rw [cG] at q;cases q;exact new
 ·rw [bF hb] at q
  by_cases hbe:b=e
  ·have q':H b=some (.own x):=by
    rcases he with z | z
    ·exact absurd (hbe.trans z) hb
    ·rw [hbe];exact z
   rw [q] at q';cases q'
   obtain ⟨v,hv⟩:=heo
   exact ⟨v,by rw [hbe];exact hv⟩
  ·refine (ok b u q).stay (fun c v hc r=>k c v ?_ r) (fun c r=>by rw [bF (nown c b r)];exact r) fun c xs r=>by rw [bF (ntup c xs r)];exact r
   rcases hc with rfl | hc
   ·exact hbe
   ·rintro rfl
    rcases he with z | z
    ·exact nown c b hc z
    ·rw [hc] at z;cases z;exact hb rfl
end
structure Un (fs ex:List Addr) (H H':Hp) (h h':Heap):Prop where
 keep:∀ b o,h.get? b=some o->H b=none->b ∉ fs->b ∉ ex->h'.get? b=some o
 slot:∀ b o,h.get? b=some o->H b=none->b∈fs->b ∉ ex->∃ sl,h'.get? b=some { o with slots:=sl }
 free:∀ b o,h.get? b=some o->H b=none->b ∉ ex->H' b=none
 there:∀ b o,h.get? b=some o->b ∉ ex->∃ o',h'.get? b=some o'
 tups:∀ b xs,H b=some (.tup xs)->H' b=some (.tup xs)
 frzs:∀ b o u,H b=some (.frz o u)->H' b=some (.frz o u)
 tbls:∀ b ps,H b=some (.tbl ps)->∃ more,H' b=some (.tbl (ps++more))
section
variable {fs fs' ex ex':List Addr} {H H1 H2:Hp} {h h1 h2 h':Heap} {a x e:Addr} {o:HO}
theorem Un.any (u:Un fs ex H H1 h h1) {b:Addr} {ob:Obj} (q:h.get? b=some ob) (n:H b=none) (hx:b ∉ ex):∃ sl,h1.get? b=some { ob with slots:=sl }:=by
 by_cases hb:b∈fs
 ·exact u.slot b ob q n hb hx
 ·exact ⟨ob.slots,u.keep b ob q n hb hx⟩
theorem Un.kept (k:∀ b u,h.get? b=some u->h'.get? b=some u):Un fs ex H H h h' :=
 ⟨fun b ob q _ _ _=>k b ob q,fun b ob q _ _ _=>⟨ob.slots,k b ob q⟩,fun _ _ _ n _=>n,fun b ob q _=>⟨ob,k b ob q⟩,fun _ _ q=>q,fun _ _ _ q=>q,fun _ ps q=>⟨#[],by rw [q];simp⟩⟩
theorem Un.refl:Un fs ex H H h h:=Un.kept fun _ _ q=>q
theorem Un.laid (k:∀ b u,h.get? b=some u->h'.get? b=some u) (hp:h.objs.size<=a) (hn:H a=none):Un fs ex H (upd H a o) h h' where
 keep:=fun b u q _ _ _=>k b u q
 slot:=fun b u q _ _ _=>⟨u.slots,k b u q⟩
 free:=fun b u q n _=>by rw [bF (Nat.ne_of_lt (Nat.lt_of_lt_of_le (Heap.lt_size q) hp))];exact n
 there:=fun b u q _=>⟨u,k b u q⟩
 tups:=fun b xs q=>by rw [bF (cF q hn)];exact q
 frzs:=fun b u xs q=>by rw [bF (cF q hn)];exact q
 tbls:=fun b ps q=>⟨#[],by rw [bF (cF q hn),q];simp⟩
theorem Un.write (mu:Ie (H x)) (he:e=x\/H e=some (.own x)) (k:∀ b u,b≠e->h.get? b=some u->h'.get? b=some u) (heo:∃ u,h'.get? e=some u):Un fs ex H (upd H x o) h h':=by
 have hx:∀ b,H b=none->b≠x:=fun b n z=>by subst z;rw [n] at mu;exact mu
 have hb:∀ b,H b=none->b≠e:=fun b n z=>by
  subst z
  rcases he with r | r
  ·exact hx b n r
  ·rw [n] at r;cases r
 have hm:∀ b u,H b=some u->¬ Ie (some u)->b≠x:=fun b u q nm z=>by subst z;rw [q] at mu;exact nm mu
 refine ⟨fun b u q n _ _=>k b u (hb b n) q,fun b u q n _ _=>⟨u.slots,k b u (hb b n) q⟩,fun b u q n _=>by rw [bF (hx b n)];exact n,fun b u q _=>?_,
  fun b xs q=>by rw [bF (hm b _ q fun z=>z)];exact q,fun b u xs q=>by rw [bF (hm b _ q fun z=>z)];exact q,fun b ps q=>⟨#[],by rw [bF (hm b _ q fun z=>z),q];simp⟩⟩
 by_cases hbe:b=e
 ·subst hbe;exact heo
 ·exact ⟨u,k b u hbe q⟩
end
def LB (h:Heap) (H:Hp):List Addr:=(List.range h.objs.size).filter fun a=>(H a).isSome
def rW (h:Heap) (H:Hp):Heap:=PySem.W.hideAll h (LB h H)
theorem Hf (h:Heap) (H:Hp):(rW h H).objs.size=h.objs.size:=PySem.W.hideAll_size _ _
theorem Js {h:Heap} {H:Hp} {b:Addr} {o:Obj} (e:h.get? b=some o) (n:H b=none):(rW h H).get? b=some o :=
 PySem.W.hideAll_get _ e fun hm=>by
  have q:(H b).isSome=true:=(List.mem_filter.mp hm).2
  rw [n] at q;simp at q
theorem Nn {h:Heap} {H:Hp} {b:Addr} {o:Obj} (e:(rW h H).get? b=some o):h.get? b=some o/\H b=none:=by
 have e':h.get? b=some o:=PySem.W.of_hideAll (LB h H) e
 refine ⟨e',?_⟩
 cases q:H b with
 | none=>rfl
 | some x =>
  have hm:b∈LB h H:=List.mem_filter.mpr ⟨List.mem_range.mpr (Heap.lt_size e'),by simp [q]⟩
  have z:(rW h H).get? b=none:=PySem.W.hideAll_none (LB h H) hm
  rw [z] at e;cases e
structure Mod (K:PySem.W.Frag) (mg:Str->Option Value) (base:Heap):Prop where
 kin:K.In base
 glob:base.Ns mainGlobals mg
 blt:∃ mb,base.Ns builtinsNs mb/\∀ x:Str,x≠"__name__"->mb x=bootBuiltins x
 nolimit:base.NoLimit
structure Cx where
 prog:Program
 w:World
 K:PySem.W.Frag
 mg:Str->Option Value
 base:Heap
 A:Around
 N:List Str
 s₀:Shared
 H₀:Hp
 env:Env
 outer:List Env
 stack:List Env
 ex:List Addr
 fn:Str->Bool
 calm:Bool
 pn:List (Addr × Obj)
 xe:Value->Shared->Prop
def qI (l:List Env):List Addr:=l.filterMap (·.frame)
abbrev Cx.fs (X:Cx):List Addr:=qI X.outer
def HS (sc:Scope) (x:Str):Prop:=sc.names.lookup x=some .local\/sc.names.lookup x=some .cell\/sc.names.lookup x=some .free
def Loc (sc:Scope) (x:Str):Prop:=sc.names.lookup x=some .local\/sc.names.lookup x=some .cell
def Look (env:Env) (h:Heap) (m:Str->Option Value) (x:Str) (u:Value):Prop :=
 (env.kindOf x=some .local/\m x=some u)\/((env.kindOf x=some .cell\/env.kindOf x=some .free)/\∃ c,env.cells.lookup x=some c/\h.IsCell c (some u))
structure Cx.Ok (X:Cx):Prop where
 mod:Mod X.K X.mg X.base
 kind:X.env.scope.kind=.function
 glob:X.env.globals=mainGlobals
 blt:X.env.builtins=builtinsNs
 above:X.s₀.heap.objs.size<=X.env.locals
 inj:∀ x y c,X.env.cells.lookup x=some c->X.env.cells.lookup y=some c->x=y
 has:∀ x,(X.env.kindOf x=some .cell\/X.env.kindOf x=some .free)->∃ c,X.env.cells.lookup x=some c
 cab:∀ x c,X.fn x=true->X.env.cells.lookup x=some c->X.s₀.heap.objs.size<=c
 hd:X.calm=true->X.A.handled=none
 frames:X.A.frames=some X.stack
 stk:X.stack=X.outer\/(X.stack=X.env :: X.outer/\X.env.frame=some X.env.locals)
 exf:∀ b∈X.ex,b≠X.env.locals/\∀ x c,X.env.cells.lookup x=some c->c≠b
 bs:∀ b o,X.base.get? b=some o->X.s₀.heap.get? b=some o/\X.H₀ b=none
 bsz:X.base.objs.size<=X.s₀.heap.objs.size
 noex:∀ b o,X.base.get? b=some o->b ∉ X.ex
 exfs:∀ b∈X.ex,b ∉ X.fs
 funs:X.s₀.heap.FunFrames X.base X.outer
 frf:∀ b∈X.fs,X.H₀ b=none
structure Inv (X:Cx) (pins:List (Addr × Obj)) (σ:List (Option V)) (H:Hp) (s:Shared):Prop where
 ok:X.Ok
 os:s.os=X.s₀.os
 bare:AllBare s.gens
 base:Un X.fs X.ex X.H₀ H X.s₀.heap s.heap
 loc:∃ m,s.heap.Ns X.env.locals m/\∀ (i:Nat) (x:Str) (v:V),X.N[i]?=some x->σ[i]?=some (some v)->HS X.env.scope x->∃ u,RelV v u/\Look X.env s.heap m x u
 cell:∀ x c,X.env.cells.lookup x=some c->∃ v,s.heap.IsCell c v
 free:H X.env.locals=none
 freeC:∀ x c,X.env.cells.lookup x=some c->H c=none
 pin:∀ p∈X.pn++pins,s.heap.get? p.1=some p.2/\H p.1=none/\p.1≠X.env.locals/\p.1 ∉ X.fs/\∀ v,p.2.data≠.cell v
 hok:fT X.prog X.w H s.heap
 len:σ.length=X.N.length
section
variable {X:Cx} {pins:List (Addr × Obj)} {σ:List (Option V)} {H H':Hp} {s:Shared} {h':Heap}
theorem Cx.Ok.nofr (ok:X.Ok) {b:Addr} {o:Obj} (e:X.base.get? b=some o):b ∉ X.fs:=fun hb=>by
 have:=(ok.funs.mem hb).1
 rw [e] at this;cases this
theorem Inv.bs (I:Inv X pins σ H s):∀ b o,X.base.get? b=some o->s.heap.get? b=some o/\H b=none:=fun b o e =>
 ⟨I.base.keep b o (I.ok.bs b o e).1 (I.ok.bs b o e).2 (I.ok.nofr e) (I.ok.noex b o e),I.base.free b o (I.ok.bs b o e).1 (I.ok.bs b o e).2 (I.ok.noex b o e)⟩
theorem Inv.bk (I:Inv X pins σ H s):∀ b o,X.base.get? b=some o->s.heap.get? b=some o:=fun b o e=>(I.bs b o e).1
theorem Inv.mod (I:Inv X pins σ H s):Mod X.K X.mg X.base:=I.ok.mod
theorem Inv.kIn (I:Inv X pins σ H s):X.K.In s.heap:=I.ok.mod.kin.keeps I.bk
theorem Inv.fr (I:Inv X pins σ H s):∃ m,Fr X.base X.env.locals s.heap m :=
 let ⟨m,hn,_⟩:=I.loc
 ⟨m,hn,I.bk,Nat.le_trans I.ok.bsz I.ok.above⟩
theorem Inv.lt (I:Inv X pins σ H s):X.env.locals < s.heap.objs.size:=let ⟨_,hn,_⟩:=I.loc;hn.lt
theorem Inv.sz (I:Inv X pins σ H s):X.s₀.heap.objs.size<=s.heap.objs.size:=Nat.le_trans I.ok.above (Nat.le_of_lt I.lt)
theorem Inv.nofs (I:Inv X pins σ H s) {a:Addr} (h:s.heap.objs.size<=a):a ∉ X.fs:=fun hb=>by
 obtain ⟨_,o,ho,_⟩:=I.ok.funs.mem hb
 exact absurd (Nat.lt_of_lt_of_le (Heap.lt_size ho) (Nat.le_trans I.sz h)) (Nat.lt_irrefl _)
theorem Inv.cne (I:Inv X pins σ H s):∀ x c,X.env.cells.lookup x=some c->c≠X.env.locals:=fun x c e z=>by
 obtain ⟨v,o,ho,hd⟩:=I.cell x c e
 obtain ⟨m,⟨o',es,ep,ho',hd',_⟩,_⟩:=I.loc
 rw [z,ho'] at ho;cases ho;rw [hd'] at hd;cases hd
theorem Inv.funs (I:Inv X pins σ H s):s.heap.FunFrames X.base X.outer:=by
 have all:∀ (l:List Env),(∀ b∈qI l,b∈X.fs)->X.s₀.heap.FunFrames X.base l->s.heap.FunFrames X.base l:=by
  intro l
  induction l with
  | nil=>intro _ _;trivial
  | cons env r ih =>
   intro hs hl
   obtain ⟨hk,⟨L,o,hf,hn,ho,hd⟩,hr⟩:=hl
   have hL:L∈X.fs:=hs L (by unfold qI;rw [List.filterMap_cons,hf];exact List.mem_cons_self)
   obtain ⟨sl,e⟩:=I.base.slot L o ho (I.ok.frf L hL) hL fun z=>I.ok.exfs L z hL
   exact ⟨hk,⟨L,_,hf,hn,e,hd⟩,ih (fun b hb=>hs b (by unfold qI;rw [List.filterMap_cons,hf];exact List.mem_cons_of_mem _ hb)) hr⟩
 exact all X.outer (fun _ hb=>hb) I.ok.funs
theorem Inv.stack (I:Inv X pins σ H s):s.heap.FunFrames X.base X.stack:=by
 rcases I.ok.stk with e | ⟨e,hf⟩
 ·rw [e];exact I.funs
 ·rw [e]
  obtain ⟨m,hn,_⟩:=I.loc
  refine .cons (by rw [I.ok.kind];decide) hf hn ?_ I.funs
  exact Heap.get?_none_of_le (Nat.le_trans I.ok.bsz I.ok.above)
theorem Inv.stkSub (I:Inv X pins σ H s):∀ b∈qI X.stack,b∈X.env.locals :: X.fs:=fun b hb=>by
 rcases I.ok.stk with e | ⟨e,hf⟩
 ·rw [e] at hb;exact List.mem_cons_of_mem _ hb
 ·rw [e] at hb
  unfold qI at hb
  rw [List.filterMap_cons,hf] at hb
  exact hb
theorem Inv.stkFree (I:Inv X pins σ H s):∀ b∈qI X.stack,H b=none:=fun b hb=>by
 rcases List.mem_cons.mp (I.stkSub b hb) with e | hb
 ·rw [e];exact I.free
 ·obtain ⟨_,o,ho,_⟩:=I.ok.funs.mem hb
  exact I.base.free b o ho (I.ok.frf b hb) fun z=>I.ok.exfs b z hb
theorem Inv.step {g':Array GenState} {t':Nat} {d':Drawn} {ch:List Addr} (I:Inv X pins σ H s)
  (hch:∀ b∈ch,(b∈X.ex\/X.s₀.heap.objs.size<=b)/\b≠X.env.locals/\(∀ x c,X.env.cells.lookup x=some c->c≠b)/\∀ p∈X.pn++pins,p.1≠b)
  (keep:∀ b o,b≠X.env.locals->b ∉ X.fs->b ∉ ch->s.heap.get? b=some o->H b=none->h'.get? b=some o)
  (slot:∀ b o,b≠X.env.locals->b∈X.fs->b ∉ ch->s.heap.get? b=some o->H b=none->∃ sl,h'.get? b=some { o with slots:=sl }) (free:∀ b o,b ∉ ch->s.heap.get? b=some o->H b=none->H' b=none)
  (there:∀ b o,b ∉ ch->s.heap.get? b=some o->∃ o',h'.get? b=some o')
  (tups:∀ b xs,H b=some (.tup xs)->H' b=some (.tup xs)) (frzs:∀ b o u,H b=some (.frz o u)->H' b=some (.frz o u)) (tbls:∀ b ps,H b=some (.tbl ps)->∃ more,H' b=some (.tbl (ps++more)))
  (ns:∀ m,s.heap.Ns X.env.locals m->h'.Ns X.env.locals m) (hok:fT X.prog X.w H' h') (hg:AllBare g') :
  Inv X pins σ H' { s with heap:=h',gens:=g',drawn:=d',toks:=t' }:=by
 have neL:∀ b o,X.s₀.heap.get? b=some o->b≠X.env.locals:=fun b o e=>Nat.ne_of_lt (Nat.lt_of_lt_of_le (Heap.lt_size e) I.ok.above)
 have neC:∀ b o,X.s₀.heap.get? b=some o->b ∉ X.ex->b ∉ ch:=fun b o e hx hb=>by
  rcases (hch b hb).1 with z | z
  ·exact hx z
  ·exact absurd (Nat.lt_of_lt_of_le (Heap.lt_size e) z) (Nat.lt_irrefl _)
 have cellK:∀ x c,X.env.cells.lookup x=some c->∀ v,s.heap.IsCell c v->h'.IsCell c v:=fun x c e v ⟨o,ho,hd⟩=>by
  have nch:c ∉ ch:=fun z=>(hch c z).2.2.1 x c e rfl
  by_cases hc:c∈X.fs
  ·obtain ⟨sl,q⟩:=slot c o (I.cne x c e) hc nch ho (I.freeC x c e)
   exact ⟨_,q,hd⟩
  ·exact ⟨o,keep c o (I.cne x c e) hc nch ho (I.freeC x c e),hd⟩
 refine ⟨I.ok,I.os,hg,⟨fun b o e n hb hx=>?_,fun b o e n hb hx=>?_,fun b o e n hx=>?_,fun b o e hx=>?_,fun b xs e=>tups b xs (I.base.tups b xs e),fun b o xs e=>frzs b o xs (I.base.frzs b o xs e),fun b ps e=>?_⟩,?_,fun x c e=>?_,?_,fun x c e=>?_,fun p hp=>?_,hok,I.len⟩
 ·exact keep b o (neL b o e) hb (neC b o e hx) (I.base.keep b o e n hb hx) (I.base.free b o e n hx)
 ·obtain ⟨sl,e1⟩:=I.base.slot b o e n hb hx
  obtain ⟨sl',e2⟩:=slot b _ (neL b o e) hb (neC b o e hx) e1 (I.base.free b o e n hx)
  exact ⟨sl',e2⟩
 ·obtain ⟨o',e1⟩:=I.base.there b o e hx
  exact free b o' (neC b o e hx) e1 (I.base.free b o e n hx)
 ·obtain ⟨o',e1⟩:=I.base.there b o e hx
  exact there b o' (neC b o e hx) e1
 ·obtain ⟨m1,e1⟩:=I.base.tbls b ps e
  obtain ⟨m2,e2⟩:=tbls b _ e1
  exact ⟨m1++m2,by rw [e2,Array.append_assoc]⟩
 ·obtain ⟨m,hn,hl⟩:=I.loc
  refine ⟨m,ns m hn,fun i x v e1 e2 e3=>?_⟩
  obtain ⟨u,r,l⟩:=hl i x v e1 e2 e3
  refine ⟨u,r,?_⟩
  rcases l with l | ⟨k,c,e,z⟩
  ·exact .inl l
  ·exact .inr ⟨k,c,e,cellK x c e _ z⟩
 ·obtain ⟨v,z⟩:=I.cell x c e
  exact ⟨v,cellK x c e v z⟩
 ·obtain ⟨m,⟨o,_,_,ho,_⟩,_⟩:=I.loc
  exact free _ o (fun z=>(hch _ z).2.1 rfl) ho I.free
 ·obtain ⟨v,o,ho,hd⟩:=I.cell x c e
  exact free c o (fun z=>(hch c z).2.2.1 x c e rfl) ho (I.freeC x c e)
 ·obtain ⟨e,n,ne,nf,d⟩:=I.pin p hp
  have nch:p.1 ∉ ch:=fun z=>(hch p.1 z).2.2.2 p hp rfl
  exact ⟨keep p.1 p.2 ne nf nch e n,free p.1 p.2 nch e n,ne,nf,d⟩
theorem Inv.un {t':Nat} (I:Inv X pins σ H s) (u:Un X.fs [] H H' s.heap h') (hok:fT X.prog X.w H' h'):Inv X pins σ H' { s with heap:=h',toks:=t' }:=by
 obtain ⟨m,⟨o,es,ep,ho,r⟩,_⟩:=id I.loc
 obtain ⟨sl,hL⟩:=u.any ho I.free (by simp)
 exact I.step (g':=s.gens) (d':=s.drawn) (ch:=[]) (fun _ z=>nomatch z) (fun b o _ hb _ e n=>u.keep b o e n hb (by simp)) (fun b o _ hb _ e n=>u.slot b o e n hb (by simp)) (fun b o _ e n=>u.free b o e n (by simp)) (fun b o _ e=>u.there b o e (by simp)) u.tups u.frzs u.tbls (fun m' hm=>by
  obtain ⟨o',es',ep',ho',r'⟩:=hm
  rw [ho] at ho';cases ho'
  exact ⟨_,es',ep',hL,r'⟩) hok I.bare
theorem Inv.call {g':Array GenState} {t':Nat} {d':Drawn} {ch:List Addr} (I:Inv X pins σ H s) (u:Un (qI X.stack) ch H H' s.heap h') (hok:fT X.prog X.w H' h') (hg:AllBare g')
  (hch:∀ b∈ch,(b∈X.ex\/X.s₀.heap.objs.size<=b)/\b≠X.env.locals/\(∀ x c,X.env.cells.lookup x=some c->c≠b)/\∀ p∈X.pn++pins,p.1≠b) :
  Inv X pins σ H' { s with heap:=h',gens:=g',drawn:=d',toks:=t' }:=by
 obtain ⟨m,⟨o,es,ep,ho,r⟩,_⟩:=id I.loc
 obtain ⟨sl,hL⟩:=u.any ho I.free fun z=>(hch _ z).2.1 rfl
 exact I.step (ch:=ch) hch (fun b o hL hb hc e n=>u.keep b o e n (fun z=>(List.mem_cons.mp (I.stkSub b z)).elim hL hb) hc) (fun b o _ _ hc e n=>u.any e n hc) (fun b o hc e n=>u.free b o e n hc) (fun b o hc e=>u.there b o e hc) u.tups u.frzs u.tbls (fun m' hm=>by
  obtain ⟨o',es',ep',ho',r'⟩:=hm
  rw [ho] at ho';cases ho'
  exact ⟨_,es',ep',hL,r'⟩) hok hg
theorem Inv.turned {t':Nat} {it:Addr} (I:Inv X pins σ H s) (k:∀ b o,b≠it->s.heap.get? b=some o->h'.get? b=some o) (hn:H it=none) (hL:it≠X.env.locals)
  (h1:it∈X.ex\/X.s₀.heap.objs.size<=it) (h2:∀ x c,X.env.cells.lookup x=some c->c≠it) (h3:∀ p∈X.pn++pins,p.1≠it):Inv X pins σ H { s with heap:=h',toks:=t' }:=by
 have nit:∀ b u,H b=some u->b≠it:=fun b u e z=>by rw [z,hn] at e;cases e
 refine I.step (g':=s.gens) (d':=s.drawn) (ch:=[it]) (fun b hb=>?_) (fun b o _ _ hc e _=>k b o (fun z=>hc (by simp [z])) e) (fun b o _ _ hc e _=>⟨o.slots,k b o (fun z=>hc (by simp [z])) e⟩) (fun _ _ _ _ n=>n)
  (fun b o hc e=>⟨o,k b o (fun z=>hc (by simp [z])) e⟩) (fun _ _ e=>e) (fun _ _ _ e=>e) (fun b ps e=>⟨#[],by rw [e];simp⟩) (fun m hm=>?_) (fun b u e=>?_) I.bare
 ·have e:b=it:=by simpa using hb
  subst e
  exact ⟨h1,hL,h2,h3⟩
 ·obtain ⟨o,es,ep,ho,r⟩:=hm
  exact ⟨o,es,ep,k _ o (Ne.symm hL) ho,r⟩
 ·refine (I.hok b u e).stay (fun c v hc q=>k c v ?_ q) (fun _ q=>q) fun _ _ q=>q
  rcases hc with z | z
  ·rw [z];exact nit b u e
  ·exact nit c _ z
theorem Inv.tok (I:Inv X pins σ H s) (t:Nat):Inv X pins σ H { s with toks:=t }:=I.un (h':=s.heap) (t':=t) Un.refl I.hok
theorem Inv.kept {t':Nat} (I:Inv X pins σ H s) (k:∀ b u,s.heap.get? b=some u->h'.get? b=some u):Inv X pins σ H { s with heap:=h',toks:=t' }:=I.un (Un.kept k) (I.hok.kept k)
theorem Inv.laid {a:Addr} {o:HO} {t':Nat} (I:Inv X pins σ H s) (k:∀ b u,s.heap.get? b=some u->h'.get? b=some u) (hp:s.heap.objs.size<=a) (new:dB X.prog X.w (upd H a o) h' a o) :
  Inv X pins σ (upd H a o) { s with heap:=h',toks:=t' }:=I.un (Un.laid k hp (I.hok.fresh hp)) (I.hok.laid k hp new)
theorem Inv.write {x e:Addr} {o:HO} {t':Nat} (I:Inv X pins σ H s) (mu:Ie (H x)) (he:e=x\/H e=some (.own x)) (k:∀ b u,b≠e->s.heap.get? b=some u->h'.get? b=some u) (heo:∃ u,h'.get? e=some u)
  (new:dB X.prog X.w (upd H x o) h' x o):Inv X pins σ (upd H x o) { s with heap:=h',toks:=t' }:=I.un (Un.write mu he k heo) (I.hok.write mu he k heo new)
theorem Inv.weak {σ':List (Option V)} (I:Inv X pins σ H s) (hl:σ'.length=σ.length) (w:∀ (i:Nat) v,σ'[i]?=some (some v)->σ[i]?=some (some v)):Inv X pins σ' H s :=
 ⟨I.ok,I.os,I.bare,I.base,let ⟨m,hn,hl'⟩:=I.loc;⟨m,hn,fun i x v e1 e2 e3=>hl' i x v e1 (w i v e2) e3⟩,I.cell,I.free,I.freeC,I.pin,I.hok,hl.trans I.len⟩
theorem Inv.pins_of {pins':List (Addr × Obj)} (I:Inv X pins σ H s) (h:∀ p∈pins',s.heap.get? p.1=some p.2/\H p.1=none/\p.1≠X.env.locals/\p.1 ∉ X.fs/\∀ v,p.2.data≠.cell v):Inv X pins' σ H s :=
 ⟨I.ok,I.os,I.bare,I.base,I.loc,I.cell,I.free,I.freeC,fun p hp=>(List.mem_append.mp hp).elim (fun z=>I.pin p (List.mem_append_left _ z)) (h p),I.hok,I.len⟩
theorem Cm {N:List Str} (hN:N.Nodup) {i j:Nat} {x:Str} (a:N[i]?=some x) (b:N[j]?=some x):i=j:=by
 obtain ⟨h1,e1⟩:=List.getElem?_eq_some_iff.mp a
 obtain ⟨h2,e2⟩:=List.getElem?_eq_some_iff.mp b
 exact (List.getElem_inj hN).mp (e1.trans e2.symm)
theorem Bk {M:Model} {A:Around} {E:Value->Shared->Prop} {i:Nat} {x:Str} {v:V} {u:Value} {Q:Unit->Shared->Prop} (I:Inv X pins σ H s) (hN:X.N.Nodup) (hi:X.N[i]?=some x) (hx:Loc X.env.scope x) (r:RelV v u)
  (h:∀ s',Inv X pins (σ.set i (some v)) H s'->(∃ a,Heap.SameBut a s.heap s'.heap/\(a=X.env.locals\/X.env.cells.lookup x=some a))->Q () s') (hf:X.fn x=true\/X.env.scope.names.lookup x=some .local:=by first | exact .inl rfl | exact .inr rfl | assumption):wpAny M A (storeName X.env x u) Q E s:=by
 obtain ⟨m,hn,hl⟩:=id I.loc
 have hcls:(X.env.scope.kind == .class || (X.env.scope.kind == .module && X.env.locals != X.env.globals))=false:=by rw [I.ok.kind];rfl
 have hiσ:i < σ.length:=by rw [I.len];exact (List.getElem?_eq_some_iff.mp hi).1
 have cne:=I.cne
 have tracked:∀ {a:Addr} {h':Heap},(∃ o,s.heap.get? a=some o/\H a=none)->Heap.SameBut a s.heap h'->fT X.prog X.w H h':=fun {a h'} ha hs b ob e=>by
  obtain ⟨_,_,hfree⟩:=ha
  refine (I.hok b ob e).stay (fun c w' hc q=>(hs.2 c ?_).trans q) (fun _ q=>q) fun _ _ q=>q
  rintro rfl
  rcases hc with rfl | hc
  ·rw [hfree] at e;cases e
  ·rw [hfree] at hc;cases hc
 rcases hx with hk | hk
 ·refine wpAny_storeName_local hk hn (fun h' hn' hs=>?_) hcls
  obtain ⟨oL,_,_,hoL,_⟩:=id hn
  refine h _ ⟨I.ok,I.os,I.bare,⟨fun b o e n hb hx=>?_,fun b o e n hb hx=>?_,I.base.free,fun b o e hx=>?_,I.base.tups,I.base.frzs,I.base.tbls⟩,⟨_,hn',fun j y v' e1 e2 e3=>?_⟩,fun y c e=>?_,I.free,I.freeC,fun p hp=>?_,tracked ⟨oL,hoL,I.free⟩ hs,by simpa using I.len⟩ ⟨_,hs,.inl rfl⟩
  ·exact (hs.2 b (Nat.ne_of_lt (Nat.lt_of_lt_of_le (Heap.lt_size e) I.ok.above))).trans (I.base.keep b o e n hb hx)
  ·obtain ⟨sl,e1⟩:=I.base.slot b o e n hb hx
   exact ⟨sl,(hs.2 b (Nat.ne_of_lt (Nat.lt_of_lt_of_le (Heap.lt_size e) I.ok.above))).trans e1⟩
  ·obtain ⟨o',e1⟩:=I.base.there b o e hx
   exact ⟨o',(hs.2 b (Nat.ne_of_lt (Nat.lt_of_lt_of_le (Heap.lt_size e) I.ok.above))).trans e1⟩
  ·by_cases hj:j=i
   ·subst hj
    rw [hi] at e1;cases e1
    rw [List.getElem?_set_self hiσ] at e2
    cases e2
    exact ⟨u,r,.inl ⟨hk,by simp⟩⟩
   ·rw [List.getElem?_set_ne (Ne.symm hj)] at e2
    obtain ⟨u',r',q⟩:=hl j y v' e1 e2 e3
    refine ⟨u',r',?_⟩
    rcases q with ⟨k,e⟩ | ⟨k,c,e,z⟩
    ·refine .inl ⟨k,?_⟩
     have:y≠x:=fun e=>hj (Cm hN e1 (e ▸ hi))
     simp [this,e]
    ·exact .inr ⟨k,c,e,z.sameBut hs (cne y c e)⟩
  ·obtain ⟨w',z⟩:=I.cell y c e
   exact ⟨w',z.sameBut hs (cne y c e)⟩
  ·obtain ⟨e,n,ne,nf,d⟩:=I.pin p hp
   exact ⟨(hs.2 p.1 ne).trans e,n,ne,nf,d⟩
 ·have hfn:X.fn x=true:=by
   rcases hf with z | z
   ·exact z
   ·rw [z] at hk;cases hk
  obtain ⟨c,hc⟩:=I.ok.has x (.inl hk)
  obtain ⟨w',z⟩:=I.cell x c hc
  refine wpAny_storeName_cell I.ok.kind hk hc z (fun h' hc' hs=>?_)
  obtain ⟨oc,hoc,hocd⟩:=id z
  refine h { s with heap:=h' } ⟨I.ok,I.os,I.bare,⟨fun b o e n hb hx=>?_,fun b o e n hb hx=>?_,I.base.free,fun b o e hx=>?_,I.base.tups,I.base.frzs,I.base.tbls⟩,⟨m,hn.sameBut hs (Ne.symm (cne x c hc)),fun j y v' e1 e2 e3=>?_⟩,fun y c' e=>?_,I.free,I.freeC,fun p hp=>?_,tracked ⟨oc,hoc,I.freeC x c hc⟩ hs,by simpa using I.len⟩ ⟨c,hs,.inr hc⟩
  ·exact (hs.2 b (Nat.ne_of_lt (Nat.lt_of_lt_of_le (Heap.lt_size e) (I.ok.cab x c hfn hc)))).trans (I.base.keep b o e n hb hx)
  ·obtain ⟨sl,e1⟩:=I.base.slot b o e n hb hx
   exact ⟨sl,(hs.2 b (Nat.ne_of_lt (Nat.lt_of_lt_of_le (Heap.lt_size e) (I.ok.cab x c hfn hc)))).trans e1⟩
  ·obtain ⟨o',e1⟩:=I.base.there b o e hx
   exact ⟨o',(hs.2 b (Nat.ne_of_lt (Nat.lt_of_lt_of_le (Heap.lt_size e) (I.ok.cab x c hfn hc)))).trans e1⟩
  ·by_cases hj:j=i
   ·subst hj
    rw [hi] at e1;cases e1
    rw [List.getElem?_set_self hiσ] at e2
    cases e2
    exact ⟨u,r,.inr ⟨.inl hk,c,hc,hc'⟩⟩
   ·rw [List.getElem?_set_ne (Ne.symm hj)] at e2
    obtain ⟨u',r',q⟩:=hl j y v' e1 e2 e3
    refine ⟨u',r',?_⟩
    rcases q with q | ⟨k,c',e,z'⟩
    ·exact .inl q
    ·refine .inr ⟨k,c',e,z'.sameBut hs ?_⟩
     rintro rfl
     exact hj (Cm hN e1 (I.ok.inj _ _ _ e hc ▸ hi))
  ·by_cases hcc:c'=c
   ·subst hcc;exact ⟨_,hc'⟩
   ·obtain ⟨w2,z2⟩:=I.cell y c' e
    exact ⟨w2,z2.sameBut hs hcc⟩
  ·obtain ⟨e,n,ne,nf,d⟩:=I.pin p hp
   refine ⟨(hs.2 p.1 ?_).trans e,n,ne,nf,d⟩
   intro q
   rw [q,hoc] at e
   have q':oc=p.2:=Option.some.inj e
   exact d w' (by rw [<- q'];exact hocd)
theorem Cd {M:Model} {A:Around} {E:Value->Shared->Prop} {i:Nat} {x:Str} {v:V} {u:Value} {Q:Unit->Shared->Prop} (I:Inv X pins σ H s) (hN:X.N.Nodup) (hi:X.N[i]?=some x) (hx:Loc X.env.scope x) (r:RelV v u)
  (h:∀ s',Inv X pins (σ.set i (some v)) H s'->Q () s') (hf:X.fn x=true\/X.env.scope.names.lookup x=some .local:=by first | exact .inl rfl | exact .inr rfl | assumption):wpAny M A (storeName X.env x u) Q E s :=
 Bk I hN hi hx r (fun s' I' _=>h s' I') hf
theorem Inv.call' {s':Shared} {ch:List Addr} (I:Inv X pins σ H s) (ho:s'.os=s.os) (u:Un (qI X.stack) ch H H' s.heap s'.heap) (hok:fT X.prog X.w H' s'.heap) (hg:AllBare s'.gens)
  (hch:∀ b∈ch,(b∈X.ex\/X.s₀.heap.objs.size<=b)/\b≠X.env.locals/\(∀ x c,X.env.cells.lookup x=some c->c≠b)/\∀ p∈X.pn++pins,p.1≠b):Inv X pins σ H' s':=by
 obtain ⟨h',g',d',t',o'⟩:=s'
 have e:o'=s.os:=ho
 subst e
 exact I.call (g':=g') (t':=t') (d':=d') u hok hg hch
end
abbrev XK:=Value->Option Addr->Hp->Prop
abbrev St:=List (Option V)
abbrev VK:=V->Hp->Prop
abbrev TE:=St->Hp->VK->Prop
abbrev TT:=St->Hp->(Bool->Hp->Prop)->Prop
abbrev TA:=St->Hp->(List V->Hp->Prop)->Prop
structure Ends where
 nx:St->Hp->Prop
 rt:VK
 bk:St->Hp->Prop:=fun _ _=>False
 ct:St->Hp->Prop:=fun _ _=>False
abbrev TS:=Ends->St->Hp->Prop
def EP (X:Cx) (pins:List (Addr × Obj)) (σ:St) (Q:VK) (u:Value) (s':Shared):Prop:=∃ v H',Inv X pins σ H' s'/\RelV v u/\Q v H'
def TP (X:Cx) (pins:List (Addr × Obj)) (σ:St) (Q:Bool->Hp->Prop) (b:Bool) (s':Shared):Prop:=∃ H',Inv X pins σ H' s'/\Q b H'
def AP (X:Cx) (pins:List (Addr × Obj)) (σ:St) (Q:List V->Hp->Prop) (us:List Value) (s':Shared):Prop:=∃ vs H',Inv X pins σ H' s'/\Vals vs us/\Q vs H'
def SP (X:Cx) (pins:List (Addr × Obj)) (D:Ends) (f:Flow) (s':Shared):Prop :=
 match f with
 | .next=>∃ σ' H',Inv X pins σ' H' s'/\D.nx σ' H'
 | .brk=>∃ σ' H',Inv X pins σ' H' s'/\D.bk σ' H'
 | .cont=>∃ σ' H',Inv X pins σ' H' s'/\D.ct σ' H'
 | .ret u=>∃ v σ' H',Inv X pins σ' H' s'/\RelV v u/\D.rt v H'
def PE (X:Cx) (e:Expr) (t:TE):Prop :=
 ∀ (pins:List (Addr × Obj)) (s:Shared) (σ:St) (H:Hp) (Q:VK),Inv X pins σ H s->t σ H Q->wpAny (model X.prog X.w) X.A (eval e X.env) (EP X pins σ Q) X.xe s
def PT (X:Cx) (e:Expr) (t:TT):Prop :=
 ∀ (pins:List (Addr × Obj)) (s:Shared) (σ:St) (H:Hp) (Q:Bool->Hp->Prop),Inv X pins σ H s->t σ H Q->wpAny (model X.prog X.w) X.A (isTrue e X.env (eval e X.env)) (TP X pins σ Q) X.xe s
def PW (X:Cx) (e:Expr) (t:TT):Prop :=
 ∀ (whole:Sem Value) (pins:List (Addr × Obj)) (s:Shared) (σ:St) (H:Hp) (Q:Bool->Hp->Prop),Inv X pins σ H s->t σ H Q->wpAny (model X.prog X.w) X.A (isTrue e X.env whole) (TP X pins σ Q) X.xe s
theorem PW.pt {X:Cx} {e:Expr} {t:TT} (h:PW X e t):PT X e t:=h _
def PA (X:Cx) (es:List Expr) (t:TA):Prop :=
 ∀ (pos:Pos) (pins:List (Addr × Obj)) (s:Shared) (σ:St) (H:Hp) (Q:List V->Hp->Prop),Inv X pins σ H s->t σ H Q->wpAny (model X.prog X.w) X.A (spliced (backTo pos (starEach es X.env))) (AP X pins σ Q) X.xe s
def PS (X:Cx) (st:Stmt) (t:TS):Prop :=
 ∀ (pins:List (Addr × Obj)) (s:Shared) (σ:St) (H:Hp) (D:Ends),Inv X pins σ H s->t D σ H->wpAny (model X.prog X.w) X.A (exec st X.env) (SP X pins D) X.xe s
def pF (X:Cx) (st:List Stmt) (t:TS):Prop :=
 ∀ (pins:List (Addr × Obj)) (s:Shared) (σ:St) (H:Hp) (D:Ends),Inv X pins σ H s->t D σ H->wpAny (model X.prog X.w) X.A (execs st X.env) (SP X pins D) X.xe s
theorem bC {α:Type} {t:Sem α} {Q Q':α->Shared->Prop} {M:Model} {A:Around} {E:Value->Shared->Prop} {s:Shared} (h:wpAny M A t Q E s) (hQ:∀ a s,Q a s->Q' a s):wpAny M A t Q' E s:=wpAny_mono h hQ fun _ _ x=>x
section
variable {X:Cx}
theorem bin {a b:Expr} {ta tb:TE} (ha:PE X a ta) (hb:PE X b tb) {pins:List (Addr × Obj)} {s:Shared} {σ:St} {H:Hp} {R:V->V->Hp->Prop} (I:Inv X pins σ H s) (h:ta σ H fun x H1=>tb σ H1 fun y H2=>R x y H2)
  {α:Type} {Q:α->Shared->Prop} {f:Value->Value->Sem α}
  (hf:∀ v u s2 x y H2,Inv X pins σ H2 s2->RelV x v->RelV y u->R x y H2->wpAny (model X.prog X.w) X.A (f v u) Q X.xe s2) :
  wpAny (model X.prog X.w) X.A (eval a X.env) (fun v s₁=>wpAny (model X.prog X.w) X.A (eval b X.env) (fun u s₂=>wpAny (model X.prog X.w) X.A (f v u) Q X.xe s₂) X.xe s₁) X.xe s:=by
 refine bC (ha pins s σ H _ I h) fun v s1 ⟨x,H1,I1,r1,q1⟩=>?_
 refine bC (hb pins s1 σ H1 _ I1 q1) fun u s2 ⟨y,H2,I2,r2,q2⟩=>?_
 exact hf v u s2 x y H2 I2 r1 r2 q2
def Kz (i:Nat):TE:=fun σ H Q=>∃ v,σ[i]?=some (some v)/\Q v H
def tC (v:V):TE:=fun _ H Q=>Q v H
theorem IV {i:Nat} {x:Str} {pos:Pos} (hN:X.N[i]?=some x) (hv:HS X.env.scope x) (hd:(x == ("__debug__":Str))=false:=by decide) (hcd:(x == ("__classdict__":Str))=false:=by decide):PE X (.Name x pos) (Kz i):=by
 intro pins s σ H Q I h
 obtain ⟨v,e,h⟩:=h
 obtain ⟨m,hn,hl⟩:=I.loc
 obtain ⟨u,r,l⟩:=hl i x v hN e hv
 have fin:EP X pins σ Q u s:=⟨v,H,I,r,h⟩
 rcases l with ⟨hk,hm⟩ | ⟨hk,c,hc,hcell⟩
 ·exact wpAny_Name (wpAny_loadName_local I.ok.kind hk hn hm fin) hd
 ·rcases hk with hk | hk
  ·exact wpAny_Name (wpAny_loadName_cell I.ok.kind hk hc hcell fin) hd
  ·exact wpAny_Name (wpAny_loadName_free I.ok.kind hk hc hcell fin hcd) hd
theorem Ou {i j pos}:PE X (.Constant (.int i) j pos) (tC (.int i)):=fun _ _ _ H _ I h=>wpAny_Constant_int ⟨.int i,H,I.tok _,⟨_,rfl⟩,h⟩
theorem Qy {b j pos}:PE X (.Constant (.bool b) j pos) (tC (.bl b)):=fun _ _ _ H _ I h=>Constant_bool ⟨.bl b,H,I,rfl,h⟩
theorem Pe {j pos}:PE X (.Constant .none j pos) (tC .non):=fun _ _ _ H _ I h=>Constant_none ⟨.non,H,I,rfl,h⟩
theorem PF {x j pos}:PE X (.Constant (.str x) j pos) (tC (.str x)):=fun _ _ _ H _ I h=>Calls.Constant_str ⟨.str x,H,I.tok _,⟨_,rfl⟩,h⟩
def Gl (X:Cx) (x:Str):Prop:=X.env.kindOf x=some .globalImplicit
theorem E3 {E:Value->Shared->Prop} {pins:List (Addr × Obj)} {s:Shared} {σ:St} {H:Hp} {x:Str} {u:Value} {pos:Pos} {Q:Value->Shared->Prop} (I:Inv X pins σ H s) (hg:Gl X x) (hm:X.mg x=some u) (h:Q u s)
  (hd:(x == ("__debug__":Str))=false:=by decide):wpAny (model X.prog X.w) X.A (eval (.Name x pos) X.env) Q E s :=
 Calls.Name_function_global I.ok.kind hg (Calls.loadGlobal_global (by rw [I.ok.glob];exact I.mod.glob.keeps I.bk) hm h) hd
theorem nD {E:Value->Shared->Prop} {pins:List (Addr × Obj)} {s:Shared} {σ:St} {H:Hp} {x:Str} {u:Value} {pos:Pos} {Q:Value->Shared->Prop} (I:Inv X pins σ H s) (hg:Gl X x) (hm:X.mg x=none) (hv:bootBuiltins x=some u) (h:Q u s)
  (hn:x≠"__name__":=by decide) (hd:(x == ("__debug__":Str))=false:=by decide):wpAny (model X.prog X.w) X.A (eval (.Name x pos) X.env) Q E s:=by
 obtain ⟨mb,h1,h2⟩:=I.mod.blt
 exact Calls.Name_function_global I.ok.kind hg (Calls.loadGlobal_builtin (by rw [I.ok.glob];exact I.mod.glob.keeps I.bk) hm (by rw [I.ok.blt];exact h1.keeps I.bk) ((h2 x hn).trans hv) h) hd
theorem Nh {x:Str} {v:V} {u:Value} {pos:Pos} (hg:Gl X x) (hm:X.mg x=some u) (r:RelV v u) (hd:(x == ("__debug__":Str))=false:=by decide):PE X (.Name x pos) (tC v) :=
 fun _ _ _ H _ I h=>E3 I hg hm ⟨v,H,I,r,h⟩ hd
def RG (ta tb:TE) (k:Int->Int->Hp->Prop):St->Hp->Prop:=fun σ H=>ta σ H fun x H1=>tb σ H1 fun y H2=>∃ i j,x=.int i/\y=.int j/\k i j H2
variable {a b:Expr} {ta tb:TE} {pos:Pos}
def zT (p:Int->Int->Bool) (ta tb:TE):TE:=fun σ H Q=>RG ta tb (fun i j H2=>Q (.bl (p i j)) H2) σ H
abbrev RR:TE->TE->TE:=zT fun i j=>decide (i < j)
abbrev RT:TE->TE->TE:=zT fun i j=>decide (i<=j)
abbrev RW:TE->TE->TE:=zT fun i j=>decide (j < i)
abbrev RU:TE->TE->TE:=zT fun i j=>decide (j<=i)
abbrev RQ:TE->TE->TE:=zT fun i j=>decide (i=j)
abbrev RP:TE->TE->TE:=zT fun i j=>!decide (i=j)
variable {tA tB':TT} {rest:List Expr}
def OM (t u:TT):TT:=fun σ H Q=>t σ H fun c H1=>if c=true then u σ H1 Q else Q false H1
def Rb (t u:TT):TT:=fun σ H Q=>t σ H fun c H1=>if c=true then Q true H1 else u σ H1 Q
def Px (t:TT):TT:=fun σ H Q=>t σ H fun c H1=>Q (!c) H1
theorem NL (ha:PT X a tA):PW X (.BoolOp .And [a] pos) tA:=by
 intro wh pins s σ H Q I h
 refine isTrue_and (bC (ha pins s σ H Q I h) fun c s1 e=>?_)
 cases c with
 | true=>exact isTrue_and_nil e
 | false=>exact e
theorem OK (ha:PT X a tA):PW X (.BoolOp .Or [a] pos) tA:=by
 intro wh pins s σ H Q I h
 refine isTrue_or (bC (ha pins s σ H Q I h) fun c s1 e=>?_)
 cases c with
 | false=>exact isTrue_or_nil e
 | true=>exact e
theorem Ow (ha:PT X a tA) (hb:PW X (.BoolOp .And (b :: rest) pos) tB'):PW X (.BoolOp .And (a :: b :: rest) pos) (OM tA tB'):=by
 intro wh pins s σ H Q I h
 refine isTrue_and (bC (ha pins s σ H _ I h) fun c s1 ⟨H1,I1,q1⟩=>?_)
 cases c with
 | true=>exact hb wh pins s1 σ H1 Q I1 q1
 | false=>exact ⟨H1,I1,q1⟩
theorem QP (ha:PT X a tA) (hb:PW X (.BoolOp .Or (b :: rest) pos) tB'):PW X (.BoolOp .Or (a :: b :: rest) pos) (Rb tA tB'):=by
 intro wh pins s σ H Q I h
 refine isTrue_or (bC (ha pins s σ H _ I h) fun c s1 ⟨H1,I1,q1⟩=>?_)
 cases c with
 | true=>exact ⟨H1,I1,q1⟩
 | false=>exact hb wh pins s1 σ H1 Q I1 q1
theorem Oo (ha:PT X a tA):PT X (.UnaryOp .Not a pos) (Px tA):=by
 intro pins s σ H Q I h
 exact isTrue_not (ha pins s σ H (fun c H1=>Q (!c) H1) I h)
def LD (ta tb:TE):TE:=fun σ H Q=>ta σ H fun x H1=>∃ c,x=.bl c/\if c=true then tb σ H1 Q else Q (.bl false) H1
theorem PH {op} {t:TE} (h:PE X a t):PE X (.BoolOp op [a] pos) t:=fun pins s σ H Q I hw=>BoolOp_one (h pins s σ H Q I hw)
theorem Qc (ha:PE X a ta) (hb:PE X (.BoolOp .And (b :: rest) pos) tb):PE X (.BoolOp .And (a :: b :: rest) pos) (LD ta tb):=by
 intro pins s σ H Q I h
 refine BoolOp_and (bC (ha pins s σ H _ I h) fun v s1 ⟨x,H1,I1,r1,q1⟩=>?_)
 obtain ⟨c,rfl,q1⟩:=q1
 cases r1
 refine wpAny_truthy_bool ?_
 cases c with
 | true=>exact hb pins s1 σ H1 Q I1 q1
 | false=>exact ⟨.bl false,H1,I1,rfl,q1⟩
def Ro (t:TT) (ta tb:TE):TE:=fun σ H Q=>t σ H fun c H1=>if c=true then ta σ H1 Q else tb σ H1 Q
theorem JU {c:Expr} (hc:PT X c tA) (ha:PE X a ta) (hb:PE X b tb):PE X (.IfExp c a b pos) (Ro tA ta tb):=by
 intro pins s σ H Q I h
 refine wpAny_IfExp (bC (hc pins s σ H _ I h) fun d s1 ⟨H1,I1,q1⟩=>?_)
 cases d with
 | true=>exact ha pins s1 σ H1 Q I1 q1
 | false=>exact hb pins s1 σ H1 Q I1 q1
end
def dN (K:PySem.W.Frag) (H:Hp) (a:Addr) (xs:List V):Prop :=
 Rd H a (.lst xs) \/
  ∃ (o:Obj) (its:Array Value) (n:Nat),K.lookup a=some o/\o.cls=.type "list"/\o.dict=none/\o.data=.seq its n/\its.size<=sizeLine/\Vals xs its.toList
def eY (K:PySem.W.Frag) (H:Hp) (a:Addr) (xs:List V):Prop :=
 Rd H a (.tup xs) \/
  ∃ (o:Obj) (its:Array Value) (n:Nat),K.lookup a=some o/\o.cls=.type "tuple"/\o.data=.seq its n/\its.size<=sizeLine/\Vals xs its.toList
def Rt:Value->Option V
 | .none=>some .non
 | .bool b=>some (.bl b)
 | .int i _=>some (.int i)
 | .str x _=>some (.str x)
 | .bytes b _=>some (.byt b)
 | .float b _=>some (.flt b)
 | .ref a=>some (.ref a)
 | .type n=>some (.ty n)
 | _=>none
theorem RelV.abs {x:V} {u:Value} (r:RelV x u):Rt u=some x:=by
 cases x with
 | non=>cases r;rfl
 | bl _=>cases r;rfl
 | int _=>obtain ⟨t,rfl⟩:=r;rfl
 | str _=>obtain ⟨t,rfl⟩:=r;rfl
 | byt _=>obtain ⟨t,rfl⟩:=r;rfl
 | flt _=>obtain ⟨t,rfl⟩:=r;rfl
 | ref _=>cases r;rfl
 | ty _=>cases r;rfl
theorem RelV.inj {x y:V} {u:Value} (r:RelV x u) (q:RelV y u):x=y:=Option.some.inj (r.abs.symm.trans q.abs)
theorem Vals.inj:∀ {xs ys:List V} {us:List Value},Vals xs us->Vals ys us->xs=ys
 | _,_,_,.nil,.nil=>rfl
 | _,_,_,.cons r t,.cons r' t'=>by rw [r.inj r',Vals.inj t t']
section
variable {X:Cx} {pins:List (Addr × Obj)} {σ:St} {H:Hp} {s:Shared} {a:Addr} {xs ys:List V}
theorem Inv.list (I:Inv X pins σ H s) (h:dN X.K H a xs):∃ its:List Value,Vals xs its/\PlainL s.heap a its.toArray/\xs.length<=sizeLine:=by
 rcases h with h | ⟨o,its,n,hk,hc,hd,hs,hz,r⟩
 ·obtain ⟨z,its,n,r,e⟩:=h.ok I.hok
  exact ⟨its,r,⟨_,n,e,rfl,rfl,rfl⟩,z⟩
 ·refine ⟨its.toList,r,⟨o,n,I.kIn a o hk,hc,hd,by simpa using hs⟩,?_⟩
  have e:=r.length
  simp only [Array.length_toList] at e
  omega
theorem Inv.tuple (I:Inv X pins σ H s) (h:eY X.K H a xs):∃ its:List Value,Vals xs its/\IsTup s.heap a its.toArray/\xs.length<=sizeLine:=by
 rcases h with h | ⟨o,its,n,hk,hc,hs,hz,r⟩
 ·obtain ⟨z,its,r,p⟩:=h.ok I.hok
  exact ⟨its,r,p,z⟩
 ·refine ⟨its.toList,r,⟨o,I.kIn a o hk,hc,n,by simpa using hs⟩,?_⟩
  have e:=r.length
  simp only [Array.length_toList] at e
  omega
theorem Inv.list_inj (I:Inv X pins σ H s) (h:dN X.K H a xs) (h':dN X.K H a ys):xs=ys:=by
 obtain ⟨its,r,⟨o,n,e,_,_,d⟩,_⟩:=I.list h
 obtain ⟨its',r',⟨o',n',e',_,_,d'⟩,_⟩:=I.list h'
 rw [e] at e';cases e'
 rw [d] at d'
 injection d' with d1 _
 have:its=its':=by simpa using congrArg Array.toList d1
 subst this
 exact r.inj r'
theorem Inv.tuple_inj (I:Inv X pins σ H s) (h:eY X.K H a xs) (h':eY X.K H a ys):xs=ys:=by
 obtain ⟨its,r,⟨o,e,_,n,d⟩,_⟩:=I.tuple h
 obtain ⟨its',r',⟨o',e',_,n',d'⟩,_⟩:=I.tuple h'
 rw [e] at e';cases e'
 rw [d] at d'
 injection d' with d1 _
 have:its=its':=by simpa using congrArg Array.toList d1
 subst this
 exact r.inj r'
end
abbrev Cx.wish (X:Cx) (E:Value->Shared->Prop):Cx:={ X with xe:=E }
abbrev Cx.nox (X:Cx):Cx:=X.wish fun _ _=>False
theorem Cx.Ok.wish {X:Cx} (ok:X.Ok) (E:Value->Shared->Prop):(X.wish E).Ok :=
 ⟨ok.mod,ok.kind,ok.glob,ok.blt,ok.above,ok.inj,ok.has,ok.cab,ok.hd,ok.frames,ok.stk,ok.exf,ok.bs,ok.bsz,ok.noex,ok.exfs,ok.funs,ok.frf⟩
theorem Cx.Ok.unwish {X:Cx} {E:Value->Shared->Prop} (ok:(X.wish E).Ok):X.Ok :=
 ⟨ok.mod,ok.kind,ok.glob,ok.blt,ok.above,ok.inj,ok.has,ok.cab,ok.hd,ok.frames,ok.stk,ok.exf,ok.bs,ok.bsz,ok.noex,ok.exfs,ok.funs,ok.frf⟩
section
variable {X:Cx} {pins:List (Addr × Obj)} {σ:St} {H:Hp} {s:Shared} {E:Value->Shared->Prop}
theorem Inv.wish (I:Inv X pins σ H s) (E:Value->Shared->Prop):Inv (X.wish E) pins σ H s:=⟨I.ok.wish E,I.os,I.bare,I.base,I.loc,I.cell,I.free,I.freeC,I.pin,I.hok,I.len⟩
theorem Inv.unwish (I:Inv (X.wish E) pins σ H s):Inv X pins σ H s:=⟨I.ok.unwish,I.os,I.bare,I.base,I.loc,I.cell,I.free,I.freeC,I.pin,I.hok,I.len⟩
theorem SP.unwish {D:Ends} {f:Flow} {s':Shared} (h:SP (X.wish E) pins D f s'):SP X pins D f s':=by
 cases f with
 | next=>obtain ⟨σ',H',I,q⟩:=h;exact ⟨σ',H',I.unwish,q⟩
 | brk=>obtain ⟨σ',H',I,q⟩:=h;exact ⟨σ',H',I.unwish,q⟩
 | cont=>obtain ⟨σ',H',I,q⟩:=h;exact ⟨σ',H',I.unwish,q⟩
 | ret u=>obtain ⟨v,σ',H',I,r,q⟩:=h;exact ⟨v,σ',H',I.unwish,r,q⟩
theorem pF.nox {st:List Stmt} {t:TS} (h:pF X.nox st t):pF X st t:=fun pins s σ H D I hw =>
 wpAny_mono (h pins s σ H D (I.wish _) hw) (fun _ _ q=>q.unwish) fun _ _ z=>False.elim z
end
section
variable {X:Cx} {st:Stmt} {rest:List Stmt} {t u:TS} {e:Expr} {te:TE} {pos:Pos}
def LF:TS:=fun D σ H=>D.nx σ H
def O2 (t u:TS):TS:=fun D σ H=>t { D with nx:=u D } σ H
theorem Ny:pF X [] LF:=fun _ _ σ H _ I h=>wpAny_execs_nil ⟨σ,H,I,h⟩
theorem Ln (h1:PS X st t) (h2:pF X rest u):pF X (st :: rest) (O2 t u):=by
 intro pins s σ H D I h
 refine wpAny_execs_cons (bC (h1 pins s σ H { D with nx:=u D } I h) fun f s1 q=>?_)
 cases f with
 | next =>
  obtain ⟨σ',H',I',q⟩:=q
  exact h2 pins s1 σ' H' D I' q
 | ret v=>exact q
 | brk=>exact q
 | cont=>exact q
theorem MG (h1:PS X st t):pF X [st] t:=by
 intro pins s σ H D I h
 refine wpAny_execs_cons (bC (h1 pins s σ H D I h) fun f s1 q=>?_)
 cases f with
 | next=>exact wpAny_execs_nil q
 | ret v=>exact q
 | brk=>exact q
 | cont=>exact q
theorem Inv.quiet {pins:List (Addr × Obj)} {σ:St} {H:Hp} {s:Shared} (I:Inv X pins σ H s):interactive X.env=false:=by simp [interactive,I.ok.kind]
def L9 (te:TE):TS:=fun D σ H=>te σ H fun _ H1=>D.nx σ H1
theorem N7 (he:PE X e te) (hs:swapsWith e none pos.line X.env=pure false:=by rfl):PS X (.Expr e pos) (L9 te):=by
 intro pins s σ H D I h
 exact wpAny_Expr_any (bC (he pins s σ H _ I h) fun v s1 ⟨x,H1,I1,r1,q1⟩=>⟨σ,H1,I1,q1⟩) I.quiet hs
def OB (te:TE):TS:=fun D σ H=>te σ H D.rt
theorem PJ (he:PE X e te):PS X (.Return (some e) pos) (OB te):=by
 intro pins s σ H D I h
 exact wpAny_Return_some (bC (he pins s σ H _ I h) fun v s1 ⟨x,H1,I1,r1,q1⟩=>⟨x,σ,H1,I1,r1,q1⟩)
def OR (c:TT) (t u:TS):TS:=fun D σ H=>c σ H fun b H1=>if b=true then t D σ H1 else u D σ H1
theorem Q0 {c:Expr} {a b:List Stmt} {tc:TT} (hc:PT X c tc) (ha:pF X a t) (hb:pF X b u):PS X (.If c a b pos) (OR tc t u):=by
 intro pins s σ H D I h
 refine wpAny_If (bC (hc pins s σ H _ I h) fun d s1 ⟨H1,I1,q1⟩=>?_)
 cases d with
 | true=>exact ha pins s1 σ H1 D I1 q1
 | false=>exact hb pins s1 σ H1 D I1 q1
end
abbrev TG:=V->St->Hp->(St->Hp->Prop)->Prop
abbrev n9:=List V->St->Hp->(St->Hp->Prop)->Prop
def PG (X:Cx) (target:Expr) (t:TG):Prop :=
 ∀ (pins:List (Addr × Obj)) (s:Shared) (σ:St) (H:Hp) (v:V) (u:Value) (Q:St->Hp->Prop),Inv X pins σ H s->RelV v u->t v σ H Q ->
  wpAny (model X.prog X.w) X.A (assign target X.env u) (fun _ s'=>∃ σ' H',Inv X pins σ' H' s'/\Q σ' H') X.xe s
def Hi (X:Cx) (ts:List Expr) (t:n9):Prop :=
 ∀ (pins:List (Addr × Obj)) (s:Shared) (σ:St) (H:Hp) (vs:List V) (us:List Value) (Q:St->Hp->Prop),Inv X pins σ H s->Vals vs us->t vs σ H Q ->
  wpAny (model X.prog X.w) X.A (assignInOrder ((assignEach ts X.env).map (·.2)) us) (fun _ s'=>∃ σ' H',Inv X pins σ' H' s'/\Q σ' H') X.xe s
abbrev K5:=V->V->V->Hp->(Hp->Prop)->Prop
def Qs (X:Cx) (t:K5):Prop :=
 ∀ (pins:List (Addr × Obj)) (s:Shared) (σ:St) (H:Hp) (o i v:V) (ov iv u:Value) (Q:Hp->Prop),Inv X pins σ H s->RelV o ov->RelV i iv->RelV v u->t o i v H Q ->
  wpAny (model X.prog X.w) X.A (setItem ov iv u) (fun _ s'=>∃ H',Inv X pins σ H' s'/\Q H') X.xe s
abbrev RV:=V->V->Hp->VK->Prop
section
variable {X:Cx} {pos:Pos}
def o3 (i:Nat):TG:=fun v σ H Q=>Q (σ.set i (some v)) H
theorem EJ {i:Nat} {x:Str} (hN:X.N.Nodup) (hi:X.N[i]?=some x) (hx:Loc X.env.scope x) (hf:X.fn x=true\/X.env.scope.names.lookup x=some .local:=by first | exact .inl rfl | exact .inr rfl | assumption):PG X (.Name x pos) (o3 i):=by
 intro pins s σ H v u Q I r h
 exact wpAny_assign_Name (Cd I hN hi hx r (fun s' I'=>⟨_,H,I',h⟩) hf)
def Ct:n9:=fun vs σ H Q=>vs=[]/\Q σ H
def yZ (t:TG) (u:n9):n9:=fun vs σ H Q=>∃ v r,vs=v :: r/\t v σ H fun σ' H'=>u r σ' H' Q
theorem MJ:Hi X [] Ct:=by
 intro pins s σ H vs us Q I r h
 obtain ⟨e,h⟩:=h
 subst e
 cases r
 exact assignInOrder_nil ⟨σ,H,I,h⟩
theorem Ll {e:Expr} {es:List Expr} {t:TG} {u:n9} (h1:PG X e t) (h2:Hi X es u)
  (hs:(assignEach (e :: es) X.env).map (·.2)=assign e X.env :: (assignEach es X.env).map (·.2):=by rfl):Hi X (e :: es) (yZ t u):=by
 intro pins s σ H vs us Q I r h
 obtain ⟨v,vr,e1,h⟩:=h
 subst e1
 cases r with
 | cons r rr =>
  rw [hs]
  refine assignInOrder_cons (bC (h1 pins s σ H _ _ _ I r h) fun _ s1 ⟨σ1,H1,I1,q1⟩=>?_)
  exact h2 pins s1 σ1 H1 _ _ Q I1 rr q1
def C8 (K:PySem.W.Frag) (n:Nat) (t:n9):TG:=fun v σ H Q=>∃ a xs,v=.ref a/\eY K H a xs/\xs.length=n/\t xs σ H Q
theorem Qu {es:List Expr} {k:Nat} {t:n9} {n:Nat} (hc:X.calm=true) (h:Hi X es t)
  (hn:(assignEach es X.env).length=n:=by rfl) (hst:(assignEach es X.env).findIdx? (·.1)=none:=by rfl):PG X (.Tuple es k pos) (C8 X.K n t):=by
 intro pins s σ H v u Q I r hw
 obtain ⟨a,xs,e1,hq,hl,hw⟩:=hw
 subst e1
 cases r
 obtain ⟨its,rv,ht,hz⟩:=I.tuple hq
 refine assign_Tuple_tuple (I.ok.hd hc) ht (by simp [hn,<- hl,rv.length]) hst fun h' hx=>?_
 have I1:Inv X pins σ H { s with heap:=h' }:=I.kept (t':=s.toks) fun b o e=>hx b o (Nat.ne_of_lt (Heap.lt_size e)) e
 exact h pins _ σ H xs _ Q I1 (by simpa using rv) hw
def Rr (to ti:TE) (t:K5):TG:=fun v σ H Q=>to σ H fun o H1=>ti σ H1 fun i H2=>t o i v H2 fun H3=>Q σ H3
theorem Oa {o i:Expr} {to ti:TE} {t:K5} (ho:PE X o to) (hi:PE X i ti) (hs:Qs X t)
  (ha:∀ v,assign (.Subscript o i pos) X.env v=(do
   let ov <- holding [v] (eval o X.env)
   let iv <- holding [v,ov] (eval i X.env)
   standAt pos
   holding [v,ov,iv] (setItem ov iv v)
   release [v,ov,iv] []):=by intro _;rfl):PG X (.Subscript o i pos) (Rr to ti t):=by
 intro pins s σ H v u Q I r h
 rw [ha]
 refine wpAny_bind (wpAny_holding (bC (ho pins s σ H _ I h) fun ov s1 ⟨x,H1,I1,r1,q1⟩=>?_))
 refine wpAny_bind (wpAny_holding (bC (hi pins s1 σ H1 _ I1 q1) fun iv s2 ⟨y,H2,I2,r2,q2⟩=>?_))
 refine wpAny_bind (wpAny_standAt (wpAny_bind (wpAny_holding (bC (hs pins s2 σ H2 x y v ov iv u _ I2 r1 r2 r q2) fun _ s3 ⟨H3,I3,q3⟩=>?_))))
 exact wpAny_release ⟨σ,H3,I3,q3⟩
def Gm (te:TE) (g:TG):TS:=fun D σ H=>te σ H fun x H1=>g x σ H1 D.nx
theorem G9 {tg e:Expr} {te:TE} {g:TG} (he:PE X e te) (hg:PG X tg g) (hs:swapsWithSole [tg] e pos.line X.env=pure false:=by rfl) (hw:swappedStores [tg] e X.env=pure none:=by rfl)
  (h1:(assignEach [tg] X.env).map (·.2)=[assign tg X.env]:=by rfl):PS X (.Assign [tg] e pos) (Gm te g):=by
 intro pins s σ H D I h
 refine wpAny_Assign_stores (bC (he pins s σ H _ I h) fun v s1 ⟨x,H1,I1,r1,q1⟩=>?_) hs hw
 rw [h1]
 exact bC (hg pins s1 σ H1 x v _ I1 r1 q1) fun _ s2 q=>q
theorem PU {i:Nat} {x:Str} {e:Expr} {te:TE} {pos':Pos} (hN:X.N.Nodup) (hi:X.N[i]?=some x) (hx:Loc X.env.scope x) (he:PE X e te) (hs:swapsWith e (some (.Name x pos')) pos.line X.env=pure false:=by rfl) (hf:X.fn x=true\/X.env.scope.names.lookup x=some .local:=by first | exact .inl rfl | exact .inr rfl | assumption) :
  PS X (.Assign [.Name x pos'] e pos) (Gm te (o3 i)):=by
 intro pins s σ H D I h
 refine wpAny_Assign_Name (bC (he pins s σ H _ I h) fun v s1 ⟨y,H1,I1,r1,q1⟩=>?_) hs
 exact Cd I1 hN hi hx r1 (fun s2 I2=>⟨_,H1,I2,q1⟩) hf
end
section
variable {X:Cx} {pos:Pos}
def Iv (c:TT) (tb:TS):TS:=fun D σ H=>∃ W:Nat->St->Hp->Prop,(∃ m,W m σ H)/\∀ m σ H,W m σ H ->
 c σ H fun b H1=>if b=true then ∃ N:St->Hp->Prop,(∀ σ' H',N σ' H'->∃ m',m' < m/\W m' σ' H')/\tb { D with nx:=N,ct:=N,bk:=D.nx } σ H1 else D.nx σ H1
theorem Lp {c:Expr} {body:List Stmt} {tc:TT} {tb:TS} (hp:PassesOwn (model X.prog X.w) X.A X.env X.xe) (hc:PT X c tc) (hb:pF X body tb):PS X (.While c body [] pos) (Iv tc tb):=by
 intro pins s σ H D I h
 obtain ⟨W,⟨m0,w0⟩,turn⟩:=h
 refine wpAny_While (codeAny_whileLoop (fun n s'=>∃ σ' H',Inv X pins σ' H' s'/\W n σ' H') ?_ m0 ⟨σ,H,I,w0⟩)
 rintro n s1 ⟨σ1,H1,I1,w1⟩
 refine wpAny_passesOwn hp (bC (hc pins s1 σ1 H1 _ I1 (turn n σ1 H1 w1)) fun b s2 ⟨H2,I2,q2⟩=>?_)
 cases b with
 | true =>
  obtain ⟨N,hN,q2⟩:=q2
  rw [if_pos rfl]
  refine wpAny_passesOwn hp (bC (hb pins s2 σ1 H2 _ I2 q2) fun f s3 q3=>?_)
  cases f with
  | next =>
   obtain ⟨σ3,H3,I3,n3⟩:=q3
   obtain ⟨m',hm,w3⟩:=hN σ3 H3 n3
   exact ⟨m',hm,σ3,H3,I3,w3⟩
  | cont =>
   obtain ⟨σ3,H3,I3,n3⟩:=q3
   obtain ⟨m',hm,w3⟩:=hN σ3 H3 n3
   exact ⟨m',hm,σ3,H3,I3,w3⟩
  | brk=>exact q3
  | ret v=>exact q3
 | false =>
  rw [if_neg Bool.false_ne_true]
  exact wpAny_execs_nil ⟨σ1,H2,I2,q2⟩
end
structure It where
 go:Nat->Hp->Prop
 yld:Nat->Hp->V->Hp->Prop
 stop:Nat->Hp->Prop
def pY (X:Cx) (pins:List (Addr × Obj)) (H:Hp) (b:Addr):Prop :=
 H b=none/\b≠X.env.locals/\b ∉ X.fs/\(b∈X.ex\/X.s₀.heap.objs.size<=b)/\(∀ x c,X.env.cells.lookup x=some c->c≠b)/\∀ p∈X.pn++pins,p.1≠b
theorem Inv.fpOk {X:Cx} {pins:List (Addr × Obj)} {σ:St} {H H':Hp} {s:Shared} {b:Addr} (I:Inv X pins σ H s) (hb:s.heap.objs.size<=b) (hn:H' b=none):pY X pins H' b:=by
 refine ⟨hn,Nat.ne_of_gt (Nat.lt_of_lt_of_le I.lt hb),I.nofs hb,.inr (Nat.le_trans I.sz hb),fun x c e z=>?_,fun p hp z=>?_⟩
 ·obtain ⟨v,q⟩:=I.cell x c e
  exact absurd (Nat.lt_of_lt_of_le q.lt (by rw [z];exact hb)) (Nat.lt_irrefl _)
 ·exact absurd (Nat.lt_of_lt_of_le (Heap.lt_size (I.pin p hp).1) (by rw [z];exact hb)) (Nat.lt_irrefl _)
structure Turn (P:Program) (w:World) (K:PySem.W.Frag) (tg:Expr) (J:It) (fp:List Addr) (it:Addr) (tn:Nat->Heap->Prop):Prop where
 mem:it∈fp
 obj:∀ i h,tn i h->∀ b∈fp,∃ o,h.get? b=some o/\∀ v,o.data≠.cell v
 keep:∀ i h h',tn i h->(∀ b∈fp,∀ o,h.get? b=some o->h'.get? b=some o)->tn i h'
 item:∀ (X:Cx),X.prog=P->X.w=w->X.K=K->X.calm=true->∀ (i:Nat) (pins:List (Addr × Obj)) (s:Shared) (σ:St) (H:Hp) (E:Value->Shared->Prop),Inv X pins σ H s->(∀ b∈fp,pY X pins H b)->tn i s.heap->J.go i H ->
  wpAny (model P w) X.A (pyNext (.ref it)) (fun r s1=>∃ u,r=some u /\
   wpAny (model P w) X.A (letOwnedTupleGo tg (.ref it) u) (fun _ s2=>∃ x H',Inv X pins σ H' s2/\RelV x u/\J.yld i H x H'/\tn (i + 1) s2.heap/\∀ b∈fp,H' b=none) E s1) E s
 done:∀ (X:Cx),X.prog=P->X.w=w->X.K=K->X.calm=true->∀ (i:Nat) (pins:List (Addr × Obj)) (s:Shared) (σ:St) (H:Hp) (E:Value->Shared->Prop),Inv X pins σ H s->(∀ b∈fp,pY X pins H b)->tn i s.heap->J.stop i H ->
  wpAny (model P w) X.A (pyNext (.ref it)) (fun r s1=>r=none/\Inv X pins σ H s1) E s
 self:∀ (A:Around) (i:Nat) (s:Shared) (Q:Value->Shared->Prop) (E:Value->Shared->Prop),tn i s.heap->Q (.ref it) s->wpAny (model P w) A (pyIter (.ref it)) Q E s
abbrev TI:=St->Hp->(It->Hp->Prop)->Prop
def Rf (X:Cx) (pins:List (Addr × Obj)) (σ:St) (tg:Expr) (R:It->Hp->Prop) (itv:Value) (s2:Shared):Prop :=
 ∃ (it:Addr) (fp:List Addr) (tn:Nat->Heap->Prop) (J:It) (H':Hp),itv=.ref it/\Inv X pins σ H' s2/\Turn X.prog X.w X.K tg J fp it tn/\tn 0 s2.heap/\(∀ b∈fp,pY X pins H' b)/\R J H'
def PI (X:Cx) (tg iter:Expr) (wi:TI):Prop :=
 ∀ (pins:List (Addr × Obj)) (s:Shared) (σ:St) (H:Hp) (R:It->Hp->Prop),Inv X pins σ H s->wi σ H R ->
  wpAny (model X.prog X.w) X.A (eval iter X.env) (fun v s1=>wpAny (model X.prog X.w) X.A (pyIter v) (Rf X pins σ tg R) X.xe s1) X.xe s
theorem xU {M:Model} {A:Around} {E:Value->Shared->Prop} {s:Shared} {tg:Expr} {it:Addr} {u:Value} {o:Obj} {n:String} {vs:Array Value} {Q:Unit->Shared->Prop} (ho:s.heap.get? it=some o) (hc:o.cls=.type n) (hd:o.data=.fields vs)
    (hn:["enumerate","zip","dict_itemiterator","dict_reverseitemiterator","odict_iterator","itertools.zip_longest","itertools.pairwise"].contains n=false) (hQ:Q () s):wpAny M A (letOwnedTupleGo tg (.ref it) u) Q E s:=by
  unfold letOwnedTupleGo
  cases tg <;> first
    | exact wpAny_pure hQ
    | (cases u <;> first
        | exact wpAny_pure hQ
        | (refine wpAny_bind (wpAny_load ho ?_)
           rw [hc,hd]
           show wpAny M A (if (["enumerate","zip","dict_itemiterator","dict_reverseitemiterator","odict_iterator","itertools.zip_longest","itertools.pairwise"].contains n && vs[0]? == some (rawInt _))=true then _ else _) Q E s
           rw [if_neg (by intro h;rw [hn,Bool.false_and] at h;cases h)]
           exact wpAny_pure hQ))
def Mg (K:PySem.W.Frag) (a:Addr):It :=
 ⟨fun i H=>∃ xs x,dN K H a xs/\xs[i]?=some x,fun i H x H'=>H'=H/\∀ xs,dN K H a xs->xs[i]?=some x,fun i H=>∃ xs,dN K H a xs/\xs.length<=i⟩
def Pl (K:PySem.W.Frag) (a:Addr):It :=
 ⟨fun i H=>∃ xs x,eY K H a xs/\xs[i]?=some x,fun i H x H'=>H'=H/\∀ xs,eY K H a xs->xs[i]?=some x,fun i H=>∃ xs,eY K H a xs/\xs.length<=i⟩
def AZ (lo:Int) (n:Nat):It:=⟨fun i _=>i < n,fun i H x H'=>H'=H/\x=.int (lo + i),fun i _=>n<=i⟩
theorem IC {P:Program} {w:World} {K:PySem.W.Frag} {tg:Expr} (a it:Addr):Turn P w K tg (Mg K a) [it] it (fun i h=>h.IsListIter it a i) where
 mem:=by simp
 obj:=fun i h st b hb=>by
  have e:b=it:=by simpa using hb
  subst e
  obtain ⟨o,e,c,d⟩:=st
  exact ⟨o,e,fun v z=>by rw [d] at z;cases z⟩
 keep:=fun i h h' st k=>st.at fun o e=>k it (by simp) o e
 item:=by
  intro X hP hw hK hc i pins s σ H E I hf st hg
  subst hP hw hK
  obtain ⟨xs,x,hq,hx⟩:=hg
  obtain ⟨its,rv,p,hz⟩:=I.list hq
  obtain ⟨u,hu,ru⟩:=rv.get hx
  obtain ⟨f0,f1,f2,f3,f4,f5⟩:=hf it (by simp)
  refine wpAny_pyNext_list_item st p.isList (x:=u) (by simpa using hu) fun h' st' sb=>?_
  have I1:Inv X pins σ H { s with heap:=h' }:=I.turned (t':=s.toks) (fun b o hb e=>(sb.2 b hb).trans e) f0 f1 f3 f4 f5
  obtain ⟨o,e,c,d⟩:=id st'
  exact ⟨u,rfl,xU (s:={ s with heap:=h' }) e c d (by decide) ⟨x,H,I1,ru,⟨rfl,fun ys hy=>by rw [I.list_inj hy hq];exact hx⟩,st',fun b hb=>(hf b hb).1⟩⟩
 done:=by
  intro X hP hw hK hc i pins s σ H E I hf st hg
  subst hP hw hK
  obtain ⟨xs,hq,hx⟩:=hg
  obtain ⟨its,rv,p,hz⟩:=I.list hq
  obtain ⟨f0,f1,f2,f3,f4,f5⟩:=hf it (by simp)
  have hl:=rv.length
  exact wpAny_pyNext_list_end (I.ok.hd hc) st p.isList (by simp;omega) fun h' eb=>⟨rfl,I.turned (t':=s.toks) (fun b o hb e=>eb b o hb e) f0 f1 f3 f4 f5⟩
 self:=fun _ _ _ _ _ st h=>wpAny_pyIter_listiter st h
theorem Ga {P:Program} {w:World} {K:PySem.W.Frag} {tg:Expr} (a it:Addr):Turn P w K tg (Pl K a) [it] it (fun i h=>h.IsTupleIter it a i) where
 mem:=by simp
 obj:=fun i h st b hb=>by
  have e:b=it:=by simpa using hb
  subst e
  obtain ⟨o,e,c,d⟩:=st
  exact ⟨o,e,fun v z=>by rw [d] at z;cases z⟩
 keep:=fun i h h' st k=>st.at fun o e=>k it (by simp) o e
 item:=by
  intro X hP hw hK hc i pins s σ H E I hf st hg
  subst hP hw hK
  obtain ⟨xs,x,hq,hx⟩:=hg
  obtain ⟨its,rv,p,hz⟩:=I.tuple hq
  obtain ⟨u,hu,ru⟩:=rv.get hx
  obtain ⟨f0,f1,f2,f3,f4,f5⟩:=hf it (by simp)
  refine wpAny_pyNext_tuple_item st (show s.heap.IsTuple a its.toArray from p) (x:=u) (by simpa using hu) fun h' st' sb=>?_
  have I1:Inv X pins σ H { s with heap:=h' }:=I.turned (t':=s.toks) (fun b o hb e=>(sb.2 b hb).trans e) f0 f1 f3 f4 f5
  obtain ⟨o,e,c,d⟩:=id st'
  exact ⟨u,rfl,xU (s:={ s with heap:=h' }) e c d (by decide) ⟨x,H,I1,ru,⟨rfl,fun ys hy=>by rw [I.tuple_inj hy hq];exact hx⟩,st',fun b hb=>(hf b hb).1⟩⟩
 done:=by
  intro X hP hw hK hc i pins s σ H E I hf st hg
  subst hP hw hK
  obtain ⟨xs,hq,hx⟩:=hg
  obtain ⟨its,rv,p,hz⟩:=I.tuple hq
  obtain ⟨f0,f1,f2,f3,f4,f5⟩:=hf it (by simp)
  have hl:=rv.length
  exact wpAny_pyNext_tuple_end (I.ok.hd hc) st (show s.heap.IsTuple a its.toArray from p) (by simp;omega) fun h' eb=>⟨rfl,I.turned (t':=s.toks) (fun b o hb e=>eb b o hb e) f0 f1 f3 f4 f5⟩
 self:=fun _ _ _ _ _ st h=>wpAny_pyIter_tupleiter st h
theorem GN {P:Program} {w:World} {K:PySem.W.Frag} {tg:Expr} (it:Addr) (lo:Int) (n:Nat):Turn P w K tg (AZ lo n) [it] it (fun i h=>IsRangeIter h it (lo + (i:Nat) * 1) ((n:Int) - (i:Nat)) 1) where
 mem:=by simp
 obj:=fun i h st b hb=>by
  have e:b=it:=by simpa using hb
  subst e
  exact ⟨_,st,fun v z=>by
   have z':Data.fields _=Data.cell v:=z
   cases z'⟩
 keep:=fun i h h' st k=>k it (by simp) _ st
 item:=by
  intro X hP hw hK hc i pins s σ H E I hf st hg
  subst hP hw hK
  obtain ⟨f0,f1,f2,f3,f4,f5⟩:=hf it (by simp)
  have W:=Walks.range (prog:=X.prog) (w:=X.w) (I.ok.hd hc) it lo 1 n
  refine W.item i s _ _ hg st fun v h' tk hv st' kk=>?_
  obtain ⟨t,rfl⟩:=hv
  have I1:Inv X pins σ H { s with heap:=h',toks:=tk }:=I.turned (fun b o hb e=>kk b o (by simpa using hb) e) f0 f1 f3 f4 f5
  refine ⟨_,rfl,xU (s:={ s with heap:=h',toks:=tk }) (n:="range_iterator") st' rfl rfl (by decide) ⟨.int (lo + i),H,I1,⟨t,?_⟩,⟨rfl,rfl⟩,st',fun b hb=>(hf b hb).1⟩⟩
  rw [Int.mul_one]
 done:=by
  intro X hP hw hK hc i pins s σ H E I hf st hg
  subst hP hw hK
  obtain ⟨f0,f1,f2,f3,f4,f5⟩:=hf it (by simp)
  exact wpAny_pyNext_range_end (I.ok.hd hc) st (by have:n<=i:=hg;omega) fun h' eb=>⟨rfl,I.turned (t':=s.toks) (fun b o hb e=>eb b o hb e) f0 f1 f3 f4 f5⟩
 self:=fun _ _ _ _ _ st h=>wpAny_pyIter_rangeiter st h
section
variable {X:Cx} {tg:Expr}
theorem Lo {pins:List (Addr × Obj)} {σ:St} {H:Hp} {s:Shared} {R:It->Hp->Prop} {E:Value->Shared->Prop} {lo hi:Int} {t u v:Tok} {tk:Nat} (I:Inv X pins σ H s) (h1:-(2 ^ 62)<=lo) (h2:lo < 2 ^ 62) (h3:-(2 ^ 62)<=hi) (h4:hi < 2 ^ 62)
  (q:R (AZ lo (hi - lo).toNat) H):wpAny (model X.prog X.w) X.A (pyIter (.ref s.heap.objs.size)) (Rf X pins σ tg R) E { s with heap:=s.heap.push { cls:=.type "range",data:=.fields #[.int lo t,.int hi u,.int 1 v] },toks:=tk }:=by
 refine wpAny_pyIter_range (IsRange.new ..) (small_one h1 h2 h3 h4) ?_
 have I1:Inv X pins σ H { s with heap:=s.heap.push { cls:=.type "range",data:=.fields #[.int lo t,.int hi u,.int 1 v] },toks:=tk }:=I.kept fun b o e=>Heap.get?_push_of_some _ e
 refine ⟨(s.heap.push { cls:=.type "range",data:=.fields #[.int lo t,.int hi u,.int 1 v] }).objs.size,[(s.heap.push { cls:=.type "range",data:=.fields #[.int lo t,.int hi u,.int 1 v] }).objs.size],_,_,H,rfl,
  I1.kept (t':=tk) fun b o e=>Heap.get?_push_of_some _ e,GN _ lo (hi - lo).toNat,?_,fun b hb=>?_,q⟩
 ·have e1:lo + ((0:Nat):Int) * 1=lo:=by simp
  have e2:(((hi - lo).toNat:Nat):Int) - ((0:Nat):Int)=Builtin.Range.rangeSize lo hi 1:=by rw [rangeSize_one];split <;> omega
  show IsRangeIter _ _ (lo + ((0:Nat):Int) * 1) ((((hi - lo).toNat:Nat):Int) - ((0:Nat):Int)) 1
  rw [e1,e2]
  exact Heap.get?_push_size _ rfl
 ·have e:b=(s.heap.push { cls:=.type "range",data:=.fields #[.int lo t,.int hi u,.int 1 v] }).objs.size:=by simpa using hb
  subst e
  exact I1.fpOk (Nat.le_refl _) (I1.hok.fresh (Nat.le_refl _))
def LP (ta:TA):TI:=fun σ H R=>ta σ H fun vs H1=>∃ j:Int,vs=[.int j]/\-(2 ^ 62)<=j/\j < 2 ^ 62/\R (AZ 0 j.toNat) H1
theorem Hj {a:Expr} {ta:TA} {p pos:Pos} (hg:Gl X "range") (hm:X.mg "range"=none) (ha:PA X [a] ta) (hs:starEach [a] X.env=[(false,eval a X.env)]:=by rfl):PI X tg (.Call (.Name "range" p) [a] [] pos) (LP ta):=by
 intro pins s σ H R I h
 refine Call_ (nD I hg hm boot_range (PyProof.Rows.callWith_type1 (bC (ha pos pins s σ H _ I h) fun us s1 ⟨vs,H1,I1,r1,q1⟩=>?_) hs rfl))
 obtain ⟨j,e,q1,q2,q⟩:=q1
 subst e
 cases r1 with
 | cons r rr =>
  cases rr
  obtain ⟨t,rfl⟩:=r
  exact call_range_1 (Lo I1 (by omega) (by omega) q1 q2 (by simpa using q))
def Qi (wi:TI) (g:TG) (tb:TS):TS:=fun D σ H=>wi σ H fun J H1=>∃ W:Nat->Nat->St->Hp->Prop,(∃ m,W 0 m σ H1)/\∀ i m σ H,W i m σ H ->
 (J.stop i H/\D.nx σ H)\/(J.go i H/\∃ N:St->Hp->Prop,(∀ σ' H',N σ' H'->∃ m',m' < m/\W (i + 1) m' σ' H')/\∀ x H',J.yld i H x H'->g x σ H' fun σ2 H2=>tb { D with nx:=N,ct:=N,bk:=D.nx } σ2 H2)
def qK (fp:List Addr) (h:Heap):List (Addr × Obj):=fp.filterMap fun b=>(h.get? b).map fun o=>(b,o)
theorem j5 {fp:List Addr} {h:Heap} {b:Addr} {o:Obj} (hb:b∈fp) (e:h.get? b=some o):(b,o)∈qK fp h:=List.mem_filterMap.mpr ⟨b,hb,by rw [e];rfl⟩
theorem GU {fp:List Addr} {h:Heap} {p:Addr × Obj} (hp:p∈qK fp h):p.1∈fp/\h.get? p.1=some p.2:=by
 obtain ⟨b,hb,e⟩:=List.mem_filterMap.mp hp
 cases q:h.get? b with
 | none=>rw [q] at e;cases e
 | some o =>
  rw [q] at e
  have e':(b,o)=p:=Option.some.inj e
  subst e'
  exact ⟨hb,q⟩
theorem Inv.pinned {pins:List (Addr × Obj)} {σ:St} {H:Hp} {s:Shared} {fp:List Addr} (I:Inv X pins σ H s) (hf:∀ b∈fp,pY X pins H b) (ho:∀ b∈fp,∃ o,s.heap.get? b=some o/\∀ v,o.data≠.cell v):Inv X (pins++qK fp s.heap) σ H s :=
 I.pins_of fun p hp=>(List.mem_append.mp hp).elim (fun z=>I.pin p (List.mem_append_right _ z)) fun z=>by
  obtain ⟨hb,e⟩:=GU z
  obtain ⟨f0,f1,f2,_⟩:=hf p.1 hb
  obtain ⟨o,e',d⟩:=ho p.1 hb
  rw [e] at e';cases e'
  exact ⟨e,f0,f1,f2,d⟩
theorem Inv.unpinned {pins pl:List (Addr × Obj)} {σ:St} {H:Hp} {s:Shared} (I:Inv X (pins++pl) σ H s):Inv X pins σ H s:=I.pins_of fun p hp=>I.pin p (List.mem_append_right _ (List.mem_append_left _ hp))
theorem P6 {iter:Expr} {body:List Stmt} {wi:TI} {g:TG} {tb:TS} {pos:Pos} (hp:PassesOwn (model X.prog X.w) X.A X.env X.xe) (hc:X.calm=true) (hi:PI X tg iter wi) (hg:PG X tg g) (hb:pF X body tb)
  (hs:∀ x,foldedSetIterable iter X.env x=pure x:=by intro _;rfl):PS X (.For tg iter body [] pos) (Qi wi g tb):=by
 intro pins s σ H D I h
 refine wpAny_For (bC (hi pins s σ H _ I h) fun v s1 h1=>bC h1 fun itv s2 h2=>?_) hs
 obtain ⟨it,fp,tn,J,H2,e,I2,T,dH,f2,W,⟨m0,w0⟩,turn⟩:=h2
 subst e
 have stat:∀ {H':Hp},(∀ b∈fp,H' b=none)->∀ b∈fp,pY X pins H' b:=fun hn b hb=>⟨hn b hb,(f2 b hb).2⟩
 refine codeAny_forLoop_any (fun n s'=>∃ i σ' H',Inv X pins σ' H' s'/\tn i s'.heap/\(∀ b∈fp,H' b=none)/\W i n σ' H') ?_ m0 ⟨0,σ,H2,I2,dH,fun b hb=>(f2 b hb).1,w0⟩
 rintro n s3 ⟨i,σ3,H3,I3,st3,fr3,w3⟩
 rcases turn i n σ3 H3 w3 with ⟨stop,qn⟩ | ⟨go,N,hN,step⟩
 ·refine wpAny_passesOwn hp (bC (T.done X rfl rfl rfl hc i pins s3 σ3 H3 X.xe I3 (stat fr3) st3 stop) fun r s4 ⟨hr,I4⟩=>?_)
  subst hr
  exact wpAny_execs_nil ⟨σ3,H3,I4,qn⟩
 ·refine wpAny_passesOwn hp (bC (T.item X rfl rfl rfl hc i pins s3 σ3 H3 X.xe I3 (stat fr3) st3 go) fun r s4 ⟨u,hr,h4⟩=>?_)
  subst hr
  refine wpAny_passesOwn hp (bC h4 fun _ s5 ⟨x,H5,I5,r5,y5,st5,fr5⟩=>?_)
  have I5':=I5.pinned (stat fr5) (T.obj _ _ st5)
  refine wpAny_passesOwn hp (bC (hg _ s5 σ3 H5 x u _ I5' r5 (step x H5 y5)) fun _ s6 ⟨σ6,H6,I6,q6⟩=>?_)
  refine wpAny_passesOwn hp (bC (hb _ s6 σ6 H6 _ I6 q6) fun f s7 q7=>?_)
  have again:∀ {σ7:St} {H7:Hp},Inv X (pins++qK fp s5.heap) σ7 H7 s7->N σ7 H7->∃ m,m < n/\∃ i σ' H',Inv X pins σ' H' s7/\tn i s7.heap/\(∀ b∈fp,H' b=none)/\W i m σ' H':=fun {σ7 H7} I7 n7=>by
   obtain ⟨m',hm,w7⟩:=hN σ7 H7 n7
   refine ⟨m',hm,i + 1,σ7,H7,I7.unpinned,T.keep _ _ _ st5 fun b hb o e=>(I7.pin (b,o) (List.mem_append_right _ (List.mem_append_right _ (j5 hb e)))).1,fun b hb=>?_,w7⟩
   obtain ⟨o,e,d⟩:=T.obj _ _ st5 b hb
   exact (I7.pin (b,o) (List.mem_append_right _ (List.mem_append_right _ (j5 hb e)))).2.1
  cases f with
  | next=>obtain ⟨σ7,H7,I7,n7⟩:=q7;exact again I7 n7
  | cont=>obtain ⟨σ7,H7,I7,n7⟩:=q7;exact again I7 n7
  | brk=>obtain ⟨σ7,H7,I7,q7⟩:=q7;exact ⟨σ7,H7,I7.unpinned,q7⟩
  | ret v=>obtain ⟨x7,σ7,H7,I7,r7,q7⟩:=q7;exact ⟨x7,σ7,H7,I7.unpinned,r7,q7⟩
end
abbrev R2:=V->V->Hp->VK->Prop
def dI (X:Cx) (f:Value->Value->Sem Value) (r:R2):Prop :=
 ∀ (pins:List (Addr × Obj)) (s:Shared) (σ:St) (H:Hp) (x y:V) (v u:Value) (Q:VK),Inv X pins σ H s->RelV x v->RelV y u->r x y H Q ->
  wpAny (model X.prog X.w) X.A (f v u) (EP X pins σ Q) X.xe s
def Pk (X:Cx) (f:Value->Sem Value) (r:V->Hp->VK->Prop):Prop :=
 ∀ (pins:List (Addr × Obj)) (s:Shared) (σ:St) (H:Hp) (x:V) (v:Value) (Q:VK),Inv X pins σ H s->RelV x v->r x H Q ->
  wpAny (model X.prog X.w) X.A (f v) (EP X pins σ Q) X.xe s
def lZ (X:Cx) (f:Value) (r:List V->Hp->VK->Prop):Prop :=
 ∀ (pins:List (Addr × Obj)) (s:Shared) (σ:St) (H:Hp) (xs:List V) (us:List Value) (Q:VK),Inv X pins σ H s->Vals xs us->r xs H Q ->
  wpAny (model X.prog X.w) X.A (call f us) (EP X pins σ Q) X.xe s
def Rq (X:Cx) (r:V->Hp->(Bool->Hp->Prop)->Prop):Prop :=
 ∀ (pins:List (Addr × Obj)) (s:Shared) (σ:St) (H:Hp) (x:V) (v:Value) (Q:Bool->Hp->Prop),Inv X pins σ H s->RelV x v->r x H Q ->
  wpAny (model X.prog X.w) X.A (truthy v) (TP X pins σ Q) X.xe s
def Ee (r:R2) (ta tb:TE):TE:=fun σ H Q=>ta σ H fun x H1=>tb σ H1 fun y H2=>r x y H2 Q
def Rm (r:V->Hp->VK->Prop) (ta:TE):TE:=fun σ H Q=>ta σ H fun x H1=>r x H1 Q
def rI (C:Int->Int->Prop) (g:Int->Int->V):R2:=fun x y H Q=>∃ i j,x=.int i/\y=.int j/\C i j/\Q (g i j) H
def tG (g:Int->Int->V):R2:=fun x y H Q=>∃ i j,x=.int i/\y=.int j/\Q (g i j) H
def rU (g:Int->V):V->Hp->VK->Prop:=fun x H Q=>∃ i,x=.int i/\Q (g i) H
section
variable {X:Cx} {a b c:Expr} {ta tb tc:TE} {pos:Pos}
theorem Lc (ha:PE X a ta) (hb:PE X b tb) {pins:List (Addr × Obj)} {s:Shared} {σ:St} {H:Hp} {R:V->V->Hp->Prop} (I:Inv X pins σ H s)
  (h:ta σ H fun x H1=>tb σ H1 fun y H2=>R x y H2) {Q:Value->Shared->Prop} {f:Value->Value->Sem Value}
  (hf:∀ v u s2 x y H2,Inv X pins σ H2 s2->RelV x v->RelV y u->R x y H2->wpAny (model X.prog X.w) X.A (f v u) Q X.xe s2) :
  wpAny (model X.prog X.w) X.A (eval a X.env) (fun v s₁=>wpAny (model X.prog X.w) X.A (eval b X.env) (fun u s₂=>wpAny (model X.prog X.w) X.A (f v u) Q X.xe s₂) X.xe s₁) X.xe s:=by
 refine bC (ha pins s σ H _ I h) fun v s1 ⟨x,H1,I1,r1,q1⟩=>?_
 refine bC (hb pins s1 σ H1 _ I1 q1) fun u s2 ⟨y,H2,I2,r2,q2⟩=>?_
 exact hf v u s2 x y H2 I2 r1 r2 q2
theorem QA {op:Operator} {r:R2} (ho:dI X (binaryOp op) r) (ha:PE X a ta) (hb:PE X b tb):PE X (.BinOp a op b pos) (Ee r ta tb):=by
 intro pins s σ H Q I h
 exact wpAny_BinOp (Lc ha hb I h fun v u s2 x y H2 I2 rx ry q=>ho pins s2 σ H2 x y v u Q I2 rx ry q)
theorem QO {op:UnaryOp} {r:V->Hp->VK->Prop} (ho:Pk X (unaryOp op) r) (ha:PE X a ta):PE X (.UnaryOp op a pos) (Rm r ta):=by
 intro pins s σ H Q I h
 exact UnaryOp_ (bC (ha pins s σ H _ I h) fun v s1 ⟨x,H1,I1,r1,q1⟩=>ho pins s1 σ H1 x v Q I1 r1 q1)
theorem Mb {f:Value->Value->Sem Value} {C:Int->Int->Prop} {g:Int->Int->Int}
  (rule:∀ (i j:Int) (t u:Tok) (s:Shared) (Q:Value->Shared->Prop) (E:Value->Shared->Prop),C i j->Q (.int (g i j) s.toks) { s with toks:=s.toks + 1 }->wpAny (model X.prog X.w) X.A (f (.int i t) (.int j u)) Q E s) :
  dI X f (rI C fun i j=>.int (g i j)):=by
 intro pins s σ H x y v u Q I rx ry h
 obtain ⟨i,j,rfl,rfl,hc,q⟩:=h
 obtain ⟨t,rfl⟩:=rx
 obtain ⟨t',rfl⟩:=ry
 exact rule i j t t' s _ _ hc ⟨.int (g i j),H,I.tok _,⟨_,rfl⟩,q⟩
theorem Pg {f:Value->Value->Sem Value} {g:Int->Int->Int}
  (rule:∀ (i j:Int) (t u:Tok) (s:Shared) (Q:Value->Shared->Prop) (E:Value->Shared->Prop),Q (.int (g i j) s.toks) { s with toks:=s.toks + 1 }->wpAny (model X.prog X.w) X.A (f (.int i t) (.int j u)) Q E s) :
  dI X f (tG fun i j=>.int (g i j)):=by
 intro pins s σ H x y v u Q I rx ry h
 obtain ⟨i,j,rfl,rfl,q⟩:=h
 obtain ⟨t,rfl⟩:=rx
 obtain ⟨t',rfl⟩:=ry
 exact rule i j t t' s _ _ ⟨.int (g i j),H,I.tok _,⟨_,rfl⟩,q⟩
theorem FL {f:Value->Value->Sem Value} {g:Int->Int->Bool}
  (rule:∀ (i j:Int) (t u:Tok) (s:Shared) (Q:Value->Shared->Prop) (E:Value->Shared->Prop),Q (.bool (g i j)) s->wpAny (model X.prog X.w) X.A (f (.int i t) (.int j u)) Q E s) :
  dI X f (tG fun i j=>.bl (g i j)):=by
 intro pins s σ H x y v u Q I rx ry h
 obtain ⟨i,j,rfl,rfl,q⟩:=h
 obtain ⟨t,rfl⟩:=rx
 obtain ⟨t',rfl⟩:=ry
 exact rule i j t t' s _ _ ⟨.bl (g i j),H,I,rfl,q⟩
def K0 (i j:Int):Prop:=0<=j/\j<=1000000/\i.natAbs < 2 ^ 64
def K9 (i j:Int):Prop:=(-(2 ^ 64) < i/\i < 2 ^ 64)\/(-(2 ^ 64) < j/\j < 2 ^ 64)
theorem K9.ok {i j:Int} (h:K9 i j):IntMulOk i j:=by
 rcases h with ⟨h1,h2⟩ | ⟨h1,h2⟩
 ·exact .of_left (intBits_le_64 h1 h2)
 ·exact .of_right (intBits_le_64 h1 h2)
theorem QM (k:Nat):(0:Int)<=2 ^ k:=by
 rw [two_pow_cast]
 exact Int.natCast_nonneg _
theorem Pr:dI X (binaryOp .Add) (tG fun i j=>.int (i + j)):=Pg fun _ _ _ _ _ _ _ q=>add_int q
theorem Ot:dI X (binaryOp .Sub) (tG fun i j=>.int (i - j)):=Pg fun _ _ _ _ _ _ _ q=>sub_int q
theorem OF:dI X (binaryOp .Mod) (rI (fun _ j=>0 < j) fun i j=>.int (i % j)):=Mb fun i j _ _ _ _ _ hc q=>by
 have h1:(0:Int) < j:=hc
 exact mod_int' (by omega) (by rw [Int.fmod_eq_emod_of_nonneg i (by omega)];exact q)
theorem P9:dI X (binaryOp .Pow) (rI K0 fun i j=>.int (i ^ j.toNat)):=Mb fun _ _ _ _ _ _ _ hc q=>pow_int_small hc.1 hc.2.1 hc.2.2 q
theorem RH {f:Value->Sem Value} {g:Int->Int}
  (rule:∀ (i:Int) (t:Tok) (s:Shared) (Q:Value->Shared->Prop) (E:Value->Shared->Prop),Q (.int (g i) s.toks) { s with toks:=s.toks + 1 }->wpAny (model X.prog X.w) X.A (f (.int i t)) Q E s) :
  Pk X f (rU fun i=>.int (g i)):=by
 intro pins s σ H x v Q I rx h
 obtain ⟨i,rfl,q⟩:=h
 obtain ⟨t,rfl⟩:=rx
 exact rule i t s _ _ ⟨.int (g i),H,I.tok _,⟨_,rfl⟩,q⟩
theorem Oe:Pk X (unaryOp .USub) (rU fun i=>.int (-i)):=RH fun _ _ _ _ _ q=>neg_int q
end
def Fq:V->V->Bool
 | .non,.non=>true | .non,.int _=>true | .int _,.non=>true | .non,.bl _=>true | .bl _,.non=>true | .non,.str _=>true | .str _,.non=>true
 | .int _,.int _=>true | .bl _,.bl _=>true | .str _,.str _=>true | .byt _,.byt _=>true
 | .int _,.str _=>true | .str _,.int _=>true | .bl _,.str _=>true | .str _,.bl _=>true
 | _,_=>false
def RF:R2:=fun x y H Q=>Fq x y=true/\Q (.bl (decide (x=y))) H
def RM:R2:=fun x y H Q=>Fq x y=true/\Q (.bl (!decide (x=y))) H
theorem Fd {i j:Int}:decide (V.int i=V.int j)=(i == j):=by
 rw [Bool.eq_iff_iff]
 simp
theorem HB {i j:Bool}:decide (V.bl i=V.bl j)=(i == j):=by
 rw [Bool.eq_iff_iff]
 simp
theorem Eu {i j:Str}:decide (V.str i=V.str j)=(i == j):=by
 rw [Bool.eq_iff_iff]
 simp
theorem EL {i j:Array UInt8}:decide (V.byt i=V.byt j)=(i.toList == j.toList):=by
 rw [Bool.eq_iff_iff]
 cases i
 cases j
 simp
section
variable {X:Cx} {a b c:Expr} {ta tb tc:TE} {pos:Pos}
theorem bW {pins:List (Addr × Obj)} {σ:St} {H:Hp} {s:Shared} {Q:VK} {k k':Bool} (I:Inv X pins σ H s) (q:Q (.bl k) H) (e:k=k'):EP X pins σ Q (.bool k') s:=by
 subst e
 exact ⟨.bl k,H,I,rfl,q⟩
theorem QE:dI X (compareOp .Eq) RF:=by
 intro pins s σ H x y v u Q I rx ry h
 obtain ⟨hs,q⟩:=h
 cases x with
 | non =>
  cases rx
  cases y with
  | non=>cases ry;exact PySem.EqNone.eq_none_none (bW I q (by simp))
  | bl j=>cases ry;exact PySem.EqNone.eq_none_bool (bW I q (by simp))
  | int j=>obtain ⟨t',rfl⟩:=ry;exact PySem.EqNone.eq_none_int (bW I q (by simp))
  | str j=>obtain ⟨t',rfl⟩:=ry;exact PySem.EqNone.eq_none_str (bW I q (by simp))
  | _=>exact absurd (show false=true from hs) Bool.false_ne_true
 | bl i =>
  cases rx
  cases y with
  | non=>cases ry;exact PySem.EqNone.eq_bool_none (bW I q (by simp))
  | bl j=>cases ry;exact eq_bool (bW I q HB)
  | str j=>obtain ⟨t',rfl⟩:=ry;exact PySem.EqMixed.eq_bool_str (bW I q (by simp))
  | _=>exact absurd (show false=true from hs) Bool.false_ne_true
 | int i =>
  obtain ⟨t,rfl⟩:=rx
  cases y with
  | non=>cases ry;exact PySem.EqNone.eq_int_none (bW I q (by simp))
  | int j=>obtain ⟨t',rfl⟩:=ry;exact eq_int (bW I q Fd)
  | str j=>obtain ⟨t',rfl⟩:=ry;exact PySem.EqMixed.eq_int_str (bW I q (by simp))
  | _=>exact absurd (show false=true from hs) Bool.false_ne_true
 | str i =>
  obtain ⟨t,rfl⟩:=rx
  cases y with
  | non=>cases ry;exact PySem.EqNone.eq_str_none (bW I q (by simp))
  | bl j=>cases ry;exact PySem.EqMixed.eq_str_bool (bW I q (by simp))
  | int j=>obtain ⟨t',rfl⟩:=ry;exact PySem.EqMixed.eq_str_int (bW I q (by simp))
  | str j=>obtain ⟨t',rfl⟩:=ry;exact eq_str (bW I q Eu)
  | _=>exact absurd (show false=true from hs) Bool.false_ne_true
 | byt i =>
  obtain ⟨t,rfl⟩:=rx
  cases y with
  | byt j=>obtain ⟨t',rfl⟩:=ry;exact PySem.W.eq_bytes (bW I q EL)
  | _=>exact absurd (show false=true from hs) Bool.false_ne_true
 | _=>cases y <;> exact absurd (show false=true from hs) Bool.false_ne_true
theorem QC:dI X (compareOp .NotEq) RM:=by
 intro pins s σ H x y v u Q I rx ry h
 obtain ⟨hs,q⟩:=h
 cases x with
 | non =>
  cases rx
  cases y with
  | non=>cases ry;exact PySem.EqNone.ne_none_none (bW I q (by simp))
  | bl j=>cases ry;exact PySem.EqNone.ne_none_bool (bW I q (by simp))
  | int j=>obtain ⟨t',rfl⟩:=ry;exact PySem.EqNone.ne_none_int (bW I q (by simp))
  | str j=>obtain ⟨t',rfl⟩:=ry;exact PySem.EqNone.ne_none_str (bW I q (by simp))
  | _=>exact absurd (show false=true from hs) Bool.false_ne_true
 | bl i =>
  cases rx
  cases y with
  | non=>cases ry;exact PySem.EqNone.ne_bool_none (bW I q (by simp))
  | bl j=>cases ry;exact ne_bool (bW I q (congrArg not HB))
  | str j=>obtain ⟨t',rfl⟩:=ry;exact PySem.EqMixed.ne_bool_str (bW I q (by simp))
  | _=>exact absurd (show false=true from hs) Bool.false_ne_true
 | int i =>
  obtain ⟨t,rfl⟩:=rx
  cases y with
  | non=>cases ry;exact PySem.EqNone.ne_int_none (bW I q (by simp))
  | int j=>obtain ⟨t',rfl⟩:=ry;exact ne_int (bW I q (congrArg not Fd))
  | str j=>obtain ⟨t',rfl⟩:=ry;exact PySem.EqMixed.ne_int_str (bW I q (by simp))
  | _=>exact absurd (show false=true from hs) Bool.false_ne_true
 | str i =>
  obtain ⟨t,rfl⟩:=rx
  cases y with
  | non=>cases ry;exact PySem.EqNone.ne_str_none (bW I q (by simp))
  | bl j=>cases ry;exact PySem.EqMixed.ne_str_bool (bW I q (by simp))
  | int j=>obtain ⟨t',rfl⟩:=ry;exact PySem.EqMixed.ne_str_int (bW I q (by simp))
  | str j=>obtain ⟨t',rfl⟩:=ry;exact ne_str (bW I q (congrArg not Eu))
  | _=>exact absurd (show false=true from hs) Bool.false_ne_true
 | byt i =>
  obtain ⟨t,rfl⟩:=rx
  cases y with
  | byt j=>obtain ⟨t',rfl⟩:=ry;exact PySem.W.ne_bytes (bW I q (congrArg not EL))
  | _=>exact absurd (show false=true from hs) Bool.false_ne_true
 | _=>cases y <;> exact absurd (show false=true from hs) Bool.false_ne_true
theorem Q6:dI X (compareOp .Lt) (tG fun i j=>.bl (decide (i < j))):=FL fun _ _ _ _ _ _ _ q=>lt_int q
theorem QF:dI X (compareOp .LtE) (tG fun i j=>.bl (decide (i<=j))):=FL fun _ _ _ _ _ _ _ q=>le_int q
theorem QN:dI X (compareOp .Gt) (tG fun i j=>.bl (decide (j < i))):=FL fun _ _ _ _ _ _ _ q=>gt_int q
theorem QH:dI X (compareOp .GtE) (tG fun i j=>.bl (decide (j<=i))):=FL fun _ _ _ _ _ _ _ q=>ge_int q
theorem O5:dI X (compareOp .Is) (fun x y H Q=>y=.non/\Q (.bl (decide (x=.non))) H):=by
 intro pins s σ H x y v u Q I rx ry h
 obtain ⟨rfl,q⟩:=h
 cases ry
 refine is_none_gen (bW I q ?_)
 cases x <;> first
  | (cases rx;rfl)
  | (obtain ⟨t,rfl⟩:=rx;rfl)
theorem NG:dI X (compareOp .IsNot) (fun x y H Q=>y=.non/\Q (.bl (!decide (x=.non))) H):=by
 intro pins s σ H x y v u Q I rx ry h
 obtain ⟨rfl,q⟩:=h
 cases ry
 refine isnot_none_gen (bW I q ?_)
 cases x <;> first
  | (cases rx;rfl)
  | (obtain ⟨t,rfl⟩:=rx;rfl)
theorem dI.or {f:Value->Value->Sem Value} {r r':R2} (h:dI X f r) (h':dI X f r'):dI X f (fun x y H Q=>r x y H Q\/r' x y H Q):=by
 intro pins s σ H x y v u Q I rx ry q
 rcases q with q | q
 ·exact h pins s σ H x y v u Q I rx ry q
 ·exact h' pins s σ H x y v u Q I rx ry q
theorem HI (b:Expr) {op:CmpOp} (h:op≠.In:=by decide) (h2:op≠.NotIn:=by decide):behindInMarks op b=false:=by
 have e1:(op == CmpOp.In)=false:=by cases op <;> first | rfl | exact absurd rfl h
 have e2:(op == CmpOp.NotIn)=false:=by cases op <;> first | rfl | exact absurd rfl h2
 cases b <;> simp [behindInMarks,e1,e2]
theorem MR {op:CmpOp} {r:R2} (ho:dI X (compareOp op) r) (ha:PE X a ta) (hb:PE X b tb) (hm:behindInMarks op b=false):PE X (.Compare a [op] [b] pos) (Ee r ta tb):=by
 intro pins s σ H Q I h
 exact wpAny_Compare1 (Lc ha hb I h fun v u s2 x y H2 I2 rx ry q=>ho pins s2 σ H2 x y v u Q I2 rx ry q) hm
def LK (t:TE):TT:=fun σ H Q=>t σ H fun x H'=>∃ k,x=.bl k/\Q k H'
theorem Nu {op:CmpOp} {r:R2} (ho:dI X (compareOp op) r) (ha:PE X a ta) (hb:PE X b tb) (hm:behindInMarks op b=false):PT X (.Compare a [op] [b] pos) (LK (Ee r ta tb)):=by
 intro pins s σ H Q I h
 refine wpAny_isTrue_Compare1 (bC (ha pins s σ H _ I h) fun v s1 ⟨x,H1,I1,r1,q1⟩=>bC (hb pins s1 σ H1 _ I1 q1) fun u s2 ⟨y,H2,I2,r2,q2⟩ =>
  bC (ho pins s2 σ H2 x y v u _ I2 r1 r2 q2) fun c s3 ⟨z,H3,I3,r3,k,e,q3⟩=>?_) hm
 subst e
 cases r3
 exact wpAny_truthy_bool ⟨H3,I3,q3⟩
def Hc (r r':R2) (ta tb tc:TE):TE:=fun σ H Q=>ta σ H fun x H1=>tb σ H1 fun y H2=>r x y H2 fun z H3=>∃ k,z=.bl k /\
 (if k=true then tc σ H3 fun w' H4=>r' y w' H4 Q else Q (.bl false) H3)
theorem JJ {op op':CmpOp} {r r':R2} (ho:dI X (compareOp op) r) (ho':dI X (compareOp op') r') (ha:PE X a ta) (hb:PE X b tb) (hc:PE X c tc)
  (hm:lastMarks [op,op'] [b,c]=false:=by with_unfolding_all rfl):PE X (.Compare a [op,op'] [b,c] pos) (Hc r r' ta tb tc):=by
 intro pins s σ H Q I h
 refine Compare_chain (bC (ha pins s σ H _ I h) fun v s1 ⟨x,H1,I1,r1,q1⟩=>chain_link (bC (hb pins s1 σ H1 _ I1 q1) fun u s2 ⟨y,H2,I2,r2,q2⟩ =>
  bC (ho pins s2 σ H2 x y v u _ I2 r1 r2 q2) fun d s3 ⟨z,H3,I3,r3,k,e,q3⟩=>?_)) hm
 subst e
 cases r3
 refine wpAny_truthy_bool ?_
 cases k with
 | false=>exact ite_ff ⟨.bl false,H3,I3,rfl,q3⟩
 | true=>exact ite_tt (chain_last (bC (hc pins s3 σ H3 _ I3 q3) fun w' s4 ⟨z',H4,I4,r4,q4⟩=>ho' pins s4 σ H4 y z' u w' Q I4 r2 r4 q4))
def JW (K:PySem.W.Frag) (x:V) (H:Hp) (k:Bool):Prop :=
 match x with
 | .non=>k=false
 | .bl b=>k=b
 | .int i=>k=(i != 0)
 | .str y=>y.length<=sizeLine/\k=((y.length:Int) != 0)
 | .byt y=>y.size<=sizeLine/\k=((y.size:Int) != 0)
 | .ref p=>(∃ xs,dN K H p xs/\k=!xs.isEmpty)\/(∃ xs,eY K H p xs/\k=!xs.isEmpty)\/∃ kvs,H p=some (.dK kvs)/\k=!kvs.isEmpty
 | _=>False
theorem Gq {κ:Type} {kvs:List (κ × V)} {vs:List (κ × Value)} (r:KV kvs vs):(!vs.isEmpty)=!kvs.isEmpty:=by
 cases r <;> rfl
theorem yA {xs:List V} {its:List Value} (r:Vals xs its):(!its.toArray.isEmpty)=!xs.isEmpty:=by
 cases r <;> simp
theorem qW:(sizeLine:Nat) < 2 ^ 63:=by rw [sizeLine_eq];decide
theorem OA:Rq X (fun x H Q=>∃ k,JW X.K x H k/\Q k H):=by
 intro pins s σ H x v Q I rx h
 obtain ⟨k,e,q⟩:=h
 have hl:=qW
 have hs:sizeLine=16777216:=sizeLine_eq
 cases x with
 | non =>
  cases rx
  have e':k=false:=e
  subst e'
  exact truthy_none ⟨H,I,q⟩
 | bl b =>
  cases rx
  have e':k=b:=e
  subst e'
  exact wpAny_truthy_bool ⟨H,I,q⟩
 | int i =>
  obtain ⟨t,rfl⟩:=rx
  have e':k=(i != 0):=e
  subst e'
  exact PySem.P.truthy_int ⟨H,I,q⟩
 | str y =>
  obtain ⟨t,rfl⟩:=rx
  obtain ⟨hy,e'⟩:y.length<=sizeLine/\k=((y.length:Int) != 0):=e
  subst e'
  exact PySem.P.truthy_str (by omega) ⟨H,I.tok _,q⟩
 | byt y =>
  obtain ⟨t,rfl⟩:=rx
  obtain ⟨hy,e'⟩:y.size<=sizeLine/\k=((y.size:Int) != 0):=e
  subst e'
  exact PySem.W.truthy_bytes (by omega) ⟨H,I.tok _,q⟩
 | ref p =>
  cases rx
  have e':(∃ xs,dN X.K H p xs/\k=!xs.isEmpty)\/(∃ xs,eY X.K H p xs/\k=!xs.isEmpty)\/∃ kvs,H p=some (.dK kvs)/\k=!kvs.isEmpty:=e
  rcases e' with ⟨xs,hx,e'⟩ | ⟨xs,hx,e'⟩ | ⟨kvs,hx,e'⟩
  ·subst e'
   obtain ⟨its,r,pl,hz⟩:=I.list hx
   have hlen:=r.length
   exact wpAny_truthy_list pl.isList (by simp only [List.size_toArray];omega) ⟨H,I.tok _,by rw [yA r];exact q⟩
  ·subst e'
   obtain ⟨its,r,pl,hz⟩:=I.tuple hx
   have hlen:=r.length
   exact truthy_tuple pl (by simp only [List.size_toArray];omega) ⟨H,I.tok _,by rw [yA r];exact q⟩
  ·subst e'
   obtain ⟨hz,hS,vs,r,m⟩:kvs.length<=sizeLine/\(p == sysModules)=false/\∃ vs,KV kvs vs/\s.heap.DictOf (cN X.prog X.w) p vs:=I.hok p _ hx
   have hlen:kvs.length=vs.length:=Paired.length r
   exact wpAny_truthy_dict hS m (by omega) ⟨H,I.tok _,by rw [Gq r];exact q⟩
 | _=>exact (show False from e).elim
theorem KI (ha:PE X a ta) (he:∀ whole,isTrue a X.env whole=(do let v <- whole;standAt a.pos;holding [v] (truthy v))) :
  PT X a (fun σ H Q=>ta σ H fun x H'=>∃ k,JW X.K x H' k/\Q k H'):=by
 intro pins s σ H Q I h
 exact isTrue_plain (bC (ha pins s σ H _ I h) fun v s1 ⟨x,H1,I1,r1,q1⟩=>OA pins s1 σ H1 x v Q I1 r1 q1) (he _)
theorem FC:dI X (binaryOp .Add) (fun x y H Q=>∃ i j,x=.str i/\y=.str j/\i.length + j.length<=sizeLine/\Q (.str (i++j)) H):=by
 intro pins s σ H x y v u Q I rx ry h
 obtain ⟨i,j,rfl,rfl,hz,q⟩:=h
 obtain ⟨t,rfl⟩:=rx
 obtain ⟨t',rfl⟩:=ry
 exact add_str (fun t' tk=>⟨.str (i++j),H,I.tok _,⟨_,rfl⟩,q⟩) hz
theorem vals1 {x:V} {us:List Value} (r:Vals [x] us):∃ u,us=[u]/\RelV x u:=by
 cases r with
 | cons r1 r2=>cases r2;exact ⟨_,rfl,r1⟩
theorem vals2 {x y:V} {us:List Value} (r:Vals [x,y] us):∃ u w',us=[u,w']/\RelV x u/\RelV y w':=by
 cases r with
 | cons r1 r2 =>
  cases r2 with
  | cons r3 r4=>cases r4;exact ⟨_,_,rfl,r1,r3⟩
def OI (K:PySem.W.Frag) (x:V) (H:Hp) (n:Nat):Prop :=
 match x with
 | .str y=>y.length<=sizeLine/\n=y.length
 | .byt y=>y.size<=sizeLine/\n=y.size
 | .ref p=>(∃ xs,dN K H p xs/\n=xs.length)\/∃ xs,eY K H p xs/\n=xs.length
 | _=>False
theorem Ks:lZ X (.builtin "len") (fun xs H Q=>∃ x n,xs=[x]/\OI X.K x H n/\Q (.int n) H):=by
 intro pins s σ H xs us Q I r h
 obtain ⟨x,n,rfl,e,q⟩:=h
 obtain ⟨u,rfl,rx⟩:=vals1 r
 have hl:=qW
 have hs:sizeLine=16777216:=sizeLine_eq
 cases x with
 | str y =>
  obtain ⟨t,rfl⟩:=rx
  obtain ⟨hy,e'⟩:y.length<=sizeLine/\n=y.length:=e
  subst e'
  exact len_str (by omega) ⟨.int _,H,I.tok _,⟨_,rfl⟩,q⟩
 | byt y =>
  obtain ⟨t,rfl⟩:=rx
  obtain ⟨hy,e'⟩:y.size<=sizeLine/\n=y.size:=e
  subst e'
  exact PySem.W.len_bytes (by omega) ⟨.int _,H,I.tok _,⟨_,rfl⟩,q⟩
 | ref p =>
  cases rx
  have e':(∃ xs,dN X.K H p xs/\n=xs.length)\/∃ xs,eY X.K H p xs/\n=xs.length:=e
  rcases e' with ⟨xs,hx,e'⟩ | ⟨xs,hx,e'⟩
  ·subst e'
   obtain ⟨its,r',pl,hz⟩:=I.list hx
   have hlen:=r'.length
   exact Calls.call_len_list pl.isList (by simp only [List.size_toArray];omega) ⟨.int xs.length,H,I.tok _,⟨_,by simp only [List.size_toArray];rw [hlen]⟩,q⟩
  ·subst e'
   obtain ⟨its,r',pl,hz⟩:=I.tuple hx
   have hlen:=r'.length
   exact len_tuple pl (by simp only [List.size_toArray];omega) ⟨.int xs.length,H,I.tok _,⟨_,by simp only [List.size_toArray];rw [hlen]⟩,q⟩
 | _=>exact (show False from e).elim
end
section
variable {prog:Program} {w:World} {A:Around} {E:Value->Shared->Prop} {s:Shared} {K:PySem.W.Frag} {x dx C f:Addr} {mA:Str->Option Value} {name:Str} {v:Value}
end
def GF (f:Str) (v:V):List (Str × V)->List (Str × V)
 | []=>[(f,v)]
 | (g,x) :: r=>if g=f then (g,v) :: r else (g,x) :: GF f v r
theorem DZ (f g:Str) (v:V):∀ fs:List (Str × V),(GF f v fs).lookup g=if g=f then some v else fs.lookup g
 | []=>by
  show List.lookup g [(f,v)]=_
  by_cases h:g=f
  ·have hb:(g == f)=true:=beq_iff_eq.mpr h
   simp only [List.lookup,hb,if_pos h]
  ·have hb:(g == f)=false:=beq_eq_false_iff_ne.mpr h
   simp only [List.lookup,hb,if_neg h]
 | (k,x) :: r=>by
  have ih:=DZ f g v r
  rw [show GF f v ((k,x) :: r)=(if k=f then (k,v) :: r else (k,x) :: GF f v r) from rfl]
  by_cases hk:k=f
  ·rw [if_pos hk]
   by_cases h:g=k
   ·have hb:(g == k)=true:=beq_iff_eq.mpr h
    simp only [List.lookup,hb,if_pos (h.trans hk)]
   ·have hb:(g == k)=false:=beq_eq_false_iff_ne.mpr h
    simp only [List.lookup,hb,if_neg (fun e:g=f=>h (e.trans hk.symm))]
  ·rw [if_neg hk]
   by_cases h:g=k
   ·have hb:(g == k)=true:=beq_iff_eq.mpr h
    simp only [List.lookup,hb,if_neg (fun e:g=f=>hk (h.symm.trans e))]
   ·have hb:(g == k)=false:=beq_eq_false_iff_ne.mpr h
    simp only [List.lookup,hb]
    exact ih
theorem nG.some_of {v:V} {o:Option Value} (r:nG (some v) o):∃ u,o=some u/\RelV v u:=by
 cases o with
 | none=>exact (show False from r).elim
 | some u=>exact ⟨u,rfl,r⟩
section
variable {P:Program} {w:World} {H H':Hp} {h h':Heap} {a C dx:Addr} {fs fs':List (Str × V)}
end
section
variable {X:Cx} {pins:List (Addr × Obj)} {σ:St} {H:Hp} {s:Shared} {a C dx:Addr} {fs:List (Str × V)} {f:Str} {v:V} {A:Around} {E:Value->Shared->Prop}
end
section
variable {X:Cx} {o e value:Expr} {f:Str} {pos pos' tpos:Pos} {ta tv:TE}
end
section
variable {X:Cx} {pins:List (Addr × Obj)} {σ:St} {H:Hp} {s:Shared} {A:Around} {E:Value->Shared->Prop} {Q:Value->Shared->Prop} {c:Value} {b:Bool}
end
structure eN (k:Nat) (A:Around):Prop where
 hd:A.handled=none
 dp:A.depth + 3 * k + 5 < recursionLimit
 un:A.units + 16 * k + 200 < cLine
theorem eN.mono {j k:Nat} {A:Around} (r:eN k A) (h:j<=k):eN j A:=⟨r.hd,by have:=r.dp;omega,by have:=r.un;omega⟩
theorem eN.deeper {k:Nat} {A:Around} (r:eN (k + 1) A) (env:Env):eN k (A.deeper env) :=
 ⟨r.hd,by have:=r.dp;show A.depth + 1 + 3 * k + 5 < _;omega,by have:=r.un;show A.units + 3 + 16 * k + 200 < _;omega⟩
theorem QL {A:Around} {C:Addr} {us:List Value} {kw:List (Str × Value)}:(A.under (.builtin "type.__call__" ⟨.ref C :: us,kw⟩)).depth=A.depth + 1:=by
 first | rfl | simp [Around.under,Code.weight,Code.isCreation,Code.isGuard,Code.isCaller,Code.frames,Code.isFrame,guardIds]
theorem QD {A:Around} {C:Addr} {us:List Value} {kw:List (Str × Value)}:(A.under (.builtin "type.__call__" ⟨.ref C :: us,kw⟩)).units=A.units + 1:=by
 first | rfl | simp [Around.under,Code.cUnits,Code.frames,Code.isFrame]
theorem eN.depth {k:Nat} {A:Around} (r:eN k A):A.depth < recursionLimit:=by have:=r.dp;omega
theorem eN.units {k:Nat} {A:Around} (r:eN k A):A.units + 64 < cLine:=by have:=r.un;omega
theorem eN.units0 {k:Nat} {A:Around} (r:eN k A):A.units < cLine:=by have:=r.un;omega
def Py:TA:=fun _ H Q=>Q [] H
def LW (ta:TE) (tr:TA):TA:=fun σ H Q=>ta σ H fun x H1=>tr σ H1 fun xs H2=>Q (x :: xs) H2
section
variable {X:Cx} {e:Expr} {es:List Expr} {te:TE} {t:TA} {pos:Pos}
theorem O3:PA X [] Py:=fun _ _ _ _ H Q I h=>Calls.spliced_nil ⟨[],H,I,.nil,h⟩
theorem NR (ha:PE X e te) (hr:PA X es t) (hs:starEach (e :: es) X.env=(false,eval e X.env) :: starEach es X.env:=by rfl):PA X (e :: es) (LW te t):=by
 intro pos pins s σ H Q I h
 rw [hs]
 show wpAny _ _ (spliced ((false,eval e X.env) :: backTo pos (starEach es X.env))) _ _ s
 refine Calls.spliced_cons (bC (ha pins s σ H _ I h) fun u s1 ⟨x,H1,I1,r1,q1⟩=>?_)
 exact bC (hr pos pins s1 σ H1 _ I1 q1) fun us s2 ⟨xs,H2,I2,r2,q2⟩=>⟨x :: xs,H2,I2,.cons r1 r2,q2⟩
def Qh (t:TA):TE:=fun σ H Q=>t σ H fun xs H1=>xs.length<=sizeLine/\∀ p,H1 p=none->Q (.ref p) (upd H1 p (.tup xs))
def Pn (t:TA):TE:=fun σ H Q=>t σ H fun xs H1=>xs.length<=sizeLine/\∀ p,H1 p=none->Q (.ref p) (upd H1 p (.lst xs))
theorem Ph {x1} (h:PA X es t):PE X (.Tuple es x1 pos) (Qh t):=by
 intro pins s σ H Q I hq
 refine wpAny_Tuple_spliced (bC (h pos pins s σ H _ I hq) fun us s1 ⟨xs,H1,I1,r,z,q⟩=>⟨by rw [<- r.length];exact z,?_⟩)
 have hf:H1 s1.heap.objs.size=none:=I1.hok.fresh (Nat.le_refl _)
 refine ⟨.ref s1.heap.objs.size,upd H1 s1.heap.objs.size (.tup xs),I1.laid (t':=s1.toks) (fun b u e=>Heap.get?_push_of_some _ e) (Nat.le_refl _) ?_,rfl,q _ hf⟩
 exact ⟨z,us,r,⟨_,Heap.get?_push_size _ rfl,rfl,_,rfl⟩⟩
theorem O4 (h:PA X es t):PE X (.List es pos) (Pn t):=by
 intro pins s σ H Q I hq
 refine wpAny_List_spliced (bC (h pos pins s σ H _ I hq) fun us s1 ⟨xs,H1,I1,r,z,q⟩=>⟨by rw [<- r.length];exact z,?_⟩)
 have hf:H1 s1.heap.objs.size=none:=I1.hok.fresh (Nat.le_refl _)
 refine ⟨.ref s1.heap.objs.size,upd H1 s1.heap.objs.size (.lst xs),I1.laid (t':=s1.toks) (fun b u e=>Heap.get?_push_of_some _ e) (Nat.le_refl _) ?_,rfl,q _ hf⟩
 exact ⟨z,us,0,r,Heap.get?_push_size _ rfl⟩
end
abbrev Sp:=List V->Hp->VK->XK->Prop
abbrev tI:=List Env->Hp->Shared->XK->Value->Shared->Prop
structure Gu (P:Program) (w:World) (K:PySem.W.Frag) (mg:Str->Option Value) (base:Heap) (A:Around) (outer:List Env) (s:Shared) (H:Hp):Prop where
 frames:A.frames=some outer
 mod:Mod K mg base
 bs:∀ b o,base.get? b=some o->s.heap.get? b=some o/\H b=none
 bsz:base.objs.size<=s.heap.objs.size
 funs:s.heap.FunFrames base outer
 frf:∀ b∈qI outer,H b=none
 hok:fT P w H s.heap
 bare:AllBare s.gens
def CE (outer:List Env) (P:Program) (w:World) (H:Hp) (s:Shared) (Q:VK) (u:Value) (s':Shared):Prop :=
 ∃ v H',s'.os=s.os/\AllBare s'.gens/\Un (qI outer) [] H H' s.heap s'.heap/\fT P w H' s'.heap/\RelV v u/\Q v H'
def CR (CX:tI) (outer:List Env) (P:Program) (w:World) (H:Hp) (s:Shared) (Q:VK) (E:XK) (r:Result) (s':Shared):Prop :=
 match r with
 | .ok (.ret u)=>CE outer P w H s Q u s'
 | .ok _=>False
 | .error e=>CX outer H s E e s'
structure i6 (P:Program) (w:World) (K:PySem.W.Frag) (mg:Str->Option Value) (base:Heap) (CX:tI) (k:Nat) (f:Addr) (fd:FuncData) (ps:List Str) (sp:Sp):Prop where
 len:∀ vs H Q E,sp vs H Q E->vs.length=ps.length
 run:∀ (A:Around) (outer:List Env) (s:Shared) (H:Hp) (args:Args) (us:List Value) (vs:List V) (Q:VK) (E:XK),eN k A->Gu P w K mg base A outer s H->BindsTo s fd args (ps.zip us)->Vals vs us->sp vs H Q E ->
  codeAny (model P w) A (.call (.ref f) args) (CR CX outer P w H s Q E) s
theorem i6.imp {P:Program} {w:World} {K:PySem.W.Frag} {mg:Str->Option Value} {base:Heap} {CX:tI} {k:Nat} {f:Addr} {fd:FuncData} {ps:List Str} {sp sp':Sp} (F:i6 P w K mg base CX k f fd ps sp)
  (h:∀ vs H Q E,sp' vs H Q E->sp vs H Q E):i6 P w K mg base CX k f fd ps sp' :=
 ⟨fun vs H Q E q=>F.len vs H Q E (h _ _ _ _ q),fun A outer s H args us vs Q E hr he hb hv hs=>F.run A outer s H args us vs Q E hr he hb hv (h _ _ _ _ hs)⟩
section
variable {X:Cx} {pins:List (Addr × Obj)} {σ:St} {H:Hp} {s s':Shared}
theorem Inv.env0 (I:Inv X pins σ H s):Gu X.prog X.w X.K X.mg X.base X.A X.stack s H :=
 ⟨I.ok.frames,I.ok.mod,I.bs,Nat.le_trans I.ok.bsz I.sz,I.stack,I.stkFree,I.hok,I.bare⟩
theorem Inv.after {Q:VK} {u:Value} (I:Inv X pins σ H s) (h:CE X.stack X.prog X.w H s Q u s'):EP X pins σ Q u s':=by
 obtain ⟨v,H',os,bare,un,hok,r,q⟩:=h
 obtain ⟨hh,g,d,t,os'⟩:=s'
 obtain rfl:os'=s.os:=os
 exact ⟨v,H',I.call (h':=hh) (g':=g) (d':=d) (t':=t) (ch:=[]) un hok bare (fun b z=>absurd z (by simp)),r,q⟩
end
def Fz (sp:Sp) (dvs:List V) (E:XK) (t:TA):TE:=fun σ H Q=>t σ H fun vs H1=>sp (vs++dvs) H1 Q E
def Binds (K:PySem.W.Frag) (fd:FuncData) (ps:List Str) (ds:List Value):Prop :=
 ∀ (s:Shared) (us:List Value),K.In s.heap->(us++ds).length=ps.length->BindsTo s fd ⟨us,[]⟩ (ps.zip (us++ds))
theorem Binds.all {K:PySem.W.Frag} {fd:FuncData} {ps:List Str} (h:∀ us:List Value,us.length=ps.length->bindArgs fd ⟨us,[]⟩=pure (ps.zip us)):Binds K fd ps []:=fun s us _ hl=>by
 rw [List.append_nil] at hl ⊢
 exact .of_eq (h us hl)
def Passes (CX:tI) (X:Cx) (E:XK):Prop:=∀ (pins:List (Addr × Obj)) (σ:St) (H:Hp) (s:Shared) (e:Value) (s':Shared),Inv X pins σ H s->CX X.stack H s E e s'->X.xe e s'
section
variable {X:Cx} {CX:tI} {k:Nat} {f C:Addr} {fd:FuncData} {ps:List Str} {sp:Sp} {dvs:List V} {ds:List Value} {E:XK} {x m:Str} {p pos apos:Pos} {e o:Expr} {es:List Expr} {ta:TE} {t:TA}
theorem Hr {pins:List (Addr × Obj)} {σ:St} {H:Hp} {s:Shared} {Q:VK} {us:List Value} {vs:List V} (F:i6 X.prog X.w X.K X.mg X.base CX k f fd ps sp) (hr:eN k X.A) (hb:Binds X.K fd ps ds) (hd:Vals dvs ds) (hx:Passes CX X E)
  (I:Inv X pins σ H s) (r:Vals vs us) (h:sp (vs++dvs) H Q E):wpAny (model X.prog X.w) X.A (call (.ref f) us) (EP X pins σ Q) X.xe s:=by
 have r2:Vals (vs++dvs) (us++ds):=r.append hd
 have hl:(us++ds).length=ps.length:=by rw [<- r2.length];exact F.len _ _ _ _ h
 refine wpAny_call (codeAny_mono (F.run X.A X.stack s H ⟨us,[]⟩ (us++ds) (vs++dvs) Q E hr I.env0 (hb s us I.kIn hl) r2 h) fun r s' hq=>?_)
 cases r with
 | error e=>exact hx pins σ H s e s' I hq
 | ok fl =>
  cases fl with
  | ret u=>exact I.after hq
  | next=>exact False.elim hq
  | brk=>exact False.elim hq
  | cont=>exact False.elim hq
theorem MX (F:i6 X.prog X.w X.K X.mg X.base CX k f fd ps sp) (hr:eN k X.A) (hg:Gl X x) (hm:X.mg x=some (.ref f)) (hk:PySem.W.keepIn X.K (.ref f)=true) (hb:Binds X.K fd ps ds) (hd:Vals dvs ds) (hx:Passes CX X E)
  (ha:PA X (e :: es) t) (hdb:(x == ("__debug__":Str))=false:=by decide) (he:starEach (e :: es) X.env=(false,eval e X.env) :: starEach es X.env:=by rfl) (hpl:(backTo pos (starEach es X.env)).any (·.1)=false:=by rfl) :
  PE X (.Call (.Name x p) (e :: es) [] pos) (Fz sp dvs E t):=by
 intro pins s σ H Q I h
 refine wpAny_Call_Name_kw (E3 I hg hm ?_ hdb)
 refine PySem.W.callWith_K (h₀:=X.base) I.ok.mod.kin hk (bC (ha pos pins s σ H _ I h) fun us s1 ⟨vs,H1,I1,r,q⟩=>⟨I1.kIn,?_⟩) he hpl
 exact Hr F hr hb hd hx I1 r q
end
section
variable {X:Cx} {CX:tI} {k:Nat} {f C:Addr} {fd:FuncData} {ps ks:List Str} {sp:Sp} {E:XK} {x m:Str} {p pos apos kpos:Pos} {e o:Expr} {es:List Expr} {kws:List Keyword} {te ta:TE} {t tk:TA} {nm:Option Str}
variable {g:List Value->List Value->List Value} {gV:List V->List V->List V}
end
structure bD (N P:List Str) (sc:Scope):Prop where
 kind:sc.kind=.function
 co:sc.isCoroutine=false
 gen:sc.isGenerator=false
 nd:N.Nodup
 pre:N.take P.length=P
 par:∀ x∈P,sc.names.lookup x=some .local\/sc.names.lookup x=some .cell
 nofree:∀ y∈sc.names,y.2≠.free
theorem AW {kindOf:Str->Option NameKind} {x:Str}:∀ {binds:List (Str × Value)} {m:Str->Option Value},(∀ v,(x,v) ∉ binds)->bindL kindOf binds m x=m x
 | [],_,_=>rfl
 | (n,v) :: r,m,h=>by
  unfold bindL
  rw [AW fun w hw=>h w (List.mem_cons_of_mem _ hw)]
  split
  ·have:x≠n:=by rintro rfl;exact h v List.mem_cons_self
   simp [this]
  ·rfl
theorem A9 {kindOf:Str->Option NameKind} {x:Str}:∀ {binds:List (Str × Value)} {m:Str->Option Value},(∀ v,(x,v) ∉ binds)->bindC kindOf binds m x=m x
 | [],_,_=>rfl
 | (n,v) :: r,m,h=>by
  unfold bindC
  rw [A9 fun w hw=>h w (List.mem_cons_of_mem _ hw)]
  split
  ·rfl
  ·have:x≠n:=by rintro rfl;exact h v List.mem_cons_self
   simp [this]
theorem Bg {kindOf:Str->Option NameKind} {x:Str} {v:Value}:∀ {P:List Str} {vs:List Value} {i:Nat} {m:Str->Option Value},P.Nodup->P[i]?=some x->vs[i]?=some v->kindOf x=some .local ->
  bindL kindOf (P.zip vs) m x=some v
 | [],_,_,_,_,h,_,_=>by simp at h
 | _ :: _,[],_,_,_,_,h,_=>by simp at h
 | p :: P,w :: vs,0,m,nd,h1,h2,hk=>by
  simp at h1 h2;subst h1;subst h2
  show bindL kindOf ((p,w) :: P.zip vs) m p=_
  unfold bindL
  rw [AW fun v hv=>(List.nodup_cons.mp nd).1 (List.of_mem_zip hv).1,if_pos hk]
  simp
 | p :: P,w :: vs,i + 1,m,nd,h1,h2,hk=>by
  show bindL kindOf ((p,w) :: P.zip vs) m x=_
  unfold bindL
  exact Bg (i:=i) (List.nodup_cons.mp nd).2 (by simpa using h1) (by simpa using h2) hk
theorem A5 {kindOf:Str->Option NameKind} {x:Str} {v:Value}:∀ {P:List Str} {vs:List Value} {i:Nat} {m:Str->Option Value},P.Nodup->P[i]?=some x->vs[i]?=some v->kindOf x≠some .local ->
  bindC kindOf (P.zip vs) m x=some v
 | [],_,_,_,_,h,_,_=>by simp at h
 | _ :: _,[],_,_,_,_,h,_=>by simp at h
 | p :: P,w :: vs,0,m,nd,h1,h2,hk=>by
  simp at h1 h2;subst h1;subst h2
  show bindC kindOf ((p,w) :: P.zip vs) m p=_
  unfold bindC
  rw [A9 fun v hv=>(List.nodup_cons.mp nd).1 (List.of_mem_zip hv).1,if_neg hk]
  simp
 | p :: P,w :: vs,i + 1,m,nd,h1,h2,hk=>by
  show bindC kindOf ((p,w) :: P.zip vs) m x=_
  unfold bindC
  exact A5 (i:=i) (List.nodup_cons.mp nd).2 (by simpa using h1) (by simpa using h2) hk
def start (N:List Str) (vs:List V):St:=vs.map some++List.replicate (N.length - vs.length) none
def AH (CX:tI) (P:Program) (w:World) (K:PySem.W.Frag) (mg:Str->Option Value) (base:Heap) (N:List Str) (qual:Str) (scope:Scope) (f:Addr) (cd:Value) (A:Around) (outer:List Env) (s:Shared) (H:Hp) (E:XK):Cx where
 prog:=P
 w:=w
 K:=K
 mg:=mg
 base:=base
 A:=A.deeper (envOfC qual scope s.heap.objs.size f cd)
 N:=N
 s₀:=s
 H₀:=H
 env:=envOfC qual scope s.heap.objs.size f cd
 outer:=outer
 stack:=envOfC qual scope s.heap.objs.size f cd :: outer
 ex:=[]
 calm:=true
 fn:=fun _=>true
 pn:=[]
 xe:=fun e s'=>wpAny (model P w) (A.deeper (envOfC qual scope s.heap.objs.size f cd)) (leaving (envOfC qual scope s.heap.objs.size f cd) e) (fun _ s''=>CX outer H s E e s'') (fun e' s''=>CX outer H s E e' s'') s'
theorem B7 {sc:Scope} {n:Nat} {x:Str} (h:sc.names.lookup x=some .cell):∃ c,(cellsFrom n sc.names []).lookup x=some c:=by
 have q:=PySem.W.cellsFrom_some sc.names n [] (.inl h)
 exact Option.isSome_iff_exists.mp q
theorem G0 {CX:tI} {P:Program} {w:World} {K:PySem.W.Frag} {mg:Str->Option Value} {base:Heap} {N ps:List Str} {qual:Str} {scope:Scope} {f:Addr} {cd:Value} {A:Around} {outer:List Env} {s s1:Shared} {H:Hp} {E:XK} {us:List Value} {vs:List V}
  (S:bD N ps scope) (hd:A.handled=none) (e0:Gu P w K mg base A outer s H) (hl:vs.length=ps.length) (r:Vals vs us)
  (x:InCallC s s.heap.objs.size (bindL (envOfC qual scope s.heap.objs.size f cd).kindOf (ps.zip us) fun _=>none) (cellsFrom (s.heap.objs.size + 1) scope.names []) (bindC (envOfC qual scope s.heap.objs.size f cd).kindOf (ps.zip us) fun _=>none) s1) :
  Inv (AH CX P w K mg base N qual scope f cd A outer s H E) [] (start N vs) H s1:=by
 have hpl:ps.length<=N.length:=by have:=congrArg List.length S.pre;rw [List.length_take] at this;omega
 obtain ⟨h1,tk,rfl,hk⟩:=x.done
 have noA:∀ b:Addr,b ∉ (AH CX P w K mg base N qual scope f cd A outer s H E).ex:=fun b z=>absurd (show b∈([]:List Addr) from z) (by simp)
 refine ⟨⟨e0.mod,S.kind,rfl,rfl,Nat.le_refl _,fun y z c h1 h2=>?_,fun y hy=>?_,fun y c _ h=>?_,fun _=>hd,Around.frames_deeper e0.frames,.inr ⟨rfl,rfl⟩,fun b z=>absurd z (noA b),e0.bs,e0.bsz,fun b _ _=>noA b,fun b z=>absurd z (noA b),e0.funs,e0.frf⟩,
  rfl,e0.bare,Un.kept hk,⟨_,x.toInCall.ns,fun i y v h1 h2 h3=>?_⟩,fun y c h=>⟨_,x.cell y c h⟩,e0.hok.fresh (Nat.le_refl _),fun y c h=>?_,fun p hp=>absurd (show p∈([]:List (Addr × Obj)) from hp) (by simp),e0.hok.kept hk,?_⟩
 ·exact name_of_addr x.apart (PySem.mem_of_lookup h1) (PySem.mem_of_lookup h2)
 ·have hy:scope.names.lookup y=some .cell\/scope.names.lookup y=some .free:=hy
  rcases hy with hy | hy
  ·exact B7 hy
  ·exact absurd rfl (S.nofree _ (PySem.mem_of_lookup hy))
 ·exact Nat.le_of_lt (x.above y c (PySem.mem_of_lookup h))
 ·have hi:i < vs.length:=by
   unfold start at h2
   by_cases hi:i < vs.length
   ·exact hi
   ·rw [List.getElem?_append_right (by simpa using hi)] at h2
    rw [List.getElem?_replicate] at h2
    split at h2 <;> cases h2
  have ha:vs[i]?=some v:=by
   unfold start at h2
   rw [List.getElem?_append_left (by simpa using hi),List.getElem?_map] at h2
   cases e:vs[i]? with
   | none=>rw [e] at h2;cases h2
   | some a=>rw [e] at h2;cases h2;rfl
  obtain ⟨u,hu,rv⟩:=r.get ha
  have hp:ps[i]?=some y:=by
   rw [<- S.pre,List.getElem?_take_of_lt (by omega)];exact h1
  have ndP:ps.Nodup:=by rw [<- S.pre];exact S.nd.sublist (List.take_sublist _ _)
  refine ⟨u,rv,?_⟩
  rcases S.par y (List.mem_of_getElem? hp) with k | k
  ·exact .inl ⟨k,Bg ndP hp hu k⟩
  ·obtain ⟨c,e⟩:=B7 (n:=s.heap.objs.size + 1) k
   refine .inr ⟨.inl k,c,e,?_⟩
   have q:=x.cell y c e
   rw [A5 ndP hp hu (by show scope.names.lookup y≠_;rw [k];decide)] at q
   exact q
 ·exact e0.hok.fresh (Nat.le_of_lt (x.above y c (PySem.mem_of_lookup h)))
 ·unfold start
  show _=N.length
  rw [List.length_append,List.length_map,List.length_replicate]
  omega
theorem QU {CX:tI} {P:Program} {w:World} {K:PySem.W.Frag} {mg:Str->Option Value} {base:Heap} {k:Nat} {f:Addr} {name qual:Str} {params:Arguments} {body:List Stmt} {scope:Scope} {dV kV doc pm cdv ct oc:Value} {an od:Option Addr}
  {osl:Array (Option Value)} {N ps:List Str} {sp:Sp} (lk:K.lookup f=some ⟨oc,od,.func (PySem.W.fnOf name qual params body scope dV kV doc pm an cdv ct),osl⟩) (hcd:PySem.W.codeIn K cdv qual=true) (S:bD N ps scope)
  (len:∀ vs H Q E,sp vs H Q E->vs.length=ps.length)
  (hbody:∀ (A:Around) (outer:List Env) (s:Shared) (H:Hp) (vs:List V) (Q:VK) (E:XK),eN k (A.deeper (envOfC qual scope s.heap.objs.size f cdv))->sp vs H Q E ->
   ∃ t,pF (AH CX P w K mg base N qual scope f cdv A outer s H E) body t/\t { nx:=fun _ H'=>Q .non H',rt:=Q } (start N vs) H) :
  i6 P w K mg base CX (k + 1) f (PySem.W.fnOf name qual params body scope dV kV doc pm an cdv ct) ps sp:=by
 refine ⟨len,fun A outer s H args us vs Q E hr e0 hb r hsp=>?_⟩
 have hl:=len _ _ _ _ hsp
 have KX:K.In s.heap:=e0.mod.kin.keeps fun b o e=>(e0.bs b o e).1
 have lim:s.heap.NoLimit:=e0.mod.nolimit.keeps fun b o e=>(e0.bs b o e).1
 have hkind:∀ y∈ps.zip us,scope.names.lookup y.1=some .local\/(scope.names.lookup y.1=some .cell/\((cellsFrom (s.heap.objs.size + 1) scope.names []).lookup y.1).isSome=true):=fun ⟨n,v⟩ hy=>by
  rcases S.par n (List.of_mem_zip hy).1 with q | q
  ·exact .inl q
  ·exact .inr ⟨q,PySem.W.cellsFrom_some _ _ _ (.inl q)⟩
 refine codeAny_call_function hr.depth (KX _ _ lk) rfl S.co S.gen rfl (PySem.W.codeRec_of KX hcd) (hb _ _ _ _ ?_)
 refine wpAny_newFunctionEnv_cells S.kind hkind fun env he s1 x=>?_
 subst he
 refine ⟨lim.keeps x.toInCall.keep,codeAny_func ?_⟩
 obtain ⟨t,ht,hq⟩:=hbody A outer s H vs Q E (hr.deeper _) hsp
 have I:Inv (AH CX P w K mg base N qual scope f cdv A outer s H E) [] (start N vs) H s1:=G0 S hr.hd e0 hl r x
 refine wpAny_mono (ht [] s1 (start N vs) H _ I hq) (fun fl s' hs=>?_) fun e s' hs=>hs
 have fin:∀ {σ':St} {H':Hp} {v:V} {u:Value},Inv (AH CX P w K mg base N qual scope f cdv A outer s H E) [] σ' H' s'->RelV v u->Q v H'->CE outer P w H s Q u s' :=
  fun {σ' H' v u} J rv q=>⟨v,H',J.os,J.bare,J.base,J.hok,rv,q⟩
 cases fl with
 | ret u =>
  obtain ⟨v,σ',H',J,rv,q⟩:=hs
  exact fin J rv q
 | next =>
  obtain ⟨σ',H',J,q⟩:=hs
  exact fin (v:=V.non) (u:=Value.none) J rfl q
 | brk =>
  obtain ⟨_,_,_,q⟩:=hs
  exact False.elim q
 | cont =>
  obtain ⟨_,_,_,q⟩:=hs
  exact False.elim q
section
variable {X:Cx} {x:Str} {p pos:Pos} {e:Expr} {es:List Expr} {t:TA} {id T:String} {r:List V->Hp->VK->Prop}
def O1 (r:List V->Hp->VK->Prop) (t:TA):TE:=fun σ H Q=>t σ H fun vs H1=>r vs H1 Q
theorem JO (hc:lZ X (.builtin id) r) (hg:Gl X x) (hm:X.mg x=none) (hv:bootBuiltins x=some (.builtin id)) (ha:PA X (e :: es) t) (hn:x≠"__name__":=by decide) (hdb:(x == ("__debug__":Str))=false:=by decide)
  (he:starEach (e :: es) X.env=(false,eval e X.env) :: starEach es X.env:=by rfl) (hpl:(backTo pos (starEach es X.env)).any (·.1)=false:=by rfl):PE X (.Call (.Name x p) (e :: es) [] pos) (O1 r t):=by
 intro pins s σ H Q I h
 refine wpAny_Call_Name_kw (nD I hg hm hv ?_ hn hdb)
 exact PyProof.Rows.callWith_builtin1 (bC (ha pos pins s σ H _ I h) fun us s1 ⟨vs,H1,I1,r1,q1⟩=>hc pins s1 σ H1 vs us Q I1 r1 q1) he hpl
theorem Iz (hc:lZ X (.type T) r) (hg:Gl X x) (hm:X.mg x=none) (hv:bootBuiltins x=some (.type T)) (ha:PA X (e :: es) t) (hn:x≠"__name__":=by decide) (hdb:(x == ("__debug__":Str))=false:=by decide)
  (he:starEach (e :: es) X.env=(false,eval e X.env) :: starEach es X.env:=by rfl) (hpl:(backTo pos (starEach es X.env)).any (·.1)=false:=by rfl):PE X (.Call (.Name x p) (e :: es) [] pos) (O1 r t):=by
 intro pins s σ H Q I h
 refine wpAny_Call_Name_kw (nD I hg hm hv ?_ hn hdb)
 exact PyProof.Rows.callWith_type1 (bC (ha pos pins s σ H _ I h) fun us s1 ⟨vs,H1,I1,r1,q1⟩=>hc pins s1 σ H1 vs us Q I1 r1 q1) he hpl
end
end L2
namespace HT
open PySem PyProof.Rows
def lexLt:List Int->List Int->Bool
 | [],[]=>false
 | [],_ :: _=>true
 | _ :: _,[]=>false
 | x :: xs,y :: ys=>if x=y then lexLt xs ys else decide (x < y)
theorem FH (x y:Int) (xs ys:List Int):lexLt (x :: xs) (y :: ys)=if x=y then lexLt xs ys else decide (x < y):=rfl
theorem Br:lexLt [] []=false:=rfl
theorem An (y:Int) (ys:List Int):lexLt [] (y :: ys)=true:=rfl
theorem Aj (x:Int) (xs:List Int):lexLt (x :: xs) []=false:=rfl
theorem Kw (A:Around) (s:Shared) (a:Int) (t:Tok) (c:Int) (u:Tok):∃ e,SeqAt.EqAt A s (.int a t) (.int c u) e/\(e=true ↔ a=c) :=
 ⟨(a == c),SeqAt.EqAt.int_int a t c u,by simp⟩
theorem KW (A:Around) (s:Shared) (a:Int) (t:Tok) (c:Int) (u:Tok) (prog:Program) (w:World) (E:Value->Shared->Prop) (Q:Value->Shared->Prop) (h:Q (.bool (decide (a < c))) s) :
  wpAny (model prog w) A (richCompare .Lt (.int a t) (.int c u)) Q E s :=
 (PyProof.Rows.lt_int h:wpAny (model prog w) A (compareOp .Lt (.int a t) (.int c u)) Q E s)
section
open PySem.SeqAt
open PySem.AutoSeq1 (wpAny_loadPart')
open PySem.MeetsSeq PySem.MeetsSeq2 PySem.MeetsSeq3
theorem Bw (l b:Addr) (items items2:Array Value) (n n2:Nat) (dd dd2:Option Addr) (sl sl2:Array (Option Value)) (ns ms:List Int) (hi:IntsAre items.toList ns) (hj:IntsAre items2.toList ms) :
  Meets (Builtin.«tuple.__lt__» ⟨[.ref l,.ref b],[]⟩)
   (fun _ R s=>s.heap.get? l=some { cls:=.type "tuple",dict:=dd,data:=.seq items n,slots:=sl }/\s.heap.get? b=some { cls:=.type "tuple",dict:=dd2,data:=.seq items2 n2,slots:=sl2 } /\
    R (.ok (.ret (.bool (lexLt ns ms)))) s) :=
 .of_wp fun prog w A R s h=>by
  obtain ⟨hp,g,d,tk,os⟩:=s;obtain ⟨hl,hb,h⟩:=h
  have f2:=AutoSeq1.sub_tuple_tuple
  have z1:items.size=ns.length:=by rw [<- hi.length];simp
  have z2:items2.size=ms.length:=by rw [<- hj.length];simp
  wp_walk using wpAny_loadPart' hl,wpAny_loadPart' hb,wpAny_forIn_list _ (fun rest b s'=>b.1=none/\s'=⟨hp,g,d,tk,os⟩/\∃ (vs ws:List Value) (ns' ms':List Int),rest=vs.zip ws /\
   IntsAre vs ns'/\IntsAre ws ms'/\ns'.length + items2.size=ms'.length + items.size/\R (.ok (.ret (.bool (lexLt ns' ms')))) ⟨hp,g,d,tk,os⟩) _
  case turn =>
   rintro ⟨y,x⟩ rest b s' ⟨hb',rfl,vs,ws,ns',ms',hz,hvi,hwi,hlen,hR⟩
   cases hvi with
   | nil=>rw [List.zip_nil_left] at hz;cases hz
   | cons a t hvi' =>
    cases hwi with
    | nil=>rw [List.zip_nil_right] at hz;cases hz
    | cons c u hwi' =>
     rw [List.zip_cons_cons] at hz
     injection hz with hyx hrest
     injection hyx with hy hx
     subst hy hx
     rw [FH] at hR
     simp only [List.length_cons] at hlen
     obtain ⟨e,he,hiff⟩:=Kw A.in1 ⟨hp,g,d,tk,os⟩ a t c u
     refine wpAny_bind (he prog w _ _ ?_)
     cases e with
     | true =>
      rw [if_pos (hiff.mp rfl)] at hR
      wp_walk
      exact ⟨rfl,rfl,_,_,_,_,hrest,hvi',hwi',by omega,hR⟩
     | false =>
      rw [if_neg (fun q=>absurd (hiff.mpr q) Bool.false_ne_true)] at hR
      have hri:=KW A.in1 ⟨hp,g,d,tk,os⟩ a t c u prog w
      wp_walk using hri
      exact ⟨_,rfl,by simpa using hR⟩
  case fin =>
   rintro ⟨b1,b2⟩ s' ⟨hb',rfl,vs,ws,ns',ms',hz,hvi,hwi,hlen,hR⟩
   simp only at hb'
   subst hb'
   have hv:lexLt ns' ms'=decide (items.size < items2.size):=by
    cases hvi with
    | nil =>
     cases hwi with
     | nil =>
      simp only [List.length_nil] at hlen
      rw [Br]
      exact (decide_eq_false (by omega)).symm
     | cons c u hw =>
      simp only [List.length_nil,List.length_cons] at hlen
      rw [An]
      exact (decide_eq_true (by omega)).symm
    | cons a t hv =>
     cases hwi with
     | nil =>
      simp only [List.length_nil,List.length_cons] at hlen
      rw [Aj]
      exact (decide_eq_false (by omega)).symm
     | cons c u hw =>
      rw [List.zip_cons_cons] at hz
      cases hz
   rw [hv] at hR
   wp_walk
   exact ⟨_,rfl,by simpa [Builtin.Tuple.tupleCompareSizes] using hR⟩
  case h =>
   exact ⟨rfl,rfl,items.toList,items2.toList,ns,ms,rfl,hi,hj,by omega,h⟩
end
section
variable {prog:Program} {w:World} {A:Around} {E:Value->Shared->Prop} {s:Shared}
theorem Fu {l b:Addr} {items items2:Array Value} {ns ms:List Int} {Q:Value->Shared->Prop} (hl:IsTup s.heap l items) (hb:IsTup s.heap b items2) (hi:IntsAre items.toList ns) (hj:IntsAre items2.toList ms)
  (hu:A.units < cLine) (h:Q (.bool (lexLt ns ms)) s):wpAny (model prog w) A (compareOp .Lt (.ref l) (.ref b)) Q E s:=by
 obtain ⟨⟨cls,dd,data,sl⟩,ho,hc,n,hd⟩:=id hl
 obtain ⟨⟨cls2,dd2,data2,sl2⟩,ho2,hc2,n2,hd2⟩:=id hb
 simp only at hc hd hc2 hd2
 subst hc hd hc2 hd2
 exact richCompare_meets_room (op:=.Lt) ⟨_,ho,rfl⟩ ⟨_,ho2,rfl⟩ PySem.F.slot_tuple_lt PySem.F.entry_tuple_lt (PySem.F.args_tuple_lt_2 _ _) (Bw l b items items2 n n2 dd dd2 sl sl2 ns ms hi hj)
  ⟨ho,ho2,show Value.bool (lexLt ns ms)≠Value.notImplemented/\Q (.bool (lexLt ns ms)) s from ⟨(fun x=>nomatch x),h⟩⟩ hu
theorem MP {t b:Addr} {vs ws:List Value} {Q:Value->Shared->Prop} (ht:IsTup s.heap t vs.toArray) (hb:IsTup s.heap b ws.toArray) (hv:vs≠[])
  (h1:ws=[]->Q (.ref t) s) (h2:ws≠[]->Q (.ref s.heap.objs.size) { s with heap:=s.heap.push { cls:=.type "tuple",data:=.seq (vs++ws).toArray } })
  (hsz:vs.length + ws.length<=sizeLine):wpAny (model prog w) A (binaryOp .Add (.ref t) (.ref b)) Q E s:=by
 obtain ⟨⟨cls,dd,data,sl⟩,ho,hc,n,hd⟩:=id ht
 obtain ⟨⟨cls2,dd2,data2,sl2⟩,ho2,hc2,n2,hd2⟩:=id hb
 simp only at hc hd hc2 hd2
 subst hc hd hc2 hd2
 have e:vs.toArray++ws.toArray=(vs++ws).toArray:=by simp
 by_cases hw:ws=[]
 ·exact concat_meets ⟨_,ho,rfl⟩ ⟨_,ho2,rfl⟩ noFill_tuple_add seq_tuple_add PySem.F.slot_tuple_add PySem.F.entry_tuple_add (PySem.F.args_tuple_add_2 _ _)
   (tuple_addW1 t b vs.toArray ws.toArray n n2 dd dd2 sl sl2 (by simpa using hv) (by simp [hw])) ⟨ho,ho2,h1 hw⟩
 ·refine concat_meets ⟨_,ho,rfl⟩ ⟨_,ho2,rfl⟩ noFill_tuple_add seq_tuple_add PySem.F.slot_tuple_add PySem.F.entry_tuple_add (PySem.F.args_tuple_add_2 _ _)
   (tuple_addW2 t b vs.toArray ws.toArray n n2 dd dd2 sl sl2 (by simpa using hv) (by simpa using hw) (by rw [List.size_toArray,List.size_toArray];exact hsz)) ⟨ho,ho2,?_⟩
  rw [e]
  exact h2 hw
def bL (n d:Nat):Option Int->Nat
 | none=>d
 | some v=>if v < 0 then (v + (n:Int)).toNat else min v.toNat n
theorem Qv (n d:Nat) (hd:d<=n) (o:Option Int):bL n d o<=n:=by
 cases o with
 | none=>exact hd
 | some v =>
  show (if v < 0 then (v + (n:Int)).toNat else min v.toNat n)<=n
  by_cases hv:v < 0
  ·rw [if_pos hv];omega
  ·rw [if_neg hv];exact Nat.min_le_right _ _
theorem El (v:Int) (n d:Nat):(if v < 0 then max (v + (n:Int)) 0 else min v (n:Int))=((bL n d (some v):Nat):Int):=by
 show (if v < 0 then max (v + (n:Int)) 0 else min v (n:Int))=(((if v < 0 then (v + (n:Int)).toNat else min v.toNat n):Nat):Int)
 by_cases hv:v < 0
 ·simp only [if_pos hv];omega
 ·simp only [if_neg hv];omega
theorem Gv (lo hi:Option Int) (n:Nat):Builtin.Slice.sliceAdjust lo hi 1 (n:Int)=(((bL n 0 lo:Nat):Int),((bL n n hi:Nat):Int)):=by
 have h1:¬ ((1:Int) < 0):=by omega
 unfold Builtin.Slice.sliceAdjust
 simp only [h1,if_false]
 refine Prod.ext ?_ ?_
 ·cases lo with
  | none=>rfl
  | some v=>exact El v n 0
 ·cases hi with
  | none=>rfl
  | some v=>exact El v n n
theorem Gj (i j:Nat):Builtin.Slice.slicePlaces (i:Int) (j:Int) 1=j - i:=by
 unfold Builtin.Slice.slicePlaces
 have h1:(1:Int) > 0:=by omega
 simp only [h1,if_true,Int.ediv_one]
 split <;> omega
theorem yO {v:Value} {o:Option Int} {Q:Option Int->Shared->Prop} (p:IsPart v o) (h:Q o s):wpAny (model prog w) A (Builtin.Slice.slicePartIndex v) Q E s:=by
 cases p with
 | none=>exact slicePart_none h
 | int i t=>exact slicePart_int h
theorem oP {sl:Addr} {vl vu:Value} {lo hi:Option Int} {n:Nat} {Q:Int × Int × Nat->Shared->Prop} (hs:s.heap.IsSliceOf sl vl vu .none) (pl:IsPart vl lo) (pu:IsPart vu hi)
  (h:Q (((bL n 0 lo:Nat):Int),1,bL n n hi - bL n 0 lo) s):wpAny (model prog w) A (Builtin.Slice.sliceApplied (.ref sl) (pure (n:Int))) Q E s:=by
 obtain ⟨os,hos,hcs,hds⟩:=id hs
 unfold Builtin.Slice.sliceApplied Builtin.Slice.sliceFields
 refine wpAny_bind (wpAny_bind (wpAny_field hos hds (x:=vl) rfl (wpAny_bind (wpAny_field hos hds (x:=vu) rfl (wpAny_bind (wpAny_field hos hds (x:=.none) rfl (wpAny_pure ?_)))))))
 refine wpAny_bind (slicePart_none ?_)
 show wpAny _ _ (if ((1:Int) == 0)=true then _ else _) _ _ s
 rw [if_neg (by decide)]
 refine wpAny_bind (yO pl (wpAny_bind (yO pu (wpAny_bind (wpAny_pure ?_)))))
 show wpAny _ _ (match Builtin.Slice.sliceAdjust lo hi 1 (n:Int) with | (lo,hi)=>pure (lo,(1:Int),Builtin.Slice.slicePlaces lo hi 1)) _ _ s
 rw [Gv lo hi n]
 show wpAny _ _ (pure (((bL n 0 lo:Nat):Int),(1:Int),Builtin.Slice.slicePlaces ((bL n 0 lo:Nat):Int) ((bL n n hi:Nat):Int) 1)) _ _ s
 rw [Gj]
 exact wpAny_pure h
theorem J9 (xs:Array Value) (i k:Nat):((List.range k).filterMap fun (m:Nat)=>xs[((i:Int) + (m:Int) * 1).toNat]?).toArray=((xs.toList.drop i).take k).toArray:=by
 have e:(fun (m:Nat)=>xs[((i:Int) + (m:Int) * 1).toNat]?)=fun m=>xs[i + m]?:=by
  funext m
  have:((i:Int) + (m:Int) * 1).toNat=i + m:=by omega
  rw [this]
 rw [e]
 have:=pick_run xs i k
 rw [List.filterMap_map] at this
 have e2:((fun x=>xs[x]?) ∘ fun x=>i + x)=fun m=>xs[i + m]?:=rfl
 rw [e2] at this
 rw [this]
theorem vN {t sl:Addr} {items:Array Value} {vl vu:Value} {lo hi:Option Int} {Q:Value->Shared->Prop} (ht:IsTup s.heap t items) (hs:s.heap.IsSliceOf sl vl vu .none) (pl:IsPart vl lo) (pu:IsPart vu hi)
  (hw:¬ (bL items.size 0 lo=0/\bL items.size items.size hi=items.size))
  (h:Q (.ref s.heap.objs.size) { s with heap:=s.heap.push { cls:=.type "tuple",data:=.seq ((items.toList.drop (bL items.size 0 lo)).take (bL items.size items.size hi - bL items.size 0 lo)).toArray } })
  (hsz:items.size<=sizeLine):wpAny (model prog w) A (getItem (.ref t) (.ref sl)) Q E s:=by
 have htake:sizeOk (.seq ((items.toList.drop (bL items.size 0 lo)).take (bL items.size items.size hi - bL items.size 0 lo)).toArray):=by
  show ((items.toList.drop (bL items.size 0 lo)).take (bL items.size items.size hi - bL items.size 0 lo)).toArray.size<=sizeLine
  rw [List.size_toArray,List.length_take,List.length_drop,Array.length_toList]
  omega
 have hj:bL items.size items.size hi<=items.size:=Qv _ _ (Nat.le_refl _) hi
 obtain ⟨os,hos,hcs,hds⟩:=id hs
 have hTs:s.TypeIs (.ref sl) "slice":=⟨os,hos,hcs⟩
 unfold getItem
 try with_reducible refine wpAny_holding ?_
 first | refine wpAny_bind (wpAny_pure ?_) | skip
 refine wpAny_bind (wpAny_sequenceKey ht.typeIs (by decide) ?_)
 refine wpAny_bind (wpAny_callSpecial?_slot (name:=Str.ofString "__getitem__") ht.typeIs PyProof.Rows.slot_tuple_getitem
  (wpAny_call_entry PyProof.Rows.slot_tuple_getitem ht.typeIs entry_tuple_getitem ?_ (args_tuple_getitem _ _)))
 show wpAny _ _ (Builtin.Tuple.tupleItemsOf (.ref t) >>= _) _ _ s
 refine wpAny_bind (tupleItemsOf_ ht ?_)
 refine wpAny_bind (wpAny_typeOf hTs ?_)
 rw [if_pos (by decide)]
 refine wpAny_bind (oP hs pl pu ?_)
 have hno:¬ ((((bL items.size 0 lo:Nat):Int) == 0 && (1:Int) == 1 && (bL items.size items.size hi - bL items.size 0 lo) == items.size)=true):=by
  intro q
  rw [Bool.and_eq_true,Bool.and_eq_true] at q
  have q1:((bL items.size 0 lo:Nat):Int)=0:=eq_of_beq q.1.1
  have q2:bL items.size items.size hi - bL items.size 0 lo=items.size:=eq_of_beq q.2
  exact hw ⟨by omega,by omega⟩
 show wpAny _ _ (if (((bL items.size 0 lo:Nat):Int) == 0 && (1:Int) == 1 && (bL items.size items.size hi - bL items.size 0 lo) == items.size)=true then _ else _) _ _ s
 rw [if_neg hno,J9]
 first
  | exact wpAny_bind (m:=Builtin.Tuple.tupleExact _) (wpAny_newObj_type (wpAny_pure ⟨_,rfl,wpAny_pure h⟩) htake)
  | exact wpAny_bind (m:=Builtin.Tuple.tupleExact _) (wpAny_newObj_type (wpAny_bind (wpAny_pure (wpAny_pure ⟨_,rfl,wpAny_pure h⟩))) htake)
  | exact wpAny_bind (wpAny_bind (m:=Builtin.Tuple.tupleExact _) (wpAny_newObj_type (wpAny_pure (wpAny_pure ⟨_,rfl,wpAny_pure h⟩)) htake))
  | exact wpAny_bind (wpAny_bind (m:=Builtin.Tuple.tupleExact _) (wpAny_newObj_type (wpAny_pure ⟨_,rfl,wpAny_pure h⟩) htake))
end
end HT
namespace L2
open PySem PySem.Spec PyProof.Rows
abbrev TO:=St->Hp->(Option Int->Hp->Prop)->Prop
def PO (X:Cx) (e:Option Expr) (t:TO):Prop :=
 ∀ (pins:List (Addr × Obj)) (s:Shared) (σ:St) (H:Hp) (Q:Option Int->Hp->Prop),Inv X pins σ H s->t σ H Q ->
  wpAny (model X.prog X.w) X.A (evalPart e X.env) (fun u s'=>∃ o H',Inv X pins σ H' s'/\IsPart u o/\Q o H') X.xe s
def Eo:TO:=fun _ H Q=>Q none H
def LU (t:TE):TO:=fun σ H Q=>t σ H fun x H1=>∃ i,x=.int i/\Q (some i) H1
theorem intsAre_of {ns:List Int}:∀ {us:List Value},Vals (ns.map V.int) us->IntsAre us ns:=by
 induction ns with
 | nil=>intro us r;rw [List.map_nil] at r;cases r;exact .nil
 | cons n ns ih =>
  intro us r
  rw [List.map_cons] at r
  cases r with
  | cons r1 r2 =>
   obtain ⟨t,e⟩:=r1
   subst e
   exact .cons n t (ih r2)
section
variable {X:Cx} {e:Expr} {te:TE} {lo hi:Option Expr} {tl th:TO} {pos p2:Pos}
theorem Nd:PO X none Eo:=by
 intro pins s σ H Q I h
 rw [evalPart_none]
 exact wpAny_pure ⟨none,H,I,.none,h⟩
theorem ME (h:PE X e te):PO X (some e) (LU te):=by
 intro pins s σ H Q I hw
 rw [evalPart_some]
 refine bC (h pins s σ H _ I hw) fun u s1 ⟨x,H1,I1,r1,q1⟩=>?_
 obtain ⟨i,rfl,q⟩:=q1
 obtain ⟨t,rfl⟩:=r1
 exact ⟨some i,H1,I1,.int i t,q⟩
def wA (X:Cx) (r:V->Option Int->Option Int->Hp->VK->Prop):Prop :=
 ∀ (pins:List (Addr × Obj)) (s:Shared) (σ:St) (H:Hp) (x:V) (v vl vu:Value) (lo hi:Option Int) (sl:Addr) (Q:VK),Inv X pins σ H s->RelV x v->s.heap.IsSliceOf sl vl vu .none->IsPart vl lo->IsPart vu hi->r x lo hi H Q ->
  ∃ T id,typeLookup (.type T) "__getitem__"=pure (some (.builtin id))/\s.TypeIs v T/\wpAny (model X.prog X.w) X.A (getItem v (.ref sl)) (EP X pins σ Q) X.xe s
theorem wA.or {r r':V->Option Int->Option Int->Hp->VK->Prop} (h:wA X r) (h':wA X r'):wA X (fun x lo hi H Q=>r x lo hi H Q\/r' x lo hi H Q):=by
 intro pins s σ H x v vl vu lo hi sl Q I rx hs pl pu q
 rcases q with q | q
 ·exact h pins s σ H x v vl vu lo hi sl Q I rx hs pl pu q
 ·exact h' pins s σ H x v vl vu lo hi sl Q I rx hs pl pu q
def Rn (r:V->Option Int->Option Int->Hp->VK->Prop) (te:TE) (tl th:TO):TE:=fun σ H Q=>te σ H fun x H1=>tl σ H1 fun l H2=>th σ H2 fun u H3=>r x l u H3 Q
theorem Kd {r:V->Option Int->Option Int->Hp->VK->Prop} (hr:wA X r) (he:PE X e te) (hl:PO X lo tl) (hu:PO X hi th):PE X (.Subscript e (.Slice lo hi none p2) pos) (Rn r te tl th):=by
 intro pins s σ H Q I h
 refine Subscript_ (bC (he pins s σ H _ I h) fun v s1 ⟨x,H1,I1,r1,q1⟩=>?_)
 refine wpAny_Slice (bC (hl pins s1 σ H1 _ I1 q1) fun vl s2 ⟨l,H2,I2,pl,q2⟩=>bC (hu pins s2 σ H2 _ I2 q2) fun vu s3 ⟨u,H3,I3,pu,q3⟩=>?_)
 rw [evalPart_none]
 refine wpAny_pure ?_
 have I4:Inv X pins σ H3 { s3 with heap:=s3.heap.push { cls:=.type "slice",data:=.fields #[vl,vu,.none] } }:=I3.kept (t':=s3.toks) fun b ob q=>Heap.get?_push_of_some _ q
 obtain ⟨T,id,hT,ht,hg⟩:=hr pins { s3 with heap:=s3.heap.push { cls:=.type "slice",data:=.fields #[vl,vu,.none] } } σ H3 x v vl vu l u s3.heap.objs.size Q I4 r1 (Heap.IsSliceOf.new ..) pl pu q3
 show wpAny (model X.prog X.w) X.A (subscriptTail e (.Slice lo hi none p2) v (.ref s3.heap.objs.size)) (EP X pins σ Q) X.xe { s3 with heap:=s3.heap.push { cls:=.type "slice",data:=.fields #[vl,vu,.none] } }
 exact tail_any (ops:=[.ref s3.heap.objs.size,v]) ht hT hg (by with_unfolding_all rfl)
def pV (xs:List V) (lo hi:Option Int):List V:=(xs.drop (HT.bL xs.length 0 lo)).take (HT.bL xs.length xs.length hi - HT.bL xs.length 0 lo)
theorem vV (xs:List V) (lo hi:Option Int):(pV xs lo hi).length<=xs.length:=by
 unfold pV
 rw [List.length_take,List.length_drop]
 omega
def Rx (K:PySem.W.Frag):V->Option Int->Option Int->Hp->VK->Prop:=fun x lo hi H Q=>∃ a xs,x=.ref a/\eY K H a xs /\
 ¬ (HT.bL xs.length 0 lo=0/\HT.bL xs.length xs.length hi=xs.length)/\∀ p,H p=none->Q (.ref p) (upd H p (.tup (pV xs lo hi)))
theorem OW:wA X (Rx X.K):=by
 intro pins s σ H x v vl vu lo hi sl Q I rx hs pl pu h
 obtain ⟨a,xs,rfl,hx,hw,q⟩:=h
 cases rx
 obtain ⟨its,r,ht,hz⟩:=I.tuple hx
 have hlen:its.toArray.size=xs.length:=by rw [List.size_toArray];exact r.length.symm
 refine ⟨"tuple",_,PyProof.Rows.slot_tuple_getitem.lookup,ht.typeIs,?_⟩
 refine HT.vN ht hs pl pu (by rw [hlen];exact hw) ?_ (by rw [hlen];exact hz)
 rw [hlen]
 refine ⟨.ref s.heap.objs.size,_,I.laid (t':=s.toks) (o:=.tup (pV xs lo hi)) (fun b ob q=>Heap.get?_push_of_some _ q) (Nat.le_refl _) ?_,rfl,q _ (I.hok.fresh (Nat.le_refl _))⟩
 exact ⟨Nat.le_trans (vV xs lo hi) hz,_,(r.drop (HT.bL xs.length 0 lo)).take (HT.bL xs.length xs.length hi - HT.bL xs.length 0 lo),IsTup.new _ _⟩
def Rp (K:PySem.W.Frag):R2:=fun x y H Q=>∃ a b ns ms,x=.ref a/\y=.ref b/\eY K H a (ns.map V.int)/\eY K H b (ms.map V.int)/\Q (.bl (HT.lexLt ns ms)) H
theorem PC (hu:X.A.units < cLine):dI X (compareOp .Lt) (Rp X.K):=by
 intro pins s σ H x y v u Q I rx ry h
 obtain ⟨a,b,ns,ms,rfl,rfl,ha,hb,q⟩:=h
 cases rx
 cases ry
 obtain ⟨its,r1,p1,_⟩:=I.tuple ha
 obtain ⟨its2,r2,p2,_⟩:=I.tuple hb
 have i1:IntsAre its.toArray.toList ns:=intsAre_of r1
 have i2:IntsAre its2.toArray.toList ms:=intsAre_of r2
 exact HT.Fu p1 p2 i1 i2 hu ⟨.bl (HT.lexLt ns ms),H,I,rfl,q⟩
def QZ (K:PySem.W.Frag):R2:=fun x y H Q=>∃ a b xs ys,x=.ref a/\y=.ref b/\eY K H a xs/\eY K H b ys/\xs≠[]/\xs.length + ys.length<=sizeLine /\
 (ys=[]->Q (.ref a) H)/\(ys≠[]->∀ p,H p=none->Q (.ref p) (upd H p (.tup (xs++ys))))
theorem Vals.nil_iff {xs:List V} {us:List Value} (r:Vals xs us):us=[] ↔ xs=[]:=by
 cases r with
 | nil=>simp
 | cons _ _=>simp
theorem N4:dI X (binaryOp .Add) (QZ X.K):=by
 intro pins s σ H x y v u Q I rx ry h
 obtain ⟨a,b,xs,ys,rfl,rfl,ha,hb,hx,hz,q1,q2⟩:=h
 cases rx
 cases ry
 obtain ⟨its,r1,p1,_⟩:=I.tuple ha
 obtain ⟨its2,r2,p2,_⟩:=I.tuple hb
 refine HT.MP p1 p2 (fun z=>hx (r1.nil_iff.mp z)) (fun z=>⟨.ref a,H,I,rfl,q1 (r2.nil_iff.mp z)⟩) (fun z=>?_) (by rw [<- r1.length,<- r2.length];exact hz)
 refine ⟨.ref s.heap.objs.size,_,I.laid (t':=s.toks) (o:=.tup (xs++ys)) (fun b ob q=>Heap.get?_push_of_some _ q) (Nat.le_refl _) ?_,rfl,q2 (fun w=>z (r2.nil_iff.mpr w)) _ (I.hok.fresh (Nat.le_refl _))⟩
 exact ⟨by rw [List.length_append];exact hz,_,r1.append r2,IsTup.new _ _⟩
end
def tM (n:Nat) (i:Int):Option Nat:=if 0<=i then (if i < n then some i.toNat else none) else if -(n:Int)<=i then some (i + n).toNat else none
def eR {α:Type} (xs:List α) (i:Int):Option α:=(tM xs.length i).bind fun j=>xs[j]?
theorem Eb {n:Nat} {i:Int} {j:Nat} (h:tM n i=some j):seqIndex? i n=some j/\j < n/\-(n:Int)<=i/\i < n:=by
 unfold tM at h
 by_cases h0:0<=i
 ·rw [if_pos h0] at h
  by_cases h1:i < n
  ·rw [if_pos h1] at h
   have e:i.toNat=j:=Option.some.inj h
   exact ⟨by rw [seqIndex_of h0 h1,e],by omega,by omega,h1⟩
  ·rw [if_neg h1] at h;cases h
 ·rw [if_neg h0] at h
  by_cases h1:-(n:Int)<=i
  ·rw [if_pos h1] at h
   have e:(i + n).toNat=j:=Option.some.inj h
   exact ⟨by rw [seqIndex_neg (by omega) h1,e],by omega,h1,by omega⟩
  ·rw [if_neg h1] at h;cases h
theorem Ao {α:Type} {xs:List α} {i:Int} {v:α} (h:eR xs i=some v):∃ j,seqIndex? i xs.length=some j/\xs[j]?=some v/\j < xs.length/\-(xs.length:Int)<=i/\i < xs.length:=by
 unfold eR at h
 cases e:tM xs.length i with
 | none=>rw [e] at h;cases h
 | some j =>
  rw [e] at h
  obtain ⟨h1,h2,h3,h4⟩:=Eb e
  exact ⟨j,h1,h,h2,h3,h4⟩
theorem eX {α:Type} {xs:List α} {j:Nat} {v:α} (h:xs[j]?=some v):eR xs (j:Int)=some v:=by
 have hj:j < xs.length:=(List.getElem?_eq_some_iff.mp h).1
 have e:tM xs.length (j:Int)=some j:=by
  unfold tM
  rw [if_pos (by omega),if_pos (by omega)];simp
 unfold eR;rw [e];exact h
theorem JH {α:Type} (xs:List α) (v:α):eR (xs++[v]) (-1)=some v:=by
 have hl:(xs++[v]).length=xs.length + 1:=by simp
 have e:tM (xs++[v]).length (-1)=some xs.length:=by
  unfold tM
  rw [hl,if_neg (by decide),if_pos (by omega)]
  congr 1
  omega
 unfold eR
 rw [e]
 show (xs++[v])[xs.length]?=some v
 simp
def EI (b:Expr):Prop:=∀ o i,subscripted b false o i=operate [o,i] (getItem o i)
def yV (X:Cx) (r:R2):Prop :=
 ∀ (value slice:Expr) (pins:List (Addr × Obj)) (s:Shared) (σ:St) (H:Hp) (x y:V) (v u:Value) (Q:VK),Inv X pins σ H s->RelV x v->RelV y u->r x y H Q ->
  subscripted slice false v u=operate [v,u] (getItem v u)->wpAny (model X.prog X.w) X.A (subscriptTail value slice v u) (EP X pins σ Q) X.xe s
def Ri (X:Cx) (id:String) (r:V->List V->Hp->VK->Prop):Prop :=
 ∀ (pins:List (Addr × Obj)) (s:Shared) (σ:St) (H:Hp) (x:V) (xs:List V) (v:Value) (us:List Value) (Q:VK),Inv X pins σ H s->RelV x v->Vals xs us->r x xs H Q ->
  wpAny (model X.prog X.w) X.A (call (.builtin id) (v :: us)) (EP X pins σ Q) X.xe s
section
variable {X:Cx} {a b:Expr} {ta tb:TE} {pos:Pos}
theorem yV.or {r r':R2} (h:yV X r) (h':yV X r'):yV X (fun x y H Q=>r x y H Q\/r' x y H Q):=by
 intro value slice pins s σ H x y v u Q I rx ry q hs
 rcases q with q | q
 ·exact h value slice pins s σ H x y v u Q I rx ry q hs
 ·exact h' value slice pins s σ H x y v u Q I rx ry q hs
theorem QK {r:R2} (hr:yV X r) (ha:PE X a ta) (hb:PE X b tb) (hs:EI b):PE X (.Subscript a b pos) (Ee r ta tb):=by
 intro pins s σ H Q I h
 exact Subscript_ (Lc ha hb I h fun v u s2 x y H2 I2 rx ry q=>hr a b pins s2 σ H2 x y v u Q I2 rx ry q (hs _ _))
def Of (K:PySem.W.Frag):R2:=fun x y H Q=>∃ p xs i v,x=.ref p/\y=.int i/\dN K H p xs/\eR xs i=some v/\Q v H
def Qa (K:PySem.W.Frag):R2:=fun x y H Q=>∃ p xs i v,x=.ref p/\y=.int i/\eY K H p xs/\eR xs i=some v/\Q v H
def Qr:R2:=fun x y H Q=>∃ z i c,x=.str z/\y=.int i/\z.length<=sizeLine/\eR z.cps.toList i=some c/\Q (.str ⟨#[c]⟩) H
theorem NN:yV X (Of X.K):=by
 intro value slice pins s σ H x y v u Q I rx ry h hs
 obtain ⟨p,xs,i,z,rfl,rfl,hq,he,q⟩:=h
 cases rx
 obtain ⟨t,rfl⟩:=ry
 obtain ⟨its,r,pl,hz⟩:=I.list hq
 obtain ⟨j,h1,h2,h3,h4,h5⟩:=Ao he
 obtain ⟨w,ew,rw'⟩:=r.get h2
 have hl:=r.length
 have hn:=qW
 have fin:EP X pins σ Q w s:=⟨z,H,I,rw',q⟩
 by_cases h0:0<=i
 ·have hj:i.toNat=j:=by
   rw [seqIndex_of h0 h5] at h1
   exact Option.some.inj h1
  exact item_listR pl.isList h0 (by omega) (by rw [hj];simpa using ew) fin hs
 ·have hj:(i + (its.toArray.size:Int)).toNat=j:=by
   rw [seqIndex_neg (by omega) h4] at h1
   rw [List.size_toArray,<- hl]
   exact Option.some.inj h1
  exact subscriptTail_builtinR (x:=w) pl.isList.typeIs slot_list_getitem.lookup
   (wpAny_getItem_list_neg (Q:=fun r s'=>r=w/\EP X pins σ Q r s') pl.isList (by omega) (by rw [List.size_toArray] <;> omega) (by omega) (by rw [hj];simpa using ew) ⟨rfl,fin⟩) hs
theorem O0:yV X (Qa X.K):=by
 intro value slice pins s σ H x y v u Q I rx ry h hs
 obtain ⟨p,xs,i,z,rfl,rfl,hq,he,q⟩:=h
 cases rx
 obtain ⟨t,rfl⟩:=ry
 obtain ⟨its,r,pl,hz⟩:=I.tuple hq
 obtain ⟨j,h1,h2,h3,h4,h5⟩:=Ao he
 obtain ⟨w,ew,rw'⟩:=r.get h2
 have hl:=r.length
 have hn:=qW
 have fin:EP X pins σ Q w s:=⟨z,H,I,rw',q⟩
 exact subscriptTail_builtinR (x:=w) pl.typeIs slot_tuple_getitem.lookup
  (getItem_tuple (j:=j) (Q:=fun r s'=>r=w/\EP X pins σ Q r s') pl (by omega) (by omega) (by rw [List.size_toArray,<- hl];exact h1) (by simpa using ew) ⟨rfl,fin⟩) hs
theorem N9:yV X Qr:=by
 intro value slice pins s σ H x y v u Q I rx ry h hs
 obtain ⟨z,i,c,rfl,rfl,hz,he,q⟩:=h
 obtain ⟨t,rfl⟩:=rx
 obtain ⟨t',rfl⟩:=ry
 obtain ⟨j,h1,h2,h3,h4,h5⟩:=Ao he
 have hl:z.cps.toList.length=z.length:=by simp [Str.length]
 rw [hl] at h1 h4 h5
 have hn:=qW
 exact tail_any (typeIs_str s z t) slot_str_getitem.lookup (getItem_str (c:=c) (by
  have e1:decide (i < -(2 ^ 63:Int))=false:=decide_eq_false (by omega)
  have e2:decide (i ≥ 2 ^ 63)=false:=decide_eq_false (by omega)
  rw [e1,e2,Bool.or_false]) (by rw [h1];simpa using h2) ⟨.str ⟨#[c]⟩,H,I.tok _,⟨_,rfl⟩,q⟩) hs
def Rk (K:PySem.W.Frag):R2:=fun x y H Q=>Of K x y H Q\/Qa K x y H Q\/Qr x y H Q
theorem Qj:yV X (Rk X.K):=NN.or (O0.or N9)
theorem F6 (its:List Value) (n j:Nat) (u:Value):Obj.mapSeq (·.setIfInBounds j u) { cls:=.type "list",data:=.seq its.toArray n }={ cls:=.type "list",data:=.seq (its.set j u).toArray n }:=by
 simp [Obj.mapSeq]
theorem Inv.lst {pins:List (Addr × Obj)} {σ:St} {H:Hp} {s:Shared} {p:Addr} {xs:List V} (I:Inv X pins σ H s) (h:H p=some (.lst xs)) :
  ∃ (its:List Value) (n:Nat),Vals xs its/\s.heap.get? p=some { cls:=.type "list",data:=.seq its.toArray n }/\xs.length<=sizeLine:=by
 obtain ⟨z,its,n,r,e⟩:=I.hok p _ h
 exact ⟨its,n,r,e,z⟩
theorem Inv.lstUpd {pins:List (Addr × Obj)} {σ:St} {H:Hp} {s:Shared} {p:Addr} {xs ys:List V} {its its':List Value} {n n':Nat} {f:Obj->Obj} (I:Inv X pins σ H s) (h:H p=some (.lst xs))
  (ho:s.heap.get? p=some { cls:=.type "list",data:=.seq its.toArray n }) (hf:f { cls:=.type "list",data:=.seq its.toArray n }={ cls:=.type "list",data:=.seq its'.toArray n' }) (r:Vals ys its') (hz:ys.length<=sizeLine) (t:Nat) :
  Inv X pins σ (upd H p (.lst ys)) { s with heap:=s.heap.update p f,toks:=t }:=by
 have e:(s.heap.update p f).get? p=some { cls:=.type "list",data:=.seq its'.toArray n' }:=by
  rw [Heap.get?_update_self f ho (by rw [hf] <;> rfl),hf]
 refine I.write (x:=p) (e:=p) (by rw [h];trivial) (.inl rfl) (fun b u hb q=>(Heap.get?_update_other _ _ (Ne.symm hb)).trans q) ⟨_,e⟩ ?_
 exact ⟨hz,its',n',r,e⟩
def QS:V->V->V->Hp->(Hp->Prop)->Prop:=fun o i v H Q=>∃ p xs k j,o=.ref p/\i=.int k/\H p=some (.lst xs)/\tM xs.length k=some j/\Q (upd H p (.lst (xs.set j v)))
theorem set_list:Qs X QS:=by
 intro pins s σ H o i v ov iv u Q I ro ri rv h
 obtain ⟨p,xs,k,j,rfl,rfl,hp,hj,q⟩:=h
 cases ro
 obtain ⟨t,rfl⟩:=ri
 obtain ⟨its,n,r,ho,hz⟩:=I.lst hp
 obtain ⟨h1,h2,h3,h4⟩:=Eb hj
 have hl:=r.length
 have hn:=qW
 have I':Inv X pins σ (upd H p (.lst (xs.set j v))) { s with heap:=s.heap.update p (Obj.mapSeq (·.setIfInBounds j u)) } :=
  I.lstUpd hp ho (F6 its n j u) (r.set rv j) (by rw [List.length_set];exact hz) s.toks
 by_cases h0:0<=k
 ·have hk:k.toNat=j:=by
   rw [seqIndex_of h0 h4] at h1
   exact Option.some.inj h1
  exact PySem.W.ki_setAt ho h0 (by omega) (by rw [List.size_toArray,<- hl];exact h4) (by rw [hk];exact ⟨_,I',q⟩)
 ·have hk:(k + (its.toArray.size:Int)).toNat=j:=by
   rw [seqIndex_neg (by omega) h3] at h1
   rw [List.size_toArray,<- hl]
   exact Option.some.inj h1
  exact PySem.W.ki_setBack ho (by omega) (by rw [List.size_toArray,<- hl];exact h3) (by omega) (by rw [hk];exact ⟨_,I',q⟩)
theorem Cg (lo hi:Option Int) (n:Nat):(sliceBounds lo hi none n).1=((HT.bL n 0 lo:Nat):Int)/\(sliceBounds lo hi none n).2.1=((HT.bL n n hi:Nat):Int)/\(sliceBounds lo hi none n).2.2=1:=by
 refine ⟨?_,?_,rfl⟩
 ·cases lo with
  | none=>simp [sliceBounds,HT.bL]
  | some i =>
   simp only [sliceBounds,HT.bL,Option.getD_none,show (1:Int) > 0 by decide,if_true]
   by_cases h:i < 0
   ·simp only [h,if_true] <;> omega
   ·simp only [h,if_false] <;> omega
 ·cases hi with
  | none=>simp [sliceBounds,HT.bL]
  | some i =>
   simp only [sliceBounds,HT.bL,Option.getD_none,show (1:Int) > 0 by decide,if_true]
   by_cases h:i < 0
   ·simp only [h,if_true] <;> omega
   ·simp only [h,if_false] <;> omega
theorem BB (its:List Value) (lo hi:Option Int):slicePick its.toArray lo hi none=((its.drop (HT.bL its.length 0 lo)).take (HT.bL its.length its.length hi - HT.bL its.length 0 lo)).toArray:=by
 obtain ⟨h1,h2,h3⟩:=Cg lo hi its.toArray.size
 unfold slicePick
 rw [h1,h2,h3]
 simp only [sliceRange_one,pick_run,List.size_toArray] <;> rfl
def Ry (K:PySem.W.Frag):V->Option Int->Option Int->Hp->VK->Prop:=fun x lo hi H Q=>∃ a xs,x=.ref a/\dN K H a xs/\∀ p,H p=none->Q (.ref p) (upd H p (.lst (pV xs lo hi)))
theorem N3:wA X (Ry X.K):=by
 intro pins s σ H x v vl vu lo hi sl Q I rx hs pl pu h
 obtain ⟨a,xs,rfl,hx,q⟩:=h
 cases rx
 obtain ⟨its,r,ht,hz⟩:=I.list hx
 have hlen:=r.length
 refine ⟨"list",_,slot_list_getitem.lookup,ht.isList.typeIs,?_⟩
 refine wpAny_getItem_list_slice ht.isList hs pl pu .none (by simp) ?_ (by rw [List.size_toArray] <;> omega)
 rw [BB,<- hlen]
 refine ⟨.ref s.heap.objs.size,_,I.laid (t':=s.toks) (o:=.lst (pV xs lo hi)) (fun b ob q=>Heap.get?_push_of_some _ q) (Nat.le_refl _) ?_,rfl,q _ (I.hok.fresh (Nat.le_refl _))⟩
 exact ⟨Nat.le_trans (vV xs lo hi) hz,_,0,(r.drop (HT.bL xs.length 0 lo)).take (HT.bL xs.length xs.length hi - HT.bL xs.length 0 lo),Heap.get?_push_size _ rfl⟩
def j8:V->Bool
 | .non=>true
 | .bl _=>true
 | .int _=>true
 | .str _=>true
 | _=>false
def qR:V->V->Bool
 | .non,.non=>true
 | .bl a,.bl b=>a == b
 | .bl a,.int b=>(if a then 1 else 0) == b
 | .int a,.bl b=>a == (if b then 1 else 0)
 | .int a,.int b=>a == b
 | .str a,.str b=>a == b
 | _,_=>false
theorem Ql {A:Around} {s:Shared} {y x:V} {u v:Value} (ry:RelV y u) (rx:RelV x v) (fy:j8 y=true) (fx:j8 x=true):SeqAt.EqAt A s u v (qR y x):=by
 cases y with
 | non =>
  cases ry
  cases x with
  | non=>cases rx;exact SeqAt.EqAt.same _
  | bl b=>cases rx;exact SeqAt.EqAt.none_bool b
  | int b=>obtain ⟨t,rfl⟩:=rx;exact SeqAt.EqAt.none_int b t
  | str b=>obtain ⟨t,rfl⟩:=rx;exact SeqAt.EqAt.none_str b t
  | _=>exact absurd (show false=true from fx) Bool.false_ne_true
 | bl a =>
  cases ry
  cases x with
  | non=>cases rx;exact SeqAt.EqAt.bool_none a
  | bl b=>cases rx;exact SeqAt.EqAt.bool_bool a b
  | int b=>obtain ⟨t,rfl⟩:=rx;exact SeqAt.EqAt.bool_int a b t
  | str b=>obtain ⟨t,rfl⟩:=rx;exact SeqAt.EqAt.bool_str a b t
  | _=>exact absurd (show false=true from fx) Bool.false_ne_true
 | int a =>
  obtain ⟨t',rfl⟩:=ry
  cases x with
  | non=>cases rx;exact SeqAt.EqAt.int_none a t'
  | bl b=>cases rx;exact SeqAt.EqAt.int_bool a t' b
  | int b=>obtain ⟨t,rfl⟩:=rx;exact SeqAt.EqAt.int_int a t' b t
  | str b=>obtain ⟨t,rfl⟩:=rx;exact SeqAt.EqAt.int_str a t' b t
  | _=>exact absurd (show false=true from fx) Bool.false_ne_true
 | str a =>
  obtain ⟨t',rfl⟩:=ry
  cases x with
  | non=>cases rx;exact SeqAt.EqAt.str_none a t'
  | bl b=>cases rx;exact SeqAt.EqAt.str_bool a t' b
  | int b=>obtain ⟨t,rfl⟩:=rx;exact SeqAt.EqAt.str_int a t' b t
  | str b=>obtain ⟨t,rfl⟩:=rx;exact SeqAt.EqAt.str_str a t' b t
  | _=>exact absurd (show false=true from fx) Bool.false_ne_true
 | _=>exact absurd (show false=true from fy) Bool.false_ne_true
def nA (x:V) (u:Value):Bool:=match u with
 | .none=>qR .non x
 | .bool b=>qR (.bl b) x
 | .int i _=>qR (.int i) x
 | .str z _=>qR (.str z) x
 | _=>false
theorem BY {x y:V} {u:Value} (r:RelV y u) (f:j8 y=true):nA x u=qR y x:=by
 cases y with
 | non=>cases r;rfl
 | bl b=>cases r;rfl
 | int i=>obtain ⟨t,rfl⟩:=r;rfl
 | str z=>obtain ⟨t,rfl⟩:=r;rfl
 | _=>exact absurd (show false=true from f) Bool.false_ne_true
theorem qE {x:V}:∀ {xs:List V} {us:List Value},Vals xs us->xs.all j8=true->us.any (nA x)=xs.any fun y=>qR y x
 | _,_,.nil,_=>rfl
 | y :: xs,u :: us,.cons r t,f=>by
  rw [List.all_cons,Bool.and_eq_true] at f
  rw [List.any_cons,List.any_cons,BY r f.1,qE t f.2]
theorem mH {A:Around} {s:Shared} {x:V} {v:Value} (rx:RelV x v) (fx:j8 x=true):∀ {xs:List V} {us:List Value},Vals xs us->xs.all j8=true->∀ u∈us,SeqAt.EqAt A s u v (nA x u)
 | _,_,.nil,_=>fun u hu=>by cases hu
 | y :: xs,u :: us,.cons r t,f=>fun u' hu=>by
  rw [List.all_cons,Bool.and_eq_true] at f
  rcases List.mem_cons.mp hu with rfl | hu
  ·rw [BY r f.1];exact Ql r rx f.1 fx
  ·exact mH rx fx t f.2 u' hu
def Me (x:V) (xs:List V):Bool:=xs.any fun y=>qR y x
def Ov (K:PySem.W.Frag) (neg:Bool):R2:=fun x y H Q=>∃ p xs,y=.ref p/\(dN K H p xs\/eY K H p xs)/\j8 x=true/\xs.all j8=true/\Q (.bl (if neg then !Me x xs else Me x xs)) H
theorem IB:dI X (compareOp .In) (Ov X.K false):=by
 intro pins s σ H x y v u Q I rx ry h
 obtain ⟨p,xs,rfl,hq,fx,fs,q⟩:=h
 cases ry
 rcases hq with hq | hq
 ·obtain ⟨its,r,pl,hz⟩:=I.list hq
  refine SeqAt.in_listAt (nA x) pl.isList (fun w hw=>mH rx fx r fs w (by simpa using hw)) ⟨.bl _,H,I,rfl,?_⟩
  rw [show its.toArray.any (nA x)=its.any (nA x) by simp,qE r fs]
  exact q
 ·obtain ⟨its,r,pl,hz⟩:=I.tuple hq
  refine SeqAt.in_tupleAt (nA x) pl (fun w hw=>mH rx fx r fs w (by simpa using hw)) ⟨.bl _,H,I,rfl,?_⟩
  rw [show its.toArray.any (nA x)=its.any (nA x) by simp,qE r fs]
  exact q
theorem Ds:dI X (compareOp .NotIn) (Ov X.K true):=by
 intro pins s σ H x y v u Q I rx ry h
 obtain ⟨p,xs,rfl,hq,fx,fs,q⟩:=h
 cases ry
 rcases hq with hq | hq
 ·obtain ⟨its,r,pl,hz⟩:=I.list hq
  refine SeqAt.notIn_listAt (nA x) pl.isList (fun w hw=>mH rx fx r fs w (by simpa using hw)) ⟨.bl _,H,I,rfl,?_⟩
  rw [show its.toArray.any (nA x)=its.any (nA x) by simp,qE r fs]
  exact q
 ·obtain ⟨its,r,pl,hz⟩:=I.tuple hq
  refine SeqAt.notIn_tupleAt (nA x) pl (fun w hw=>mH rx fx r fs w (by simpa using hw)) ⟨.bl _,H,I,rfl,?_⟩
  rw [show its.toArray.any (nA x)=its.any (nA x) by simp,qE r fs]
  exact q
theorem CT:lZ X (.type "list") (fun xs H Q=>∃ p ys,xs=[.ref p]/\(dN X.K H p ys\/eY X.K H p ys)/\∀ l,H l=none->Q (.ref l) (upd H l (.lst ys))):=by
 intro pins s σ H xs us Q I r h
 obtain ⟨p,ys,rfl,hq,q⟩:=h
 obtain ⟨u,rfl,rx⟩:=vals1 r
 cases rx
 have fin:∀ (its:List Value),Vals ys its->ys.length<=sizeLine->∀ (h':Heap) (c':Nat),(∀ b o',s.heap.get? b=some o'->h'.get? b=some o') ->
   h'.get? s.heap.objs.size=some { cls:=.type "list",dict:=none,data:=.seq its.toArray c',slots:=#[] }->EP X pins σ Q (.ref s.heap.objs.size) { s with heap:=h' }:=fun its r' hz h' c' kp e =>
  ⟨.ref s.heap.objs.size,_,I.laid (t':=s.toks) kp (Nat.le_refl _) (show dB X.prog X.w _ h' _ (.lst ys) from ⟨hz,its,c',r',e⟩),rfl,q _ (I.hok.fresh (Nat.le_refl _))⟩
 rcases hq with hq | hq
 ·obtain ⟨its,r',pl,hz⟩:=I.list hq
  have hlen:=r'.length
  obtain ⟨o,ho,hc,n,hd⟩:=pl.isList
  exact call_list_seq p (.inl rfl) ho hc hd (fun h' c' kp e=>fin its r' hz h' c' kp e) (by simp only [List.size_toArray] <;> omega)
 ·obtain ⟨its,r',pl,hz⟩:=I.tuple hq
  have hlen:=r'.length
  obtain ⟨o,ho,hc,n,hd⟩:=pl
  exact call_list_seq p (.inr rfl) ho hc hd (fun h' c' kp e=>fin its r' hz h' c' kp e) (by simp only [List.size_toArray] <;> omega)
theorem Bv:lZ X (.type "tuple") (fun xs H Q=>∃ p ys,xs=[.ref p]/\((dN X.K H p ys/\∀ l,H l=none->Q (.ref l) (upd H l (.tup ys)))\/(eY X.K H p ys/\Q (.ref p) H))):=by
 intro pins s σ H xs us Q I r h
 obtain ⟨p,ys,rfl,h⟩:=h
 obtain ⟨u,rfl,rx⟩:=vals1 r
 cases rx
 rcases h with ⟨hq,q⟩ | ⟨hq,q⟩
 ·obtain ⟨its,r',pl,hz⟩:=I.list hq
  have hlen:=r'.length
  refine call_tuple_list pl.isList (fun h' kp=>?_) (by simp only [List.size_toArray] <;> omega)
  have I1:Inv X pins σ H { s with heap:=h' }:=I.kept (t':=s.toks) kp
  have I2:Inv X pins σ (upd H h'.objs.size (.tup ys)) { s with heap:=h'.push { cls:=.type "tuple",data:=.seq its.toArray } } :=
   I1.laid (t':=s.toks) (fun b o e=>Heap.get?_push_of_some _ e) (Nat.le_refl _) (show dB X.prog X.w _ _ _ (.tup ys) from ⟨hz,its,r',IsTup.new _ _⟩)
  exact ⟨.ref h'.objs.size,_,I2,rfl,q _ (I1.hok.fresh (Nat.le_refl _))⟩
 ·obtain ⟨its,r',pl,hz⟩:=I.tuple hq
  exact call_tuple_same pl ⟨.ref p,H,I,rfl,q⟩
def LS (K:PySem.W.Frag) (T:String) (x:V) (H:Hp):Prop:=match x with
 | .str _=>T="str"
 | .int _=>T="int"
 | .ref p=>(T="list"/\∃ xs,dN K H p xs)\/(T="tuple"/\∃ o,K.lookup p=some o/\o.cls=.type "tuple"/\o.dict=none) \/
   (T="dict"/\((∃ kvs,H p=some (.dK kvs))\/∃ kvs,H p=some (.dT kvs)))\/(T="set"/\∃ S n,H p=some (.set S n))
 | _=>False
theorem Hm {pins:List (Addr × Obj)} {σ:St} {H:Hp} {s:Shared} {T:String} {x:V} {v:Value} (I:Inv X pins σ H s) (r:RelV x v) (ty:LS X.K T x H) :
  s.TypeIs v T/\∀ a,v=.ref a->∃ ob,s.heap.get? a=some ob/\ob.dict=none:=by
 cases x with
 | str z =>
  obtain ⟨t,rfl⟩:=r
  cases (show T="str" from ty)
  exact ⟨typeIs_str s z t,fun _ e=>nomatch e⟩
 | int i =>
  obtain ⟨t,rfl⟩:=r
  cases (show T="int" from ty)
  exact ⟨typeIs_int s i t,fun _ e=>nomatch e⟩
 | ref p =>
  cases r
  rcases ty with ⟨rfl,xs,hq⟩ | ⟨rfl,o,hk,hc,hd⟩ | ⟨rfl,hk⟩ | ⟨rfl,S,n,hk⟩
  ·obtain ⟨its,_,pl,_⟩:=I.list hq
   refine ⟨pl.isList.typeIs,fun a e=>?_⟩
   cases e
   obtain ⟨o,n,e,c,hd,_⟩:=pl
   exact ⟨o,e,hd⟩
  ·refine ⟨⟨o,I.kIn p o hk,hc⟩,fun a e=>?_⟩
   cases e
   exact ⟨o,I.kIn _ o hk,hd⟩
  ·have z:∃ o,s.heap.get? p=some o/\o.ExactDict:=by
    rcases hk with ⟨kvs,hk⟩ | ⟨kvs,hk⟩
    ·obtain ⟨_,_,_,_,o,_,_,e,ex,_⟩:=I.hok p _ hk
     exact ⟨o,e,ex⟩
    ·obtain ⟨_,_,_,_,o,_,_,e,ex,_⟩:=I.hok p _ hk
     exact ⟨o,e,ex⟩
   obtain ⟨o,e,ex⟩:=z
   refine ⟨⟨o,e,ex.1⟩,fun a e2=>?_⟩
   cases e2
   exact ⟨o,e,ex.2.1⟩
  ·obtain ⟨o,_,_,_,e,ex,_⟩:=I.hok p _ hk
   refine ⟨⟨o,e,ex.1⟩,fun a e2=>?_⟩
   cases e2
   exact ⟨o,e,ex.2.1⟩
 | _=>exact False.elim ty
def Pp (K:PySem.W.Frag) (T:String) (r:V->List V->Hp->VK->Prop) (to:TE):TE:=fun σ H Q=>to σ H fun x H1=>LS K T x H1/\r x [] H1 Q
def Rg (K:PySem.W.Frag) (T:String) (r:V->List V->Hp->VK->Prop) (to:TE) (t:TA):TE:=fun σ H Q=>to σ H fun x H1=>LS K T x H1/\t σ H1 fun xs H2=>r x xs H2 Q
variable {o e:Expr} {es:List Expr} {to:TE} {t:TA} {name:Str} {apos cpos:Pos} {T id:String} {r:V->List V->Hp->VK->Prop}
theorem PV (pa:PlainAttrs T) (slot:Slot T name id) (hty:typeOf (.builtin id)=pure (.type "method_descriptor")) (hm:Ri X id r) (ho:PE X o to)
  (hbase:attributeBase o name X.env (eval o X.env)=eval o X.env:=by rfl) (hline:(apos.endLine == cpos.line)=true:=by rfl):PE X (.Call (.Attribute o name apos) [] [] cpos) (Pp X.K T r to):=by
 intro pins s σ H Q I h
 refine wpAny_Call_method0_late hbase hline (bC (ho pins s σ H _ I h) fun v s1 ⟨x,H1,I1,r1,ty,q1⟩=>?_)
 obtain ⟨h1,h2⟩:=Hm I1 r1 ty
 exact ⟨T,id,pa,slot,hty,h1,h2,Calls.callWith_builtin rfl (PySem.evalArgs_none (hm pins s1 σ H1 x [] v [] Q I1 r1 .nil q1))⟩
theorem FG (pa:PlainAttrs T) (slot:Slot T name id) (hty:typeOf (.builtin id)=pure (.type "method_descriptor")) (hm:Ri X id r) (ho:PE X o to) (ha:PA X (e :: es) t)
  (hbase:attributeBase o name X.env (eval o X.env)=eval o X.env:=by rfl)
  (hfew:((backTo cpos (starEach (e :: es) X.env)).all (fun x=>!x.1) && (backToKw cpos (keywordEach [] X.env)).all (fun x=>x.1.isSome)
   && decide ((e :: es).length + ([]:List Keyword).length + (if ([]:List Keyword).isEmpty then 0 else 1) < 30))=true:=by rfl)
  (hline:(apos.endLine == cpos.line)=true:=by rfl) (hs:starEach (e :: es) X.env=(false,eval e X.env) :: starEach es X.env:=by rfl) (hplain:(backTo cpos (starEach es X.env)).any (·.1)=false:=by rfl) :
  PE X (.Call (.Attribute o name apos) (e :: es) [] cpos) (Rg X.K T r to t):=by
 intro pins s σ H Q I h
 refine wpAny_Call_method_late hbase hfew hline rfl (bC (ho pins s σ H _ I h) fun v s1 ⟨x,H1,I1,r1,ty,q1⟩=>?_)
 obtain ⟨h1,h2⟩:=Hm I1 r1 ty
 refine ⟨T,id,pa,slot,hty,h1,h2,?_⟩
 have hA:=ha cpos pins s1 σ H1 _ I1 q1
 rw [hs] at hA ⊢
 refine Calls.callWith_builtin (by show (false || (backTo cpos (starEach es X.env)).any (·.1))=false;rw [hplain] <;> rfl) (Calls.evalArgs_plain ?_)
 exact bC hA fun us s2 ⟨vs,H2,I2,r2,q2⟩=>hm pins s2 σ H2 x vs v us Q I2 r1 r2 q2
end
def LM (X:Cx) (id:String) (r:V->List V->Hp->VK->Prop):Prop :=
 ∀ (pins:List (Addr × Obj)) (s:Shared) (σ:St) (H:Hp) (x:V) (xs:List V) (v:Value) (us:List Value) (Q:VK),Inv X pins σ H s->RelV x v->Vals xs us->r x xs H Q ->
  wpAny (model X.prog X.w) X.A (call (.builtin id) (v :: us)) (EP X pins σ Q) X.xe s
theorem Vals.one:∀ {x:V} {us:List Value},Vals [x] us->∃ u,us=[u]/\RelV x u
 | _,_,.cons r .nil=>⟨_,rfl,r⟩
theorem Vals.zero:∀ {us:List Value},Vals [] us->us=[]
 | _,.nil=>rfl
theorem Vals.dropLast {xs:List V} {us:List Value} (h:Vals xs us):Vals xs.dropLast us.dropLast:=by
 induction h with
 | nil=>exact .nil
 | cons r t ih =>
  cases t with
  | nil=>exact .nil
  | cons q t'=>exact .cons r ih
theorem Vals.reverse {xs:List V} {us:List Value} (h:Vals xs us):Vals xs.reverse us.reverse:=by
 induction h with
 | nil=>exact .nil
 | cons r t ih=>rw [List.reverse_cons,List.reverse_cons];exact Vals.append ih (.cons r .nil)
theorem Vals.rep {xs:List V} {us:List Value} (h:Vals xs us):∀ k:Nat,Vals (List.replicate k xs).flatten (List.replicate k us).flatten
 | 0=>.nil
 | k + 1=>by
  rw [List.replicate_succ,List.replicate_succ,List.flatten_cons,List.flatten_cons]
  exact Vals.append h (Vals.rep h k)
theorem GA {α:Type} (l:List α):l.eraseIdx (l.length - 1)=l.dropLast:=by
 induction l with
 | nil=>rfl
 | cons a r ih =>
  cases r with
  | nil=>rfl
  | cons b r =>
   have e:(a :: b :: r).length - 1=((b :: r).length - 1) + 1:=by
    have h1:(a :: b :: r).length=r.length + 2:=rfl
    have h2:(b :: r).length=r.length + 1:=rfl
    omega
   rw [e,List.eraseIdx_cons_succ,ih]
   all_goals rfl
theorem foldl_rep (its:List Value):∀ (k:Nat) (acc:List Value),
  List.foldl (fun x1 x2=>x1++x2) acc.toArray (List.replicate k its.toArray)=(acc++(List.replicate k its).flatten).toArray
 | 0,acc=>by simp
 | k + 1,acc=>by
  have e:acc.toArray++its.toArray=(acc++its).toArray:=by simp
  have e2:(acc++its)++(List.replicate k its).flatten=acc++(List.replicate (k + 1) its).flatten:=by
   rw [List.replicate_succ,List.flatten_cons,List.append_assoc]
  rw [<- e2,<- foldl_rep its k (acc++its),<- e,List.replicate_succ,List.foldl_cons]
section
variable {X:Cx} {pins:List (Addr × Obj)} {σ:St} {H:Hp} {s:Shared} {l b:Addr} {xs ys zs:List V}
theorem Inv.lset {its its':List Value} {n:Nat} {f:Array Value->Array Value} {t':Nat} (I:Inv X pins σ H s) (hH:H l=some (.lst xs))
  (e:s.heap.get? l=some { cls:=.type "list",data:=.seq its.toArray n }) (hf:f its.toArray=its'.toArray) (hv:Vals ys its') (hz:ys.length<=sizeLine) :
  Inv X pins σ (upd H l (.lst ys)) { s with heap:=s.heap.update l (Obj.mapSeq f),toks:=t' }:=by
 have q:=PySem.IsL.update e f
 rw [hf] at q
 refine I.write (x:=l) (e:=l) (by rw [hH];exact trivial) (.inl rfl) (fun b' u hb hu=>(Heap.get?_update_other s.heap (Obj.mapSeq f) (Ne.symm hb)).trans hu) ⟨_,q⟩ ?_
 exact ⟨hz,its',_,hv,q⟩
theorem Inv.lnew {its:List Value} {t':Nat} (I:Inv X pins σ H s) (hv:Vals ys its) (hz:ys.length<=sizeLine) :
  Inv X pins σ (upd H s.heap.objs.size (.lst ys)) { s with heap:=s.heap.push { cls:=.type "list",data:=.seq its.toArray },toks:=t' } :=
 I.laid (fun _ _ q=>Heap.get?_push_of_some _ q) (Nat.le_refl _) ⟨hz,its,0,hv,Heap.get?_push_size _ rfl⟩
theorem Inv.fresh (I:Inv X pins σ H s):H s.heap.objs.size=none:=I.hok.fresh (Nat.le_refl _)
theorem Inv.lstM (I:Inv X pins σ H s) (hH:H l=some (.lst xs)):xs.length<=sizeLine/\∃ (its:List Value) (n:Nat),Vals xs its/\xs.length=its.length/\s.heap.get? l=some { cls:=.type "list",data:=.seq its.toArray n }:=by
 obtain ⟨z,its,n,r,e⟩:=I.hok l _ hH
 exact ⟨z,its,n,r,r.length,e⟩
theorem Dz {n:Nat} (h:n<=sizeLine):Builtin.List.listTooLong n=false:=by
 unfold Builtin.List.listTooLong
 exact decide_eq_false (by omega)
end
section
variable {X:Cx}
def E2:V->List V->Hp->VK->Prop:=fun x vs H Q=>∃ l xs y,x=.ref l/\vs=[y]/\H l=some (.lst xs)/\xs.length < sizeLine/\Q .non (upd H l (.lst (xs++[y])))
theorem uJ:LM X "list.append" E2:=by
 intro pins s σ H x vs v us Q I rx rv h
 obtain ⟨l,xs,y,rfl,rfl,hH,hz,q⟩:=h
 cases rx
 obtain ⟨u,rfl,ru⟩:=rv.one
 obtain ⟨z,its,n,r,hl,e⟩:=I.lstM hH
 refine call_meets F.slot_list_append ⟨_,e,rfl⟩ F.entry_list_append (F.args_list_append_2 _ _) (PySem.list_append l its.toArray n u (by rw [List.size_toArray];omega)) ⟨e,?_⟩
 refine ⟨.non,_,I.lset (its':=its++[u]) hH e (by simp) (r.append (.cons ru .nil)) ?_,rfl,q⟩
 rw [List.length_append,List.length_singleton]
 omega
def Pm:V->List V->Hp->VK->Prop:=fun x vs H Q=>∃ l xs y,x=.ref l/\vs=[]/\H l=some (.lst xs)/\xs[xs.length - 1]?=some y/\Q y (upd H l (.lst xs.dropLast))
theorem Ob:LM X "list.pop" Pm:=by
 intro pins s σ H x vs v us Q I rx rv h
 obtain ⟨l,xs,y,rfl,rfl,hH,hy,q⟩:=h
 cases rx
 have hus:=rv.zero
 subst hus
 obtain ⟨z,its,n,r,hl,e⟩:=I.lstM hH
 obtain ⟨u,hu,ru⟩:=r.get hy
 have hy':its.toArray[its.toArray.size - 1]?=some u:=by
  show its.toArray[its.length - 1]?=some u
  rw [<- Array.getElem?_toList,<- hl]
  exact hu
 refine call_meets F.slot_list_pop ⟨_,e,rfl⟩ F.entry_list_pop (F.args_list_pop_1 _) (MeetsSeq.list_pop_last l its.toArray n u hy' (by rw [List.size_toArray];omega)) ⟨e,?_⟩
 refine ⟨y,_,I.lset (its':=its.dropLast) hH e ?_ r.dropLast ?_,ru,q⟩
 ·show its.toArray.eraseIdxIfInBounds (its.toArray.size - 1)=its.dropLast.toArray
  rw [List.size_toArray,List.eraseIdxIfInBounds_toArray,GA]
 ·rw [List.length_dropLast]
  omega
def P5:R2:=fun x y H Q=>∃ l k xs,x=.ref l/\y=.int k/\H l=some (.lst xs)/\-(2 ^ 63)<=k/\k < 2 ^ 63/\xs.length * k.toNat<=sizeLine /\
 ∀ p,H p=none->Q (.ref p) (upd H p (.lst (List.replicate k.toNat xs).flatten))
theorem len_rep {α:Type} (xs:List α) (k:Nat):(List.replicate k xs).flatten.length=k * xs.length:=by
 induction k with
 | zero=>simp
 | succ k ih=>rw [List.replicate_succ,List.flatten_cons,List.length_append,ih,Nat.succ_mul,Nat.add_comm]
theorem PM:dI X (binaryOp .Mult) P5:=by
 intro pins s σ H x y v u Q I rx ry h
 obtain ⟨l,k,xs,rfl,rfl,hH,h1,h2,hz,q⟩:=h
 cases rx
 obtain ⟨t,rfl⟩:=ry
 obtain ⟨z,its,n,r,hl,e⟩:=I.lstM hH
 have hlen:its.toArray.size * k.toNat<=sizeLine:=by rw [List.size_toArray,<- hl];exact hz
 have hcap:¬ its.toArray.size * k.toNat > (2 ^ 63 - 1) / 8:=by
  have:(sizeLine:Nat)<=(2 ^ 63 - 1) / 8:=by decide
  omega
 have hfit:¬ (!Builtin.List.listFitsIndex k)=true:=by
  rw [fitsIndex_both h1 h2]
  exact Bool.false_ne_true
 have hlong:¬ Builtin.List.listTooLong (its.toArray.size * k.toNat)=true:=by
  rw [Dz hlen]
  exact Bool.false_ne_true
 have hnew:List.foldl (fun x1 x2=>x1++x2) #[] (List.replicate (if its.toArray.isEmpty=true then 0 else k.toNat) its.toArray)=(List.replicate k.toNat its).flatten.toArray:=by
  have f0:∀ m:Nat,List.foldl (fun x1 x2=>x1++x2) #[] (List.replicate m its.toArray)=(List.replicate m its).flatten.toArray:=fun m=>by
   have:=foldl_rep its m []
   rw [List.nil_append] at this
   exact this
  rw [f0]
  cases its with
  | nil=>simp
  | cons a r'=>rw [if_neg (by simp)]
 refine wpAny_binaryOp_repeat_ref (T:="list") (U:="int") (by decide) ⟨_,e,rfl⟩ (fun s'=>typeIs_int s' k t) noFill_list_mul F.fills_int_mul F.slot_int_rmul repeat_list F.slot_int_index.lookup
  (call_meets F.slot_int_rmul (typeIs_int s k t) F.entry_int_rmul (F.args_int_rmul_2 _ _) (int___rmul___int_list k t l its.toArray n)
   ⟨e,rfl,⟨_,e,rfl⟩,call_meets F.slot_list_mul ⟨_,e,rfl⟩ F.entry_list_mul (F.args_list_mul_2 _ _) (AutoListH.list___mul___list_int_3 l its.toArray n k t hfit hcap hlong) ⟨e,?_⟩⟩)
 rw [hnew]
 exact ⟨.ref _,_,I.lnew (t':=s.toks) (r.rep k.toNat) (by rw [len_rep,Nat.mul_comm];exact hz),rfl,q _ I.fresh⟩
end
section
variable {prog:Program} {w:World} {A:Around} {E:Value->Shared->Prop} {s:Shared}
end
section
variable {X:Cx}
end
end L2
namespace Att
open PySem PySem.W PySem.Calls PyProof.Rows
theorem xT {P:Params} {h:Heap}:∀ (ns:List Int) (vs:List Value),WellAll P h vs (ns.map WData.int)->IntsAre vs ns:=by
 intro ns
 induction ns with
 | nil =>
  intro vs w
  rw [List.map_nil] at w
  cases w
  exact .nil
 | cons n ns ih =>
  intro vs w
  rw [List.map_cons] at w
  cases w with
  | cons a b =>
   cases a
   exact .cons _ _ (ih _ b)
theorem Il {l:OpenLaw} {n:Nat} (hn:l.most=some n) {P:Params} {h:Heap} {args:List WData} {vals:List Value}
  (hpre:l.row.toRowW.claim.pre args=true) (hwl:WellAll P h vals args) :
  ∃ a vs ns,vals=[Value.ref a]/\args=[WData.list (ns.map WData.int)]/\h.get? a=some { cls:=.type "list",data:=.seq vs.toArray }/\IntsAre vs ns/\ns.length<=n:=by
 have hsh:WShape.hasAll [] args [.list .int]=true:=(pre_splitW hpre).1
 have hc:l.pre.holds [] { args:=args }=true:=(pre_splitW hpre).2
 obtain ⟨d,r,rfl,h1,h2⟩:=hasAllW_cons hsh
 obtain rfl:=hasAllW_nil h2
 obtain ⟨xs,rfl,h3⟩:=hasW_list h1
 obtain ⟨ns,rfl⟩:=items_int h3
 have hlen:ns.length<=n:=by
  unfold OpenLaw.pre at hc
  have h4:(WTm.not (.lt (.lit (.int (n:Int))) (.len (.arg 0)))).holds [] { args:=[.list (ns.map .int)] }=true:=by
   have h4:=(holds_andW hc).1
   rw [hn] at h4
   exact h4
  have h5:=condW_of h4 (w_not (w_lt w_lit (w_len_list (w_arg rfl))))
  rw [List.length_map] at h5
  refine Nat.le_of_not_lt fun q=>?_
  have q':(n:Int) < ((ns.length:Nat):Int):=by omega
  first
   | (rw [decide_eq_true q'] at h5;exact absurd h5 (by decide))
   | (simp at h5;omega)
 cases hwl with
 | cons w1 w2 =>
  cases w2
  cases w1 with
  | list ho hall=>exact ⟨_,_,ns,rfl,rfl,ho,xT ns _ hall,hlen⟩
theorem Ir (l:OpenLaw) (args:List WData):l.row.toRowW.claim.post args (.bool true) args=true :=
 postW_of (r:=l.row.toRowW) (X:=(true == true))
  (show WShape.has [] (.bool true) .bool=true by first | rfl | decide | simp [WShape.has,WShape.arms,WShape.armsAll])
  (show (WTm.eq .res (.lit (.bool true))).value [] { args:=args,res:=some (.bool true),after:=args }=some (.bool (true == true)) from w_eq_bool (w_res rfl) w_lit) rfl
theorem attach_call {l:OpenLaw} {n:Nat} {q:Program} {loose:List Str} {XP:(Str->Option Value)->Heap->Prop} {YP:World->Heap->Prop} {d:DefRec}
  (hn:l.most=some n) (hdf:d.params.defaults=[])
  (call:∀ (w:World) (s₀ s₁:Shared) (mg mb:Str->Option Value) (fa:Addr) (o:Obj) (pm cd doc:Value) (a:Addr) (vs:List Value) (ns:List Int),
   Ground q loose [] XP w s₀ mg mb s₁.heap->YP w s₁.heap ->
   s₁.heap.get? fa=some o->o.data=.func (docDef d.name d.params d.body d.scope pm cd doc)->s₁.heap.CodeRec cd d.name->mg d.name=some (.ref fa) ->
   s₁.heap.get? a=some { cls:=.type "list",data:=.seq vs.toArray }->IntsAre vs ns->ns.length<=n->s₁.gens=#[] ->
   codeAny (model l.prog w) callerA (.call (.ref fa) ⟨[.ref a],[]⟩) (fun r s'=>r=.ok (.ret (.bool true))/\OldK s₁.heap s'.heap/\s'.os=s₁.os/\AllBare s'.gens) s₁) :
  WalkO q loose XP YP l.row.toRowW d [] (fun f vs=>PySem.call f vs):=by
 intro w s₀ s₁ mg mb G Y fa o pm cd doc dV kV ho hd hcd hD hmg hg args vals as hpre hlay hrd hwl hlo
 obtain rfl:dV=.none:=Dflts.none hD hdf
 obtain rfl:kV=.none:=Dflts.noKw hD
 obtain ⟨a,vs,ns,rfl,rfl,hobj,hints,hlen⟩:=Il hn hpre hwl
 refine enter_call (codeAny_mono (call w s₀ s₁ mg mb fa o pm cd doc a vs ns G Y ho (fd_plain hd) hcd hmg hobj hints hlen hg) fun r s' hq=>?_)
 obtain ⟨rfl,h2,h3,h4⟩:=hq
 exact ⟨.inl ⟨.bool true,.bool true,[],rfl,fun _=>rfl,.bool true,Ir l _,fun _=>⟨List.Pairwise.nil,fun _ hm=>(nomatch hm)⟩⟩,h2,h3,h4⟩
section
variable {prog:Program} {w:World} {A:Around} {E:Value->Shared->Prop} {s:Shared} {K:Frag}
end
end Att
namespace L2
open PySem PySem.Spec PyProof.Rows
theorem A0:∀ {vs:List Value} {ns:List Int},IntsAre vs ns->Vals (ns.map V.int) vs
 | _,_,.nil=>.nil
 | _,_,.cons n t h=>.cons ⟨t,rfl⟩ (A0 h)
def Jy (H:Hp):Prop:=∀ b,H b=none\/∃ o xs,H b=some (.frz o (.lst xs))
theorem JB {P:Program} {w:World} {K:PySem.W.Frag} {mg mb:Str->Option Value} {CX:tI} {k:Nat} {fa a:Addr} {fd:FuncData} {x:Str} {sp:Sp} {s₁:Shared} {vs:List Value} {ns:List Int}
  (KX:K.In s₁.heap) (hns:s₁.heap.Ns mainGlobals mg) (hb:s₁.heap.Ns builtinsNs mb) (hbb:∀ x:Str,x≠"__name__"->mb x=bootBuiltins x) (hlim:s₁.heap.NoLimit) (hg:s₁.gens=#[])
  (ha:s₁.heap.get? a=some { cls:=.type "list",data:=.seq vs.toArray }) (hi:IntsAre vs ns) (hl:ns.length<=sizeLine) (hr:eN k callerA)
  (F:∀ base:Heap,K.In base->base.Ns mainGlobals mg->i6 P w K mg base CX k fa fd [x] sp) (hbind:∀ (s:Shared) (u:Value),BindsTo s fd ⟨[u],[]⟩ [(x,u)])
  (hsp:∀ H:Hp,Jy H->dN K H a (ns.map V.int)->sp [.ref a] H (fun v _=>v=.bl true) fun _ _ _=>False)
  (hCX:∀ H e s',CX [] H s₁ (fun _ _ _=>False) e s'->False) :
  codeAny (model P w) callerA (.call (.ref fa) ⟨[.ref a],[]⟩) (fun r s'=>r=.ok (.ret (.bool true))/\OldK s₁.heap s'.heap/\s'.os=s₁.os/\AllBare s'.gens) s₁:=by
 have rv:=A0 hi
 have lenV:=hi.length
 have core:∀ H:Hp,Jy H->dN K H a (ns.map V.int)->fT P w H s₁.heap->(∀ b,H b≠none->b=a)->(H a≠none->K.lookup a=none) ->
   codeAny (model P w) callerA (.call (.ref fa) ⟨[.ref a],[]⟩) (fun r s'=>r=.ok (.ret (.bool true))/\OldK s₁.heap s'.heap/\s'.os=s₁.os/\AllBare s'.gens) s₁:=by
  intro H hO hS hok hA hK
  have base_of:∀ {b:Addr} {o:Obj},s₁.heap.get? b=some o->H b=none->(rW s₁.heap H).get? b=some o:=fun e n=>Js e n
  have noA:∀ {b:Addr} {o:Obj} {es:Array DictEntry} {ep:Nat},s₁.heap.get? b=some o->o.data=.dict es ep->H b=none:=fun {b o es ep} e d=>by
   cases q:H b with
   | none=>rfl
   | some u =>
    have e':b=a:=hA b (by rw [q];simp)
    subst e'
    rw [ha] at e;cases e
    have d':Data.seq vs.toArray _=Data.dict es ep:=d
    cases d'
  have nsK:∀ {b:Addr} {m:Str->Option Value},s₁.heap.Ns b m->(rW s₁.heap H).Ns b m:=fun {b m} ⟨o,es,ep,e,d,r⟩=>⟨o,es,ep,base_of e (noA e d),d,r⟩
  have hKb:K.In (rW s₁.heap H):=fun b o e=>base_of (KX b o e) (by
   cases q:H b with
   | none=>rfl
   | some u =>
    have e':b=a:=hA b (by rw [q];simp)
    subst e'
    rw [hK (by rw [q];simp)] at e;cases e)
  have hM:Mod K mg (rW s₁.heap H):=⟨hKb,nsK hns,⟨mb,nsK hb,hbb⟩,let ⟨mc,h1,h2⟩:=hlim;⟨mc,nsK h1,h2⟩⟩
  have e0:Gu P w K mg (rW s₁.heap H) callerA [] s₁ H:=⟨rfl,hM,fun b o e=>Nn e,Nat.le_of_eq (Hf _ _),trivial,fun b hb=>absurd (show b∈([]:List Addr) from hb) (by simp),hok,.of_eq hg⟩
  refine codeAny_mono ((F _ hKb (nsK hns)).run callerA [] s₁ H ⟨[.ref a],[]⟩ [.ref a] [.ref a] _ _ hr e0 (hbind s₁ (.ref a)) (.cons rfl .nil) (hsp H hO hS)) fun r s' h=>?_
  cases r with
  | error e=>exact (hCX H e s' h).elim
  | ok fl =>
   cases fl with
   | next=>exact False.elim h
   | brk=>exact False.elim h
   | cont=>exact False.elim h
   | ret u =>
    obtain ⟨v,H',os,bare,un,hok',r',q⟩:=h
    have q':v=.bl true:=q
    subst q'
    obtain rfl:u=Value.bool true:=r'
    refine ⟨rfl,OldK.of_keep fun b o e=>?_,os,bare⟩
    cases q:H b with
    | none=>exact un.keep b o e q (by intro z;exact absurd (show b∈([]:List Addr) from z) (by simp)) (by simp)
    | some u =>
     rcases hO b with z | ⟨ob,xs,z⟩
     ·rw [q] at z;cases z
     ·have z2:=un.frzs b ob _ z
      obtain ⟨e1,_⟩:=hok b _ z
      obtain ⟨e2,_⟩:=hok' b _ z2
      rw [e] at e1;cases e1
      exact e2
 cases hk:K.lookup a with
 | some o =>
  have e:=KX a o hk
  rw [ha] at e
  cases e
  refine core (fun _=>none) (fun _=>.inl rfl) (.inr ⟨_,vs.toArray,_,hk,rfl,rfl,rfl,by rw [List.size_toArray,lenV];exact hl,by simpa using rv⟩) (fun b u z=>by have z':(none:Option HO)=some u:=z;cases z') (fun b z=>absurd rfl z) fun z=>absurd rfl z
 | none =>
  refine core (fun b=>if b=a then some (.frz { cls:=.type "list",data:=.seq vs.toArray } (.lst (ns.map V.int))) else none) (fun b=>?_) (.inl (.inr ⟨{ cls:=.type "list",data:=.seq vs.toArray },if_pos rfl⟩)) (fun b u z=>?_) (fun b z=>?_) fun _=>hk
  ·by_cases hb:b=a
   ·exact .inr ⟨_,_,if_pos hb⟩
   ·exact .inl (if_neg hb)
  ·by_cases hb:b=a
   ·have z':=(if_pos hb).symm.trans z
    cases z'
    subst hb
    exact ⟨ha,by rw [List.length_map];exact hl,vs,_,rv,ha⟩
   ·have z':=(if_neg hb).symm.trans z
    cases z'
  ·by_cases hb:b=a
   ·exact hb
   ·exact absurd (if_neg hb) z
theorem Nz {l:PySem.W.OpenLaw} {n k:Nat} {q:Program} {loose:List Str} {XP:(Str->Option Value)->Heap->Prop} {YP:World->Heap->Prop} {d:DefRec} {K:Params->PySem.W.Frag} {CX:World->tI} {sp:World->Sp} {x:Str}
  (hn:l.most=some n) (hn2:n<=sizeLine) (hdf:d.params.defaults=[]) (hr:eN k callerA)
  (hY:∀ (w:World) (h:Heap),YP w h->(K w.params).In h)
  (F:∀ (w:World) (mg:Str->Option Value) (fa:Addr) (h:Heap),(K w.params).In h->h.Ns mainGlobals mg->mg d.name=some (.ref fa) ->
   ∃ fd:FuncData,(∀ (s:Shared) (u:Value),BindsTo s fd ⟨[u],[]⟩ [(x,u)]) /\
    ∀ base:Heap,(K w.params).In base->base.Ns mainGlobals mg->i6 l.prog w (K w.params) mg base (CX w) k fa fd [x] (sp w))
  (hsp:∀ (w:World) (H:Hp) (a:Addr) (ns:List Int),ns.length<=n->Jy H->dN (K w.params) H a (ns.map V.int)->sp w [.ref a] H (fun v _=>v=.bl true) fun _ _ _=>False)
  (hCX:∀ (w:World) (H:Hp) (s:Shared) (e:Value) (s':Shared),CX w [] H s (fun _ _ _=>False) e s'->False) :
  PySem.W.WalkO q loose XP YP l.row.toRowW d [] (fun f vs=>PySem.call f vs):=by
 refine Att.attach_call hn hdf fun w s₀ s₁ mg mb fa o pm cd doc a vs ns G Y ho hd hcd hmg hobj hints hlen hg=>?_
 have KX:=hY w _ Y
 obtain ⟨fd,hb,hF⟩:=F w mg fa _ KX G.T.g hmg
 exact JB KX G.T.g G.T.b G.T.builtins G.T.nolimit hg hobj hints (Nat.le_trans hlen hn2) hr hF hb (fun H hO hS=>hsp w H a ns hlen hO hS) fun H e s'=>hCX w H s₁ e s'
end L2
namespace L2
open PySem PySem.Spec PyProof.Rows
def j9 (s:Stmt):Arguments:=match s with
 | .FunctionDef _ a _ _ _ _ _ _ _ _=>a
 | _=>{ posonlyargs:=[],args:=[],vararg:=none,kwonlyargs:=[],kw_defaults:=[],kwarg:=none,defaults:=[] }
def fN (s:Stmt):List Stmt:=match s with
 | .FunctionDef _ _ b _ _ _ _ _ _ _=>b
 | _=>[]
def aR (s:Stmt):Scope:=match s with
 | .FunctionDef _ _ _ _ _ _ sc _ _ _=>sc
 | _=>{ kind:=.function,names:=[],isGenerator:=false,isCoroutine:=false }
abbrev qM:tI:=fun _ _ _ _ _ _=>False
abbrev E0:XK:=fun _ _ _=>False
theorem L8 {X:Cx}:Passes qM X E0:=fun _ _ _ _ _ _ _ h=>h.elim
structure dE (K:PySem.W.Frag) (x qual:Str) (st:Stmt) (f:Addr) (fd:FuncData):Prop where
 ex:∃ (oc:Value) (od:Option Addr) (kV doc pm:Value) (an:Option Addr) (cdv ct:Value) (osl:Array (Option Value)),
  fd=PySem.W.fnOf x qual (j9 st) (fN st) (aR st) .none kV doc pm an cdv ct/\K.lookup f=some ⟨oc,od,.func fd,osl⟩/\PySem.W.codeIn K cdv qual=true
 kp:PySem.W.keepIn K (.ref f)=true
section
variable {P:Program} {w:World} {K:PySem.W.Frag} {mg:Str->Option Value} {base:Heap}
theorem dE.ok {x qual:Str} {st:Stmt} {f:Addr} {fd:FuncData} {N ps:List Str} {k:Nat} {sp:Sp} (F:dE K x qual st f fd) (S:bD N ps (aR st)) (len:∀ vs H Q E,sp vs H Q E->vs.length=ps.length)
  (hbody:∀ (cdv:Value) (A:Around) (outer:List Env) (s:Shared) (H:Hp) (vs:List V) (Q:VK) (E:XK),eN k (A.deeper (envOfC qual (aR st) s.heap.objs.size f cdv))->sp vs H Q E ->
   ∃ t,pF (AH qM P w K mg base N qual (aR st) f cdv A outer s H E).nox (fN st) t/\t { nx:=fun _ H'=>Q .non H',rt:=Q } (start N vs) H):i6 P w K mg base qM (k + 1) f fd ps sp:=by
 obtain ⟨oc,od,kV,doc,pm,an,cdv,ct,osl,rfl,lk,hcd⟩:=F.ex
 refine QU lk hcd S len fun A outer s H vs Q E hr hsp=>?_
 obtain ⟨t,h,q⟩:=hbody cdv A outer s H vs Q E hr hsp
 exact ⟨t,h.nox,q⟩
theorem dE.binds {x qual:Str} {st:Stmt} {f:Addr} {fd:FuncData} {ps:List Str} (F:dE K x qual st f fd)
  (h:∀ (kV doc pm:Value) (an:Option Addr) (cdv ct:Value) (us:List Value),us.length=ps.length->bindArgs (PySem.W.fnOf x qual (j9 st) (fN st) (aR st) .none kV doc pm an cdv ct) ⟨us,[]⟩=pure (ps.zip us)):Binds K fd ps []:=by
 obtain ⟨oc,od,kV,doc,pm,an,cdv,ct,osl,rfl,lk,hcd⟩:=F.ex
 exact .all (h kV doc pm an cdv ct)
theorem HC {x qual:Str} {st:Stmt} {f:Addr} {oc:Value} {od an:Option Addr} {osl:Array (Option Value)} {kV doc pm cdv ct:Value} (l:K.lookup f=some ⟨oc,od,.func (PySem.W.fnOf x qual (j9 st) (fN st) (aR st) .none kV doc pm an cdv ct),osl⟩)
  (c:PySem.W.codeIn K cdv qual=true) (k:PySem.W.keepIn K (.ref f)=true):dE K x qual st f (PySem.W.fnOf x qual (j9 st) (fN st) (aR st) .none kV doc pm an cdv ct):=⟨⟨oc,od,kV,doc,pm,an,cdv,ct,osl,rfl,l,c⟩,k⟩
end
theorem zG {A:Around} {k:Nat} (hr:eN k A):A.units + 1 < cLine:=Nat.lt_of_le_of_lt (Nat.add_le_add_left (by decide:1<=64) _) hr.units
section
variable {X:Cx}
end
theorem oU {c A B:Prop} [Decidable c] (h1:c->A) (h2:¬ c->B):if c then A else B:=by
 by_cases h:c
 ·rw [if_pos h]
  exact h1 h
 ·rw [if_neg h]
  exact h2 h
section
variable {κ:Type} [DecidableEq κ]
def lR (kvs:List (κ × V)) (k:κ):Option V:=(kvs.find? fun kv=>decide (kv.1=k)).map (·.2)
def putK (kvs:List (κ × V)) (k:κ) (v:V):List (κ × V) :=
 if (kvs.any fun kv=>decide (kv.1=k))=true then kvs.map (fun kv=>if kv.1=k then (kv.1,v) else kv) else kvs++[(k,v)]
def sQ (kvs:List (κ × V)) (k:κ):List (κ × V):=kvs.filter fun kv=>decide (kv.1≠k)
theorem jN {p:κ × V} {r:List (κ × V)} {k:κ} (e:p.1=k):lR (p :: r) k=some p.2:=by simp [lR,List.find?_cons,e]
theorem jW {p:κ × V} {r:List (κ × V)} {k:κ} (e:¬ p.1=k):lR (p :: r) k=lR r k:=by simp [lR,List.find?_cons,e]
theorem xK (k:κ):∀ kvs:List (κ × V),(kvs.any fun kv=>decide (kv.1=k))=(lR kvs k).isSome
 | []=>rfl
 | p :: r=>by
  rw [List.any_cons]
  by_cases e:p.1=k
  ·simp only [jN e,decide_eq_true e,Bool.true_or,Option.isSome_some]
  ·rw [jW e,decide_eq_false e,Bool.false_or];exact xK k r
theorem KR (k j:κ) (y:V):∀ kvs:List (κ × V),lR (kvs.map fun kv=>if kv.1=k then (kv.1,y) else kv) j=(lR kvs j).map fun x=>if j=k then y else x
 | []=>rfl
 | p :: r=>by
  have ih:=KR k j y r
  rw [List.map_cons]
  by_cases h:p.1=k
  ·rw [if_pos h]
   by_cases e:p.1=j
   ·rw [jN (p:=(p.1,y)) e,jN e,Option.map_some,if_pos (e.symm.trans h)]
   ·rw [jW (p:=(p.1,y)) e,jW e,ih]
  ·rw [if_neg h]
   by_cases e:p.1=j
   ·rw [jN (p:=p) e,jN e,Option.map_some,if_neg (fun z=>h (e.trans z))]
   ·rw [jW (p:=p) e,jW e,ih]
theorem pX (kvs:List (κ × V)) (k:κ) (v:V):(putK kvs k v).length<=kvs.length + 1:=by
 unfold putK
 split
 ·rw [List.length_map];omega
 ·rw [List.length_append,List.length_cons,List.length_nil];omega
theorem Ru {kvs:List (κ × V)} {k:κ} (v:V) (h:lR kvs k=none):putK kvs k v=kvs++[(k,v)]:=by
 unfold putK
 rw [xK,h]
 exact if_neg (by decide)
theorem nG.isSome_eq {o:Option V} {u:Option Value} (r:nG o u):o.isSome=u.isSome:=by
 cases o with
 | none=>cases u with
  | none=>rfl
  | some _=>exact (show False from r).elim
 | some _=>cases u with
  | none=>exact (show False from r).elim
  | some _=>rfl
theorem nG.getD {o:Option V} {u:Option Value} {d:V} {d':Value} (r:nG o u) (rd:RelV d d'):RelV (o.getD d) (u.getD d'):=by
 cases o with
 | none=>cases u with
  | none=>exact rd
  | some _=>exact (show False from r).elim
 | some _=>cases u with
  | none=>exact (show False from r).elim
  | some _=>exact r
theorem KV.val {kvs:List (κ × V)} {vs:List (κ × Value)} (r:KV kvs vs) (k:κ):nG (lR kvs k) (valueAt vs k):=by
 unfold KV at r
 induction r with
 | nil=>exact True.intro
 | @cons p q ps qs h t ih =>
  obtain ⟨h1,h2⟩:=h
  by_cases e:p.1=k
  ·have e':q.1=k:=h1.symm.trans e
   have b:valueAt (q :: qs) k=some q.2:=by simp [valueAt,List.find?_cons,e']
   rw [jN e,b];exact h2
  ·have e':¬ q.1=k:=fun z=>e (h1.trans z)
   have b:valueAt (q :: qs) k=valueAt qs k:=by simp [valueAt,List.find?_cons,e']
   rw [jW e,b];exact ih
theorem KV.any {kvs:List (κ × V)} {vs:List (κ × Value)} (r:KV kvs vs) (k:κ):(kvs.any fun kv=>decide (kv.1=k))=vs.any fun kv=>decide (kv.1=k):=by
 unfold KV at r
 induction r with
 | nil=>rfl
 | cons h t ih=>rw [List.any_cons,List.any_cons,ih,h.1]
theorem KV.repl {kvs:List (κ × V)} {vs:List (κ × Value)} (r:KV kvs vs) (k:κ) {y:V} {u:Value} (ry:RelV y u) :
  KV (kvs.map fun kv=>if kv.1=k then (kv.1,y) else kv) (vs.map fun kv=>if kv.1=k then (kv.1,u) else kv):=by
 unfold KV at r ⊢
 induction r with
 | nil=>exact .nil
 | @cons p q ps qs h t ih =>
  rw [List.map_cons,List.map_cons]
  refine .cons ?_ ih
  obtain ⟨h1,h2⟩:=h
  by_cases e:p.1=k
  ·rw [if_pos e,if_pos (h1.symm.trans e)];exact ⟨h1,ry⟩
  ·rw [if_neg e,if_neg (fun z=>e (h1.trans z))];exact ⟨h1,h2⟩
theorem KV.put {kvs:List (κ × V)} {vs:List (κ × Value)} (r:KV kvs vs) (k:κ) {y:V} {u:Value} (ry:RelV y u):KV (putK kvs k y) (stored vs k u):=by
 unfold putK stored
 rw [r.any k]
 by_cases e:(vs.any fun kv=>decide (kv.1=k))=true
 ·rw [if_pos e,if_pos e];exact r.repl k ry
 ·rw [if_neg e,if_neg e];exact Paired.snoc r ⟨rfl,ry⟩
theorem KV.length {kvs:List (κ × V)} {vs:List (κ × Value)} (r:KV kvs vs):kvs.length=vs.length:=Paired.length r
end
theorem sX {P:Program} {w:World} {k:Key} {u:Value} (r:RelV (kV k) u):(cN P w).is k u=true:=by
 cases k with
 | inl i=>obtain ⟨t,e⟩:=(show ∃ t,u=Value.int i t from r);subst e;exact D4 P w i t
 | inr x=>obtain ⟨t,e⟩:=(show ∃ t,u=Value.str x t from r);subst e;exact DO P w x t
theorem O8 {a b:Key} (e:kV a=kV b):a=b:=by
 cases a with
 | inl i=>cases b with
  | inl j=>have e':V.int i=V.int j:=e;injection e' with e';rw [e']
  | inr y=>exact nomatch (show V.int i=V.str y from e)
 | inr x=>cases b with
  | inl j=>exact nomatch (show V.str x=V.int j from e)
  | inr y=>have e':V.str x=V.str y:=e;injection e' with e';rw [e']
theorem NS:∀ {a b:List Key},a.map kV=b.map kV->a=b
 | [],[],_=>rfl
 | [],_ :: _,e=>by simp at e
 | _ :: _,[],e=>by simp at e
 | x :: xs,y :: ys,e=>by
  rw [List.map_cons,List.map_cons] at e
  injection e with e1 e2
  rw [O8 e1,NS e2]
theorem A6 {P:Program} {w:World}:∀ {ks:List Key} {us:List Value},Vals (ks.map kV) us->ItemsAre (cN P w) ks us
 | [],_,r=>by rw [List.map_nil] at r;cases r;exact .nil
 | k :: ks,_,r=>by
  rw [List.map_cons] at r
  cases r with
  | cons h t=>exact .cons (sX h) (A6 t)
abbrev pL (H:Hp):List (List Key × V)->List (List Key × Addr × Value)->Prop:=Paired fun p q=>p.1=q.1/\H q.2.1=some (.tup (p.1.map kV))/\RelV p.2 q.2.2
theorem pL.val {H:Hp} {kvs:List (List Key × V)} {xs:List (List Key × Addr × Value)} (r:pL H kvs xs) (k:List Key):nG (lR kvs k) ((atKey xs k).map (·.2)):=by
 induction r with
 | nil=>exact True.intro
 | @cons p q ps qs h t ih =>
  obtain ⟨h1,_,h2⟩:=h
  by_cases e:p.1=k
  ·have e':q.1=k:=h1.symm.trans e
   have b:atKey (q :: qs) k=some q.2:=by simp [atKey,List.find?_cons,e']
   rw [jN e,b];exact h2
  ·have e':¬ q.1=k:=fun z=>e (h1.trans z)
   have b:atKey (q :: qs) k=atKey qs k:=by simp [atKey,List.find?_cons,e']
   rw [jW e,b];exact ih
theorem pL.repl {H:Hp} {kvs:List (List Key × V)} {xs:List (List Key × Addr × Value)} (r:pL H kvs xs) (k:List Key) {y:V} {u:Value} (ry:RelV y u) :
  pL H (kvs.map fun kv=>if kv.1=k then (kv.1,y) else kv) (xs.map (putAt k u)):=by
 induction r with
 | nil=>exact .nil
 | @cons p q ps qs h t ih =>
  rw [List.map_cons,List.map_cons]
  refine .cons ?_ ih
  obtain ⟨h1,h2,h3⟩:=h
  unfold putAt
  by_cases e:p.1=k
  ·rw [if_pos e,if_pos (h1.symm.trans e)];exact ⟨h1,h2,ry⟩
  ·rw [if_neg e,if_neg (fun z=>e (h1.trans z))];exact ⟨h1,h2,h3⟩
theorem pL.put {H:Hp} {kvs:List (List Key × V)} {xs:List (List Key × Addr × Value)} (r:pL H kvs xs) (k:List Key) {b:Addr} {y:V} {u:Value} (hb:H b=some (.tup (k.map kV))) (ry:RelV y u) :
  pL H (putK kvs k y) (storedH xs k b u):=by
 have e:(kvs.any fun kv=>decide (kv.1=k))=(atKey xs k).isSome:=by
  rw [xK,(r.val k).isSome_eq,Option.isSome_map]
 unfold putK storedH
 rw [e]
 by_cases q:(atKey xs k).isSome=true
 ·rw [if_pos q,if_pos q];exact r.repl k ry
 ·rw [if_neg q,if_neg q];exact Paired.snoc r ⟨rfl,hb,ry⟩
theorem pL.keeps {H H':Hp} {kvs:List (List Key × V)} {xs:List (List Key × Addr × Value)} (r:pL H kvs xs) (ht:∀ b ys,H b=some (.tup ys)->H' b=some (.tup ys)):pL H' kvs xs :=
 Paired.mapP r fun _ _ z=>⟨z.1,ht _ _ z.2.1,z.2.2⟩
section
variable {P:Program} {w:World} {H:Hp} {h:Heap} {a:Addr}
theorem LO {u:HO} (ok:fT P w H h) (e:Rd H a u):dB P w H h a u:=e.ok ok
theorem rF {kvs:List (Key × V)} (ok:fT P w H h) (e:Rd H a (.dK kvs)):kvs.length<=sizeLine/\(a == sysModules)=false/\∃ vs,KV kvs vs/\h.DictOf (cN P w) a vs :=
 show dB P w H h a (.dK kvs) from LO ok e
theorem QB {kvs:List (Key × V)} (ok:fT P w H h) (e:H a=some (.dK kvs)):kvs.length<=sizeLine/\(a == sysModules)=false/\∃ vs,KV kvs vs/\h.DictOf (cN P w) a vs:=rF ok (.inl e)
theorem qO {ks:List Key} (ok:fT P w H h) (e:H a=some (.tup (ks.map kV))):(tupleKind (cN P w)).is h ks a:=by
 obtain ⟨_,its,r,o,h1,h2,n,h3⟩:=(show dB P w H h a (.tup (ks.map kV)) from ok a _ e)
 exact ⟨o,its.toArray,n,h1,h2,h3,by simpa using A6 r⟩
theorem rY {kvs:List (List Key × V)} (ok:fT P w H h) (e:Rd H a (.dT kvs)):kvs.length<=sizeLine/\(a == sysModules)=false /\
  ∃ xs,pL H kvs xs/\h.DictOfH (tupleKind (cN P w)) a xs:=by
 obtain ⟨z,y,xs,r,o,es,ep,h1,h2,h3,h4,h5⟩:=(show dB P w H h a (.dT kvs) from LO ok e)
 refine ⟨z,y,xs,r,o,es,ep,h1,h2,h3,h4,fun x hx=>?_,h5⟩
 have all:∀ {l:List (List Key × V)} {m:List (List Key × Addr × Value)},pL H l m->∀ x∈m,(tupleKind (cN P w)).is h x.1 x.2.1:=by
  intro l m q
  induction q with
  | nil=>intro x hx;exact nomatch hx
  | @cons p q ps qs hq t ih =>
   intro x hx
   rcases List.mem_cons.mp hx with e | hx
   ·subst e
    exact qO ok (by rw [<- hq.1];exact hq.2.1)
   ·exact ih x hx
 exact all r x hx
theorem Q4 {kvs:List (List Key × V)} (ok:fT P w H h) (e:H a=some (.dT kvs)):kvs.length<=sizeLine/\(a == sysModules)=false /\
  ∃ xs,pL H kvs xs/\h.DictOfH (tupleKind (cN P w)) a xs:=rY ok (.inl e)
end
def p8 (H:Hp) (a:Addr) (y:V) (r:Option V):Prop :=
 (∃ kvs k,Rd H a (.dK kvs)/\y=kV k/\r=lR kvs k)\/∃ kvs k b,Rd H a (.dT kvs)/\y=.ref b/\H b=some (.tup (k.map kV))/\r=lR kvs k
def AJ (H:Hp) (a:Addr) (y v:V) (H':Hp):Prop :=
 (∃ kvs k,H a=some (.dK kvs)/\y=kV k/\kvs.length < sizeLine/\H'=upd H a (.dK (putK kvs k v))) \/
 ∃ kvs k b,H a=some (.dT kvs)/\y=.ref b/\H b=some (.tup (k.map kV))/\kvs.length < sizeLine/\H'=upd H a (.dT (putK kvs k v))
theorem AJ.k {H:Hp} {a:Addr} {kvs:List (Key × V)} {k:Key} {v:V} (e:H a=some (.dK kvs)) (hl:kvs.length < sizeLine):AJ H a (kV k) v (upd H a (.dK (putK kvs k v))):=.inl ⟨kvs,k,e,rfl,hl,rfl⟩
theorem AJ.t {H:Hp} {a b:Addr} {kvs:List (List Key × V)} {k:List Key} {v:V} (e:H a=some (.dT kvs)) (eb:H b=some (.tup (k.map kV))) (hl:kvs.length < sizeLine) :
  AJ H a (.ref b) v (upd H a (.dT (putK kvs k v))):=.inr ⟨kvs,k,b,e,rfl,eb,hl,rfl⟩
section
variable {X:Cx} {pins:List (Addr × Obj)} {σ:St} {H:Hp} {s:Shared} {a:Addr} {y v:V} {u r:Value} {o:Option V} {A:Around} {E:Value->Shared->Prop}
theorem Inv.big (I:Inv X pins σ H s):sysModules < s.heap.objs.size:=by
 have h:mainGlobals < s.heap.objs.size:=(I.mod.glob.keeps I.bk).lt
 exact Nat.lt_trans (by decide) h
theorem Hb {Q:Value->Shared->Prop} (hu:A.units + 1 < cLine) (I:Inv X pins σ H s) (g:p8 H a y (some v)) (ry:RelV y u) (h:∀ w' s',Inv X pins σ H s'->RelV v w'->Q w' s') :
  wpAny (model X.prog X.w) A (getItem (.ref a) u) Q E s:=by
 rcases g with ⟨kvs,k,e,ey,l⟩ | ⟨kvs,k,b,e,ey,eb,l⟩
 ·subst ey
  obtain ⟨z,hd,vs,rel,dd⟩:=rF I.hok e
  obtain ⟨w',hw,rw'⟩:=nG.some_of (v:=v) (o:=valueAt vs k) (by rw [l];exact rel.val k)
  exact wpAny_getItem_of (sX ry) dd.mapOf hw (h w' _ (I.tok _) rw')
 ·subst ey
  cases (show u=Value.ref b from ry)
  obtain ⟨z,hd,xs,rel,dd⟩:=rY I.hok e
  obtain ⟨w',hw,rw'⟩:=nG.some_of (v:=v) (o:=(atKey xs k).map (·.2)) (by rw [l];exact rel.val k)
  obtain ⟨p,hp,hp2⟩:=Option.map_eq_some_iff.mp hw
  refine wpAny_getItem_heap (tupleKind_room_in1 hu) (qO I.hok eb) dd hp ?_
  rw [hp2]
  exact h w' _ (I.tok _) rw'
theorem RB {Q:Value->Shared->Prop} (hu:A.units + 1 < cLine) (I:Inv X pins σ H s) (g:p8 H a y o) (ry:RelV y u) (h:∀ s',Inv X pins σ H s'->Q (.bool o.isSome) s') :
  wpAny (model X.prog X.w) A (compareOp .In u (.ref a)) Q E s:=by
 rcases g with ⟨kvs,k,e,ey,l⟩ | ⟨kvs,k,b,e,ey,eb,l⟩
 ·subst ey
  obtain ⟨z,hd,vs,rel,dd⟩:=rF I.hok e
  refine wpAny_in_of (sX ry) hd dd.mapOf ?_
  rw [<- (rel.val k).isSome_eq,<- l]
  exact h _ (I.tok _)
 ·subst ey
  cases (show u=Value.ref b from ry)
  obtain ⟨z,hd,xs,rel,dd⟩:=rY I.hok e
  refine wpAny_in_heap (tupleKind_room_in1 hu) (qO I.hok eb) hd dd ?_
  have q:=(rel.val k).isSome_eq
  rw [Option.isSome_map] at q
  rw [<- q,<- l]
  exact h _ (I.tok _)
theorem Mt {Q:Value->Shared->Prop} (hu:A.units + 1 < cLine) (I:Inv X pins σ H s) (g:p8 H a y o) (ry:RelV y u) (h:∀ s',Inv X pins σ H s'->Q (.bool (!o.isSome)) s') :
  wpAny (model X.prog X.w) A (compareOp .NotIn u (.ref a)) Q E s:=by
 rcases g with ⟨kvs,k,e,ey,l⟩ | ⟨kvs,k,b,e,ey,eb,l⟩
 ·subst ey
  obtain ⟨z,hd,vs,rel,dd⟩:=rF I.hok e
  refine wpAny_notIn_of (sX ry) hd dd.mapOf ?_
  rw [<- (rel.val k).isSome_eq,<- l]
  exact h _ (I.tok _)
 ·subst ey
  cases (show u=Value.ref b from ry)
  obtain ⟨z,hd,xs,rel,dd⟩:=rY I.hok e
  refine wpAny_notIn_heap (tupleKind_room_in1 hu) (qO I.hok eb) hd dd ?_
  have q:=(rel.val k).isSome_eq
  rw [Option.isSome_map] at q
  rw [<- q,<- l]
  exact h _ (I.tok _)
theorem ER {h':Heap} {t':Nat} {ob:HO} (I:Inv X pins σ H s) (mu:Ie (H a)) (hs:Heap.SameBut a s.heap h') (he:∃ q,h'.get? a=some q) (new:dB X.prog X.w (upd H a ob) h' a ob) :
  Inv X pins σ (upd H a ob) { s with heap:=h',toks:=t' } :=
 I.write (x:=a) (e:=a) mu (.inl rfl) (fun b q hb z=>(hs.2 b hb).trans z) he new
theorem Pc {P:Program} {w:World} {H':Hp} {h':Heap} {kvs:List (Key × V)} {vs:List (Key × Value)} (z:kvs.length<=sizeLine) (hd:(a == sysModules)=false) (rel:KV kvs vs) (dd:h'.DictOf (cN P w) a vs) :
  dB P w H' h' a (.dK kvs):=⟨z,hd,vs,rel,dd⟩
theorem Io {H':Hp} {Q:Unit->Shared->Prop} (hu:A.units + 1 < cLine) (I:Inv X pins σ H s) (g:AJ H a y v H') (ry:RelV y u) (rv:RelV v r) (h:∀ s',Inv X pins σ H' s'->Q () s') :
  wpAny (model X.prog X.w) A (setItem (.ref a) u r) Q E s:=by
 rcases g with ⟨kvs,k,e,ey,l,eH⟩ | ⟨kvs,k,b,e,ey,eb,l,eH⟩
 ·subst ey eH
  obtain ⟨z,hd,vs,rel,dd⟩:=QB I.hok e
  have hz:vs.length<=sizeLine:=by rw [<- rel.length];exact z
  have hl:(putK kvs k v).length<=sizeLine:=by have:=pX kvs k v;omega
  refine wpAny_setItem_pairs (hsz:=hz) (sX ry) dd fun h' dd' hs=>h _ ?_
  have he:∃ q,h'.get? a=some q:=let ⟨q,_,_,hq,_⟩:=dd';⟨q,hq⟩
  exact ER I (by rw [e];exact True.intro) hs he (Pc hl hd (rel.put k rv) dd')
 ·subst ey eH
  cases (show u=Value.ref b from ry)
  obtain ⟨z,hd,xs,rel,dd⟩:=Q4 I.hok e
  have hz:xs.length<=sizeLine:=by rw [<- Paired.length rel];exact z
  have hl:(putK kvs k v).length<=sizeLine:=by have:=pX kvs k v;omega
  refine wpAny_setItem_heap (hsz:=hz) (tupleKind_room_in1 hu) (qO I.hok eb) dd fun h' dd' hs=>h _ ?_
  obtain ⟨q,es,ep,hq,h2,h3,h4,_,h5⟩:=dd'
  refine ER I (by rw [e];exact True.intro) hs ⟨q,hq⟩ ⟨hl,hd,_,(rel.put k eb rv).keeps fun c ys ec=>?_,q,es,ep,hq,h2,h3,h4,h5⟩
  rw [bF (Q1 ec e (fun z=>nomatch z))]
  exact ec
end
section
variable {X:Cx} {pins:List (Addr × Obj)} {σ:St} {H:Hp} {s:Shared} {a:Addr} {kvs:List (Key × V)} {k:Key} {u:Value} {A:Around} {E:Value->Shared->Prop}
end
def JC (i:Expr):Prop:=∀ ov iv,subscripted i false ov iv=operate [ov,iv] (getItem ov iv)
theorem N2 {prog:Program} {w:World} {A:Around} {E:Value->Shared->Prop} {s:Shared} {env:Env} {value slice:Expr} {pos:Pos} {T id:String} {Q:Value->Shared->Prop}
  (hl:typeLookup (.type T) "__getitem__"=pure (some (.builtin id))) (hs:JC slice)
  (h:wpAny (model prog w) A (eval value env) (fun o s₁=>wpAny (model prog w) A (eval slice env) (fun i s₂=>s₂.TypeIs o T/\wpAny (model prog w) A (getItem o i) Q E s₂) E s₁) E s) :
  wpAny (model prog w) A (eval (.Subscript value slice pos) env) Q E s:=by
 refine Subscript_ (wpAny_mono h (fun o s₁ h₁=>wpAny_mono h₁ (fun i s₂ h₂=>?_) fun _ _ x=>x) fun _ _ x=>x)
 obtain ⟨hT,h₂⟩:=h₂
 unfold subscriptTail
 refine wpAny_bind ?_
 rw [getitemInPython_of_ne hT.not_modules]
 refine wpAny_bind (wpAny_specialOf hT hl ?_)
 have fin:wpAny (model prog w) A (subscripted slice false o i) (fun r s₃=>wpAny (model prog w) A (letTemporaryGo value o r >>= fun _=>pure r) Q E s₃) E s₂:=by
  rw [hs o i]
  exact wpAny_operating (wpAny_mono h₂ (fun r s₃ h₃=>wpAny_bind (wpAny_letTemporaryGo (wpAny_pure h₃))) fun _ _ x=>x)
 first
  | exact wpAny_pure (wpAny_bind fin)
  | exact wpAny_bind (wpAny_pure (wpAny_bind fin))
  | exact wpAny_bind fin
theorem DF {X:Cx} {pins:List (Addr × Obj)} {σ:St} {H:Hp} {s:Shared} {a:Addr} {y:V} {o:Option V} (I:Inv X pins σ H s) (g:p8 H a y o):s.TypeIs (.ref a) "dict":=by
 rcases g with ⟨kvs,k,e,_,_⟩ | ⟨kvs,k,b,e,_,_,_⟩
 ·obtain ⟨_,_,vs,_,dd⟩:=rF I.hok e
  exact dd.typeIs
 ·obtain ⟨_,_,xs,_,dd⟩:=rY I.hok e
  exact dd.typeIs
def QJ (td ty:TE):TE:=fun σ H Q=>td σ H fun x H1=>ty σ H1 fun y H2=>∃ a v,x=.ref a/\p8 H2 a y (some v)/\Q v H2
def QY (td ty tv:TE):TS:=fun D σ H=>tv σ H fun v H1=>td σ H1 fun x H2=>ty σ H2 fun y H3=>∃ a H4,x=.ref a/\AJ H3 a y v H4/\D.nx σ H4
section
variable {X:Cx} {o i e value:Expr} {pos pos' tpos:Pos} {td ty tv:TE}
theorem Mm (hu:X.A.units + 1 < cLine) (ho:PE X o td) (hi:PE X i ty) (hs:JC i):PE X (.Subscript o i pos) (QJ td ty):=by
 intro pins s σ H Q I h
 refine N2 PySem.F.slot_dict_getitem.lookup hs (bC (ho pins s σ H _ I h) fun u s1 ⟨x,H1,I1,rx,q1⟩=>bC (hi pins s1 σ H1 _ I1 q1) fun iv s2 ⟨y,H2,I2,ry,a,v,ex,g,q2⟩=>?_)
 subst ex
 obtain rfl:u=Value.ref a:=rx
 exact ⟨DF I2 g,Hb hu I2 g ry fun w' s3 I3 rw'=>⟨v,H2,I3,rw',q2⟩⟩
theorem NQ (hu:X.A.units + 1 < cLine) (ho:PE X o td) (hi:PE X i ty) (hv:PE X value tv) (hs:swapsWith value (some (.Subscript o i pos')) pos.line X.env=pure false) :
  PS X (.Assign [.Subscript o i pos'] value pos) (QY td ty tv):=by
 intro pins s σ H D I h
 refine wpAny_Assign_Subscript (bC (hv pins s σ H _ I h) fun r s1 ⟨v,H1,I1,rv,q1⟩=>bC (ho pins s1 σ H1 _ I1 q1) fun u s2 ⟨x,H2,I2,rx,q2⟩=>bC (hi pins s2 σ H2 _ I2 q2) fun iv s3 ⟨y,H3,I3,ry,a,H4,ex,g,q3⟩=>?_) hs
 subst ex
 obtain rfl:u=Value.ref a:=rx
 exact Io hu I3 g ry rv fun s4 I4=>⟨σ,H4,I4,q3⟩
end
theorem Jz {P:Program} {w:World} {H:Hp} (h:Heap) (hb:sysModules < h.objs.size):dB P w H (h.push { cls:=.type "dict",data:=.dict #[] }) h.objs.size (.dK []) :=
 ⟨Nat.zero_le _,beq_eq_false_iff_ne.mpr (Ne.symm (Nat.ne_of_lt hb)),[],.nil,Heap.DictOf.new h⟩
theorem Lq {P:Program} {w:World} {H:Hp} (h:Heap) (hb:sysModules < h.objs.size):dB P w H (h.push { cls:=.type "dict",data:=.dict #[] }) h.objs.size (.dT []) :=
 ⟨Nat.zero_le _,beq_eq_false_iff_ne.mpr (Ne.symm (Nat.ne_of_lt hb)),[],.nil,_,#[],0,Heap.get?_push_size _ rfl,⟨rfl,rfl,rfl⟩,rfl,rfl,List.nodup_nil⟩
def IL:TE:=fun _ H Q=>∀ p,H p=none->Q (.ref p) (upd H p (.dK []))
def HX:TE:=fun _ H Q=>∀ p,H p=none->Q (.ref p) (upd H p (.dT []))
section
variable {X:Cx} {pos:Pos}
theorem Jt:PE X (.Dict [] [] pos) IL:=fun pins s σ H Q I h =>
 wpAny_Dict_empty ⟨.ref s.heap.objs.size,_,I.laid (a:=s.heap.objs.size) (o:=.dK []) (t':=s.toks) (fun _ _ q=>Heap.get?_push_of_some _ q) (Nat.le_refl _) (Jz s.heap I.big),rfl,h _ (I.hok.fresh (Nat.le_refl _))⟩
theorem JM:PE X (.Dict [] [] pos) HX:=fun pins s σ H Q I h =>
 wpAny_Dict_empty ⟨.ref s.heap.objs.size,_,I.laid (a:=s.heap.objs.size) (o:=.dT []) (t':=s.toks) (fun _ _ q=>Heap.get?_push_of_some _ q) (Nat.le_refl _) (Lq s.heap I.big),rfl,h _ (I.hok.fresh (Nat.le_refl _))⟩
end
abbrev VV:List (V × V)->List (Value × Value)->Prop:=Paired fun p q=>RelV p.1 q.1/\RelV p.2 q.2
def nB (kvs more:List (Key × V)):List (Key × V):=more.foldl (fun acc kv=>putK acc kv.1 kv.2) kvs
theorem KV.merge:∀ {more:List (Key × V)} {rs:List (Key × Value)} {kvs:List (Key × V)} {vs:List (Key × Value)},KV more rs->KV kvs vs->KV (nB kvs more) (merged vs rs):=by
 intro more rs kvs vs r
 unfold KV at r
 induction r generalizing kvs vs with
 | nil=>intro q;exact q
 | @cons p q ps qs h t ih =>
  intro r0
  have e:KV (putK kvs p.1 p.2) (stored vs q.1 q.2):=by
   have:=r0.put p.1 h.2
   rw [<- h.1];exact this
  exact ih e
theorem tJ:∀ (more kvs:List (Key × V)),(nB kvs more).length<=kvs.length + more.length
 | [],kvs=>by show kvs.length<=kvs.length + 0;omega
 | p :: r,kvs=>by
  have h1:=tJ r (putK kvs p.1 p.2)
  have h2:=pX kvs p.1 p.2
  show (nB (putK kvs p.1 p.2) r).length<=_
  rw [List.length_cons];omega
structure M1 (X:Cx) (o:Expr) (m:Str) (apos:Pos) (e:Expr) (cpos:Pos):Prop where
 base:attributeBase o m X.env (eval o X.env)=eval o X.env
 few:((backTo cpos (starEach [e] X.env)).all (fun x=>!x.1) && (backToKw cpos (keywordEach [] X.env)).all (fun x=>x.1.isSome)
  && decide (([e]:List Expr).length + ([]:List Keyword).length + (if ([]:List Keyword).isEmpty then 0 else 1) < 30))=true
 line:(apos.endLine == cpos.line)=true
 trees:backTo cpos (starEach [e] X.env)=[(false,eval e X.env)]
def Qd (H:Hp) (a:Addr):Prop:=(∃ kvs,Rd H a (.dK kvs))\/∃ kvs,Rd H a (.dT kvs)
theorem Qt {X:Cx} {pins:List (Addr × Obj)} {σ:St} {H:Hp} {s:Shared} {a:Addr} (I:Inv X pins σ H s) (d:Qd H a) :
  s.TypeIs (.ref a) "dict"/\(∀ b,Value.ref a=.ref b->∃ ob,s.heap.get? b=some ob/\ob.dict=none)/\(a == sysModules)=false:=by
 rcases d with ⟨kvs,e⟩ | ⟨kvs,e⟩
 ·obtain ⟨_,hd,vs,_,dd⟩:=rF I.hok e
  refine ⟨dd.typeIs,fun b q=>?_,hd⟩
  cases q
  obtain ⟨ob,_,_,h1,h2,_⟩:=dd
  exact ⟨ob,h1,h2.2.1⟩
 ·obtain ⟨_,hd,xs,_,dd⟩:=rY I.hok e
  refine ⟨dd.typeIs,fun b q=>?_,hd⟩
  cases q
  obtain ⟨ob,_,_,h1,h2,_⟩:=dd
  exact ⟨ob,h1,h2.2.1⟩
section
variable {X:Cx} {pins:List (Addr × Obj)} {σ:St} {H:Hp} {s:Shared} {a:Addr} {y d:V} {u r:Value} {o:Option V} {A:Around} {E:Value->Shared->Prop}
theorem Qb {Q:Value->Shared->Prop} (hu:A.units + 1 < cLine) (I:Inv X pins σ H s) (g:p8 H a y o) (ry:RelV y u) (h:∀ w' s',Inv X pins σ H s'->RelV (o.getD .non) w'->Q w' s') :
  wpAny (model X.prog X.w) A (call (.builtin "dict.get") [.ref a,u]) Q E s:=by
 rcases g with ⟨kvs,k,e,ey,l⟩ | ⟨kvs,k,b,e,ey,eb,l⟩
 ·subst ey
  obtain ⟨z,hd,vs,rel,dd⟩:=rF I.hok e
  refine call_meetsIn PySem.F.slot_dict_get dd.typeIs PySem.F.entry_dict_get (PySem.F.args_dict_get_2 _ _) (meets_dict_get (cN X.prog X.w) a (sX ry) hd) ⟨_,dd.mapOf,h _ _ (I.tok _) ?_⟩
  rw [l]
  exact (rel.val k).getD rfl
 ·subst ey
  cases (show u=Value.ref b from ry)
  obtain ⟨z,hd,xs,rel,dd⟩:=rY I.hok e
  refine call_meetsIn PySem.F.slot_dict_get dd.typeIs PySem.F.entry_dict_get (PySem.F.args_dict_get_2 _ _) (meetsH_dict_get (tupleKind (cN X.prog X.w)) a b hd) ⟨tupleKind_room_in1 hu,k,xs,qO I.hok eb,dd,h _ _ (I.tok _) ?_⟩
  rw [l]
  exact (rel.val k).getD rfl
end
def Qn (td ty:TE):TE:=fun σ H Q=>td σ H fun x H1=>∃ a,x=.ref a/\Qd H1 a/\ty σ H1 fun y H2=>∃ o,p8 H2 a y o/\Q (o.getD .non) H2
section
variable {X:Cx} {o e f:Expr} {apos cpos:Pos} {td ty tx:TE}
theorem Ku (hu:X.A.units + 1 < cLine) (ho:PE X o td) (he:PE X e ty) (m:M1 X o "get" apos e cpos):PE X (.Call (.Attribute o "get" apos) [e] [] cpos) (Qn td ty):=by
 intro pins s σ H Q I h
 refine wpAny_Call_method m.base m.few m.line PySem.F.plainAttrs_dict PySem.F.slot_dict_get PySem.F.type_dict_get (bC (ho pins s σ H _ I h) fun u s1 ⟨x,H1,I1,rx,a,ex,d,q1⟩=>?_)
 subst ex
 obtain rfl:u=Value.ref a:=rx
 obtain ⟨t1,t2,_⟩:=Qt I1 d
 refine ⟨t1,t2,?_⟩
 rw [m.trees]
 refine Calls.callWith_builtin rfl (Calls.evalArgs_plain (Calls.spliced_cons (bC (he pins s1 σ H1 _ I1 q1) fun iv s2 ⟨y,H2,I2,ry,ov,g,q2⟩=>Calls.spliced_nil ?_)))
 exact Qb hu I2 g ry fun w' s3 I3 rw'=>⟨_,H2,I3,rw',q2⟩
end
section
variable {X:Cx} {pins:List (Addr × Obj)} {σ:St} {H:Hp} {s:Shared} {a:Addr} {kvs:List (Key × V)} {A:Around} {E:Value->Shared->Prop}
end
section
variable {X:Cx} {pins:List (Addr × Obj)} {σ:St} {H:Hp} {s:Shared} {a:Addr} {y:V} {u:Value} {A:Around} {E:Value->Shared->Prop}
end
section
variable {X:Cx}
end
section
variable {κ:Type} [DecidableEq κ]
theorem Rj {p:κ × V} {r:List (κ × V)} {k:κ} (e:p.1=k):sQ (p :: r) k=sQ r k:=by
 unfold sQ
 rw [List.filter_cons,if_neg (by simp [e])]
theorem IP {p:κ × V} {r:List (κ × V)} {k:κ} (e:¬ p.1=k):sQ (p :: r) k=p :: sQ r k:=by
 unfold sQ
 rw [List.filter_cons,if_pos (by simp [e])]
theorem J4:∀ {kvs:List (κ × V)} {k:κ},¬ k∈kvs.map (·.1)->sQ kvs k=kvs
 | [],_,_=>rfl
 | p :: r,k,h=>by
  have h':¬ k∈r.map (·.1):=fun m=>by
   obtain ⟨q,hq,e⟩:=List.mem_map.mp m
   exact h (List.mem_map.mpr ⟨q,List.mem_cons.mpr (Or.inr hq),e⟩)
  rw [IP fun e=>h (List.mem_map.mpr ⟨p,List.mem_cons.mpr (Or.inl rfl),e⟩),J4 h']
end
end L2
namespace L2
open PySem PySem.Spec PyProof.Rows PySem.F
def gE (h:Heap) (d:Addr) (es:Array DictEntry) (ep:Nat):Prop:=∃ o,h.get? d=some o/\o.ExactDict/\o.data=.dict es ep
theorem gE.ty {s:Shared} {d:Addr} {es:Array DictEntry} {ep:Nat} (r:gE s.heap d es ep):s.TypeIs (.ref d) "dict":=let ⟨o,e,c,_⟩:=r;⟨o,e,c.1⟩
theorem gE.at {h h':Heap} {d:Addr} {es:Array DictEntry} {ep:Nat} (r:gE h d es ep) (k:∀ o,h.get? d=some o->h'.get? d=some o):gE h' d es ep:=let ⟨o,e,c⟩:=r;⟨o,k o e,c⟩
theorem gE.lt {h:Heap} {d:Addr} {es:Array DictEntry} {ep:Nat} (r:gE h d es ep):d < h.objs.size:=let ⟨_,e,_⟩:=r;Heap.lt_size e
section
variable {prog:Program} {w:World} {A:Around} {E:Value->Shared->Prop} {s:Shared} {d it vw:Addr} {es:Array DictEntry} {ep i:Nat} {e:DictEntry}
theorem JP {Q:Value->Shared->Prop} (lo:(d == sysModules)=false) (r:gE s.heap d es ep)
  (q:Q (.ref s.heap.objs.size) { s with heap:=s.heap.push { cls:=.type "dict_keyiterator",data:=.fields #[.ref d,.int 0 0,.int es.size 0,.int ep 0] } }):wpAny (model prog w) A (pyIter (.ref d)) Q E s:=by
 obtain ⟨o,g,c,dd⟩:=id r
 refine wpAny_pyIter_slot r.ty slot_dict_iter (wpAny_call_entry slot_dict_iter r.ty entry_dict_iter ?_ (args_dict_iter_1 _))
 unfold Builtin.«dict.__iter__»;refine wpAny_bind ?_
 unfold Builtin.Dict.dictSlotNone;refine wpAny_bind (wpAny_notOrdered_dict r.ty ?_)
 show wpAny (model prog w) _ (pure (Value.ref d)) _ _ s;refine wpAny_pure ?_
 show wpAny (model prog w) _ (Builtin.Dict.showsAll d >>= _) _ _ s;unfold Builtin.Dict.showsAll
 rw [if_neg (by rw [lo];decide)];refine wpAny_bind (wpAny_pure (wpAny_bind (wpAny_dictEntries g dd (wpAny_bind (wpAny_dictEpoch g dd ?_)))))
 refine wpAny_bind (wpAny_newObj_type (wpAny_pure ⟨_,rfl,"dict_keyiterator",_,⟨_,Heap.get?_push_size _ rfl,rfl⟩,slot_dict_keyiterator_next.lookup,?_⟩))
 simpa [rawInt] using q
theorem K8 {Q:Option Value->Shared->Prop} (hit:s.heap.IsKeyIter it d i es.size ep) (r:gE s.heap d es ep) (hx:es[i]?=some e)
  (q:∀ h',h'.IsKeyIter it d (i + 1) es.size ep->Heap.SameBut it s.heap h'->Q (some e.key) { s with heap:=h' }):wpAny (model prog w) A (pyNext (.ref it)) Q E s:=by
 obtain ⟨oi,gi,ci,di⟩:=id hit
 obtain ⟨o,g,c,dd⟩:=id r
 have T:=hit.typeIs
 have lt:i < es.size:=(Array.getElem?_eq_some_iff.mp hx).1
 unfold pyNext
 refine wpAny_bind (wpAny_attempt (wpAny_callSpecial?_slot (name:=Str.ofString "__next__") T slot_dict_keyiterator_next (wpAny_call_entry slot_dict_keyiterator_next T entry_dict_keyiterator_next ?_ (args_dict_keyiterator_next_1 _))))
 refine wpAny_bind (wpAny_pure (wpAny_bind (wpAny_bind ?_)))
 first | refine wpAny_bind (wpAny_typeNameOfWhole_keyiter T (wpAny_pure (wpAny_bind (wpAny_fieldsOf gi di ?_)))) | refine wpAny_bind (wpAny_typeNameOf_keyiter T (wpAny_pure (wpAny_bind (wpAny_fieldsOf gi di ?_))))
 simp only [show Builtin.Dict_items.ownsTuple "dict_keyiterator"=false by decide,Bool.false_eq_true,if_false]
 show wpAny (model prog w) _ (if (Value.ref d == Value.none)=true then _ else _) _ _ s
 rw [if_neg (show ¬ ((Value.ref d == Value.none)=true) from Bool.false_ne_true)];refine wpAny_bind (wpAny_pure (wpAny_bind (wpAny_dictEntries g dd ?_)))
 rw [if_neg (by simp)];refine wpAny_bind (wpAny_pure (wpAny_bind (wpAny_dictEpoch g dd ?_)));rw [if_neg (by simp)];refine wpAny_pure ?_
 simp only [show ¬ ((i:Int) < 0) by omega,if_false,Int.toNat_natCast,hx];refine wpAny_bind ?_
 first | refine wpAny_bind (wpAny_typeNameOfWhole_keyiter T (wpAny_pure (wpAny_bind (wpAny_isOneOf_keyiter T ?_)))) | refine wpAny_bind (wpAny_typeNameOf_keyiter T (wpAny_pure (wpAny_bind (wpAny_isOneOf_keyiter T ?_))))
 show wpAny (model prog w) _ (setField (.ref it) 1 (rawInt ((i:Int) + 1)) >>= _) _ _ s
 refine wpAny_bind (wpAny_setField gi di (by simp) ?_)
 have hit':(s.heap.update it (Obj.mapFields (·.setIfInBounds 1 (rawInt ((i:Int) + 1))))).IsKeyIter it d (i + 1) es.size ep :=
  ⟨_,Heap.get?_update_self _ gi (Obj.isFreed_of_fields (Obj.data_mapFields di _)),(Obj.cls_mapFields ..).trans ci,by rw [Obj.data_mapFields di];simp [rawInt]⟩
 refine wpAny_bind (wpAny_holding (wpAny_bind (wpAny_isOneOf_keyiter (s:={ s with heap:=s.heap.update it (Obj.mapFields (·.setIfInBounds 1 (rawInt ((i:Int) + 1)))) }) hit'.typeIs ?_)))
 show wpAny (model prog w) _ (pure e.key) _ _ _
 exact wpAny_pure (wpAny_pure ⟨_,rfl,wpAny_pure (q _ hit' (Heap.SameBut.update ..))⟩)
theorem Nw {Q:Option Value->Shared->Prop} (hh:A.handled=none) (hit:s.heap.IsKeyIter it d i es.size ep) (r:gE s.heap d es ep) (hx:es[i]?=none)
  (q:∀ h',Heap.ExtBut it s.heap h'->Q none { s with heap:=h' }):wpAny (model prog w) A (pyNext (.ref it)) Q E s:=by
 obtain ⟨oi,gi,ci,di⟩:=id hit
 obtain ⟨o,g,c,dd⟩:=id r
 have T:=hit.typeIs
 unfold pyNext
 refine wpAny_bind (wpAny_attempt (wpAny_callSpecial?_slot (name:=Str.ofString "__next__") T slot_dict_keyiterator_next (wpAny_call_entry slot_dict_keyiterator_next T entry_dict_keyiterator_next ?_ (args_dict_keyiterator_next_1 _))))
 refine wpAny_bind (wpAny_pure (wpAny_bind (wpAny_bind ?_)))
 first | refine wpAny_bind (wpAny_typeNameOfWhole_keyiter T (wpAny_pure (wpAny_bind (wpAny_fieldsOf gi di ?_)))) | refine wpAny_bind (wpAny_typeNameOf_keyiter T (wpAny_pure (wpAny_bind (wpAny_fieldsOf gi di ?_))))
 simp only [show Builtin.Dict_items.ownsTuple "dict_keyiterator"=false by decide,Bool.false_eq_true,if_false]
 show wpAny (model prog w) _ (if (Value.ref d == Value.none)=true then _ else _) _ _ s
 rw [if_neg (show ¬ ((Value.ref d == Value.none)=true) from Bool.false_ne_true)];refine wpAny_bind (wpAny_pure (wpAny_bind (wpAny_dictEntries g dd ?_)))
 rw [if_neg (by simp)];refine wpAny_bind (wpAny_pure (wpAny_bind (wpAny_dictEpoch g dd ?_)));rw [if_neg (by simp)];refine wpAny_pure ?_
 simp only [show ¬ ((i:Int) < 0) by omega,if_false,Int.toNat_natCast,hx];refine wpAny_bind ?_
 first | refine wpAny_bind (wpAny_typeNameOfWhole_keyiter T (wpAny_pure ?_)) | refine wpAny_bind (wpAny_typeNameOf_keyiter T (wpAny_pure ?_))
 show wpAny (model prog w) _ (setField (.ref it) 0 .none >>= _) _ _ s
 refine wpAny_bind (wpAny_setField gi di (by simp) ?_)
 show wpAny (model prog w) _ (newExc (.type "StopIteration") [] >>= _) _ _ _
 refine wpAny_bind ?_;simp only [newExc,newTuple];refine wpAny_bind (wpAny_newObj_type ?_ (by size_fits))
 refine wpAny_bind (m:=firstArgMember _ _) (wpAny_of_eq (a:=Value.none) (by first | rfl | (simp only [firstArgMember];rfl)) (wpAny_newObj_type ?_ (by size_fits)))
 simp only [raiseNew];refine wpAny_bind (wpAny_handled ?_);rw [show A.in1.handled=none from hh]
 refine wpAny_bind (wpAny_pure (wpAny_throw ?_));refine wpAny_bind (wpAny_isInstance (T:="StopIteration") (b:=true) ⟨_,Heap.get?_push_size _ rfl,rfl⟩ isSubtype_stop ?_)
 exact wpAny_pure (q _ (((Heap.SameBut.update ..).extBut.push _).push _))
theorem Ji (d:Addr) (lo:(d == sysModules)=false):MeetsIn prog w (Builtin.«dict.items» ⟨[.ref d],[]⟩) (fun _ R s=>(∃ es ep,gE s.heap d es ep)/\R (.ok (.ret (.ref s.heap.objs.size))) { s with heap:=s.heap.push { cls:=.type "dict_items",data:=.fields #[.ref d] } }) :=
 .of_wp fun A R s ⟨⟨es,ep,r⟩,h⟩=>by
  unfold Builtin.«dict.items»;refine wpAny_bind ?_
  unfold Builtin.Dict.noArgs;refine wpAny_bind (wpAny_notOrdered_dict r.ty ?_)
  show wpAny (model prog w) _ (pure d) _ _ s;refine wpAny_pure ?_
  show wpAny (model prog w) _ (Builtin.Dict.showsAll d >>= _) _ _ s;unfold Builtin.Dict.showsAll
  rw [if_neg (by rw [lo];decide)];exact wpAny_bind (wpAny_pure (wpAny_bind (wpAny_newObj_type (wpAny_pure ⟨_,rfl,h⟩))))
theorem CN {Q:Value->Shared->Prop} (hv:s.heap.IsItemsView vw d) (r:gE s.heap d es ep)
  (q:Q (.ref s.heap.objs.size) { s with heap:=s.heap.push { cls:=.type "dict_itemiterator",data:=.fields #[.none,.bool false,.ref d,.int 0 0,.int es.size 0,.int ep 0,.none,.none] } }):wpAny (model prog w) A (pyIter (.ref vw)) Q E s:=by
 obtain ⟨ov,gv,cv,dv⟩:=id hv
 obtain ⟨o,g,c,dd⟩:=id r
 refine wpAny_pyIter_slot hv.typeIs slot_dict_items_iter (wpAny_call_entry slot_dict_items_iter hv.typeIs entry_dict_items_iter ?_ (args_dict_items_iter_1 _))
 unfold Builtin.«dict_items.__iter__»;refine wpAny_bind (wpAny_pure (wpAny_bind ?_))
 unfold Builtin.Dict_items.dictOf;refine wpAny_bind (wpAny_field gv dv (x:=.ref d) rfl (wpAny_pure (wpAny_bind ?_)))
 unfold Builtin.Dict_items.newIterator;refine wpAny_bind (wpAny_dictEntries g dd (wpAny_bind (wpAny_dictEpoch g dd ?_)))
 simp only [show Builtin.Dict_items.ownsTuple "dict_itemiterator"=true by decide,if_true]
 refine wpAny_newObj_type (wpAny_pure ⟨_,rfl,"dict_itemiterator",_,⟨_,Heap.get?_push_size _ rfl,rfl⟩,slot_dict_itemiterator_next.lookup,?_⟩) (by simp only [sizeOk,Builtin.Dict_items.ownedTupleFields,List.size_toArray,List.length_append,List.length_cons,List.length_nil,sizeLine_eq];omega)
 simpa [rawInt,Builtin.Dict_items.ownedTupleFields] using q
theorem B1 {ok ov:Value} {Q:Option Value->Shared->Prop} (hh:A.handled=none) (hit:IsItemIter s.heap it d i es.size ep ok ov) (r:gE s.heap d es ep) (hx:es[i]?=none)
  (q:∀ h',Heap.ExtBut it s.heap h'->Q none { s with heap:=h' }):wpAny (model prog w) A (pyNext (.ref it)) Q E s:=by
 obtain ⟨o,g,c,dd⟩:=id r
 have T:s.TypeIs (.ref it) "dict_itemiterator":=⟨_,hit,rfl⟩
 unfold pyNext
 refine wpAny_bind (wpAny_attempt (wpAny_callSpecial?_slot (name:=Str.ofString "__next__") T slot_dict_itemiterator_next (wpAny_call_entry slot_dict_itemiterator_next T entry_dict_itemiterator_next ?_ (args_dict_itemiterator_next_1 _))))
 refine wpAny_bind (wpAny_pure (wpAny_bind (wpAny_bind ?_)))
 first | refine wpAny_bind (wpAny_typeNameOfWhole_itemiter T (wpAny_pure (wpAny_bind (wpAny_fieldsOf hit rfl ?_)))) | refine wpAny_bind (wpAny_typeNameOf_itemiter T (wpAny_pure (wpAny_bind (wpAny_fieldsOf hit rfl ?_))))
 simp only [show Builtin.Dict_items.ownsTuple "dict_itemiterator"=true by decide,if_true]
 show wpAny (model prog w) _ (if (Value.ref d == Value.none)=true then _ else _) _ _ s
 rw [if_neg (show ¬ ((Value.ref d == Value.none)=true) from Bool.false_ne_true)];refine wpAny_bind (wpAny_pure (wpAny_bind (wpAny_dictEntries g dd ?_)))
 rw [if_neg (by simp)];refine wpAny_bind (wpAny_pure (wpAny_bind (wpAny_dictEpoch g dd ?_)));rw [if_neg (by simp)];refine wpAny_pure ?_
 simp only [show ¬ ((i:Int) < 0) by omega,if_false,Int.toNat_natCast,hx];refine wpAny_bind ?_
 first | refine wpAny_bind (wpAny_typeNameOfWhole_itemiter T (wpAny_pure ?_)) | refine wpAny_bind (wpAny_typeNameOf_itemiter T (wpAny_pure ?_))
 show wpAny (model prog w) _ (setField (.ref it) 2 .none >>= _) _ _ s
 refine wpAny_bind (wpAny_setField hit rfl (by simp) ?_)
 show wpAny (model prog w) _ (newExc (.type "StopIteration") [] >>= _) _ _ _
 refine wpAny_bind ?_;simp only [newExc,newTuple];refine wpAny_bind (wpAny_newObj_type ?_ (by size_fits))
 refine wpAny_bind (m:=firstArgMember _ _) (wpAny_of_eq (a:=Value.none) (by first | rfl | (simp only [firstArgMember];rfl)) (wpAny_newObj_type ?_ (by size_fits)))
 simp only [raiseNew];refine wpAny_bind (wpAny_handled ?_);rw [show A.in1.handled=none from hh]
 refine wpAny_bind (wpAny_pure (wpAny_throw ?_));refine wpAny_bind (wpAny_isInstance (T:="StopIteration") (b:=true) ⟨_,Heap.get?_push_size _ rfl,rfl⟩ isSubtype_stop ?_)
 exact wpAny_pure (q _ (((Heap.SameBut.update ..).extBut.push _).push _))
theorem Bt {ok ov:Value} {Q:Option Value->Shared->Prop} (hit:IsItemIter s.heap it d i es.size ep ok ov) (r:gE s.heap d es ep) (hx:es[i]?=some e)
  (q:∀ h',IsItemIterOut h' it d (i + 1) es.size ep e.key e.val s.heap.objs.size->h'.get? s.heap.objs.size=some { cls:=.type "tuple",data:=.seq #[e.key,e.val] }->h'.objs.size=s.heap.objs.size + 1 ->
   (∀ b o,b≠it->s.heap.get? b=some o->h'.get? b=some o)->Q (some (.ref s.heap.objs.size)) { s with heap:=h' }):wpAny (model prog w) A (pyNext (.ref it)) Q E s:=by
 obtain ⟨hp,gs,dr,tk,os⟩:=s
 obtain ⟨o,g,c,dd⟩:=id r
 have T:Shared.TypeIs ⟨hp,gs,dr,tk,os⟩ (.ref it) "dict_itemiterator":=⟨_,hit,rfl⟩
 unfold pyNext
 refine wpAny_bind (wpAny_attempt (wpAny_callSpecial?_slot (name:=Str.ofString "__next__") T slot_dict_itemiterator_next (wpAny_call_entry slot_dict_itemiterator_next T entry_dict_itemiterator_next ?_ (args_dict_itemiterator_next_1 _))))
 refine wpAny_bind (wpAny_pure (wpAny_bind (wpAny_bind ?_)))
 first | refine wpAny_bind (wpAny_typeNameOfWhole_itemiter T (wpAny_pure (wpAny_bind (wpAny_fieldsOf hit rfl ?_)))) | refine wpAny_bind (wpAny_typeNameOf_itemiter T (wpAny_pure (wpAny_bind (wpAny_fieldsOf hit rfl ?_))))
 simp only [show Builtin.Dict_items.ownsTuple "dict_itemiterator"=true by decide,if_true]
 show wpAny (model prog w) _ (if (Value.ref d == Value.none)=true then _ else _) _ _ _
 rw [if_neg (show ¬ ((Value.ref d == Value.none)=true) from Bool.false_ne_true)];refine wpAny_bind (wpAny_pure (wpAny_bind (wpAny_dictEntries g dd ?_)))
 rw [if_neg (by simp)];refine wpAny_bind (wpAny_pure (wpAny_bind (wpAny_dictEpoch g dd ?_)));rw [if_neg (by simp)];refine wpAny_pure ?_
 simp only [show ¬ ((i:Int) < 0) by omega,if_false,Int.toNat_natCast,hx];refine wpAny_bind ?_
 first | refine wpAny_bind (wpAny_typeNameOfWhole_itemiter T (wpAny_pure (wpAny_bind (wpAny_isOneOf_itemiter T ?_)))) | refine wpAny_bind (wpAny_typeNameOf_itemiter T (wpAny_pure (wpAny_bind (wpAny_isOneOf_itemiter T ?_))))
 show wpAny (model prog w) _ (setField (.ref it) 3 (rawInt ((i:Int) + 1)) >>= _) _ _ ⟨hp,gs,dr,tk,os⟩
 refine wpAny_bind (wpAny_setField_rec hit (by simp) fun h₁ x₁ y₁=>?_)
 replace y₁:Heap.SameBut it hp h₁:=y₁
 replace x₁:IsItemIter h₁ it d (i + 1) es.size ep ok ov:=by
  unfold IsItemIter;rw [show ((i + 1:Nat):Int)=(i:Int) + 1 by omega];simpa [rawInt] using x₁
 have T₁:Shared.TypeIs ⟨h₁,gs,dr,tk,os⟩ (.ref it) "dict_itemiterator":=⟨_,x₁,rfl⟩
 refine wpAny_bind (wpAny_holding (wpAny_bind (wpAny_isOneOf_itemiter T₁ (wpAny_bind (wpAny_isOneOf_itemiter T₁ ?_)))))
 show wpAny (model prog w) _ (Builtin.Dict_items.pairFromOwner (.ref it) 6 e.key e.val) _ _ ⟨h₁,gs,dr,tk,os⟩
 unfold Builtin.Dict_items.pairFromOwner;refine wpAny_bind (wpAny_newTuple ?_)
 have x₂:IsItemIter (h₁.push { cls:=.type "tuple",data:=.seq #[e.key,e.val] }) it d (i + 1) es.size ep ok ov:=Heap.get?_push_of_some _ x₁
 generalize eq₂:h₁.push { cls:=.type "tuple",data:=.seq #[e.key,e.val] }=h₂ at x₂
 have z₁:h₁.objs.size=hp.objs.size:=y₁.1
 have il:it < hp.objs.size:=Heap.lt_size hit
 have t₂:h₂.get? hp.objs.size=some { cls:=.type "tuple",data:=.seq #[e.key,e.val] }:=by rw [<- eq₂,<- z₁];exact Heap.get?_push_size _ rfl
 have z₂:h₂.objs.size=hp.objs.size + 1:=by rw [<- eq₂,Heap.size_push,z₁]
 have k₂:∀ b o,b≠it->hp.get? b=some o->h₂.get? b=some o:=fun b o hb z=>by rw [<- eq₂];exact Heap.get?_push_of_some _ (y₁.extBut b o hb z)
 show wpAny (model prog w) _ (Builtin.Dict_items.ownedTupleIsFree (.ref it) >>= _) _ _ ⟨h₂,gs,dr,tk,os⟩
 rw [z₁];clear eq₂ x₁ y₁ T₁ z₁ h₁;refine wpAny_bind ?_
 unfold Builtin.Dict_items.ownedTupleIsFree;refine wpAny_bind (wpAny_field x₂ rfl (x:=.none) rfl (wpAny_pure ?_));simp only [if_true]
 refine wpAny_bind (wpAny_field x₂ rfl (x:=ok) rfl (wpAny_bind (wpAny_field x₂ rfl (x:=ov) rfl (wpAny_bind (wpAny_setField_rec x₂ (by simp) fun h₃ x₃ y₃=>?_)))))
 replace y₃:Heap.SameBut it h₂ h₃:=y₃
 replace x₃:IsItemIter h₃ it d (i + 1) es.size ep e.key ov:=x₃
 refine wpAny_bind (wpAny_setField_rec x₃ (by simp) fun h₄ x₄ y₄=>?_)
 replace y₄:Heap.SameBut it h₃ h₄:=y₄
 replace x₄:IsItemIter h₄ it d (i + 1) es.size ep e.key e.val:=x₄
 refine wpAny_bind (wpAny_setField_rec x₄ (by simp) fun h₅ x₅ y₅=>?_)
 replace y₅:Heap.SameBut it h₄ h₅:=y₅
 replace x₅:IsItemIterOut h₅ it d (i + 1) es.size ep e.key e.val hp.objs.size:=x₅
 refine wpAny_bind (wpAny_setField_rec x₅ (by simp) fun h₆ x₆ y₆=>?_)
 replace y₆:Heap.SameBut it h₅ h₆:=y₆
 replace x₆:IsItemIterOut h₆ it d (i + 1) es.size ep e.key e.val hp.objs.size:=x₆
 refine wpAny_bind (wpAny_letGo (wpAny_pure (wpAny_pure ⟨_,rfl,wpAny_pure (q h₆ x₆ ?_ ?_ ?_)⟩)))
 ·have n:=Nat.ne_of_gt il
  exact y₆.extBut _ _ n (y₅.extBut _ _ n (y₄.extBut _ _ n (y₃.extBut _ _ n t₂)))
 ·show h₆.objs.size=hp.objs.size + 1;rw [y₆.1,y₅.1,y₄.1,y₃.1,z₂]
 ·exact fun b o hb z=>y₆.extBut b o hb (y₅.extBut b o hb (y₄.extBut b o hb (y₃.extBut b o hb (k₂ b o hb z))))
end
end L2
namespace U2
open PySem L2
inductive U where
 | non | bl (b:Bool) | int (i:Int) | str (x:Str) | tup (us:List U) | lst (us:List U) | ref (a:Addr) | ty (n:String) | dic (ks:List (List Key)) (tk:Bool) (us:List U)
inductive MO where
 | lst (us:List U) | dK (kvs:List (Key × U)) | dT (kvs:List (List Key × U)) | tbl (q:Str)
abbrev aD:=Addr->Option MO
def mup (M:aD) (a:Addr) (o:MO):aD:=fun b=>if b=a then some o else M b
theorem aF {M:aD} {a:Addr} {o:MO}:mup M a o a=some o:=by unfold mup;rw [if_pos rfl]
theorem aM {M:aD} {a b:Addr} {o:MO} (h:b≠a):mup M a o b=M b:=by unfold mup;rw [if_neg h]
theorem bV {M:aD} {a:Addr} {o u:MO}:mup (mup M a o) a u=mup M a u:=by
 funext b;unfold mup;split <;> rfl
def KL (K:PySem.W.Frag) (a:Addr) (xs:List V):Prop :=
 ∃ (o:Obj) (its:Array Value) (n:Nat),K.lookup a=some o/\o.cls=.type "list"/\o.dict=none/\o.data=.seq its n/\its.size<=sizeLine/\Vals xs its.toList
def yL (H:Hp) (a:Addr) (ks:List (List Key)) (tk:Bool) (vs:List V):Prop:=match tk with
 | true=>∃ ws,Rd H a (.dT ws)/\ks=ws.map (·.1)/\vs=ws.map (·.2)
 | false=>∃ ws,Rd H a (.dK ws)/\ks=ws.map (fun p=>[p.1])/\vs=ws.map (·.2)
mutual
def aK (K:PySem.W.Frag) (H:Hp) (M:aD):U->V->Prop
 | .non,v=>v=.non
 | .bl b,v=>v=.bl b
 | .int i,v=>v=.int i
 | .str x,v=>v=.str x
 | .ty n,v=>v=.ty n
 | .ref a,v=>v=.ref a
 | .tup us,v=>∃ a vs,v=.ref a/\(M a=none/\H a=some (.tup vs))/\aH K H M us vs
 | .dic ks tk us,v=>∃ a vs,v=.ref a/\M a=none/\yL H a ks tk vs/\aH K H M us vs
 | .lst us,v=>∃ a vs,v=.ref a/\((M a=none/\Rd H a (.lst vs))\/KL K a vs)/\aH K H M us vs
def aH (K:PySem.W.Frag) (H:Hp) (M:aD):List U->List V->Prop
 | [],vs=>vs=[]
 | u :: us,vs=>∃ v vs',vs=v :: vs'/\aK K H M u v/\aH K H M us vs'
end
def uW:HO->Bool
 | .dK _=>true
 | .dT _=>true
 | _=>false
def aP (H:Hp) (M:aD) (H1:Hp) (M1:aD):Prop:=∀ b o,H b=some o->M b=none->(H1 b=some o\/(uW o=true/\∃ ob,H1 b=some (.frz ob o)))/\M1 b=none
theorem aP.by' {H H1:Hp} {M M1:aD} (h:∀ b o,H b=some o->M b=none->H1 b=some o/\M1 b=none):aP H M H1 M1:=fun b o e m=>⟨.inl (h b o e m).1,(h b o e m).2⟩
theorem aP.to {H H1:Hp} {M M1:aD} (st:aP H M H1 M1) {b:Addr} {o:HO} (e:H b=some o) (m:M b=none) (n:uW o=false:=by rfl):H1 b=some o/\M1 b=none:=by
 obtain ⟨h | ⟨h,_⟩,m1⟩:=st b o e m
 ·exact ⟨h,m1⟩
 ·rw [n] at h;cases h
theorem aP.refl (H:Hp) (M:aD):aP H M H M:=.by' fun _ _ h m=>⟨h,m⟩
theorem aP.trans {H H1 H2:Hp} {M M1 M2:aD} (a:aP H M H1 M1) (b:aP H1 M1 H2 M2):aP H M H2 M2:=fun c o h m=>by
 obtain ⟨h1 | ⟨d,ob,h1⟩,m1⟩:=a c o h m
 ·exact b c o h1 m1
 ·obtain ⟨h2,m2⟩:=b.to h1 m1
  exact ⟨.inr ⟨d,ob,h2⟩,m2⟩
theorem Rd.stp {H H1:Hp} {M M1:aD} {a:Addr} {u:HO} (st:aP H M H1 M1) (m:M a=none) (h:Rd H a u):M1 a=none/\Rd H1 a u:=by
 rcases h with h | ⟨o,h⟩
 ·obtain ⟨x | ⟨_,ob,x⟩,y⟩:=st a _ h m
  ·exact ⟨y,.inl x⟩
  ·exact ⟨y,.inr ⟨ob,x⟩⟩
 ·obtain ⟨x,y⟩:=st.to h m;exact ⟨y,.inr ⟨o,x⟩⟩
theorem yL.stp {H H1:Hp} {M M1:aD} {a:Addr} {ks:List (List Key)} {tk:Bool} {vs:List V} (st:aP H M H1 M1) (m:M a=none) (h:yL H a ks tk vs):M1 a=none/\yL H1 a ks tk vs:=by
 cases tk with
 | true=>obtain ⟨ws,e,r⟩:=h;exact ⟨(Rd.stp st m e).1,ws,(Rd.stp st m e).2,r⟩
 | false=>obtain ⟨ws,e,r⟩:=h;exact ⟨(Rd.stp st m e).1,ws,(Rd.stp st m e).2,r⟩
mutual
theorem aK.stp {K:PySem.W.Frag} {H H1:Hp} {M M1:aD} (st:aP H M H1 M1):∀ {u:U} {v:V},aK K H M u v->aK K H1 M1 u v
 | .non,_,h=>by simpa only [aK] using h
 | .bl _,_,h=>by simpa only [aK] using h
 | .int _,_,h=>by simpa only [aK] using h
 | .str _,_,h=>by simpa only [aK] using h
 | .ty _,_,h=>by simpa only [aK] using h
 | .ref _,_,h=>by simpa only [aK] using h
 | .tup us,_,h=>by
  simp only [aK] at h ⊢
  obtain ⟨a,vs,e,h1,h2⟩:=h
  refine ⟨a,vs,e,?_,aH.stp st h2⟩
  obtain ⟨m,r⟩:=h1
  exact ⟨(st.to r m).2,(st.to r m).1⟩
 | .dic ks tk us,_,h=>by
  simp only [aK] at h ⊢
  obtain ⟨a,vs,e,m,h1,h2⟩:=h
  have q:=yL.stp st m h1
  exact ⟨a,vs,e,q.1,q.2,aH.stp st h2⟩
 | .lst us,_,h=>by
  simp only [aK] at h ⊢
  obtain ⟨a,vs,e,h1,h2⟩:=h
  refine ⟨a,vs,e,?_,aH.stp st h2⟩
  rcases h1 with ⟨m,r⟩ | k
  ·exact .inl (Rd.stp st m r)
  ·exact .inr k
theorem aH.stp {K:PySem.W.Frag} {H H1:Hp} {M M1:aD} (st:aP H M H1 M1):∀ {us:List U} {vs:List V},aH K H M us vs->aH K H1 M1 us vs
 | [],_,h=>by simpa only [aH] using h
 | u :: us,_,h=>by
  simp only [aH] at h ⊢
  obtain ⟨v,vs',e,h1,h2⟩:=h
  exact ⟨v,vs',e,aK.stp st h1,aH.stp st h2⟩
end
theorem aP.less {H:Hp} {M M1:aD} (h:∀ b,M b=none->M1 b=none):aP H M H M1:=.by' fun b o e m=>⟨e,h b m⟩
def cD {κ:Type} (K:PySem.W.Frag) (H:Hp) (M:aD):List (κ × U)->List (κ × V)->Prop:=Paired fun p q=>p.1=q.1/\aK K H M p.2 q.2
theorem cD.stp {κ:Type} {K:PySem.W.Frag} {H H1:Hp} {M M1:aD} (st:aP H M H1 M1):∀ {us:List (κ × U)} {vs:List (κ × V)},cD K H M us vs->cD K H1 M1 us vs
 | _,_,.nil=>.nil
 | _,_,.cons h t=>.cons ⟨h.1,h.2.stp st⟩ (cD.stp st t)
def zF (K:PySem.W.Frag) (H:Hp) (M:aD) (a:Addr):MO->Prop
 | .lst us=>∃ vs,H a=some (.lst vs)/\aH K H M us vs
 | .dK kvs=>∃ ws,H a=some (.dK ws)/\cD K H M kvs ws
 | .dT kvs=>∃ ws,H a=some (.dT ws)/\cD K H M kvs ws
 | .tbl q=>(∀ b,M b=some (.tbl q)->b=a)/\∃ ps,H a=some (.tbl ps)/\TriplesOk ps.toList/\∀ pos c,codeAmong pos ps.toList=some c->∃ c' oc vs t,c=.ref c'/\H c'=some (.frz oc (.own 0))/\M c'=none/\oc.data=.fields vs/\vs[1]?=some (.str q t)
def RelM (K:PySem.W.Frag) (H:Hp) (M:aD):Prop:=∀ a mo,M a=some mo->zF K H M a mo
theorem zF.stp {K:PySem.W.Frag} {H H1:Hp} {M M1:aD} {a:Addr} {mo:MO} (hu:∀ b q,M1 b=some (.tbl q)->M b=some (.tbl q)) (st:aP H M H1 M1) (e:H1 a=H a) (h:zF K H M a mo):zF K H1 M1 a mo:=by
 cases mo with
 | lst us=>obtain ⟨vs,x,y⟩:=h;exact ⟨vs,e.trans x,y.stp st⟩
 | dK us=>obtain ⟨vs,x,y⟩:=h;exact ⟨vs,e.trans x,y.stp st⟩
 | dT us=>obtain ⟨vs,x,y⟩:=h;exact ⟨vs,e.trans x,y.stp st⟩
 | tbl q =>
  obtain ⟨un,ps,x,y,z⟩:=h
  refine ⟨fun b hb=>un b (hu b q hb),ps,e.trans x,y,fun pos c hc=>?_⟩
  obtain ⟨c',oc,vs,t,h1,h2,h3,h4⟩:=z pos c hc
  exact ⟨c',oc,vs,t,h1,(st.to h2 h3).1,(st.to h2 h3).2,h4⟩
theorem RelM.ex {K:PySem.W.Frag} {H:Hp} {M:aD} (r:RelM K H M) {a:Addr} {mo:MO} (h:M a=some mo):∃ o,H a=some o:=by
 have:=r a mo h
 cases mo with
 | lst us=>obtain ⟨vs,x,y⟩:=this;exact ⟨_,x⟩
 | dK us=>obtain ⟨vs,x,y⟩:=this;exact ⟨_,x⟩
 | dT us=>obtain ⟨vs,x,y⟩:=this;exact ⟨_,x⟩
 | tbl q=>obtain ⟨_,ps,x,_⟩:=this;exact ⟨_,x⟩
theorem RelM.no {K:PySem.W.Frag} {H:Hp} {M:aD} (r:RelM K H M) {a:Addr} (h:H a=none):M a=none:=by
 cases e:M a with
 | none=>rfl
 | some mo=>obtain ⟨o,q⟩:=r.ex e;rw [h] at q;cases q
theorem aP.laid {K:PySem.W.Frag} {H:Hp} {M:aD} {p:Addr} {o:HO} (r:RelM K H M) (h:H p=none):aP H M (upd H p o) M:=.by' fun b u e m=>⟨by rw [bF (cF e h)];exact e,m⟩
theorem RelM.laid {K:PySem.W.Frag} {H:Hp} {M:aD} {p:Addr} {o:HO} (r:RelM K H M) (h:H p=none):RelM K (upd H p o) M:=fun a mo e=>by
 obtain ⟨u,q⟩:=r.ex e
 exact (r a mo e).stp (fun _ _ z=>z) (aP.laid r h) (bF (cF q h))
theorem aP.own {K:PySem.W.Frag} {H:Hp} {M:aD} {p:Addr} {o:HO} {mo:MO} (r:RelM K H M) (h:H p=none):aP H M (upd H p o) (mup M p mo):=.by' fun b u e m=>by
 have n:=cF e h
 exact ⟨by rw [bF n];exact e,by rw [aM n];exact m⟩
theorem RelM.put {K:PySem.W.Frag} {H:Hp} {M:aD} {p:Addr} {o:HO} {mo:MO} (r:RelM K H M) (st:aP H M (upd H p o) (mup M p mo)) (new:zF K (upd H p o) (mup M p mo) p mo) (hm:∀ q,mo≠.tbl q:=by intro q z;cases z):RelM K (upd H p o) (mup M p mo):=fun a m e=>by
 by_cases ha:a=p
 ·subst ha;rw [aF] at e;cases e;exact new
 ·rw [aM ha] at e
  refine (r a m e).stp (fun b q z=>?_) st (bF ha)
  by_cases hb:b=p
  ·subst hb;rw [aF] at z;exact absurd (Option.some.inj z) (hm q)
  ·rw [aM hb] at z;exact z
theorem aP.write {H:Hp} {M:aD} {p:Addr} {o:HO} {mo m0:MO} (h:M p=some m0):aP H M (upd H p o) (mup M p mo):=.by' fun b u e m=>by
 have n:b≠p:=fun z=>by subst z;rw [h] at m;cases m
 exact ⟨by rw [bF n];exact e,by rw [aM n];exact m⟩
section
variable {K:PySem.W.Frag} {H:Hp} {M:aD}
theorem aH.nil:aH K H M [] []:=by simp only [aH]
theorem aH.cons {u:U} {v:V} {us:List U} {vs:List V} (h:aK K H M u v) (t:aH K H M us vs):aH K H M (u :: us) (v :: vs):=by simp only [aH];exact ⟨v,vs,rfl,h,t⟩
theorem aH.length:∀ {us:List U} {vs:List V},aH K H M us vs->us.length=vs.length
 | [],_,h=>by simp only [aH] at h;subst h;rfl
 | u :: us,_,h=>by
  simp only [aH] at h
  obtain ⟨v,vs',rfl,_,t⟩:=h
  simp [aH.length t]
theorem aH.inv_cons {u:U} {us:List U} {vs:List V} (h:aH K H M (u :: us) vs):∃ v vs',vs=v :: vs'/\aK K H M u v/\aH K H M us vs':=by simpa only [aH] using h
theorem aH.inv_nil {vs:List V} (h:aH K H M [] vs):vs=[]:=by simpa only [aH] using h
theorem aH.append:∀ {us ws:List U} {vs zs:List V},aH K H M us vs->aH K H M ws zs->aH K H M (us++ws) (vs++zs)
 | [],_,_,_,h,t=>by cases h.inv_nil;exact t
 | u :: us,_,_,_,h,t=>by
  obtain ⟨v,vs',rfl,a,b⟩:=h.inv_cons
  exact .cons a (aH.append b t)
theorem aH.get:∀ {us:List U} {vs:List V} {i:Nat} {u:U},aH K H M us vs->us[i]?=some u->∃ v,vs[i]?=some v/\aK K H M u v
 | [],_,_,_,_,e=>by simp at e
 | u :: us,_,0,_,h,e=>by
  obtain ⟨v,vs',rfl,a,b⟩:=h.inv_cons
  simp at e;subst e;exact ⟨v,rfl,a⟩
 | u :: us,_,i + 1,_,h,e=>by
  obtain ⟨v,vs',rfl,a,b⟩:=h.inv_cons
  simp at e
  obtain ⟨w,x,y⟩:=aH.get b e
  exact ⟨w,by simpa using x,y⟩
theorem aH.drop:∀ {us:List U} {vs:List V} (n:Nat),aH K H M us vs->aH K H M (us.drop n) (vs.drop n)
 | _,_,0,h=>h
 | [],_,_ + 1,h=>by cases h.inv_nil;exact .nil
 | u :: us,_,n + 1,h=>by
  obtain ⟨v,vs',rfl,a,b⟩:=h.inv_cons
  exact aH.drop n b
theorem aH.take:∀ {us:List U} {vs:List V} (n:Nat),aH K H M us vs->aH K H M (us.take n) (vs.take n)
 | _,_,0,_=>by simp only [List.take_zero];exact .nil
 | [],_,_ + 1,h=>by cases h.inv_nil;exact .nil
 | u :: us,_,n + 1,h=>by
  obtain ⟨v,vs',rfl,a,b⟩:=h.inv_cons
  exact .cons a (aH.take n b)
theorem aH.set {u:U} {v:V} (r:aK K H M u v):∀ {us:List U} {vs:List V} (i:Nat),aH K H M us vs->aH K H M (us.set i u) (vs.set i v)
 | [],_,_,h=>by cases h.inv_nil;exact .nil
 | w :: us,_,0,h=>by
  obtain ⟨z,vs',rfl,a,b⟩:=h.inv_cons
  exact .cons r b
 | w :: us,_,i + 1,h=>by
  obtain ⟨z,vs',rfl,a,b⟩:=h.inv_cons
  exact .cons a (aH.set r i b)
theorem aH.reverse:∀ {us:List U} {vs:List V},aH K H M us vs->aH K H M us.reverse vs.reverse
 | [],_,h=>by cases h.inv_nil;exact .nil
 | u :: us,_,h=>by
  obtain ⟨v,vs',rfl,a,b⟩:=h.inv_cons
  rw [List.reverse_cons,List.reverse_cons]
  exact (aH.reverse b).append (.cons a .nil)
theorem aH.dropLast {us:List U} {vs:List V} (h:aH K H M us vs):aH K H M us.dropLast vs.dropLast:=by
 rw [List.dropLast_eq_take,List.dropLast_eq_take,h.length];exact h.take _
end
abbrev SU:=List (Option U)
abbrev UK:=U->aD->Prop
abbrev UE:=SU->aD->UK->Prop
abbrev UT:=SU->aD->(Bool->aD->Prop)->Prop
abbrev UA:=SU->aD->(List U->aD->Prop)->Prop
structure pE where
 nx:SU->aD->Prop
 rt:UK
 bk:SU->aD->Prop:=fun _ _=>False
 ct:SU->aD->Prop:=fun _ _=>False
abbrev US:=pE->SU->aD->Prop
def d8 (K:PySem.W.Frag) (H:Hp) (M:aD) (σ:St) (τ:SU):Prop:=τ.length=σ.length/\∀ (i:Nat) u,τ[i]?=some (some u)->∃ v,σ[i]?=some (some v)/\aK K H M u v
theorem d8.stp {K:PySem.W.Frag} {H H1:Hp} {M M1:aD} {σ:St} {τ:SU} (st:aP H M H1 M1) (r:d8 K H M σ τ):d8 K H1 M1 σ τ:=⟨r.1,fun i u e=>let ⟨v,a,b⟩:=r.2 i u e;⟨v,a,b.stp st⟩⟩
theorem d8.set {K:PySem.W.Frag} {H:Hp} {M:aD} {σ:St} {τ:SU} {i:Nat} {u:U} {v:V} (r:d8 K H M σ τ) (h:aK K H M u v):d8 K H M (σ.set i (some v)) (τ.set i (some u)):=by
 refine ⟨by simp [r.1],fun j w e=>?_⟩
 rw [List.getElem?_set] at e ⊢
 split at e
 ·rename_i hij
  subst hij
  split at e
  ·rename_i hl
   cases e
   rw [if_pos rfl,if_pos (by rw [<- r.1];exact hl)]
   exact ⟨v,rfl,h⟩
  ·cases e
 ·rename_i hij
  rw [if_neg hij]
  exact r.2 j w e
def cE (K:PySem.W.Frag) (t:TE) (t':UE):Prop:=∀ (σ:St) (τ:SU) (H:Hp) (M:aD) (Q':UK),d8 K H M σ τ->RelM K H M->t' τ M Q' ->
 ∀ Q:VK,(∀ u v M1 H1,aP H M H1 M1->RelM K H1 M1->aK K H1 M1 u v->Q' u M1->Q v H1)->t σ H Q
def jO (K:PySem.W.Frag) (t:TT) (t':UT):Prop:=∀ (σ:St) (τ:SU) (H:Hp) (M:aD) (Q':Bool->aD->Prop),d8 K H M σ τ->RelM K H M->t' τ M Q' ->
 ∀ Q:Bool->Hp->Prop,(∀ b M1 H1,aP H M H1 M1->RelM K H1 M1->Q' b M1->Q b H1)->t σ H Q
def k8 (K:PySem.W.Frag) (t:TA) (t':UA):Prop:=∀ (σ:St) (τ:SU) (H:Hp) (M:aD) (Q':List U->aD->Prop),d8 K H M σ τ->RelM K H M->t' τ M Q' ->
 ∀ Q:List V->Hp->Prop,(∀ us vs M1 H1,aP H M H1 M1->RelM K H1 M1->aH K H1 M1 us vs->Q' us M1->Q vs H1)->t σ H Q
structure F4 (K:PySem.W.Frag) (H:Hp) (M:aD) (D:Ends) (D':pE):Prop where
 nx:∀ σ τ H1 M1,aP H M H1 M1->RelM K H1 M1->d8 K H1 M1 σ τ->D'.nx τ M1->D.nx σ H1
 rt:∀ u v H1 M1,aP H M H1 M1->RelM K H1 M1->aK K H1 M1 u v->D'.rt u M1->D.rt v H1
 bk:∀ σ τ H1 M1,aP H M H1 M1->RelM K H1 M1->d8 K H1 M1 σ τ->D'.bk τ M1->D.bk σ H1
 ct:∀ σ τ H1 M1,aP H M H1 M1->RelM K H1 M1->d8 K H1 M1 σ τ->D'.ct τ M1->D.ct σ H1
theorem F4.stp {K:PySem.W.Frag} {H H1:Hp} {M M1:aD} {D:Ends} {D':pE} (d:F4 K H M D D') (st:aP H M H1 M1):F4 K H1 M1 D D' :=
 ⟨fun σ τ H2 M2 s=>d.nx σ τ H2 M2 (st.trans s),fun u v H2 M2 s=>d.rt u v H2 M2 (st.trans s),fun σ τ H2 M2 s=>d.bk σ τ H2 M2 (st.trans s),fun σ τ H2 M2 s=>d.ct σ τ H2 M2 (st.trans s)⟩
def kN (K:PySem.W.Frag) (t:TS) (t':US):Prop:=∀ (σ:St) (τ:SU) (H:Hp) (M:aD) (D':pE),d8 K H M σ τ->RelM K H M->t' D' τ M->∀ D:Ends,F4 K H M D D'->t D σ H
end U2
namespace U2
open PySem L2
abbrev dQ:=U->U->aD->UK->Prop
def dJ (K:PySem.W.Frag) (H:Hp) (M:aD) (Q':UK) (Q:VK):Prop:=∀ u v M1 H1,aP H M H1 M1->RelM K H1 M1->aK K H1 M1 u v->Q' u M1->Q v H1
theorem dJ.stp {K:PySem.W.Frag} {H H1:Hp} {M M1:aD} {Q':UK} {Q:VK} (c:dJ K H M Q' Q) (st:aP H M H1 M1):dJ K H1 M1 Q' Q:=fun u v M2 H2 s=>c u v M2 H2 (st.trans s)
theorem dJ.here {K:PySem.W.Frag} {H:Hp} {M:aD} {Q':UK} {Q:VK} {u:U} {v:V} (c:dJ K H M Q' Q) (rm:RelM K H M) (r:aK K H M u v) (q:Q' u M):Q v H:=c u v M H (aP.refl H M) rm r q
def dX (K:PySem.W.Frag) (r:R2) (r':dQ):Prop:=∀ (x y:V) (u w:U) (H:Hp) (M:aD) (Q':UK),RelM K H M->aK K H M u x->aK K H M w y->r' u w M Q'->∀ Q:VK,dJ K H M Q' Q->r x y H Q
def Q3 (K:PySem.W.Frag) (r:V->Hp->VK->Prop) (r':U->aD->UK->Prop):Prop:=∀ (x:V) (u:U) (H:Hp) (M:aD) (Q':UK),RelM K H M->aK K H M u x->r' u M Q'->∀ Q:VK,dJ K H M Q' Q->r x H Q
def xX (K:PySem.W.Frag) (r:List V->Hp->VK->Prop) (r':List U->aD->UK->Prop):Prop:=∀ (xs:List V) (us:List U) (H:Hp) (M:aD) (Q':UK),RelM K H M->aH K H M us xs->r' us M Q'->∀ Q:VK,dJ K H M Q' Q->r xs H Q
def uZ (K:PySem.W.Frag) (r:V->List V->Hp->VK->Prop) (r':U->List U->aD->UK->Prop):Prop:=∀ (x:V) (xs:List V) (u:U) (us:List U) (H:Hp) (M:aD) (Q':UK),RelM K H M->aK K H M u x->aH K H M us xs->r' u us M Q'->∀ Q:VK,dJ K H M Q' Q->r x xs H Q
section
variable {K:PySem.W.Frag} {H:Hp} {M:aD} {v:V}
theorem aK.non (h:aK K H M .non v):v=.non:=by simpa only [aK] using h
theorem aK.bl {b:Bool} (h:aK K H M (.bl b) v):v=.bl b:=by simpa only [aK] using h
theorem aK.int {i:Int} (h:aK K H M (.int i) v):v=.int i:=by simpa only [aK] using h
theorem aK.str {x:Str} (h:aK K H M (.str x) v):v=.str x:=by simpa only [aK] using h
theorem aK.ty {n:String} (h:aK K H M (.ty n) v):v=.ty n:=by simpa only [aK] using h
theorem aK.ref {a:Addr} (h:aK K H M (.ref a) v):v=.ref a:=by simpa only [aK] using h
theorem aK.tup {us:List U} (h:aK K H M (.tup us) v):∃ a vs,v=.ref a/\eY K H a vs/\aH K H M us vs:=by
 simp only [aK] at h
 obtain ⟨a,vs,e,h1,h2⟩:=h
 refine ⟨a,vs,e,?_,h2⟩
 exact .inl (.inl h1.2)
theorem aK.lst {us:List U} (h:aK K H M (.lst us) v):∃ a vs,v=.ref a/\dN K H a vs/\aH K H M us vs:=by
 simp only [aK] at h
 obtain ⟨a,vs,e,h1,h2⟩:=h
 refine ⟨a,vs,e,?_,h2⟩
 rcases h1 with ⟨_,r⟩ | k
 ·exact .inl r
 ·exact .inr k
theorem mM:aK K H M .non .non:=by simp only [aK]
theorem eW {b:Bool}:aK K H M (.bl b) (.bl b):=by simp only [aK]
theorem eK {i:Int}:aK K H M (.int i) (.int i):=by simp only [aK]
theorem mW {x:Str}:aK K H M (.str x) (.str x):=by simp only [aK]
theorem mL {a:Addr}:aK K H M (.ref a) (.ref a):=by simp only [aK]
theorem rG {a:Addr} {us:List U} {vs:List V} (m:M a=none) (h:H a=some (.tup vs)) (r:aH K H M us vs):aK K H M (.tup us) (.ref a):=by
 simp only [aK];exact ⟨a,vs,rfl,⟨m,h⟩,r⟩
theorem rT {a:Addr} {us:List U} {vs:List V} (m:M a=none) (h:H a=some (.lst vs)) (r:aH K H M us vs):aK K H M (.lst us) (.ref a):=by
 simp only [aK];exact ⟨a,vs,rfl,.inl ⟨m,.inl h⟩,r⟩
theorem dJ.tup {Q':UK} {Q:VK} {us:List U} {vs:List V} {p:Addr} (c:dJ K H M Q' Q) (rm:RelM K H M) (r:aH K H M us vs) (hp:H p=none) (q:Q' (.tup us) M):Q (.ref p) (upd H p (.tup vs)) :=
 c _ _ M _ (aP.laid rm hp) (rm.laid hp) (rG (rm.no hp) cG (r.stp (aP.laid rm hp))) q
def iL (o:Bool) (us:List U) (M:aD) (Q:UK):Prop:=match o with
 | true=>∀ p,M p=none->Q (.ref p) (mup M p (.lst us))
 | false=>Q (.lst us) M
theorem dJ.lst {o:Bool} {Q':UK} {Q:VK} {us:List U} {vs:List V} {p:Addr} (c:dJ K H M Q' Q) (rm:RelM K H M) (r:aH K H M us vs) (hp:H p=none) (q:iL o us M Q'):Q (.ref p) (upd H p (.lst vs)):=by
 cases o with
 | false=>exact c _ _ M _ (aP.laid rm hp) (rm.laid hp) (rT (rm.no hp) cG (r.stp (aP.laid rm hp))) q
 | true =>
  have st:aP H M (upd H p (.lst vs)) (mup M p (.lst us)):=aP.own rm hp
  exact c (.ref p) _ _ _ st (rm.put st ⟨vs,cG,r.stp st⟩) mL (q p (rm.no hp))
end
def view (M:aD):U->U
 | .ref a=>match M a with
  | some (.lst us)=>.lst us
  | _=>.ref a
 | u=>u
theorem mR {M:aD} {a:Addr} {us:List U} (h:M a=some (.lst us)):view M (.ref a)=.lst us:=by simp only [view,h]
theorem dG {K:PySem.W.Frag} {H:Hp} {M:aD} {u:U} {v:V} {us:List U} (rm:RelM K H M) (r:aK K H M u v) (h:view M u=.lst us):∃ a vs,v=.ref a/\dN K H a vs/\aH K H M us vs:=by
 cases u with
 | lst ws=>simp only [view] at h;cases h;exact r.lst
 | ref a =>
  simp only [view] at h
  split at h
  ·rename_i ws e
   cases h
   obtain ⟨vs,h1,h2⟩:=rm a _ e
   exact ⟨a,vs,r.ref,.inl (.inl h1),h2⟩
  ·cases h
 | _=>simp [view] at h
section
variable {K:PySem.W.Frag} {t ta tb tc:TE} {t' ta' tb' tc':UE}
def pW (i:Nat):UE:=fun τ M Q=>match τ[i]? with
 | some (some u)=>Q u M
 | _=>False
theorem Ec (i:Nat):cE K (Kz i) (pW i):=fun σ τ H M Q' rs rm h Q c=>by
 unfold pW at h
 split at h
 ·rename_i u e
  obtain ⟨v,e2,r⟩:=rs.2 i u e
  exact ⟨v,e2,c u v M H (aP.refl _ _) rm r h⟩
 ·exact h.elim
def uC (u:U):UE:=fun _ M Q=>Q u M
theorem y0 {u:U} {v:V} (h:∀ H M,aK K H M u v):cE K (tC v) (uC u):=fun σ τ H M Q' rs rm q Q c=>c u v M H (aP.refl _ _) rm (h H M) q
theorem NX {i:Int}:cE K (tC (.int i)) (uC (.int i)):=y0 fun _ _=>eK
theorem OE {i:Bool}:cE K (tC (.bl i)) (uC (.bl i)):=y0 fun _ _=>eW
theorem NV {i:Str}:cE K (tC (.str i)) (uC (.str i)):=y0 fun _ _=>mW
theorem N6:cE K (tC .non) (uC .non):=y0 fun _ _=>mM
theorem Mh {a:Addr}:cE K (tC (.ref a)) (uC (.ref a)):=y0 fun _ _=>mL
def lP (r:dQ) (ta tb:UE):UE:=fun τ M Q=>ta τ M fun x M1=>tb τ M1 fun y M2=>r x y M2 Q
theorem uS {r:R2} {r':dQ} (hr:dX K r r') (ha:cE K ta ta') (hb:cE K tb tb'):cE K (Ee r ta tb) (lP r' ta' tb'):=fun σ τ H M Q' rs rm h Q c =>
 ha σ τ H M _ rs rm h _ fun u v M1 H1 s1 rm1 ru h1=>hb σ τ H1 M1 _ (rs.stp s1) rm1 h1 _ fun w x M2 H2 s2 rm2 rw h2=>hr v x u w H2 M2 Q' rm2 (ru.stp s2) rw h2 Q (dJ.stp c (s1.trans s2))
def CY (r:U->aD->UK->Prop) (ta:UE):UE:=fun τ M Q=>ta τ M fun x M1=>r x M1 Q
theorem OH {r:V->Hp->VK->Prop} {r':U->aD->UK->Prop} (hr:Q3 K r r') (ha:cE K ta ta'):cE K (Rm r ta) (CY r' ta'):=fun σ τ H M Q' rs rm h Q c =>
 ha σ τ H M _ rs rm h _ fun u v M1 H1 s1 rm1 ru h1=>hr v u H1 M1 Q' rm1 ru h1 Q (dJ.stp c s1)
def o8 (t:UE):UT:=fun τ M Q=>t τ M fun u M1=>match u with
 | .bl b=>Q b M1
 | _=>False
theorem JX (h:cE K t t'):jO K (LK t) (o8 t'):=fun σ τ H M Q' rs rm q Q c=>h σ τ H M _ rs rm q _ fun u v M1 H1 s1 rm1 ru h1=>by
 cases u with
 | bl b=>exact ⟨b,ru.bl,c b M1 H1 s1 rm1 h1⟩
 | _=>exact h1.elim
def wU (t:UE):UT:=fun τ M Q=>t τ M fun u M1=>match view M1 u with
 | .non=>Q false M1
 | .bl b=>Q b M1
 | .int i=>Q (i != 0) M1
 | .str x=>x.length<=sizeLine/\Q ((x.length:Int) != 0) M1
 | .tup us=>Q (!us.isEmpty) M1
 | .lst us=>Q (!us.isEmpty) M1
 | _=>False
theorem v8 {H:Hp} {M:aD} {us:List U} {vs:List V} (r:aH K H M us vs):us.isEmpty=vs.isEmpty:=by
 have:=r.length
 cases us <;> cases vs <;> simp_all
theorem NO (h:cE K t t'):jO K (fun σ H Q=>t σ H fun x H'=>∃ k,JW K x H' k/\Q k H') (wU t'):=fun σ τ H M Q' rs rm q Q c=>h σ τ H M _ rs rm q _ fun u v M1 H1 s1 rm1 ru h1=>by
 split at h1
 ·rename_i e
  cases u with
  | non=>exact ⟨false,by rw [ru.non];rfl,c _ M1 H1 s1 rm1 h1⟩
  | ref a=>simp only [view] at e;split at e <;> cases e
  | _=>simp [view] at e
 ·rename_i b e
  cases u with
  | bl b'=>simp only [view] at e;cases e;exact ⟨b,by rw [ru.bl];rfl,c _ M1 H1 s1 rm1 h1⟩
  | ref a=>simp only [view] at e;split at e <;> cases e
  | _=>simp [view] at e
 ·rename_i b e
  cases u with
  | int b'=>simp only [view] at e;cases e;exact ⟨b != 0,by rw [ru.int];rfl,c _ M1 H1 s1 rm1 h1⟩
  | ref a=>simp only [view] at e;split at e <;> cases e
  | _=>simp [view] at e
 ·rename_i b e
  cases u with
  | str b'=>simp only [view] at e;cases e;exact ⟨(b.length:Int) != 0,by rw [ru.str];exact ⟨h1.1,rfl⟩,c _ M1 H1 s1 rm1 h1.2⟩
  | ref a=>simp only [view] at e;split at e <;> cases e
  | _=>simp [view] at e
 ·rename_i us e
  cases u with
  | tup us' =>
   simp only [view] at e;cases e
   obtain ⟨a,vs,rfl,r1,r2⟩:=ru.tup
   exact ⟨!vs.isEmpty,.inr (.inl ⟨vs,r1,rfl⟩),c _ M1 H1 s1 rm1 (by rw [<- v8 r2];exact h1)⟩
  | ref a=>simp only [view] at e;split at e <;> cases e
  | _=>simp [view] at e
 ·rename_i us e
  obtain ⟨a,vs,rfl,r1,r2⟩:=dG rm1 ru e
  exact ⟨!vs.isEmpty,.inl ⟨vs,r1,rfl⟩,c _ M1 H1 s1 rm1 (by rw [<- v8 r2];exact h1)⟩
 ·exact h1.elim
def wZ (t u:UT):UT:=fun τ M Q=>t τ M fun c M1=>if c=true then u τ M1 Q else Q false M1
def B9 (t u:UT):UT:=fun τ M Q=>t τ M fun c M1=>if c=true then Q true M1 else u τ M1 Q
def w6 (t:UT):UT:=fun τ M Q=>t τ M fun c M1=>Q (!c) M1
theorem NP {t u:TT} {t' u':UT} (h:jO K t t') (k:jO K u u'):jO K (OM t u) (wZ t' u'):=fun σ τ H M Q' rs rm q Q c=>h σ τ H M _ rs rm q _ fun b M1 H1 s1 rm1 h1=>by
 cases b with
 | true=>exact k σ τ H1 M1 Q' (rs.stp s1) rm1 h1 Q fun b M2 H2 s2=>c b M2 H2 (s1.trans s2)
 | false=>exact c _ M1 H1 s1 rm1 h1
theorem P8 {t u:TT} {t' u':UT} (h:jO K t t') (k:jO K u u'):jO K (Rb t u) (B9 t' u'):=fun σ τ H M Q' rs rm q Q c=>h σ τ H M _ rs rm q _ fun b M1 H1 s1 rm1 h1=>by
 cases b with
 | false=>exact k σ τ H1 M1 Q' (rs.stp s1) rm1 h1 Q fun b M2 H2 s2=>c b M2 H2 (s1.trans s2)
 | true=>exact c _ M1 H1 s1 rm1 h1
theorem N5 {t:TT} {t':UT} (h:jO K t t'):jO K (Px t) (w6 t'):=fun σ τ H M Q' rs rm q Q c=>h σ τ H M _ rs rm q _ fun b M1 H1 s1 rm1 h1=>c _ M1 H1 s1 rm1 h1
def rN (ta tb:UE):UE:=fun τ M Q=>ta τ M fun x M1=>match x with
 | .bl c=>if c=true then tb τ M1 Q else Q (.bl false) M1
 | _=>False
def BV (ta tb:UE):UE:=fun τ M Q=>ta τ M fun x M1=>match x with
 | .bl c=>if c=true then Q (.bl true) M1 else tb τ M1 Q
 | _=>False
def zI (ta:UE):UE:=fun τ M Q=>ta τ M fun x M1=>match x with
 | .bl c=>Q (.bl (!c)) M1
 | _=>False
theorem K7 (h:cE K ta ta') (k:cE K tb tb'):cE K (LD ta tb) (rN ta' tb'):=fun σ τ H M Q' rs rm q Q c=>h σ τ H M _ rs rm q _ fun u v M1 H1 s1 rm1 ru h1=>by
 cases u with
 | bl b =>
  refine ⟨b,ru.bl,?_⟩
  cases b with
  | true=>exact k σ τ H1 M1 Q' (rs.stp s1) rm1 h1 Q (dJ.stp c s1)
  | false=>exact c _ _ M1 H1 s1 rm1 eW h1
 | _=>exact h1.elim
def C1 (t:UT) (ta tb:UE):UE:=fun τ M Q=>t τ M fun c M1=>if c=true then ta τ M1 Q else tb τ M1 Q
theorem OO {t:TT} {t':UT} (h:jO K t t') (k:cE K ta ta') (l:cE K tb tb'):cE K (Ro t ta tb) (C1 t' ta' tb'):=fun σ τ H M Q' rs rm q Q c=>h σ τ H M _ rs rm q _ fun b M1 H1 s1 rm1 h1=>by
 cases b with
 | true=>exact k σ τ H1 M1 Q' (rs.stp s1) rm1 h1 Q (dJ.stp c s1)
 | false=>exact l σ τ H1 M1 Q' (rs.stp s1) rm1 h1 Q (dJ.stp c s1)
def oE (r r':dQ) (ta tb tc:UE):UE:=fun τ M Q=>ta τ M fun x M1=>tb τ M1 fun y M2=>r x y M2 fun z M3=>match z with
 | .bl k=>if k=true then tc τ M3 fun w M4=>r' y w M4 Q else Q (.bl false) M3
 | _=>False
theorem Iq {r r':R2} {s s':dQ} (hr:dX K r s) (hr':dX K r' s') (ha:cE K ta ta') (hb:cE K tb tb') (hc:cE K tc tc'):cE K (Hc r r' ta tb tc) (oE s s' ta' tb' tc'):=fun σ τ H M Q' rs rm h Q c =>
 ha σ τ H M _ rs rm h _ fun u v M1 H1 s1 rm1 ru h1=>hb σ τ H1 M1 _ (rs.stp s1) rm1 h1 _ fun w x M2 H2 s2 rm2 rw h2 =>
  hr v x u w H2 M2 _ rm2 (ru.stp s2) rw h2 _ fun z zv M3 H3 s3 rm3 rz h3=>by
   cases z with
   | bl k =>
    refine ⟨k,rz.bl,?_⟩
    cases k with
    | true=>exact hc σ τ H3 M3 _ ((rs.stp s1).stp (s2.trans s3)) rm3 h3 _ fun w2 x2 M4 H4 s4 rm4 rw4 h4=>hr' x x2 w w2 H4 M4 Q' rm4 (rw.stp (s3.trans s4)) rw4 h4 Q (dJ.stp c (((s1.trans s2).trans s3).trans s4))
    | false=>exact c _ _ M3 H3 ((s1.trans s2).trans s3) rm3 eW h3
   | _=>exact h3.elim
def wH:UA:=fun _ M Q=>Q [] M
def r9 (ta:UE) (tr:UA):UA:=fun τ M Q=>ta τ M fun x M1=>tr τ M1 fun xs M2=>Q (x :: xs) M2
theorem MF:k8 K Py wH:=fun σ τ H M Q' rs rm q Q c=>c [] [] M H (aP.refl _ _) rm .nil q
theorem JT {tr:TA} {tr':UA} (ha:cE K ta ta') (hr:k8 K tr tr'):k8 K (LW ta tr) (r9 ta' tr'):=fun σ τ H M Q' rs rm h Q c =>
 ha σ τ H M _ rs rm h _ fun u v M1 H1 s1 rm1 ru h1=>hr σ τ H1 M1 _ (rs.stp s1) rm1 h1 _ fun us vs M2 H2 s2 rm2 rus h2=>c (u :: us) (v :: vs) M2 H2 (s1.trans s2) rm2 (.cons (ru.stp s2) rus) h2
def xI (t:UA):UE:=fun τ M Q=>t τ M fun us M1=>us.length<=sizeLine/\Q (.tup us) M1
def wW (o:Bool) (t:UA):UE:=fun τ M Q=>t τ M fun us M1=>us.length<=sizeLine/\iL o us M1 Q
theorem ND {t:TA} {t':UA} (h:k8 K t t'):cE K (Qh t) (xI t'):=fun σ τ H M Q' rs rm q Q c =>
 h σ τ H M _ rs rm q _ fun us vs M1 H1 s1 rm1 r h1=>⟨by rw [<- r.length];exact h1.1,fun p hp=>(dJ.stp c s1).tup rm1 r hp h1.2⟩
theorem MD {o:Bool} {t:TA} {t':UA} (h:k8 K t t'):cE K (Pn t) (wW o t'):=fun σ τ H M Q' rs rm q Q c =>
 h σ τ H M _ rs rm q _ fun us vs M1 H1 s1 rm1 r h1=>⟨by rw [<- r.length];exact h1.1,fun p hp=>(dJ.stp c s1).lst rm1 r hp h1.2⟩
def Bn (r:List U->aD->UK->Prop) (t:UA):UE:=fun τ M Q=>t τ M fun us M1=>r us M1 Q
theorem Ho {r:List V->Hp->VK->Prop} {r':List U->aD->UK->Prop} {t:TA} {t':UA} (hr:xX K r r') (h:k8 K t t'):cE K (O1 r t) (Bn r' t'):=fun σ τ H M Q' rs rm q Q c =>
 h σ τ H M _ rs rm q _ fun us vs M1 H1 s1 rm1 ru h1=>hr vs us H1 M1 Q' rm1 ru h1 Q (dJ.stp c s1)
end
end U2
namespace U2
open PySem L2
section
variable {K:PySem.W.Frag}
def q8 (g:Int->Int->U):dQ:=fun x y M Q=>match x,y with
 | .int i,.int j=>Q (g i j) M
 | _,_=>False
def uI (C:Int->Int->Prop) (g:Int->Int->U):dQ:=fun x y M Q=>match x,y with
 | .int i,.int j=>C i j/\Q (g i j) M
 | _,_=>False
theorem Ij {g:Int->Int->V} {g':Int->Int->U} (hg:∀ H M i j,aK K H M (g' i j) (g i j)):dX K (tG g) (q8 g'):=fun x y u w H M Q' rm ru rw h Q c=>by
 cases u with
 | int i=>cases w with
  | int j=>exact ⟨i,j,ru.int,rw.int,c _ _ M H (aP.refl _ _) rm (hg H M i j) h⟩
  | _=>exact h.elim
 | _=>exact h.elim
theorem QW {C:Int->Int->Prop} {g:Int->Int->V} {g':Int->Int->U} (hg:∀ H M i j,aK K H M (g' i j) (g i j)):dX K (rI C g) (uI C g'):=fun x y u w H M Q' rm ru rw h Q c=>by
 cases u with
 | int i=>cases w with
  | int j=>exact ⟨i,j,ru.int,rw.int,h.1,c _ _ M H (aP.refl _ _) rm (hg H M i j) h.2⟩
  | _=>exact h.elim
 | _=>exact h.elim
theorem Cz {f:Int->Int->Int}:dX K (tG fun i j=>.int (f i j)) (q8 fun i j=>.int (f i j)):=Ij fun _ _ _ _=>eK
theorem pO {f:Int->Int->Bool}:dX K (tG fun i j=>.bl (f i j)) (q8 fun i j=>.bl (f i j)):=Ij fun _ _ _ _=>eW
theorem pP {C:Int->Int->Prop} {f:Int->Int->Int}:dX K (rI C fun i j=>.int (f i j)) (uI C fun i j=>.int (f i j)):=QW fun _ _ _ _=>eK
def QG:dQ:=fun x y M Q=>match x,y with
 | .str i,.str j=>i.length + j.length<=sizeLine/\Q (.str (i++j)) M
 | _,_=>False
theorem Le:dX K (fun x y H Q=>∃ i j,x=.str i/\y=.str j/\i.length + j.length<=sizeLine/\Q (.str (i++j)) H) QG:=fun x y u w H M Q' rm ru rw h Q c=>by
 cases u with
 | str i=>cases w with
  | str j=>exact ⟨i,j,ru.str,rw.str,h.1,c _ _ M H (aP.refl _ _) rm mW h.2⟩
  | _=>exact h.elim
 | _=>exact h.elim
def C3 (K:PySem.W.Frag):R2:=fun x y H Q=>∃ a b xs ys,x=.ref a/\y=.ref b/\eY K H a xs/\eY K H b ys/\xs.length + ys.length<=sizeLine /\
 (xs=[]->Q (.ref b) H)/\(xs≠[]->ys=[]->Q (.ref a) H)/\(xs≠[]->ys≠[]->∀ p,H p=none->Q (.ref p) (upd H p (.tup (xs++ys))))
def Ra:dQ:=fun x y M Q=>match x,y with
 | .tup us,.tup ws=>us.length + ws.length<=sizeLine/\Q (.tup (us++ws)) M
 | _,_=>False
theorem Jx:dX K (C3 K) Ra:=fun x y u w H M Q' rm ru rw h Q c=>by
 cases u with
 | tup us=>cases w with
  | tup ws =>
   obtain ⟨h2,h3⟩:=h
   obtain ⟨a,xs,rfl,s1,r1⟩:=ru.tup
   obtain ⟨b,ys,rfl,s2,r2⟩:=rw.tup
   refine ⟨a,b,xs,ys,rfl,rfl,s1,s2,by rw [<- r1.length,<- r2.length];exact h2,fun e=>?_,fun _ e=>?_,fun _ _ p hp=>c.tup rm (r1.append r2) hp h3⟩
   ·subst e
    have e2:us=[]:=List.length_eq_zero_iff.mp r1.length
    subst e2
    exact c _ _ M H (aP.refl _ _) rm rw h3
   ·subst e
    have e2:ws=[]:=List.length_eq_zero_iff.mp r2.length
    subst e2
    exact c _ _ M H (aP.refl _ _) rm ru (by rw [List.append_nil] at h3;exact h3)
  | _=>exact h.elim
 | _=>exact h.elim
def o6 (o:Bool):dQ:=fun x y M Q=>match view M x,view M y with
 | .lst us,.lst ws=>us.length + ws.length<=sizeLine/\iL o (us++ws) M Q
 | _,_=>False
def FP (K:PySem.W.Frag):R2:=fun x y H Q=>∃ l b xs zs,x=.ref l/\y=.ref b/\dN K H l xs/\dN K H b zs/\xs.length + zs.length<=sizeLine/\∀ p,H p=none->Q (.ref p) (upd H p (.lst (xs++zs)))
theorem Ls {o:Bool}:dX K (FP K) (o6 o):=fun x y u w H M Q' rm ru rw h Q c=>by
 unfold o6 at h
 split at h
 ·rename_i us ws e1 e2
  obtain ⟨a,xs,rfl,s1,r1⟩:=dG rm ru e1
  obtain ⟨b,ys,rfl,s2,r2⟩:=dG rm rw e2
  exact ⟨a,b,xs,ys,rfl,rfl,s1,s2,by rw [<- r1.length,<- r2.length];exact h.1,fun p hp=>c.lst rm (r1.append r2) hp h.2⟩
 ·exact h.elim
theorem EH {H:Hp} {M:aD} {us:List U} {vs:List V} {i:Int} {u:U} (r:aH K H M us vs) (h:eR us i=some u):∃ v,eR vs i=some v/\aK K H M u v:=by
 unfold eR at h ⊢
 rw [<- r.length]
 cases e:tM us.length i with
 | none=>rw [e] at h;cases h
 | some j=>rw [e] at h;exact r.get h
def AY:dQ:=fun x y M Q=>match view M x,y with
 | .lst us,.int i=>∃ u,eR us i=some u/\Q u M
 | .tup us,.int i=>∃ u,eR us i=some u/\Q u M
 | .str z,.int i=>z.length<=sizeLine/\∃ c,eR z.cps.toList i=some c/\Q (.str ⟨#[c]⟩) M
 | _,_=>False
theorem oA {M:aD} {u:U} {us:List U} (h:view M u=.tup us):u=.tup us:=by
 cases u with
 | ref a=>simp only [view] at h;split at h <;> cases h
 | _=>simpa [view] using h
theorem xE {M:aD} {u:U} {x:Str} (h:view M u=.str x):u=.str x:=by
 cases u with
 | ref a=>simp only [view] at h;split at h <;> cases h
 | _=>simpa [view] using h
theorem OG:dX K (Rk K) AY:=fun x y u w H M Q' rm ru rw h Q c=>by
 unfold AY at h
 split at h
 ·rename_i us i e
  obtain ⟨z,h1,h2⟩:=h
  obtain ⟨a,xs,rfl,s1,r1⟩:=dG rm ru e
  obtain ⟨v,h3,h4⟩:=EH r1 h1
  exact .inl ⟨a,xs,i,v,rfl,rw.int,s1,h3,c _ _ M H (aP.refl _ _) rm h4 h2⟩
 ·rename_i us i e
  obtain ⟨z,h1,h2⟩:=h
  have e':=oA e
  subst e'
  obtain ⟨a,xs,rfl,s1,r1⟩:=ru.tup
  obtain ⟨v,h3,h4⟩:=EH r1 h1
  exact .inr (.inl ⟨a,xs,i,v,rfl,rw.int,s1,h3,c _ _ M H (aP.refl _ _) rm h4 h2⟩)
 ·rename_i z i e
  obtain ⟨h0,d,h1,h2⟩:=h
  have e':=xE e
  subst e'
  exact .inr (.inr ⟨z,i,d,ru.str,rw.int,h0,h1,c _ _ M H (aP.refl _ _) rm mW h2⟩)
 ·exact h.elim
abbrev UO:=SU->aD->(Option Int->aD->Prop)->Prop
def Cs (K:PySem.W.Frag) (t:TO) (t':UO):Prop:=∀ (σ:St) (τ:SU) (H:Hp) (M:aD) (Q':Option Int->aD->Prop),d8 K H M σ τ->RelM K H M->t' τ M Q' ->
 ∀ Q:Option Int->Hp->Prop,(∀ o M1 H1,aP H M H1 M1->RelM K H1 M1->Q' o M1->Q o H1)->t σ H Q
def mD:UO:=fun _ M Q=>Q none M
def rX (t:UE):UO:=fun τ M Q=>t τ M fun x M1=>match x with
 | .int i=>Q (some i) M1
 | _=>False
theorem Ge:Cs K Eo mD:=fun σ τ H M Q' rs rm q Q c=>c none M H (aP.refl _ _) rm q
theorem JK {t:TE} {t':UE} (h:cE K t t'):Cs K (LU t) (rX t'):=fun σ τ H M Q' rs rm q Q c=>h σ τ H M _ rs rm q _ fun u v M1 H1 s1 rm1 ru h1=>by
 cases u with
 | int i=>exact ⟨i,ru.int,c _ M1 H1 s1 rm1 h1⟩
 | _=>exact h1.elim
def fP {α:Type} (xs:List α) (lo hi:Option Int):List α:=(xs.drop (HT.bL xs.length 0 lo)).take (HT.bL xs.length xs.length hi - HT.bL xs.length 0 lo)
theorem Em {H:Hp} {M:aD} {us:List U} {vs:List V} (r:aH K H M us vs) (lo hi:Option Int):aH K H M (fP us lo hi) (pV vs lo hi):=by
 unfold fP pV
 rw [r.length]
 exact (r.drop _).take _
def Qq (K:PySem.W.Frag):V->Option Int->Option Int->Hp->VK->Prop:=fun x lo hi H Q =>
 (∃ a xs,x=.ref a/\dN K H a xs/\∀ p,H p=none->Q (.ref p) (upd H p (.lst (pV xs lo hi)))) \/
 (∃ a xs,x=.ref a/\eY K H a xs/\¬ (HT.bL xs.length 0 lo=0/\HT.bL xs.length xs.length hi=xs.length)/\∀ p,H p=none->Q (.ref p) (upd H p (.tup (pV xs lo hi)))) \/
 (∃ z:Str,x=.str z/\z.length<=sizeLine/\Q (.str (Txt.slice z lo hi)) H)
def RS (o:Bool) (te:UE) (tl th:UO):UE:=fun τ M Q=>te τ M fun x M1=>tl τ M1 fun l M2=>th τ M2 fun h M3=>match view M3 x with
 | .lst us=>iL o (fP us l h) M3 Q
 | .tup us=>¬ (HT.bL us.length 0 l=0/\HT.bL us.length us.length h=us.length)/\Q (.tup (fP us l h)) M3
 | .str z=>z.length<=sizeLine/\Q (.str (Txt.slice z l h)) M3
 | _=>False
end
section
variable {K:PySem.W.Frag} {t u:TS} {t' u':US} {te:TE} {te':UE}
def fJ:US:=fun D τ M=>D.nx τ M
def tW (t u:US):US:=fun D τ M=>t { D with nx:=u D } τ M
def Og:US:=fun D τ M=>D.bk τ M
def QT:US:=fun D τ M=>D.ct τ M
def gC (te:UE):US:=fun D τ M=>te τ M fun _ M1=>D.nx τ M1
def gH (te:UE):US:=fun D τ M=>te τ M D.rt
def Q8:US:=fun D _ M=>D.rt .non M
def qC (c:UT) (t u:US):US:=fun D τ M=>c τ M fun b M1=>if b=true then t D τ M1 else u D τ M1
theorem JL:kN K LF fJ:=fun σ τ H M D' rs rm h D d=>d.nx σ τ H M (aP.refl _ _) rm rs h
theorem MN (h1:kN K t t') (h2:kN K u u'):kN K (O2 t u) (tW t' u'):=fun σ τ H M D' rs rm h D d =>
 h1 σ τ H M _ rs rm h _ ⟨fun σ1 τ1 H1 M1 s rm1 rs1 q=>h2 σ1 τ1 H1 M1 D' rs1 rm1 q D (d.stp s),d.rt,d.bk,d.ct⟩
theorem J0 (h1:cE K te te'):kN K (L9 te) (gC te'):=fun σ τ H M D' rs rm h D d=>h1 σ τ H M _ rs rm h _ fun u v M1 H1 s rm1 ru q=>d.nx σ τ H1 M1 s rm1 (rs.stp s) q
theorem Nb (h1:cE K te te'):kN K (OB te) (gH te'):=fun σ τ H M D' rs rm h D d=>h1 σ τ H M _ rs rm h _ fun u v M1 H1 s rm1 ru q=>d.rt u v H1 M1 s rm1 ru q
theorem MQ {c:TT} {c':UT} (hc:jO K c c') (h1:kN K t t') (h2:kN K u u'):kN K (OR c t u) (qC c' t' u'):=fun σ τ H M D' rs rm h D d=>hc σ τ H M _ rs rm h _ fun b M1 H1 s rm1 q=>by
 cases b with
 | true=>exact h1 σ τ H1 M1 D' (rs.stp s) rm1 q D (d.stp s)
 | false=>exact h2 σ τ H1 M1 D' (rs.stp s) rm1 q D (d.stp s)
abbrev UG:=U->SU->aD->(SU->aD->Prop)->Prop
abbrev x8:=List U->SU->aD->(SU->aD->Prop)->Prop
def xD (K:PySem.W.Frag) (g:TG) (g':UG):Prop:=∀ (u:U) (v:V) (σ:St) (τ:SU) (H:Hp) (M:aD) (Q':SU->aD->Prop),aK K H M u v->d8 K H M σ τ->RelM K H M->g' u τ M Q' ->
 ∀ Q:St->Hp->Prop,(∀ σ1 τ1 H1 M1,aP H M H1 M1->RelM K H1 M1->d8 K H1 M1 σ1 τ1->Q' τ1 M1->Q σ1 H1)->g v σ H Q
def yM (K:PySem.W.Frag) (g:n9) (g':x8):Prop:=∀ (us:List U) (vs:List V) (σ:St) (τ:SU) (H:Hp) (M:aD) (Q':SU->aD->Prop),aH K H M us vs->d8 K H M σ τ->RelM K H M->g' us τ M Q' ->
 ∀ Q:St->Hp->Prop,(∀ σ1 τ1 H1 M1,aP H M H1 M1->RelM K H1 M1->d8 K H1 M1 σ1 τ1->Q' τ1 M1->Q σ1 H1)->g vs σ H Q
def hName (i:Nat):UG:=fun u τ M Q=>Q (τ.set i (some u)) M
theorem pG (i:Nat):xD K (o3 i) (hName i):=fun u v σ τ H M Q' ru rs rm h Q c=>c _ _ H M (aP.refl _ _) rm (rs.set ru) h
def kI:x8:=fun us τ M Q=>match us with
 | []=>Q τ M
 | _=>False
def gN (g:UG) (r:x8):x8:=fun us τ M Q=>match us with
 | u :: us=>g u τ M fun τ1 M1=>r us τ1 M1 Q
 | _=>False
theorem Kf:yM K Ct kI:=fun us vs σ τ H M Q' ru rs rm h Q c=>by
 cases us with
 | nil=>exact ⟨ru.inv_nil,c σ τ H M (aP.refl _ _) rm rs h⟩
 | cons _ _=>exact h.elim
theorem G4 {g:TG} {g':UG} {r:n9} {r':x8} (h1:xD K g g') (h2:yM K r r'):yM K (yZ g r) (gN g' r'):=fun us vs σ τ H M Q' ru rs rm h Q c=>by
 cases us with
 | nil=>exact h.elim
 | cons u us =>
  obtain ⟨v,vs',rfl,a,b⟩:=ru.inv_cons
  exact ⟨v,vs',rfl,h1 u v σ τ H M _ a rs rm h _ fun σ1 τ1 H1 M1 s rm1 rs1 q=>h2 us vs' σ1 τ1 H1 M1 Q' (b.stp s) rs1 rm1 q Q fun σ2 τ2 H2 M2 s2=>c σ2 τ2 H2 M2 (s.trans s2)⟩
def i9 (n:Nat) (r:x8):UG:=fun u τ M Q=>match u with
 | .tup us=>us.length=n/\r us τ M Q
 | _=>False
theorem Ko {n:Nat} {r:n9} {r':x8} (h2:yM K r r'):xD K (C8 K n r) (i9 n r'):=fun u v σ τ H M Q' ru rs rm h Q c=>by
 cases u with
 | tup us =>
  obtain ⟨a,vs,rfl,s1,r1⟩:=ru.tup
  exact ⟨a,vs,rfl,s1,by rw [<- r1.length];exact h.1,h2 us vs σ τ H M Q' r1 rs rm h.2 Q c⟩
 | _=>exact h.elim
def bR (te:UE) (g:UG):US:=fun D τ M=>te τ M fun x M1=>g x τ M1 D.nx
theorem zX {g:TG} {g':UG} (h1:cE K te te') (h2:xD K g g'):kN K (Gm te g) (bR te' g'):=fun σ τ H M D' rs rm h D d =>
 h1 σ τ H M _ rs rm h _ fun u v M1 H1 s rm1 ru q=>h2 u v σ τ H1 M1 _ ru (rs.stp s) rm1 q _ fun σ1 τ1 H2 M2 s2 rm2 rs2 q2=>d.nx σ1 τ1 H2 M2 (s.trans s2) rm2 rs2 q2
def CV (c:UT) (tb:US):US:=fun D τ M=>∃ (P:SU->aD->Prop) (μ:SU->aD->Nat),P τ M/\∀ τ M,P τ M->c τ M fun b M1=>if b=true then tb { D with nx:=fun τ' M'=>P τ' M'/\μ τ' M' < μ τ M,ct:=fun τ' M'=>P τ' M'/\μ τ' M' < μ τ M,bk:=D.nx } τ M1 else D.nx τ M1
theorem Ig {c:TT} {c':UT} (hc:jO K c c') (h1:kN K t t'):kN K (Iv c t) (CV c' t'):=fun σ τ H M D' rs rm h D d=>by
 obtain ⟨P,μ,p0,turn⟩:=h
 refine ⟨fun m σ1 H1=>∃ τ1 M1,aP H M H1 M1/\RelM K H1 M1/\d8 K H1 M1 σ1 τ1/\P τ1 M1/\m=μ τ1 M1,⟨_,τ,M,aP.refl _ _,rm,rs,p0,rfl⟩,?_⟩
 rintro m σ1 H1 ⟨τ1,M1,s1,rm1,rs1,p1,rfl⟩
 refine hc σ1 τ1 H1 M1 _ rs1 rm1 (turn τ1 M1 p1) _ fun b M2 H2 s2 rm2 q=>?_
 cases b with
 | true =>
  refine ⟨fun σ3 H3=>∃ τ3 M3,aP H M H3 M3/\RelM K H3 M3/\d8 K H3 M3 σ3 τ3/\P τ3 M3/\μ τ3 M3 < μ τ1 M1,?_,?_⟩
  ·rintro σ3 H3 ⟨τ3,M3,s3,rm3,rs3,p3,lt⟩
   exact ⟨_,lt,τ3,M3,s3,rm3,rs3,p3,rfl⟩
  ·have d2:=d.stp (s1.trans s2)
   exact h1 σ1 τ1 H2 M2 _ (rs1.stp s2) rm2 q _ ⟨fun σ3 τ3 H3 M3 s3 rm3 rs3 q3=>⟨τ3,M3,(s1.trans s2).trans s3,rm3,rs3,q3.1,q3.2⟩,d2.rt,d2.nx,fun σ3 τ3 H3 M3 s3 rm3 rs3 q3=>⟨τ3,M3,(s1.trans s2).trans s3,rm3,rs3,q3.1,q3.2⟩⟩
 | false=>exact d.nx σ1 τ1 H2 M2 (s1.trans s2) rm2 (rs1.stp s2) q
structure Src where
 own:Option Addr
 xs:List U
def Src.ok (S:Src) (M:aD):Prop:=∀ a,S.own=some a->M a=some (.lst S.xs)
structure Walk (K:PySem.W.Frag) (J:It) (S:Src) (H:Hp) (M:aD):Prop where
 step:∀ H1 M1,aP H M H1 M1->RelM K H1 M1->S.ok M1->∀ (i:Nat) u,S.xs[i]?=some u->J.go i H1/\∀ x H2,J.yld i H1 x H2->aP H1 M1 H2 M1/\RelM K H2 M1/\aK K H2 M1 u x
 stop:∀ H1 M1,aP H M H1 M1->RelM K H1 M1->S.ok M1->J.stop S.xs.length H1
abbrev UI:=SU->aD->(Src->aD->Prop)->Prop
def pZ (K:PySem.W.Frag) (t:TI) (t':UI):Prop:=∀ (σ:St) (τ:SU) (H:Hp) (M:aD) (R':Src->aD->Prop),d8 K H M σ τ->RelM K H M->t' τ M R' ->
 ∀ R:It->Hp->Prop,(∀ J S M1 H1,aP H M H1 M1->RelM K H1 M1->Walk K J S H1 M1->R' S M1->R J H1)->t σ H R
def Fn (wi:UI) (g:UG) (tb:US):US:=fun D τ M=>wi τ M fun S M1=>∃ P:Nat->SU->aD->Prop,P 0 τ M1/\(∀ i τ M,P i τ M->S.ok M) /\
 (∀ i x τ M,S.xs[i]?=some x->P i τ M->g x τ M fun τ2 M2=>tb { D with nx:=P (i + 1),ct:=P (i + 1),bk:=D.nx } τ2 M2)/\∀ τ M,P S.xs.length τ M->D.nx τ M
theorem MI {wi:TI} {wi':UI} {g:TG} {g':UG} (hi:pZ K wi wi') (hg:xD K g g') (h1:kN K t t'):kN K (Qi wi g t) (Fn wi' g' t'):=fun σ τ H M D' rs rm h D d=>by
 refine hi σ τ H M _ rs rm h _ fun J S M0 H0 s0 rm0 w h=>?_
 obtain ⟨P,p0,hok,turn,fin⟩:=h
 refine ⟨fun i m σ1 H1=>∃ τ1 M1,aP H0 M0 H1 M1/\RelM K H1 M1/\d8 K H1 M1 σ1 τ1/\P i τ1 M1/\i<=S.xs.length/\m=S.xs.length - i,⟨_,τ,M0,aP.refl _ _,rm0,rs.stp s0,p0,Nat.zero_le _,rfl⟩,?_⟩
 rintro i m σ1 H1 ⟨τ1,M1,s1,rm1,rs1,p1,hle,rfl⟩
 have ok1:=hok i τ1 M1 p1
 by_cases hlt:i < S.xs.length
 ·obtain ⟨go,yl⟩:=w.step H1 M1 s1 rm1 ok1 i S.xs[i] (by simp [hlt])
  refine .inr ⟨go,fun σ3 H3=>∃ τ3 M3,aP H0 M0 H3 M3/\RelM K H3 M3/\d8 K H3 M3 σ3 τ3/\P (i + 1) τ3 M3,?_,fun x H2 y=>?_⟩
  ·rintro σ3 H3 ⟨τ3,M3,s3,rm3,rs3,p3⟩
   exact ⟨S.xs.length - (i + 1),by omega,τ3,M3,s3,rm3,rs3,p3,hlt,rfl⟩
  ·obtain ⟨s2,rm2,ru⟩:=yl x H2 y
   refine hg _ x σ1 τ1 H2 M1 _ ru (rs1.stp s2) rm2 (turn i S.xs[i] τ1 M1 (by simp [hlt]) p1) _ fun σ3 τ3 H3 M3 s3 rm3 rs3 q3=>?_
   have d3:=d.stp (((s0.trans s1).trans s2).trans s3)
   exact h1 σ3 τ3 H3 M3 _ rs3 rm3 q3 _ ⟨fun σ4 τ4 H4 M4 s4 rm4 rs4 q4=>⟨τ4,M4,((s1.trans s2).trans s3).trans s4,rm4,rs4,q4⟩,d3.rt,d3.nx,fun σ4 τ4 H4 M4 s4 rm4 rs4 q4=>⟨τ4,M4,((s1.trans s2).trans s3).trans s4,rm4,rs4,q4⟩⟩
 ·have e:i=S.xs.length:=by omega
  subst e
  exact .inl ⟨w.stop H1 M1 s1 rm1 ok1,d.nx σ1 τ1 H1 M1 (s0.trans s1) rm1 rs1 (fin τ1 M1 p1)⟩
end
end U2
namespace U2
open PySem L2
section
variable {K:PySem.W.Frag}
theorem HP {a:Addr} {us:List U} {vs:List V} {H:Hp} {M:aD} (m:(M a=none/\Rd H a (.lst vs))\/KL K a vs) (r:aH K H M us vs):Walk K (Mg K a) ⟨none,us⟩ H M:=by
 have sq:∀ H1 M1,aP H M H1 M1->dN K H1 a vs:=fun H1 M1 s=>by
  rcases m with ⟨m,h⟩ | k
  ·exact .inl (Rd.stp s m h).2
  ·exact .inr k
 refine ⟨fun H1 M1 s rm _ i u e=>?_,fun H1 M1 s rm _=>⟨vs,sq H1 M1 s,by rw [r.length];exact Nat.le_refl _⟩⟩
 obtain ⟨v,e2,ru⟩:=r.get e
 refine ⟨⟨vs,v,sq H1 M1 s,e2⟩,fun x H2 y=>?_⟩
 obtain ⟨rfl,y⟩:=y
 have:=y vs (sq _ M1 s)
 rw [e2] at this;cases this
 exact ⟨aP.refl _ _,rm,ru.stp s⟩
theorem Km {a:Addr} {us:List U} {vs:List V} {H:Hp} {M:aD} (m:M a=none/\H a=some (.tup vs)) (r:aH K H M us vs):Walk K (Pl K a) ⟨none,us⟩ H M:=by
 have sq:∀ H1 M1,aP H M H1 M1->eY K H1 a vs:=fun H1 M1 s=>by
  exact .inl (.inl (s.to m.2 m.1).1)
 refine ⟨fun H1 M1 s rm _ i u e=>?_,fun H1 M1 s rm _=>⟨vs,sq H1 M1 s,by rw [r.length];exact Nat.le_refl _⟩⟩
 obtain ⟨v,e2,ru⟩:=r.get e
 refine ⟨⟨vs,v,sq H1 M1 s,e2⟩,fun x H2 y=>?_⟩
 obtain ⟨rfl,y⟩:=y
 have:=y vs (sq _ M1 s)
 rw [e2] at this;cases this
 exact ⟨aP.refl _ _,rm,ru.stp s⟩
theorem Kc {a:Addr} {us:List U} {H:Hp} {M:aD}:Walk K (Mg K a) ⟨some a,us⟩ H M:=by
 refine ⟨fun H1 M1 s rm ok i u e=>?_,fun H1 M1 s rm ok=>?_⟩
 ·obtain ⟨vs,h1,r⟩:=rm a _ (ok a rfl)
  obtain ⟨v,e2,ru⟩:=r.get e
  refine ⟨⟨vs,v,.inl (.inl h1),e2⟩,fun x H2 y=>?_⟩
  obtain ⟨rfl,y⟩:=y
  have:=y vs (.inl (.inl h1))
  rw [e2] at this;cases this
  exact ⟨aP.refl _ _,rm,ru⟩
 ·obtain ⟨vs,h1,r⟩:=rm a _ (ok a rfl)
  exact ⟨vs,.inl (.inl h1),by rw [r.length];exact Nat.le_refl _⟩
def PR (z:Str):It:=⟨fun i _=>i < z.cps.size,fun i H x H'=>H'=H/\∃ c,z.cps[i]?=some c/\x=.str ⟨#[c]⟩,fun i _=>i=z.cps.size⟩
def chars (z:Str):List U:=z.cps.toList.map fun c=>.str ⟨#[c]⟩
theorem JG {z:Str} {H:Hp} {M:aD}:Walk K (PR z) ⟨none,chars z⟩ H M:=by
 refine ⟨fun H1 M1 s rm _ i u e=>?_,fun H1 M1 s rm _=>?_⟩
 ·have hi:i < z.cps.size:=by
   have:=(List.getElem?_eq_some_iff.mp e).1
   simpa [chars] using this
  refine ⟨hi,fun x H2 y=>?_⟩
  obtain ⟨rfl,c,h1,rfl⟩:=y
  have:u=.str ⟨#[c]⟩:=by
   simp only [chars,List.getElem?_map,Array.getElem?_toList,h1,Option.map_some] at e
   exact (Option.some.inj e).symm
  subst this
  exact ⟨aP.refl _ _,rm,mW⟩
 ·show (chars z).length=z.cps.size
  simp [chars]
def Oj (K:PySem.W.Frag) (tl:TE):TI:=fun σ H R=>tl σ H fun x H1 =>
 (∃ a,x=.ref a/\(∃ xs,dN K H1 a xs)/\R (Mg K a) H1)\/(∃ a,x=.ref a/\(∃ xs,eY K H1 a xs)/\R (Pl K a) H1)\/(∃ z,x=.str z/\R (PR z) H1)
def pB (te:UE):UI:=fun τ M R=>te τ M fun u M1=>match u with
 | .lst us=>R ⟨none,us⟩ M1
 | .tup us=>R ⟨none,us⟩ M1
 | .str z=>R ⟨none,chars z⟩ M1
 | .ref a=>match M1 a with
  | some (.lst us)=>R ⟨some a,us⟩ M1
  | _=>False
 | _=>False
theorem Lg {te:TE} {te':UE} (h:cE K te te'):pZ K (Oj K te) (pB te'):=fun σ τ H M R' rs rm q R c=>h σ τ H M _ rs rm q _ fun u v M1 H1 s1 rm1 ru h1=>by
 cases u with
 | lst us =>
  simp only [aK] at ru
  obtain ⟨a,vs,rfl,m,r⟩:=ru
  refine .inl ⟨a,rfl,⟨vs,?_⟩,c _ _ M1 H1 s1 rm1 (HP m r) h1⟩
  rcases m with ⟨_,m⟩ | k
  ·exact .inl m
  ·exact .inr k
 | tup us =>
  simp only [aK] at ru
  obtain ⟨a,vs,rfl,m,r⟩:=ru
  refine .inr (.inl ⟨a,rfl,⟨vs,?_⟩,c _ _ M1 H1 s1 rm1 (Km m r) h1⟩)
  exact .inl (.inl m.2)
 | str z=>exact .inr (.inr ⟨z,ru.str,c _ _ M1 H1 s1 rm1 JG h1⟩)
 | ref a =>
  dsimp only at h1
  split at h1
  ·rename_i us e
   obtain ⟨vs,h2,r⟩:=rm1 a _ e
   exact .inl ⟨a,ru.ref,⟨vs,.inl (.inl h2)⟩,c _ _ M1 H1 s1 rm1 Kc h1⟩
  ·exact h1.elim
 | _=>exact h1.elim
def iV (lo:Int) (n:Nat):List U:=(List.range n).map fun (k:Nat)=>U.int (lo + (k:Int))
theorem Gp {lo:Int} {n:Nat} {H:Hp} {M:aD}:Walk K (AZ lo n) ⟨none,iV lo n⟩ H M:=by
 refine ⟨fun H1 M1 s rm _ i u e=>?_,fun H1 M1 s rm _=>?_⟩
 ·have hi:i < n:=by
   have:=(List.getElem?_eq_some_iff.mp e).1
   simpa [iV] using this
  refine ⟨hi,fun x H2 y=>?_⟩
  obtain ⟨rfl,rfl⟩:=y
  have:u=.int (lo + i):=by
   simp only [iV,List.getElem?_map,List.getElem?_range hi,Option.map_some] at e
   exact (Option.some.inj e).symm
  subst this
  exact ⟨aP.refl _ _,rm,eK⟩
 ·show n<=(iV lo n).length
  simp [iV]
def sU (ta:UA):UI:=fun τ M R=>ta τ M fun us M1=>match us with
 | [.int j]=>-(2 ^ 62)<=j/\j < 2 ^ 62/\R ⟨none,iV 0 j.toNat⟩ M1
 | _=>False
def zB (ta:UA):UI:=fun τ M R=>ta τ M fun us M1=>match us with
 | [.int i,.int j]=>(-(2 ^ 62)<=i/\i < 2 ^ 62/\-(2 ^ 62)<=j/\j < 2 ^ 62)/\R ⟨none,iV i (j - i).toNat⟩ M1
 | _=>False
theorem Lw {ta:TA} {ta':UA} (h:k8 K ta ta'):pZ K (LP ta) (sU ta'):=fun σ τ H M R' rs rm q R c=>h σ τ H M _ rs rm q _ fun us vs M1 H1 s1 rm1 ru h1=>by
 split at h1
 ·rename_i j
  obtain ⟨v,vs',rfl,a,b⟩:=ru.inv_cons
  cases b.inv_nil
  cases a.int
  exact ⟨j,rfl,h1.1,h1.2.1,c _ _ M1 H1 s1 rm1 Gp h1.2.2⟩
 ·exact h1.elim
abbrev cV:=List U->aD->UK->Prop
def gO (K:PySem.W.Frag) (sp:cV):Sp:=fun vs H Q _=>∃ us M Q',RelM K H M/\aH K H M us vs/\sp us M Q'/\dJ K H M Q' Q
def sG (sp:cV) (dus:List U) (t:UA):UE:=fun τ M Q=>t τ M fun us M1=>sp (us++dus) M1 Q
theorem Kn {sp:cV} {dus:List U} {dvs:List V} {E:XK} {t:TA} {t':UA} (hd:∀ H M,aH K H M dus dvs) (h:k8 K t t'):cE K (Fz (gO K sp) dvs E t) (sG sp dus t'):=fun σ τ H M Q' rs rm q Q c =>
 h σ τ H M _ rs rm q _ fun us vs M1 H1 s1 rm1 ru h1=>⟨us++dus,M1,Q',rm1,ru.append (hd _ _),h1,dJ.stp c s1⟩
def Sub (M' M1:aD):Prop:=∀ b mo,M' b=some mo->M1 b=some mo
theorem Sub.refl (M:aD):Sub M M:=fun _ _ h=>h
theorem Sub.mup {M M1:aD} {p:Addr} {o:MO} (h:Sub M M1) (hp:M p=none):Sub M (mup M1 p o):=fun b mo e=>by
 have:b≠p:=fun z=>by subst z;rw [hp] at e;cases e
 rw [aM this];exact h b mo e
theorem Sub.less {M M1:aD} (h:Sub M M1) {H:Hp}:aP H M1 H M:=aP.less fun b e=>by
 cases q:M b with
 | none=>rfl
 | some mo=>rw [h b mo q] at e;cases e
theorem RelM.sub {H:Hp} {M M1:aD} (rm:RelM K H M1) (h:Sub M M1):RelM K H M:=fun a mo e=>(rm a mo (h a mo e)).stp (fun b q z=>h b _ z) (h.less) rfl
def Out (M1 M':aD) (u u':U):Prop:=u'=u\/∃ a us,u=.ref a/\M1 a=some (.lst us)/\M' a=none/\u'=.lst us
def qS (Q:UK):UK:=fun u M1=>∃ u' M',Sub M' M1/\Out M1 M' u u'/\Q u' M'
theorem qS.ok {H H1:Hp} {M M1:aD} {Q':UK} {Q:VK} {u:U} {v:V} (c:dJ K H M Q' Q) (s:aP H M H1 M1) (rm:RelM K H1 M1) (ru:aK K H1 M1 u v) (h:qS Q' u M1):Q v H1:=by
 obtain ⟨u',M',sb,o,q⟩:=h
 have s':aP H1 M1 H1 M':=sb.less
 refine c u' v M' H1 (s.trans s') (rm.sub sb) ?_ q
 rcases o with rfl | ⟨a,us,rfl,h1,h2,rfl⟩
 ·exact ru.stp s'
 ·obtain ⟨vs,h3,h4⟩:=rm a _ h1
  cases ru.ref
  exact rT h2 h3 (h4.stp s')
def hG (N:List Str) (us:List U):SU:=us.map some++List.replicate (N.length - us.length) none
def IQ (M:aD) (x:U):Prop:=∃ us,view M x=.lst us
def xP (r:U->List U->aD->UK->Prop) (to:UE) (t:UA):UE:=fun τ M Q=>to τ M fun x M1=>IQ M1 x/\t τ M1 fun xs M2=>r x xs M2 Q
def w9 (r:U->List U->aD->UK->Prop) (to:UE):UE:=fun τ M Q=>to τ M fun x M1=>IQ M1 x/\r x [] M1 Q
theorem IQ.ty {H:Hp} {M:aD} {u:U} {v:V} (rm:RelM K H M) (ru:aK K H M u v) (h:IQ M u):LS K "list" v H:=by
 obtain ⟨us,h⟩:=h
 obtain ⟨a,vs,rfl,s,_⟩:=dG rm ru h
 exact .inl ⟨rfl,vs,s⟩
theorem Dh {r:V->List V->Hp->VK->Prop} {r':U->List U->aD->UK->Prop} {to:TE} {to':UE} {t:TA} {t':UA} (hr:uZ K r r') (ho:cE K to to') (h:k8 K t t') :
  cE K (Rg K "list" r to t) (xP r' to' t'):=fun σ τ H M Q' rs rm q Q c =>
 ho σ τ H M _ rs rm q _ fun u v M1 H1 s1 rm1 ru h1=>⟨h1.1.ty rm1 ru,h σ τ H1 M1 _ (rs.stp s1) rm1 h1.2 _ fun us vs M2 H2 s2 rm2 rus h2=>hr v vs u us H2 M2 Q' rm2 (ru.stp s2) rus h2 Q (dJ.stp c (s1.trans s2))⟩
theorem NB {r:V->List V->Hp->VK->Prop} {r':U->List U->aD->UK->Prop} {to:TE} {to':UE} (hr:uZ K r r') (ho:cE K to to') :
  cE K (Pp K "list" r to) (w9 r' to'):=fun σ τ H M Q' rs rm q Q c =>
 ho σ τ H M _ rs rm q _ fun u v M1 H1 s1 rm1 ru h1=>⟨h1.1.ty rm1 ru,hr v [] u [] H1 M1 Q' rm1 ru .nil h1.2 Q (dJ.stp c s1)⟩
theorem dJ.write {H:Hp} {M:aD} {Q':UK} {Q:VK} {a:Addr} {us us':List U} {xs':List V} {r:U} {v:V} (c:dJ K H M Q' Q) (rm:RelM K H M) (e:M a=some (.lst us)) (r1:aH K H M us' xs') (r2:aK K H M r v) (q:Q' r (mup M a (.lst us'))):Q v (upd H a (.lst xs')):=by
 have st:aP H M (upd H a (.lst xs')) (mup M a (.lst us')):=aP.write e
 exact c _ _ _ _ st (rm.put st ⟨xs',cG,r1.stp st⟩) (r2.stp st) q
def lI:U->List U->aD->UK->Prop:=fun x ws M Q=>match x,ws with
 | .ref a,[w]=>match M a with
  | some (.lst us)=>us.length < sizeLine/\Q .non (mup M a (.lst (us++[w])))
  | _=>False
 | _,_=>False
theorem FJ:uZ K E2 lI:=fun x xs u us H M Q' rm ru rus h Q c=>by
 unfold lI at h
 split at h
 ·rename_i a w
  split at h
  ·rename_i ws e
   obtain ⟨vs,h1,r⟩:=rm a _ e
   obtain ⟨v,vs',rfl,a1,b⟩:=rus.inv_cons
   cases b.inv_nil
   cases ru.ref
   exact ⟨a,vs,v,rfl,rfl,h1,by rw [<- r.length];exact h.1,c.write rm e (r.append (.cons a1 .nil)) mM h.2⟩
  ·exact h.elim
 ·exact h.elim
def uG:U->List U->aD->UK->Prop:=fun x ws M Q=>match x,ws with
 | .ref a,[]=>match M a with
  | some (.lst us)=>match us.getLast? with
   | some w=>Q w (mup M a (.lst us.dropLast))
   | none=>False
  | _=>False
 | _,_=>False
theorem Nq:uZ K Pm uG:=fun x xs u us H M Q' rm ru rus h Q c=>by
 unfold uG at h
 split at h
 ·rename_i a
  split at h
  ·rename_i ws e
   split at h
   ·rename_i w e2
    obtain ⟨vs,h1,r⟩:=rm a _ e
    cases rus.inv_nil
    cases ru.ref
    rw [List.getLast?_eq_getElem?] at e2
    obtain ⟨v,h3,h4⟩:=r.get e2
    exact ⟨a,vs,v,rfl,rfl,h1,by rw [<- r.length];exact h3,c.write rm e r.dropLast h4 h⟩
   ·exact h.elim
  ·exact h.elim
 ·exact h.elim
def BN (K:PySem.W.Frag):V->List V->Hp->VK->Prop:=fun x vs H Q=>∃ l b xs zs,x=.ref l/\vs=[.ref b]/\H l=some (.lst xs)/\dN K H b zs/\xs.length + zs.length<=sizeLine/\Q .non (upd H l (.lst (xs++zs)))
def lM:U->List U->aD->UK->Prop:=fun x ws M Q=>match x,ws with
 | .ref a,[w]=>match M a,view M w with
  | some (.lst us),.lst zs=>us.length + zs.length<=sizeLine/\Q .non (mup M a (.lst (us++zs)))
  | _,_=>False
 | _,_=>False
theorem Gy:uZ K (BN K) lM:=fun x xs u us H M Q' rm ru rus h Q c=>by
 unfold lM at h
 split at h
 ·rename_i a w
  split at h
  ·rename_i ws zs e e2
   obtain ⟨vs,h1,r⟩:=rm a _ e
   obtain ⟨v,vs',rfl,a1,b⟩:=rus.inv_cons
   cases b.inv_nil
   cases ru.ref
   obtain ⟨b,zvs,rfl,s2,r2⟩:=dG rm a1 e2
   exact ⟨a,b,vs,zvs,rfl,rfl,h1,s2,by rw [<- r.length,<- r2.length];exact h.1,c.write rm e (r.append r2) mM h.2⟩
  ·exact h.elim
 ·exact h.elim
def uE:U->List U->aD->UK->Prop:=fun x ws M Q=>match x,ws with
 | .ref a,[]=>match M a with
  | some (.lst us)=>Q .non (mup M a (.lst []))
  | _=>False
 | _,_=>False
def tR:List U->aD->UK->Prop:=fun us M Q=>match us with
 | [x]=>match view M x with
  | .lst ws=>Q (.int ws.length) M
  | .tup ws=>Q (.int ws.length) M
  | .str z=>z.length<=sizeLine/\Q (.int z.length) M
  | _=>False
 | _=>False
theorem Ni:xX K (fun xs H Q=>∃ x n,xs=[x]/\OI K x H n/\Q (.int n) H) tR:=fun xs us H M Q' rm rus h Q c=>by
 unfold tR at h
 split at h
 ·rename_i x
  obtain ⟨v,vs',rfl,a1,b⟩:=rus.inv_cons
  cases b.inv_nil
  split at h
  ·rename_i ws e
   obtain ⟨b,zvs,rfl,s2,r2⟩:=dG rm a1 e
   exact ⟨_,zvs.length,rfl,.inl ⟨zvs,s2,rfl⟩,c.here rm eK (by rw [<- r2.length];exact h)⟩
  ·rename_i ws e
   have e':=oA e
   subst e'
   obtain ⟨b,zvs,rfl,s2,r2⟩:=a1.tup
   exact ⟨_,zvs.length,rfl,.inr ⟨zvs,s2,rfl⟩,c.here rm eK (by rw [<- r2.length];exact h)⟩
  ·rename_i z e
   have e':=xE e
   subst e'
   cases a1.str
   exact ⟨_,z.length,rfl,⟨h.1,rfl⟩,c.here rm eK h.2⟩
  ·exact h.elim
 ·exact h.elim
def zD (C:Int->Prop) (g:Int->U):List U->aD->UK->Prop:=fun us M Q=>match us with
 | [.int i]=>C i/\Q (g i) M
 | _=>False
def yQ (g:Int->Int->U):List U->aD->UK->Prop:=fun us M Q=>match us with
 | [.int i,.int j]=>Q (g i j) M
 | _=>False
theorem aH.one {H:Hp} {M:aD} {u:U} {vs:List V} (h:aH K H M [u] vs):∃ v,vs=[v]/\aK K H M u v:=by
 obtain ⟨v,vs',rfl,a1,b⟩:=h.inv_cons
 cases b.inv_nil
 exact ⟨v,rfl,a1⟩
def pN (o:Bool):List U->aD->UK->Prop:=fun us M Q=>match us with
 | [x]=>match view M x with
  | .lst ws=>iL o ws M Q
  | .tup ws=>iL o ws M Q
  | _=>False
 | _=>False
def m8:List U->aD->UK->Prop:=fun us M Q=>match us with
 | [x]=>match view M x with
  | .lst ws=>Q (.tup ws) M
  | .tup ws=>Q (.tup ws) M
  | _=>False
 | _=>False
theorem Jr {o:Bool}:xX K (fun xs H Q=>∃ p ys,xs=[.ref p]/\(dN K H p ys\/eY K H p ys)/\∀ l,H l=none->Q (.ref l) (upd H l (.lst ys))) (pN o):=fun xs us H M Q' rm rus h Q c=>by
 unfold pN at h
 split at h
 ·rename_i x
  obtain ⟨v,rfl,a1⟩:=rus.one
  split at h
  ·rename_i ws e
   obtain ⟨b,zvs,rfl,s2,r2⟩:=dG rm a1 e
   exact ⟨b,zvs,rfl,.inl s2,fun l hl=>c.lst rm r2 hl h⟩
  ·rename_i ws e
   have e':=oA e
   subst e'
   obtain ⟨b,zvs,rfl,s2,r2⟩:=a1.tup
   exact ⟨b,zvs,rfl,.inr s2,fun l hl=>c.lst rm r2 hl h⟩
  ·exact h.elim
 ·exact h.elim
theorem IA:xX K (fun xs H Q=>∃ p ys,xs=[.ref p]/\((dN K H p ys/\∀ l,H l=none->Q (.ref l) (upd H l (.tup ys)))\/(eY K H p ys/\Q (.ref p) H))) m8:=fun xs us H M Q' rm rus h Q c=>by
 unfold m8 at h
 split at h
 ·rename_i x
  obtain ⟨v,rfl,a1⟩:=rus.one
  split at h
  ·rename_i ws e
   obtain ⟨b,zvs,rfl,s2,r2⟩:=dG rm a1 e
   exact ⟨b,zvs,rfl,.inl ⟨s2,fun l hl=>c.tup rm r2 hl h⟩⟩
  ·rename_i ws e
   have e':=oA e
   subst e'
   have a2:=a1
   obtain ⟨b,zvs,rfl,s2,r2⟩:=a1.tup
   exact ⟨b,zvs,rfl,.inr ⟨s2,c.here rm a2 h⟩⟩
  ·exact h.elim
 ·exact h.elim
def Ay (M:aD) (x:U):Option String:=match x with
 | .non=>some "NoneType"
 | .bl _=>some "bool"
 | .int _=>some "int"
 | .str _=>some "str"
 | .tup _=>some "tuple"
 | .lst _=>some "list"
 | .ref a=>match M a with
  | some (.lst _)=>some "list"
  | some (.dK _)=>some "dict"
  | some (.dT _)=>some "dict"
  | _=>none
 | .dic _ _ _=>some "dict"
 | .ty _=>none
def HD:U->U->Option Bool
 | .non,.non=>some true
 | .non,.int _=>some false | .int _,.non=>some false | .non,.bl _=>some false | .bl _,.non=>some false | .non,.str _=>some false | .str _,.non=>some false
 | .int i,.int j=>some (decide (i=j))
 | .bl i,.bl j=>some (decide (i=j))
 | .str i,.str j=>some (decide (i=j))
 | .int _,.str _=>some false | .str _,.int _=>some false | .bl _,.str _=>some false | .str _,.bl _=>some false
 | _,_=>none
def Cj:dQ:=fun x y M Q=>match HD x y with
 | some b=>Q (.bl b) M
 | none=>False
def Dr:dQ:=fun x y M Q=>match HD x y with
 | some b=>Q (.bl (!b)) M
 | none=>False
theorem Ej {H:Hp} {M:aD} {x y:V} {u w:U} {b:Bool} (ru:aK K H M u x) (rw:aK K H M w y) (h:HD u w=some b):Fq x y=true/\decide (x=y)=b:=by
 cases u <;> cases w <;> simp only [HD,Option.some.injEq,reduceCtorEq] at h <;> subst h <;>
  (first
   | (cases ru.non) | (cases ru.bl) | (cases ru.int) | (cases ru.str)) <;>
  (first
   | (cases rw.non) | (cases rw.bl) | (cases rw.int) | (cases rw.str)) <;> simp [Fq]
def gA:U->Bool
 | .non=>true
 | _=>false
def tX:dQ:=fun x y M Q=>match y with
 | .non=>Q (.bl (gA x)) M
 | _=>False
def pJ:dQ:=fun x y M Q=>match y with
 | .non=>Q (.bl (!gA x)) M
 | _=>False
theorem D9 {H:Hp} {M:aD} {x:V} {u:U} (ru:aK K H M u x):decide (x=.non)=gA u:=by
 cases u with
 | non=>cases ru.non;simp [gA]
 | bl b=>cases ru.bl;simp [gA]
 | int b=>cases ru.int;simp [gA]
 | str b=>cases ru.str;simp [gA]
 | ty b=>cases ru.ty;simp [gA]
 | ref b=>cases ru.ref;simp [gA]
 | tup b=>obtain ⟨a,vs,rfl,_⟩:=ru.tup;simp [gA]
 | lst b=>obtain ⟨a,vs,rfl,_⟩:=ru.lst;simp [gA]
 | dic ks tk us=>simp only [aK] at ru;obtain ⟨a,vs,rfl,_⟩:=ru;simp [gA]
theorem Np:dX K (fun x y H Q=>y=.non/\Q (.bl (decide (x=.non))) H) tX:=fun x y u w H M Q' rm ru rw h Q c=>by
 unfold tX at h
 split at h
 ·exact ⟨rw.non,c.here rm (by rw [D9 ru];exact eW) h⟩
 ·exact h.elim
theorem J1:dX K (fun x y H Q=>y=.non/\Q (.bl (!decide (x=.non))) H) pJ:=fun x y u w H M Q' rm ru rw h Q c=>by
 unfold pJ at h
 split at h
 ·exact ⟨rw.non,c.here rm (by rw [D9 ru];exact eW) h⟩
 ·exact h.elim
end
end U2
namespace U2
open PySem L2
def cU {α:Type} (k:Nat) (ix:List Nat) (σ:List (Option α)):List (Option α):=List.replicate k none++ix.map fun i=>(σ[i]?).getD none
def vG (k:Nat) (ix:List Nat) (wi:TI) (g:TG) (tc:TT) (te:TE):TE:=fun σ H Q=>wi σ H fun J H1=>∀ D,H1 D=none->∃ W:Nat->Nat->Hp->Prop,(∃ m,W 0 m (upd H1 D (.lst [])))/\∀ i m H,W i m H ->
 (J.stop i H/\Q (.ref D) H)\/(J.go i H/\∀ x H',J.yld i H x H'->g x (cU k ix σ) H' fun σ2 H2=>tc σ2 H2 fun ok H3 =>
  if ok=true then te σ2 H3 fun y H4=>∃ ys,H4 D=some (.lst ys)/\ys.length < sizeLine/\∃ m',m' < m/\W (i + 1) m' (upd H4 D (.lst (ys++[y]))) else ∃ m',m' < m/\W (i + 1) m' H3)
def Qf (o:Bool) (Q:UK) (D:Addr) (ys:List U) (M:aD):Prop:=match o with
 | true=>Q (.ref D) M
 | false=>∃ M',Sub M' M/\M' D=none/\Q (.lst ys) M'
def pQ (o:Bool) (k:Nat) (ix:List Nat) (wi:UI) (g:UG) (tc:UT) (te:UE):UE:=fun τ M Q=>wi τ M fun S M1=>S.xs.length<=sizeLine/\∀ D,M1 D=none->∃ P:Nat->List U->aD->Prop,P 0 [] (mup M1 D (.lst [])) /\
 (∀ i ys M,P i ys M->S.ok M/\M D=some (.lst ys)/\ys.length<=i) /\
 (∀ i x ys M,S.xs[i]?=some x->P i ys M->g x (cU k ix τ) M fun τ2 M2=>tc τ2 M2 fun ok M3=>if ok=true then te τ2 M3 fun y M4=>M4 D=some (.lst ys)/\P (i + 1) (ys++[y]) (mup M4 D (.lst (ys++[y]))) else P (i + 1) ys M3) /\
 ∀ ys M,P S.xs.length ys M->Qf o Q D ys M
section
variable {K:PySem.W.Frag}
theorem Kv {H:Hp} {M:aD} {σ:St} {τ:SU} (k:Nat) (ix:List Nat) (r:d8 K H M σ τ):d8 K H M (cU k ix σ) (cU k ix τ):=by
 refine ⟨by simp [cU],fun i u e=>?_⟩
 unfold cU at e ⊢
 by_cases hi:i < k
 ·rw [List.getElem?_append_left (by simpa using hi),List.getElem?_replicate] at e
  split at e <;> cases e
 ·rw [List.getElem?_append_right (by simpa using Nat.le_of_not_lt hi),List.getElem?_map] at e ⊢
  simp only [List.length_replicate] at e ⊢
  cases q:ix[i - k]? with
  | none=>rw [q] at e;cases e
  | some j =>
   rw [q] at e
   simp only [Option.map_some,Option.some.injEq] at e ⊢
   cases z:τ[j]? with
   | none=>rw [z] at e;cases e
   | some w =>
    rw [z] at e
    simp only [Option.getD_some] at e
    subst e
    obtain ⟨v,h1,h2⟩:=r.2 j u z
    exact ⟨v,by rw [h1];rfl,h2⟩
theorem wO {o:Bool} {k:Nat} {ix:List Nat} {wi:TI} {wi':UI} {g:TG} {g':UG} {tc:TT} {tc':UT} {te:TE} {te':UE} (hi:pZ K wi wi') (hg:xD K g g') (hc:jO K tc tc') (he:cE K te te') :
  cE K (vG k ix wi g tc te) (pQ o k ix wi' g' tc' te'):=fun σ τ H M Q' rs rm h Q c=>by
 refine hi σ τ H M _ rs rm h _ fun J S M1 H1 s1 rm1 w h=>?_
 obtain ⟨hz,h⟩:=h
 intro D hD
 obtain ⟨P,p0,inv,turn,fin⟩:=h D (rm1.no hD)
 have sD:aP H1 M1 (upd H1 D (.lst [])) (mup M1 D (.lst [])):=aP.own rm1 hD
 have rmD:RelM K (upd H1 D (.lst [])) (mup M1 D (.lst [])):=rm1.put sD ⟨[],cG,.nil⟩
 refine ⟨fun i m H2=>∃ M2 ys,aP H1 M1 H2 M2/\RelM K H2 M2/\P i ys M2/\i<=S.xs.length/\m=S.xs.length - i,⟨_,_,[],sD,rmD,p0,Nat.zero_le _,rfl⟩,?_⟩
 rintro i m H2 ⟨M2,ys,s2,rm2,p2,hle,rfl⟩
 obtain ⟨ok2,d2,l2⟩:=inv i ys M2 p2
 by_cases hlt:i < S.xs.length
 ·obtain ⟨go,yl⟩:=w.step H2 M2 s2 rm2 ok2 i S.xs[i] (by simp [hlt])
  refine .inr ⟨go,fun x H3 y=>?_⟩
  obtain ⟨s3,rm3,ru⟩:=yl x H3 y
  have rs3:d8 K H3 M2 (cU k ix σ) (cU k ix τ):=Kv k ix (((rs.stp s1).stp s2).stp s3)
  refine hg _ x _ _ H3 M2 _ ru rs3 rm3 (turn i S.xs[i] ys M2 (by simp [hlt]) p2) _ fun σ4 τ4 H4 M4 s4 rm4 rs4 q4=>?_
  refine hc σ4 τ4 H4 M4 _ rs4 rm4 q4 _ fun b M5 H5 s5 rm5 q5=>?_
  have s25:aP H1 M1 H5 M5:=((s2.trans s3).trans s4).trans s5
  cases b with
  | false =>
   exact ⟨S.xs.length - (i + 1),by omega,M5,ys,s25,rm5,q5,hlt,rfl⟩
  | true =>
   refine he σ4 τ4 H5 M5 _ (rs4.stp s5) rm5 q5 _ fun u v M6 H6 s6 rm6 ru6 q6=>?_
   obtain ⟨d6,p6⟩:=q6
   obtain ⟨vs,h6,r6⟩:=rm6 D _ d6
   have l6:vs.length < sizeLine:=by rw [<- r6.length];omega
   have s7:aP H6 M6 (upd H6 D (.lst (vs++[v]))) (mup M6 D (.lst (ys++[u]))):=aP.write d6
   exact ⟨vs,h6,l6,S.xs.length - (i + 1),by omega,_,ys++[u],(s25.trans s6).trans s7,rm6.put s7 ⟨_,cG,(r6.append (.cons ru6 .nil)).stp s7⟩,p6,hlt,rfl⟩
 ·have e:i=S.xs.length:=by omega
  subst e
  refine .inl ⟨w.stop H2 M2 s2 rm2 ok2,?_⟩
  have q:=fin ys M2 p2
  cases o with
  | true=>exact c _ _ M2 H2 (s1.trans s2) rm2 mL q
  | false =>
   obtain ⟨M',sb,n,q⟩:=q
   obtain ⟨vs,h6,r6⟩:=rm2 D _ d2
   have s':aP H2 M2 H2 M':=sb.less
   exact c _ _ M' H2 ((s1.trans s2).trans s') (rm2.sub sb) (rT n h6 (r6.stp s')) q
end
theorem Hu {o:Bool} {k:Nat} {ix:List Nat} {wi:UI} {g:UG} {tc:UT} {te:UE} {τ:SU} {M1:aD} {Q:UK} {S:Src} (f:U->Option U) (hz:S.xs.length<=sizeLine) (hs:S.ok M1)
  (h:∀ x∈S.xs,∀ M,Sub M1 M->∀ R:Option U->aD->Prop,R (f x) M->g x (cU k ix τ) M fun τ2 M2=>tc τ2 M2 fun ok M3=>if ok=true then te τ2 M3 fun y M4=>R (some y) M4 else R none M3)
  (q:iL o (S.xs.filterMap f) M1 Q):S.xs.length<=sizeLine/\∀ D,M1 D=none->∃ P:Nat->List U->aD->Prop,P 0 [] (mup M1 D (.lst [])) /\
 (∀ i ys M,P i ys M->S.ok M/\M D=some (.lst ys)/\ys.length<=i) /\
 (∀ i x ys M,S.xs[i]?=some x->P i ys M->g x (cU k ix τ) M fun τ2 M2=>tc τ2 M2 fun ok M3=>if ok=true then te τ2 M3 fun y M4=>M4 D=some (.lst ys)/\P (i + 1) (ys++[y]) (mup M4 D (.lst (ys++[y]))) else P (i + 1) ys M3) /\
 ∀ ys M,P S.xs.length ys M->Qf o Q D ys M:=by
 refine ⟨hz,fun D hD=>⟨fun i ys M=>ys=(S.xs.take i).filterMap f/\M=mup M1 D (.lst ys)/\i<=S.xs.length,⟨by simp,rfl,Nat.zero_le _⟩,?_,?_,?_⟩⟩
 ·rintro i ys M ⟨rfl,rfl,hi⟩
  refine ⟨fun a e=>?_,aF,?_⟩
  ·have:=hs a e
   rw [aM (fun z=>by subst z;rw [hD] at this;cases this)]
   exact this
  ·refine Nat.le_trans (List.length_filterMap_le _ _) ?_
   rw [List.length_take];omega
 ·rintro i x ys M e ⟨rfl,rfl,hi⟩
  have hlt:i < S.xs.length:=(List.getElem?_eq_some_iff.mp e).1
  have hx:x∈S.xs:=List.mem_of_getElem? e
  have tk:(S.xs.take (i + 1)).filterMap f=(S.xs.take i).filterMap f++(f x).toList:=by
   rw [List.take_add_one,e,List.filterMap_append]
   cases q:f x <;> simp [q]
  refine h x hx (mup M1 D (.lst ((S.xs.take i).filterMap f))) ((Sub.refl M1).mup hD) (fun r M4=>match r with
   | some y=>M4 D=some (.lst ((S.xs.take i).filterMap f))/\((S.xs.take i).filterMap f++[y]=(S.xs.take (i + 1)).filterMap f/\mup M4 D (.lst ((S.xs.take i).filterMap f++[y]))=mup M1 D (.lst ((S.xs.take i).filterMap f++[y]))/\i + 1<=S.xs.length)
   | none=>(S.xs.take i).filterMap f=(S.xs.take (i + 1)).filterMap f/\M4=mup M1 D (.lst ((S.xs.take i).filterMap f))/\i + 1<=S.xs.length) ?_
  rw [tk]
  cases f x with
  | none=>exact ⟨by simp,rfl,hlt⟩
  | some y=>exact ⟨aF,rfl,bV,hlt⟩
 ·rintro ys M ⟨rfl,rfl,hi⟩
  rw [List.take_length]
  cases o with
  | true=>exact q D hD
  | false=>exact ⟨M1,(Sub.refl M1).mup hD,hD,q⟩
end U2
namespace U2
open PySem PySem.Spec PyProof.Rows L2
theorem Cf {P:Program} {w:World} {K:PySem.W.Frag} {tg:Expr} {ty:String} (z:Str) (t:Tok) (it:Addr)
  (W:∀ A':Around,A'.handled=none->Walks P w A' it [it] [it] z.cps.size (SignAt z) (fun i h=>h.IsStrIter it ty z t i))
  (hty:["enumerate","zip","dict_itemiterator","dict_reverseitemiterator","odict_iterator","itertools.zip_longest","itertools.pairwise"].contains ty=false)
  (self:∀ (A:Around) (i:Nat) (s:Shared) (Q:Value->Shared->Prop) (E:Value->Shared->Prop),s.heap.IsStrIter it ty z t i->Q (.ref it) s->wpAny (model P w) A (pyIter (.ref it)) Q E s) :
  Turn P w K tg (PR z) [it] it (fun i h=>h.IsStrIter it ty z t i) where
 mem:=by simp
 obj:=fun i h st b hb=>by
  have e:b=it:=by simpa using hb
  subst e
  obtain ⟨o,e,c,d⟩:=st
  exact ⟨o,e,fun v z=>by rw [d] at z;cases z⟩
 keep:=fun i h h' st k=>let ⟨o,ho,r⟩:=st;⟨o,k it (by simp) o ho,r⟩
 item:=by
  intro X hP hw hK hc i pins s σ H E I hf st hg
  subst hP hw hK
  obtain ⟨f0,f1,f2,f3,f4,f5⟩:=hf it (by simp)
  refine (W X.A (I.ok.hd hc)).item i s _ E hg st fun v h' tk hv st' k=>?_
  obtain ⟨c,u,hc',rfl⟩:=hv
  have I1:Inv X pins σ H { s with heap:=h',toks:=tk }:=I.turned (t':=tk) (fun b o hb e=>k b o (by simpa using hb) e) f0 f1 f3 f4 f5
  obtain ⟨o,e,cl,d⟩:=id st'
  exact ⟨_,rfl,xU (s:={ s with heap:=h',toks:=tk }) e cl d hty ⟨.str ⟨#[c]⟩,H,I1,⟨_,rfl⟩,⟨rfl,c,hc',rfl⟩,st',fun b hb=>(hf b hb).1⟩⟩
 done:=by
  intro X hP hw hK hc i pins s σ H E I hf st hg
  subst hP hw hK
  have hg':i=z.cps.size:=hg
  subst hg'
  obtain ⟨f0,f1,f2,f3,f4,f5⟩:=hf it (by simp)
  exact (W X.A (I.ok.hd hc)).done s _ E st fun h' tk k=>⟨rfl,I.turned (t':=tk) (fun b o hb e=>k b o (by simpa using hb) e) f0 f1 f3 f4 f5⟩
 self:=self
section
variable {X:Cx} {tg:Expr}
theorem Qm {l:Expr} {tl:TE} (hl:PE X l tl):PI X tg l (Oj X.K tl):=by
 intro pins s σ H R I h
 refine bC (hl pins s σ H _ I h) fun v s1 ⟨x,H1,I1,r1,q1⟩=>?_
 have fp:∀ b∈[s1.heap.objs.size],pY X pins H1 b:=fun b hb=>by
  have e:b=s1.heap.objs.size:=by simpa using hb
  subst e
  exact I1.fpOk (Nat.le_refl _) (I1.hok.fresh (Nat.le_refl _))
 rcases q1 with ⟨a,rfl,⟨xs,hq⟩,q⟩ | ⟨a,rfl,⟨xs,hq⟩,q⟩ | ⟨z,rfl,q⟩
 ·cases r1
  obtain ⟨its,rv,p,hz⟩:=I1.list hq
  refine wpAny_pyIter_list p.isList ?_
  exact ⟨s1.heap.objs.size,[s1.heap.objs.size],_,_,H1,rfl,I1.kept (t':=s1.toks) fun b o e=>Heap.get?_push_of_some _ e,IC a _,⟨_,Heap.get?_push_size _ rfl,rfl,rfl⟩,fp,q⟩
 ·cases r1
  obtain ⟨its,rv,p,hz⟩:=I1.tuple hq
  refine wpAny_pyIter_tuple (show s1.heap.IsTuple a its.toArray from p) ?_
  exact ⟨s1.heap.objs.size,[s1.heap.objs.size],_,_,H1,rfl,I1.kept (t':=s1.toks) fun b o e=>Heap.get?_push_of_some _ e,Ga a _,⟨_,Heap.get?_push_size _ rfl,rfl,rfl⟩,fp,q⟩
 ·obtain ⟨t,rfl⟩:=r1
  cases ha:z.cps.all (· < 128)
  ·refine wpAny_pyIter_wide ha ?_
   exact ⟨s1.heap.objs.size,[s1.heap.objs.size],_,_,H1,rfl,I1.kept (t':=s1.toks) fun b o e=>Heap.get?_push_of_some _ e,
    Cf z t _ (fun A' hA=>Walks.strWide hA _ z t) (by decide) (fun A i s Q E st h=>wpAny_pyIter_striter_wide st h),⟨_,Heap.get?_push_size _ rfl,rfl,rfl⟩,fp,q⟩
  ·refine wpAny_pyIter_ascii ha ?_
   exact ⟨s1.heap.objs.size,[s1.heap.objs.size],_,_,H1,rfl,I1.kept (t':=s1.toks) fun b o e=>Heap.get?_push_of_some _ e,
    Cf z t _ (fun A' hA=>Walks.strAscii hA _ z t) (by decide) (fun A i s Q E st h=>wpAny_pyIter_striter_ascii st h),⟨_,Heap.get?_push_size _ rfl,rfl,rfl⟩,fp,q⟩
end
section
variable {prog:Program} {w:World} {A:Around} {R:Result->Shared->Prop} {s:Shared}
theorem vX {elt target iter:Expr} {ifs:List Expr} {scope:Scope} {pos:Pos} {it acc:Value} {env:Env} (I:Nat->Shared->Prop)
  (turn:∀ n s,I n s->wpAny (model prog w) A (pyNext it) (fun r s₁=>match r with
   | none=>R (.ok .next) s₁
   | some v=>wpAny (model prog w) A (letOwnedTupleGo target it v) (fun _ s₀=>wpAny (model prog w) A (assign target env v) (fun _ s₂ =>
     wpAny (model prog w) A (forIn ifs true fun c r=>if r=true then do let ok <- isTrue c env (eval c env);pure (ForInStep.yield ok) else pure (ForInStep.yield r)) (fun ok s₃ =>
      if ok=true then wpAny (model prog w) A (eval elt env) (fun x s₄ =>
       wpAny (model prog w) A (call (.builtin "list.append") [acc,x]) (fun _ s₅=>∃ m,m < n/\I m s₅) (fun _ _=>False) s₄) (fun _ _=>False) s₃
      else ∃ m,m < n/\I m s₃) (fun _ _=>False) s₂) (fun _ _=>False) s₀) (fun _ _=>False) s₁) (fun _ _=>False) s)
  (n:Nat) (h:I n s) :
  codeAny (model prog w) A (.compLoop (.ListComp elt [⟨target,iter,ifs,0⟩] scope pos) 0 it acc env) R s:=by
 refine codeAny_loop rfl I (fun n s hI=>?_) n h
 show wpAny _ A ((compTurn (.ListComp elt [⟨target,iter,ifs,0⟩] scope pos) 0 it acc env).onRaise (fun x=>do noteFrame x env;theTreesLotGoes x)) _ _ s
 refine wpAny_noted ?_
 rw [compTurn_list]
 refine wpAny_bind (wpAny_standAt (wpAny_bind (wpAny_mono (turn n s hI) (fun r s₁ h₁=>?_) fun _ _ h'=>h'.elim)))
 cases r with
 | none=>exact wpAny_pure h₁
 | some v =>
  refine wpAny_bind (wpAny_mono h₁ (fun _ s₀ h₀=>?_) fun _ _ h'=>h'.elim)
  refine wpAny_bind (wpAny_mono h₀ (fun _ s₂ h₂=>wpAny_bind (wpAny_mono h₂ (fun ok s₃ h₃=>?_) fun _ _ h'=>h'.elim)) fun _ _ h'=>h'.elim)
  cases ok with
  | false=>exact wpAny_pure ⟨rfl,h₃⟩
  | true =>
   exact wpAny_bind (wpAny_bind (wpAny_mono h₃ (fun x s₄ h₄=>wpAny_bind (wpAny_mono h₄ (fun _ s₅ h₅=>wpAny_pure (wpAny_pure ⟨rfl,h₅⟩)) fun _ _ h'=>h'.elim)) fun _ _ h'=>h'.elim))
theorem rC {env:Env}:∀ (names:List (Str × NameKind)) (cs:List (Str × Addr)),(∀ x∈names,x.2=.free->∃ c,env.cells.lookup x.1=some c) ->
  (∀ x c,cs.lookup x=some c->env.cells.lookup x=some c) ->
  ∃ cl,(forIn names cs fun (x:Str × NameKind) (cs:List (Str × Addr))=>(if (x.2 == NameKind.free)=true then do let c <- cellOf env x.1;pure (ForInStep.yield ((x.1,c) :: cs)) else pure (ForInStep.yield cs):Sem (ForInStep (List (Str × Addr)))))=pure cl /\
   (∀ x c,cl.lookup x=some c->env.cells.lookup x=some c)/\(∀ x,(∃ c,cs.lookup x=some c)\/(x,NameKind.free)∈names->∃ c,cl.lookup x=some c)
 | [],cs,_,h=>⟨cs,rfl,h,fun x hx=>by rcases hx with hx | hx;exact hx;cases hx⟩
 | (n,k) :: r,cs,hf,h=>by
  rw [List.forIn_cons]
  by_cases hk:k=.free
  ·subst hk
   obtain ⟨c,hc⟩:=hf (n,.free) List.mem_cons_self rfl
   have e:cellOf env n=pure c:=by unfold cellOf;rw [hc]
   simp only [beq_self_eq_true,if_true,e,pure_bind]
   obtain ⟨cl,h1,h2,h3⟩:=rC r ((n,c) :: cs) (fun x hx=>hf x (List.mem_cons_of_mem _ hx)) (fun x d q=>by
    rw [List.lookup_cons] at q
    split at q
    ·rename_i e;cases q;rw [beq_iff_eq.mp e];exact hc
    ·exact h x d q)
   refine ⟨cl,h1,h2,fun x hx=>h3 x ?_⟩
   rcases hx with ⟨d,hd⟩ | hx
   ·left
    rw [List.lookup_cons]
    split
    ·exact ⟨_,rfl⟩
    ·exact ⟨d,hd⟩
   ·rcases List.mem_cons.mp hx with e | hx
    ·left;cases e;exact ⟨c,by simp [List.lookup_cons]⟩
    ·exact .inr hx
  ·have hb:(k == NameKind.free)=false:=by simpa using hk
   simp only [hb,Bool.false_eq_true,if_false,pure_bind]
   obtain ⟨cl,h1,h2,h3⟩:=rC r cs (fun x hx=>hf x (List.mem_cons_of_mem _ hx)) h
   refine ⟨cl,h1,h2,fun x hx=>h3 x ?_⟩
   rcases hx with hx | hx
   ·exact .inl hx
   ·rcases List.mem_cons.mp hx with e | hx
    ·cases e;exact absurd rfl hk
    ·exact .inr hx
theorem xM {env:Env} {scope:Scope} (hf:∀ x∈scope.names,x.2=.free->∃ c,env.cells.lookup x.1=some c) :
  ∃ cl,closureFor scope env=pure cl/\(∀ x c,cl.lookup x=some c->env.cells.lookup x=some c)/\(∀ x,(x,NameKind.free)∈scope.names->∃ c,cl.lookup x=some c):=by
 obtain ⟨cl,h1,h2,h3⟩:=rC (env:=env) scope.names [] hf (fun x c h=>by cases h)
 refine ⟨cl,?_,h2,fun x hx=>h3 x (.inr hx)⟩
 unfold closureFor
 first
  | exact h1
  | (have:_:=h1;simpa using this)
end
def dR (X:Cx) (N:List Str) (scope:Scope) (cl:List (Str × Addr)) (C:Addr) (s:Shared) (H:Hp) (fp:List Addr):Cx where
 prog:=X.prog
 w:=X.w
 K:=X.K
 mg:=X.mg
 base:=X.base
 A:=X.A
 N:=N
 s₀:=s
 H₀:=H
 env:=compEnvC scope cl C X.env
 outer:=X.stack
 stack:=X.stack
 ex:=fp
 fn:=fun _=>false
 calm:=X.calm
 pn:=[]
 xe:=fun _ _=>False
def BU (X:Cx) (ifs:List Expr) (t:TT):Prop :=
 ∀ (pins:List (Addr × Obj)) (s:Shared) (σ:L2.St) (H:Hp) (Q:Bool->Hp->Prop),Inv X pins σ H s->t σ H Q ->
  wpAny (model X.prog X.w) X.A (forIn ifs true fun c r=>if r=true then do let ok <- isTrue c X.env (eval c X.env);pure (ForInStep.yield ok) else pure (ForInStep.yield r)) (TP X pins σ Q) X.xe s
def Kt:TT:=fun _ H Q=>Q true H
theorem E1 {X:Cx}:BU X [] Kt:=fun pins s σ H Q I h=>wpAny_tests_nil ⟨H,I,h⟩
theorem Nm {X:Cx} {c:Expr} {t:TT} (h:PT X c t):BU X [c] t:=fun pins s σ H Q I q=>wpAny_tests_one (h pins s σ H Q I q)
def GK (k:Nat) (g:TG):Prop:=∀ x σ H Q,g x σ H Q->g x σ H (fun σ2 H2=>(∀ j,k<=j->σ2[j]?=σ[j]?)/\Q σ2 H2)
def GS (k:Nat) (g:n9):Prop:=∀ xs σ H Q,g xs σ H Q->g xs σ H (fun σ2 H2=>(∀ j,k<=j->σ2[j]?=σ[j]?)/\Q σ2 H2)
theorem Ex {k i:Nat} (h:i < k):GK k (o3 i):=fun x σ H Q q=>⟨fun j hj=>by rw [List.getElem?_set,if_neg (by omega)],q⟩
theorem Pu {k:Nat}:GS k Ct:=fun xs σ H Q q=>⟨q.1,fun j _=>rfl,q.2⟩
theorem NH {k:Nat} {g:TG} {r:n9} (h1:GK k g) (h2:GS k r) (m2:∀ xs σ H Q Q',(∀ σ2 H2,Q σ2 H2->Q' σ2 H2)->r xs σ H Q->r xs σ H Q') (m1:∀ x σ H Q Q',(∀ σ2 H2,Q σ2 H2->Q' σ2 H2)->g x σ H Q->g x σ H Q'):GS k (yZ g r):=fun xs σ H Q q=>by
 obtain ⟨v,r',rfl,q⟩:=q
 refine ⟨v,r',rfl,m1 _ _ _ _ _ (fun σ2 H2 z=>?_) (h1 _ _ _ _ q)⟩
 exact m2 _ _ _ _ _ (fun σ3 H3 y=>⟨fun j hj=>(y.1 j hj).trans (z.1 j hj),y.2⟩) (h2 _ _ _ _ z.2)
theorem OX {i:Nat}:∀ x σ H (Q Q':L2.St->Hp->Prop),(∀ σ2 H2,Q σ2 H2->Q' σ2 H2)->o3 i x σ H Q->o3 i x σ H Q':=fun x σ H Q Q' h q=>h _ _ q
theorem Q7:∀ xs σ H (Q Q':L2.St->Hp->Prop),(∀ σ2 H2,Q σ2 H2->Q' σ2 H2)->Ct xs σ H Q->Ct xs σ H Q':=fun x σ H Q Q' h q=>⟨q.1,h _ _ q.2⟩
theorem Po {g:TG} {r:n9} (m1:∀ x σ H Q Q',(∀ σ2 H2,Q σ2 H2->Q' σ2 H2)->g x σ H Q->g x σ H Q') (m2:∀ xs σ H Q Q',(∀ σ2 H2,Q σ2 H2->Q' σ2 H2)->r xs σ H Q->r xs σ H Q') :
  ∀ xs σ H (Q Q':L2.St->Hp->Prop),(∀ σ2 H2,Q σ2 H2->Q' σ2 H2)->yZ g r xs σ H Q->yZ g r xs σ H Q':=fun xs σ H Q Q' h q=>by
 obtain ⟨v,r',rfl,q⟩:=q
 exact ⟨v,r',rfl,m1 _ _ _ _ _ (fun σ2 H2 z=>m2 _ _ _ _ _ h z) q⟩
theorem Pb {K:PySem.W.Frag} {k n:Nat} {r:n9} (h:GS k r):GK k (C8 K n r):=fun x σ H Q q=>by
 obtain ⟨a,xs,rfl,h1,h2,q⟩:=q
 exact ⟨a,xs,rfl,h1,h2,h _ _ _ _ q⟩
theorem QR {K:PySem.W.Frag} {n:Nat} {r:n9} (m2:∀ xs σ H Q Q',(∀ σ2 H2,Q σ2 H2->Q' σ2 H2)->r xs σ H Q->r xs σ H Q') :
  ∀ x σ H (Q Q':L2.St->Hp->Prop),(∀ σ2 H2,Q σ2 H2->Q' σ2 H2)->C8 K n r x σ H Q->C8 K n r x σ H Q':=fun x σ H Q Q' h q=>by
 obtain ⟨a,xs,rfl,h1,h2,q⟩:=q
 exact ⟨a,xs,rfl,h1,h2,m2 _ _ _ _ _ h q⟩
theorem AS {X:Cx} {tg elt iter:Expr} {ifs:List Expr} {scope:Scope} {pos:Pos} {N:List Str} {k:Nat} {ix:List Nat} {wi:TI} {g:TG} {tc:TT} {te:TE}
  (hc:X.calm=true) (hi:PI X tg iter wi) (gk:GK k g)
  (hk:scope.kind=.function) (hcell:∀ y∈scope.names,y.2≠.cell) (hnames:∀ y∈scope.names,y.2=.local->scope.names.lookup y.1=some .local)
  (hfree:∀ y∈scope.names,y.2=.free->X.env.kindOf y.1=some .cell\/X.env.kindOf y.1=some .free)
  (hone:∀ y∈scope.names,y.2=.free->scope.names.lookup y.1=some .free)
  (hN:∀ (j:Nat) x,N[k + j]?=some x->∃ i,ix[j]?=some i/\X.N[i]?=some x)
  (hcap:∀ (j:Nat) x,N[k + j]?=some x->scope.names.lookup x=some .free)
  (hlen:N.length=k + ix.length)
  (hg:∀ cl C s H fp,PG (dR X N scope cl C s H fp) tg g)
  (hif:∀ cl C s H fp,BU (dR X N scope cl C s H fp) ifs tc)
  (he:∀ cl C s H fp,PE (dR X N scope cl C s H fp) elt te)
  (hs:∀ x,foldedSetIterable iter X.env x=pure x) {pins:List (Addr × Obj)} {s:Shared} {σ:L2.St} {H:Hp} {Q:VK} (I:L2.Inv X pins σ H s) (h:vG k ix wi g tc te σ H Q) {pos':Pos} {use:Option (Value->Sem Unit)} {QQ:Value->Shared->Prop}
  (end_:∀ (D C:Addr) (H3:Hp) (s4:Shared),L2.Inv X pins σ H3 s4->(∃ m,s4.heap.Ns C m)->H3 C=none->C≠X.env.locals->X.s₀.heap.objs.size<=C->(∀ x c,X.env.cells.lookup x=some c->c≠C)->(∀ p∈X.pn++pins,p.1≠C) ->
   (∀ h':Heap,Heap.SameBut C s4.heap h'->L2.Inv X pins σ H3 { s4 with heap:=h' })->Q (.ref D) H3->compPost (model X.prog X.w) X.A X.xe use QQ (.ref D) C (.ok .next) s4) :
  wpAny (model X.prog X.w) X.A (comprehension (.ListComp elt [⟨tg,iter,ifs,0⟩] scope pos) scope X.env pos' (newList []) false (eval iter X.env) use) QQ X.xe s:=by
 obtain ⟨cl,hclos,hcl,hcl2⟩:=xM (env:=X.env) (scope:=scope) (fun x hx e=>I.ok.has x.1 (hfree x hx e))
 refine wpAny_comprehension_free (use:=use) rfl hs hclos hk hnames (bC (hi pins s σ H _ I h) fun v s1 h1=>bC h1 fun itv s2 h2=>?_)
 obtain ⟨it,fp,tn,J,H2,rfl,I2,T,dH,f2,h2⟩:=h2
 refine wpAny_newObj_type (wpAny_newFunctionEnv hcell (by intro y hy;simp at hy) (fun h₁ hns₁ hsb₁=>?_) hk)
 dsimp only at hns₁ hsb₁ ⊢
 generalize hP:s2.heap.push { cls:=.type "list",dict:=none,data:=.seq ([]:List Value).toArray }=P2 at hns₁ hsb₁ ⊢
 have hCs:P2.objs.size=s2.heap.objs.size + 1:=by rw [<- hP,Heap.size_push]
 have below:∀ b,b < s2.heap.objs.size->b≠P2.objs.size:=fun b hb=>by rw [hCs];omega
 have old:∀ b o,s2.heap.get? b=some o->h₁.get? b=some o:=fun b o e=>hsb₁.extBut b o (below b (Heap.lt_size e)) (Heap.get?_push_of_some _ (hP ▸ Heap.get?_push_of_some _ e))
 have hacc:h₁.get? s2.heap.objs.size=some { cls:=.type "list",dict:=none,data:=.seq ([]:List Value).toArray }:=hsb₁.extBut _ _ (show s2.heap.objs.size≠P2.objs.size by rw [hCs];exact Nat.ne_of_lt (Nat.lt_succ_self _)) (Heap.get?_push_of_some _ (hP ▸ Heap.get?_push_size _ rfl))
 obtain ⟨W,⟨m0,w0⟩,turn⟩:=h2 s2.heap.objs.size (I2.hok.fresh (Nat.le_refl _))
 have fpl:∀ b∈fp,b < s2.heap.objs.size:=fun b hb=>let ⟨o,e,_⟩:=T.obj _ _ dH b hb;Heap.lt_size e
 have σl:(cU k ix σ).length=N.length:=by rw [hlen];simp [cU]
 have i2:=I2.ok
 have ok':(dR X N scope cl P2.objs.size s2 H2 fp).Ok:=by
  refine ⟨i2.mod,hk,i2.glob,i2.blt,(by show s2.heap.objs.size<=P2.objs.size;rw [hCs];exact Nat.le_succ _),fun x y c e1 e2=>i2.inj x y c (hcl x c e1) (hcl y c e2),fun x hx=>?_,(fun x c e=>by cases e),i2.hd,i2.frames,.inl rfl,fun b hb=>?_,fun b o e=>I2.bs b o e,Nat.le_trans i2.bsz I2.sz,fun b o e hb=>?_,fun b hb hb2=>?_,I2.stack,I2.stkFree⟩
  ·
   have hx':(relabel scope X.env).names.lookup x=some .cell\/(relabel scope X.env).names.lookup x=some .free:=hx
   have key:∀ (names:List (Str × NameKind)),(∀ y∈names,y.2≠.cell)->((names.map fun (n,k)=>if (k == NameKind.free && X.env.scope.kind == .function && X.env.kindOf n == some .cell) then (n,NameKind.cell) else (n,k)).lookup x=some .cell \/
     (names.map fun (n,k)=>if (k == NameKind.free && X.env.scope.kind == .function && X.env.kindOf n == some .cell) then (n,NameKind.cell) else (n,k)).lookup x=some .free)->(x,NameKind.free)∈names:=by
    intro names
    induction names with
    | nil=>intro _ h;rcases h with h | h <;> cases h
    | cons y r ih =>
     obtain ⟨n,kd⟩:=y
     intro hnc h
     by_cases hxn:x=n
     ·subst hxn
      have hkc:kd≠.cell:=hnc (x,kd) List.mem_cons_self
      by_cases hkf:kd=.free
      ·subst hkf;exact List.mem_cons_self
      ·exfalso
       have hb:(kd == NameKind.free)=false:=by simpa using hkf
       simp only [List.map_cons,hb,Bool.false_and,Bool.false_eq_true,if_false,List.lookup_cons,beq_self_eq_true] at h
       rcases h with h | h
       ·exact hkc (Option.some.inj h)
       ·exact hkf (Option.some.inj h)
     ·have hb:(x == n)=false:=by simpa using hxn
      refine List.mem_cons_of_mem _ (ih (fun y hy=>hnc y (List.mem_cons_of_mem _ hy)) ?_)
      have e1:∀ z:NameKind,List.lookup x (((n,z)) :: (r.map fun (n,k)=>if (k == NameKind.free && X.env.scope.kind == .function && X.env.kindOf n == some .cell) then (n,NameKind.cell) else (n,k)))=List.lookup x (r.map fun (n,k)=>if (k == NameKind.free && X.env.scope.kind == .function && X.env.kindOf n == some .cell) then (n,NameKind.cell) else (n,k)):=fun z=>by rw [List.lookup_cons,hb]
      rw [List.map_cons] at h
      dsimp only at h
      split at h
      ·rw [e1] at h;exact h
      ·rw [e1] at h;exact h
   exact hcl2 x (key scope.names hcell hx')
  ·exact ⟨below b (fpl b hb),fun x c e=>(f2 b hb).2.2.2.2.1 x c (hcl x c e)⟩
  ·rcases (f2 b hb).2.2.2.1 with z | z
   ·exact i2.noex b o e z
   ·exact absurd (Nat.lt_of_lt_of_le (Heap.lt_size e) (Nat.le_trans i2.bsz z)) (Nat.lt_irrefl _)
  ·rcases List.mem_cons.mp (I2.stkSub b hb2) with z | z
   ·exact (f2 b hb).2.1 z
   ·exact (f2 b hb).2.2.1 z
 have stat:∀ {H':Hp},(∀ b∈fp,H' b=none)->∀ b∈fp,pY (dR X N scope cl P2.objs.size s2 H2 fp) [] H' b:=fun hn b hb =>
  ⟨hn b hb,below b (fpl b hb),fun z=>ok'.exfs b hb z,.inl hb,fun x c e=>(f2 b hb).2.2.2.2.1 x c (hcl x c e),(fun p hp=>by cases hp)⟩
 have hD:H2 s2.heap.objs.size=none:=I2.hok.fresh (Nat.le_refl _)
 have relf:∀ x,scope.names.lookup x=some .free->(X.env.kindOf x=some .cell\/X.env.kindOf x=some .free)->((relabel scope X.env).names.lookup x=some .cell\/(relabel scope X.env).names.lookup x=some .free):=by
  intro x hx hkx
  have key:∀ (names:List (Str × NameKind)),names.lookup x=some .free->((names.map fun (n,k)=>if (k == NameKind.free && X.env.scope.kind == .function && X.env.kindOf n == some .cell) then (n,NameKind.cell) else (n,k)).lookup x=some .cell \/
    (names.map fun (n,k)=>if (k == NameKind.free && X.env.scope.kind == .function && X.env.kindOf n == some .cell) then (n,NameKind.cell) else (n,k)).lookup x=some .free):=by
   intro names
   induction names with
   | nil=>intro h;cases h
   | cons y r ih =>
    obtain ⟨n,kd⟩:=y
    intro h
    rw [List.lookup_cons] at h
    by_cases hxn:x=n
    ·subst hxn
     simp only [beq_self_eq_true] at h
     cases h
     rw [List.map_cons]
     dsimp only
     split
     ·left;simp [List.lookup_cons]
     ·right;simp [List.lookup_cons]
    ·have hb:(x == n)=false:=by simpa using hxn
     rw [hb] at h
     have:=ih h
     rw [List.map_cons]
     dsimp only
     split
     ·rw [List.lookup_cons,hb];exact this
     ·rw [List.lookup_cons,hb];exact this
  exact key scope.names hx
 have Istart:∀ tk,Inv (dR X N scope cl P2.objs.size s2 H2 fp) [] (cU k ix σ) (upd H2 s2.heap.objs.size (.lst [])) { s2 with heap:=h₁,toks:=tk }:=fun tk=>by
  refine ⟨ok',rfl,I2.bare,Un.laid old (Nat.le_refl _) hD,⟨_,hns₁,fun i x v e1 e2 e3=>?_⟩,fun x c e=>?_,?_,fun x c e=>?_,(fun p hp=>by cases hp),I2.hok.laid old (Nat.le_refl _) ⟨Nat.zero_le _,[],_,.nil,hacc⟩,σl⟩
  ·by_cases hik:i < k
   ·exfalso
    unfold cU at e2
    rw [List.getElem?_append_left (by simpa using hik),List.getElem?_replicate] at e2
    split at e2 <;> cases e2
   ·have ej:i=k + (i - k):=by omega
    have e1':N[k + (i - k)]?=some x:=by rw [<- ej];exact e1
    obtain ⟨i0,hi0,hXN⟩:=hN (i - k) x e1'
    have hfx:=hcap (i - k) x e1'
    have hmem:(x,NameKind.free)∈scope.names:=PySem.mem_of_lookup hfx
    have hkx:=hfree _ hmem rfl
    have e4:σ[i0]?=some (some v):=by
     unfold cU at e2
     rw [List.getElem?_append_right (by simpa using Nat.le_of_not_lt hik),List.getElem?_map] at e2
     simp only [List.length_replicate,hi0,Option.map_some,Option.some.injEq] at e2
     cases z:σ[i0]? with
     | none=>rw [z] at e2;cases e2
     | some y=>rw [z] at e2;simp only [Option.getD_some] at e2;rw [e2]
    obtain ⟨m2,hn2,hl2⟩:=I2.loc
    obtain ⟨u,ru,lk⟩:=hl2 i0 x v hXN e4 (by rcases hkx with z | z;exact .inr (.inl z);exact .inr (.inr z))
    rcases lk with ⟨z,_⟩ | ⟨_,c,hc1,hc2⟩
    ·exfalso
     have z':X.env.kindOf x=some .local:=z
     rcases hkx with y | y <;> (rw [z'] at y;cases y)
    ·obtain ⟨c',hc'⟩:=hcl2 x hmem
     have e5:=hcl x c' hc'
     rw [hc1] at e5;cases e5
     obtain ⟨o,ho,hd⟩:=hc2
     exact ⟨u,ru,.inr ⟨relf x hfx hkx,c,hc',o,old _ _ ho,hd⟩⟩
  ·obtain ⟨v,o,ho,hd⟩:=I2.cell x c (hcl x c e)
   exact ⟨v,o,old _ _ ho,hd⟩
  ·show upd H2 s2.heap.objs.size (.lst []) P2.objs.size=none
   rw [bF (show P2.objs.size≠s2.heap.objs.size by rw [hCs];exact Nat.succ_ne_self _)]
   exact I2.hok.fresh (show s2.heap.objs.size<=P2.objs.size by rw [hCs];exact Nat.le_succ _)
  ·have e':=hcl x c e
   obtain ⟨v,o,ho,hd⟩:=I2.cell x c e'
   rw [bF (Nat.ne_of_lt (Heap.lt_size ho))]
   exact I2.freeC x c e'
 have st1:tn 0 h₁:=T.keep 0 _ _ dH fun b hb o e=>old b o e
 have fr1:∀ b∈fp,upd H2 s2.heap.objs.size (.lst []) b=none:=fun b hb=>by rw [bF (Nat.ne_of_lt (fpl b hb))];exact (f2 b hb).1
 have fin:∀ (H3:Hp) (s4:Shared),Inv (dR X N scope cl P2.objs.size s2 H2 fp) [] (cU k ix σ) H3 s4->∀ h':Heap,Heap.SameBut P2.objs.size s4.heap h'->Inv X pins σ H3 { s4 with heap:=h' }:=fun H3 s4 I4 h' sb=>by
  have kp:∀ b o,b < s2.heap.objs.size->s4.heap.get? b=some o->h'.get? b=some o:=fun b o hb e=>sb.extBut b o (below b hb) e
  have u:Un (qI X.stack) fp H2 H3 s2.heap s4.heap:=I4.base
  refine I2.call' (ch:=fp) (H':=H3) I4.os ⟨fun b o q n hb hx=>kp b o (Heap.lt_size q) (u.keep b o q n hb hx),fun b o q n hb hx=>?_,u.free,fun b o q hx=>?_,u.tups,u.frzs,u.tbls⟩ (fun a o e=>?_) I4.bare fun b hb=>⟨(f2 b hb).2.2.2.1,(f2 b hb).2.1,(f2 b hb).2.2.2.2.1,(f2 b hb).2.2.2.2.2⟩
  ·obtain ⟨sl,e⟩:=u.slot b o q n hb hx
   exact ⟨sl,kp b _ (Heap.lt_size q) e⟩
  ·obtain ⟨o',e⟩:=u.there b o q hx
   exact ⟨o',kp b _ (Heap.lt_size q) e⟩
  ·have nC:H3 P2.objs.size=none:=I4.free
   refine (I4.hok a o e).stay (fun b z hb q=>sb.extBut b z ?_ q) (fun _ q=>q) fun _ _ q=>q
   rcases hb with rfl | hb
   ·exact cF e nC
   ·exact cF hb nC
 have loop:∀ tk,codeAny (model X.prog X.w) X.A (.compLoop (.ListComp elt [⟨tg,iter,ifs,0⟩] scope pos) 0 (.ref it) (.ref s2.heap.objs.size) (compEnvC scope cl P2.objs.size X.env))
   (compPost (model X.prog X.w) X.A X.xe use QQ (.ref s2.heap.objs.size) P2.objs.size) { s2 with heap:=h₁,toks:=tk }:=fun tk=>by
  refine vX (fun n s'=>∃ i H',Inv (dR X N scope cl P2.objs.size s2 H2 fp) [] (cU k ix σ) H' s'/\tn i s'.heap/\(∀ b∈fp,H' b=none)/\W i n H') ?_ m0 ⟨0,_,Istart tk,st1,fr1,w0⟩
  rintro n s3 ⟨i,H3,I3,st3,fr3,w3⟩
  rcases turn i n H3 w3 with ⟨stop,q⟩ | ⟨go,step⟩
  ·refine bC (T.done (dR X N scope cl P2.objs.size s2 H2 fp) rfl rfl rfl hc i [] s3 _ H3 (fun _ _=>False) I3 (stat fr3) st3 stop) fun r s4 ⟨hr,I4⟩=>?_
   subst hr
   obtain ⟨m,hn,_⟩:=I4.loc
   refine end_ s2.heap.objs.size P2.objs.size H3 s4 (fin H3 s4 I4 s4.heap (Heap.SameBut.refl ..)) ⟨m,hn⟩ I4.free (Ne.symm (below _ I2.lt)) (Nat.le_trans I2.sz (show s2.heap.objs.size<=P2.objs.size by rw [hCs];exact Nat.le_succ _)) (fun x c e=>?_) (fun p hp=>below _ (Heap.lt_size (I2.pin p hp).1)) (fin H3 s4 I4) q
   obtain ⟨v,o,ho,_⟩:=I2.cell x c e
   exact below _ (Heap.lt_size ho)
  ·refine bC (T.item (dR X N scope cl P2.objs.size s2 H2 fp) rfl rfl rfl hc i [] s3 _ H3 (fun _ _=>False) I3 (stat fr3) st3 go) fun r s4 ⟨u,hr,h4⟩=>?_
   subst hr
   refine bC h4 fun _ s5 ⟨x,H5,I5,r5,y5,st5,fr5⟩=>?_
   have I5':=I5.pinned (stat fr5) (T.obj _ _ st5)
   refine bC (hg cl P2.objs.size s2 H2 fp _ s5 _ H5 x u _ I5' r5 (gk _ _ _ _ (step x H5 y5))) fun _ s6 ⟨σ6,H6,I6,ag,q6⟩=>?_
   have again:∀ {s7:Shared} {H7:Hp} {m':Nat},Inv (dR X N scope cl P2.objs.size s2 H2 fp) ([]++qK fp s5.heap) σ6 H7 s7->m' < n->W (i + 1) m' H7->∃ m,m < n/\∃ i H',Inv (dR X N scope cl P2.objs.size s2 H2 fp) [] (cU k ix σ) H' s7/\tn i s7.heap/\(∀ b∈fp,H' b=none)/\W i m H':=fun {s7 H7 m'} I7 hm w7=>by
    refine ⟨m',hm,i + 1,H7,(I7.unpinned).weak (by rw [σl];exact (I7.len).symm) (fun j v e=>?_),T.keep _ _ _ st5 fun b hb o e=>(I7.pin (b,o) (List.mem_append_right _ (List.mem_append_right _ (j5 hb e)))).1,fun b hb=>?_,w7⟩
    ·by_cases hj:j < k
     ·exfalso
      unfold cU at e
      rw [List.getElem?_append_left (by simpa using hj),List.getElem?_replicate] at e
      split at e <;> cases e
     ·rw [ag j (by omega)];exact e
    ·obtain ⟨o,e,d⟩:=T.obj _ _ st5 b hb
     exact (I7.pin (b,o) (List.mem_append_right _ (List.mem_append_right _ (j5 hb e)))).2.1
   refine bC (hif cl P2.objs.size s2 H2 fp _ s6 σ6 H6 _ I6 q6) fun ok s7 ⟨H7,I7,q7⟩=>?_
   cases ok with
   | false =>
    obtain ⟨m',hm,w7⟩:=q7
    exact again I7 hm w7
   | true =>
    refine bC (he cl P2.objs.size s2 H2 fp _ s7 σ6 H7 _ I7 q7) fun y s8 ⟨yv,H8,I8,r8,ys,hD8,hz8,m',hm,w8⟩=>?_
    refine bC (uJ _ s8 σ6 H8 (.ref s2.heap.objs.size) [yv] (.ref s2.heap.objs.size) [y] (fun v H9=>H9=upd H8 s2.heap.objs.size (.lst (ys++[yv]))) I8 rfl (.cons r8 .nil) ⟨_,ys,yv,rfl,rfl,hD8,hz8,rfl⟩) fun _ s9 ⟨_,H9,I9,_,e9⟩=>?_
    subst e9
    exact again I9 hm w8
 exact codeAny_compStart_list (loop _) (T.self _ 0 _ _ _ st1 (loop _))
theorem Mv {X:Cx} {tg elt iter:Expr} {ifs:List Expr} {scope:Scope} {pos:Pos} {N:List Str} {k:Nat} {ix:List Nat} {wi:TI} {g:TG} {tc:TT} {te:TE}
  (hc:X.calm=true) (hi:PI X tg iter wi) (gk:GK k g)
  (hk:scope.kind=.function) (hcell:∀ y∈scope.names,y.2≠.cell) (hnames:∀ y∈scope.names,y.2=.local->scope.names.lookup y.1=some .local)
  (hfree:∀ y∈scope.names,y.2=.free->X.env.kindOf y.1=some .cell\/X.env.kindOf y.1=some .free)
  (hone:∀ y∈scope.names,y.2=.free->scope.names.lookup y.1=some .free)
  (hN:∀ (j:Nat) x,N[k + j]?=some x->∃ i,ix[j]?=some i/\X.N[i]?=some x)
  (hcap:∀ (j:Nat) x,N[k + j]?=some x->scope.names.lookup x=some .free)
  (hlen:N.length=k + ix.length)
  (hg:∀ cl C s H fp,PG (dR X N scope cl C s H fp) tg g)
  (hif:∀ cl C s H fp,BU (dR X N scope cl C s H fp) ifs tc)
  (he:∀ cl C s H fp,PE (dR X N scope cl C s H fp) elt te)
  (hs:∀ x,foldedSetIterable iter X.env x=pure x:=by intro _;rfl) :
  PE X (.ListComp elt [⟨tg,iter,ifs,0⟩] scope pos) (vG k ix wi g tc te):=by
 intro pins s σ H Q I h
 rw [eval_ListComp]
 refine AS (use:=none) hc hi gk hk hcell hnames hfree hone hN hcap hlen hg hif he hs I h fun D C H3 s4 I4 ⟨m,hn⟩ _ _ _ _ _ fin q=>?_
 exact ⟨m,hn,fun h' sb=>⟨.ref D,H3,fin h' sb,rfl,q⟩⟩
theorem MY {X:Cx} {tg elt iter:Expr} {ifs:List Expr} {scope:Scope} {pos spos py:Pos} {N:List Str} {k:Nat} {ix:List Nat} {wi:TI} {g:TG} {tc:TT} {te:TE} {i:Nat} {y:Str}
  (hc:X.calm=true) (hi:PI X tg iter wi) (gk:GK k g)
  (hk:scope.kind=.function) (hcell:∀ y∈scope.names,y.2≠.cell) (hnames:∀ y∈scope.names,y.2=.local->scope.names.lookup y.1=some .local)
  (hfree:∀ y∈scope.names,y.2=.free->X.env.kindOf y.1=some .cell\/X.env.kindOf y.1=some .free)
  (hone:∀ y∈scope.names,y.2=.free->scope.names.lookup y.1=some .free)
  (hN:∀ (j:Nat) x,N[k + j]?=some x->∃ i,ix[j]?=some i/\X.N[i]?=some x)
  (hcap:∀ (j:Nat) x,N[k + j]?=some x->scope.names.lookup x=some .free)
  (hlen:N.length=k + ix.length)
  (hg:∀ cl C s H fp,PG (dR X N scope cl C s H fp) tg g)
  (hif:∀ cl C s H fp,BU (dR X N scope cl C s H fp) ifs tc)
  (he:∀ cl C s H fp,PE (dR X N scope cl C s H fp) elt te)
  (hs:∀ x,foldedSetIterable iter X.env x=pure x) (hsw:swapsWith (.ListComp elt [⟨tg,iter,ifs,0⟩] scope pos) (some (.Name y py)) spos.line X.env=pure true)
  (hNd:X.N.Nodup) (hiy:X.N[i]?=some y) (hy:Loc X.env.scope y) (hf:X.fn y=true\/X.env.scope.names.lookup y=some .local) :
  PS X (.Assign [.Name y py] (.ListComp elt [⟨tg,iter,ifs,0⟩] scope pos) spos) (Gm (vG k ix wi g tc te) (o3 i)):=by
 intro pins s σ H D I h
 rw [exec_Assign_Name_used _ _ _ _ hsw]
 refine wpAny_bind (wpAny_standAt (wpAny_bind ?_))
 show wpAny _ X.A (do let _ <- comprehension (.ListComp elt [⟨tg,iter,ifs,0⟩] scope pos) scope X.env _ (newList []) false (eval iter X.env) (some (assign (.Name y py) X.env))) _ _ s
 refine wpAny_bind (wpAny_mono (AS (use:=some (assign (.Name y py) X.env)) (QQ:=fun _ s'=>SP X pins D .next s') hc hi gk hk hcell hnames hfree hone hN hcap hlen hg hif he hs I h fun A C H3 s4 I4 hn nC nL sC cC pC fin q=>?_) (fun _ s' hq=>wpAny_pure (wpAny_pure hq)) fun _ _ e=>e)
 show wpAny _ X.A (assign (.Name y py) X.env (.ref A)) _ _ _
 refine wpAny_assign_Name (Bk (i:=i) (v:=.ref A) I4 hNd hiy hy rfl (fun s5 I5 ⟨a,sb,ha⟩=>?_) hf)
 obtain ⟨m,hn⟩:=hn
 have aC:C≠a:=by
  rcases ha with z | z
  ·rw [z];exact nL
  ·exact fun e=>cC y a z e.symm
 refine ⟨m,hn.at' fun o e=>sb.extBut C o aC e,fun h' sb'=>?_⟩
 exact ⟨_,H3,I5.turned (t':=s5.toks) (fun b o hb e=>sb'.extBut b o hb e) nC nL (.inr sC) cC pC,q⟩
section
variable {X:Cx}
theorem Nj:dI X (binaryOp .Add) (FP X.K):=by
 intro pins s σ H x y v u Q I rx ry h
 obtain ⟨l,b,xs,zs,rfl,rfl,hH,hB,hz,q⟩:=h
 cases rx
 cases ry
 obtain ⟨its,r,p,hl⟩:=I.list hH
 obtain ⟨its2,r2,p2,hl2⟩:=I.list hB
 obtain ⟨⟨cls,dd,data,sl⟩,n,ho,hc,_,hd⟩:=p
 obtain ⟨⟨cls2,dd2,data2,sl2⟩,n2,ho2,hc2,_,hd2⟩:=p2
 simp only at hc hd hc2 hd2
 subst hc hd hc2 hd2
 have q1:=r.length
 have q2:=r2.length
 have e:its.toArray++its2.toArray=(its++its2).toArray:=by simp
 refine concat_meets ⟨_,ho,rfl⟩ ⟨_,ho2,rfl⟩ noFill_list_add seq_list_add PySem.F.slot_list_add PySem.F.entry_list_add (PySem.F.args_list_add_2 _ _) (list_addW l b its.toArray its2.toArray n n2 dd dd2 sl sl2 (by rw [List.size_toArray,List.size_toArray];omega)) ⟨ho,ho2,?_⟩
 rw [e]
 exact ⟨.ref _,_,I.lnew (t':=s.toks) (r.append r2) (by rw [List.length_append];omega),rfl,q _ I.fresh⟩
theorem Ki:dI X (binaryOp .Add) (C3 X.K):=by
 intro pins s σ H x y v u Q I rx ry h
 obtain ⟨a,b,xs,ys,rfl,rfl,ha,hb,hz,q0,q1,q2⟩:=h
 by_cases hx:xs=[]
 ·cases rx
  cases ry
  obtain ⟨its,r1,p1,_⟩:=I.tuple ha
  obtain ⟨its2,r2,p2,_⟩:=I.tuple hb
  obtain ⟨⟨cls,dd,data,sl⟩,ho,hc,n,hd⟩:=p1
  obtain ⟨⟨cls2,dd2,data2,sl2⟩,ho2,hc2,n2,hd2⟩:=p2
  simp only at hc hd hc2 hd2
  subst hc hd hc2 hd2
  have e:its=[]:=r1.nil_iff.mpr hx
  exact concat_meets ⟨_,ho,rfl⟩ ⟨_,ho2,rfl⟩ noFill_tuple_add seq_tuple_add PySem.F.slot_tuple_add PySem.F.entry_tuple_add (PySem.F.args_tuple_add_2 _ _) (tuple_addW0 a b its.toArray its2.toArray n n2 dd dd2 sl sl2 (by rw [e];rfl)) ⟨ho,ho2,.ref b,H,I,rfl,q0 hx⟩
 ·exact N4 pins s σ H _ _ v u Q I rx ry ⟨a,b,xs,ys,rfl,rfl,ha,hb,hx,hz,q1 hx,q2 hx⟩
theorem Ol:wA X (fun x lo hi H Q=>∃ z:Str,x=.str z/\z.length<=sizeLine/\Q (.str (Txt.slice z lo hi)) H):=by
 intro pins s σ H x v vl vu lo hi sl Q I rx hs pl pu h
 obtain ⟨z,rfl,hz,q⟩:=h
 obtain ⟨t,rfl⟩:=rx
 refine ⟨"str",_,F.slot_str_getitem.lookup,typeIs_str _ _ _,?_⟩
 have fin:∀ t' k,EP X pins σ Q (.str (Txt.slice z lo hi) t') { s with toks:=k }:=fun t' k=>⟨.str (Txt.slice z lo hi),H,I.tok k,⟨t',rfl⟩,q⟩
 cases pl with
 | none=>cases pu with
  | none=>exact wpAny_getItem_str_slice (l:=none) (u:=none) (st:=none) hs rfl (post_val_or_str ⟨Nat.le_trans (Txt.slice_le z _ _) hz,fun t' k=>fin t' k⟩)
  | int j uj=>exact wpAny_getItem_str_slice (l:=none) (u:=some (j,uj)) (st:=none) hs rfl (post_val_or_str ⟨Nat.le_trans (Txt.slice_le z _ _) hz,fun t' k=>fin t' k⟩)
 | int i ui=>cases pu with
  | none=>exact wpAny_getItem_str_slice (l:=some (i,ui)) (u:=none) (st:=none) hs rfl (post_val_or_str ⟨Nat.le_trans (Txt.slice_le z _ _) hz,fun t' k=>fin t' k⟩)
  | int j uj=>exact wpAny_getItem_str_slice (l:=some (i,ui)) (u:=some (j,uj)) (st:=none) hs rfl (post_val_or_str ⟨Nat.le_trans (Txt.slice_le z _ _) hz,fun t' k=>fin t' k⟩)
theorem Qg:wA X (Qq X.K):=N3.or (OW.or Ol)
theorem Iu (hc:X.calm=true):lZ X (.builtin "all") (fun xs H Q=>∃ (p:Addr) (bs:List Bool),xs=[.ref p]/\dN X.K H p (bs.map V.bl)/\Q (.bl (bs.all fun b=>b)) H):=by
 intro pins s σ H xs us Q I r h
 obtain ⟨a,bs,rfl,ha,q⟩:=h
 obtain ⟨u,rfl,ru⟩:=vals1 r
 cases ru
 obtain ⟨its,rv,p,hz⟩:=I.list ha
 have hl:=rv.length
 have hne:a≠s.heap.objs.size:=by
  obtain ⟨o,n,e,_⟩:=p
  exact Nat.ne_of_lt (Heap.lt_size e)
 refine call_all_walk (wpAny_pyIter_list p.isList ?_)
 refine ⟨s.heap.objs.size,_,_,_,_,_,fun i=>(bs[i]?).getD false,rfl,Walks.list (show X.A.in1.handled=none from I.ok.hd hc) s.heap.objs.size a hne its.toArray,⟨⟨_,Heap.get?_push_size _ rfl,rfl,rfl⟩,?_⟩,?_,fun h' tk k=>?_⟩
 ·obtain ⟨o,n,e,c,d,z⟩:=p
  exact ⟨o,Heap.get?_push_of_some _ e,c,n,z⟩
 ·intro i v s' Q' E' hP hQ
  have hv:its[i]?=some v:=by simpa using hP
  have hi:i < bs.length:=by
   have:=(List.getElem?_eq_some_iff.mp hv).1
   rw [<- hl] at this;simpa using this
  obtain ⟨u,hu,ru⟩:=rv.get (i:=i) (x:=.bl bs[i]) (by simp [hi])
  rw [hv] at hu;cases hu
  cases ru
  refine wpAny_truthy_bool ?_
  have:(bs[i]?).getD false=bs[i]:=by simp [hi]
  rw [<- this];exact hQ
 ·have e:(List.range its.toArray.size).all (fun i=>(bs[i]?).getD false)=bs.all fun b=>b:=by
   have:its.toArray.size=bs.length:=by rw [List.size_toArray,<- hl,List.length_map]
   rw [this]
   clear this hl rv p hz k
   rw [Bool.eq_iff_iff]
   simp only [List.all_eq_true,List.mem_range]
   constructor
   ·intro h b hb
    obtain ⟨i,hi,rfl⟩:=List.mem_iff_getElem.mp hb
    have:=h i hi
    simpa [hi] using this
   ·intro h i hi
    have:=h bs[i] (List.getElem_mem hi)
    simpa [hi] using this
  rw [e]
  exact ⟨.bl _,H,I.kept (t':=tk) (fun b o e=>k b o (fun z=>Nat.lt_irrefl _ (Nat.lt_of_lt_of_le (Heap.lt_size e) (Nat.le_of_eq (show s.heap.objs.size=b from (List.mem_singleton.mp z).symm)))) (Heap.get?_push_of_some _ e)),rfl,q⟩
end
end U2
namespace U2
open PySem PySem.Spec PyProof.Rows L2
structure Dat where
 prog:Program
 w:World
 K:PySem.W.Frag
 mg:Str->Option Value
 base:Heap
 N:List Str
 sc:Scope
 k:Nat
 fn:Bool
 cod:Value:=.none
 qual:Str:=""
structure kH (D:Dat) (X:Cx):Prop where
 prog:X.prog=D.prog
 w:X.w=D.w
 K:X.K=D.K
 mg:X.mg=D.mg
 base:X.base=D.base
 N:X.N=D.N
 sc:X.env.scope=D.sc
 room:eN D.k X.A
 calm:X.calm=true
 xe:X.xe=fun _ _=>False
 fn:D.fn=true->∀ x,X.fn x=true
 cod:D.cod≠.none->X.env.code=D.cod/\X.env.qual=D.qual
def bA (D:Dat) (e:Expr) (t':UE):Prop:=∃ t,(∀ X,kH D X->PE X e t)/\cE D.K t t'
def pS (D:Dat) (e:Expr) (t':UT):Prop:=∃ t,(∀ X,kH D X->PT X e t)/\jO D.K t t'
def l5 (D:Dat) (e:Expr) (t':UT):Prop:=∃ t,(∀ X,kH D X->PW X e t)/\jO D.K t t'
def l4 (D:Dat) (es:List Expr) (t':UA):Prop:=∃ t,(∀ X,kH D X->PA X es t)/\k8 D.K t t'
def o4 (D:Dat) (s:Stmt) (t':US):Prop:=∃ t,(∀ X,kH D X->PS X s t)/\kN D.K t t'
def oT (D:Dat) (s:List Stmt) (t':US):Prop:=∃ t,(∀ X,kH D X->pF X s t)/\kN D.K t t'
def Dx (D:Dat) (k:Nat) (e:Expr) (g':UG):Prop:=∃ g,(∀ X,kH D X->PG X e g)/\xD D.K g g'/\GK k g/\∀ x σ H Q Q',(∀ σ2 H2,Q σ2 H2->Q' σ2 H2)->g x σ H Q->g x σ H Q'
def GH (D:Dat) (k:Nat) (es:List Expr) (g':x8):Prop:=∃ g,(∀ X,kH D X->Hi X es g)/\yM D.K g g'/\GS k g/\∀ x σ H Q Q',(∀ σ2 H2,Q σ2 H2->Q' σ2 H2)->g x σ H Q->g x σ H Q'
def uP (D:Dat) (tg e:Expr) (t':UI):Prop:=∃ t,(∀ X,kH D X->PI X tg e t)/\pZ D.K t t'
def LH (D:Dat) (e:Option Expr) (t':UO):Prop:=∃ t,(∀ X,kH D X->PO X e t)/\Cs D.K t t'
def GC (D:Dat) (es:List Expr) (t':UT):Prop:=∃ t,(∀ X,kH D X->BU X es t)/\jO D.K t t'
section
variable {D:Dat} {a b c e o:Expr} {ta tb tc te:UE} {pos:Pos}
theorem uv (i:Nat) {x:Str} (hN:D.N[i]?=some x:=by rfl) (hv:HS D.sc x:=by first | exact Or.inl rfl | exact Or.inr (Or.inl rfl) | exact Or.inr (Or.inr rfl)) (hd:(x == ("__debug__":Str))=false:=by decide)
  (hcd:(x == ("__classdict__":Str))=false:=by decide):bA D (.Name x pos) (pW i) :=
 ⟨_,fun X h=>IV (by rw [h.N];exact hN) (by rw [h.sc];exact hv) hd hcd,Ec i⟩
theorem aS {i j}:bA D (.Constant (.int i) j pos) (uC (.int i)):=⟨_,fun X h=>Ou,NX⟩
theorem v5 {i j}:bA D (.Constant (.bool i) j pos) (uC (.bl i)):=⟨_,fun X h=>Qy,OE⟩
theorem kS {i j}:bA D (.Constant (.str i) j pos) (uC (.str i)):=⟨_,fun X h=>PF,NV⟩
theorem zP {j}:bA D (.Constant .none j pos) (uC .non):=⟨_,fun X h=>Pe,N6⟩
theorem CW {x:Str} {f:Addr} (hm:D.mg x=some (.ref f)) (hg:D.sc.names.lookup x=some .globalImplicit:=by rfl) (hd:(x == ("__debug__":Str))=false:=by decide):bA D (.Name x pos) (uC (.ref f)) :=
 ⟨_,fun X h=>Nh (v:=.ref f) (by show X.env.scope.names.lookup x=_;rw [h.sc];exact hg) (by rw [h.mg];exact hm) rfl hd,Mh⟩
theorem vM {op:Operator} {r:R2} {r':dQ} (ho:∀ X,kH D X->dI X (binaryOp op) r) (hr:dX D.K r r') (ha:bA D a ta) (hb:bA D b tb):bA D (.BinOp a op b pos) (lP r' ta tb):=by
 obtain ⟨x,p,s⟩:=ha;obtain ⟨y,q,r⟩:=hb
 exact ⟨_,fun X h=>QA (ho X h) (p X h) (q X h),uS hr s r⟩
theorem Du (ha:bA D a ta) (hb:bA D b tb):bA D (.BinOp a .Sub b pos) (lP (q8 fun i j=>.int (i - j)) ta tb):=vM (fun _ _=>Ot) Cz ha hb
theorem kR (ha:bA D a ta) (hb:bA D b tb):bA D (.BinOp a .Mod b pos) (lP (uI (fun _ j=>0 < j) fun i j=>.int (i % j)) ta tb):=vM (fun _ _=>OF) pP ha hb
theorem Jh (ha:bA D a ta) (hb:bA D b tb):bA D (.BinOp a .Pow b pos) (lP (uI K0 fun i j=>.int (i ^ j.toNat)) ta tb):=vM (fun _ _=>P9) pP ha hb
def uQ (o:Bool):dQ:=fun x y M Q=>match x,y with
 | .int i,.int j=>Q (.int (i + j)) M
 | .str i,.str j=>i.length + j.length<=sizeLine/\Q (.str (i++j)) M
 | .tup us,.tup ws=>us.length + ws.length<=sizeLine/\Q (.tup (us++ws)) M
 | x,y=>o6 o x y M Q
def Ma (K:PySem.W.Frag):R2:=fun x y H Q=>tG (fun i j=>.int (i + j)) x y H Q\/((∃ i j,x=.str i/\y=.str j/\i.length + j.length<=sizeLine/\Q (.str (i++j)) H)\/(C3 K x y H Q\/FP K x y H Q))
theorem NI {K:PySem.W.Frag} {o:Bool}:dX K (Ma K) (uQ o):=fun x y u w H M Q' rm ru rw h Q c=>by
 unfold uQ at h
 split at h
 ·exact .inl (Cz x y _ _ H M Q' rm ru rw h Q c)
 ·exact .inr (.inl (Le x y _ _ H M Q' rm ru rw h Q c))
 ·exact .inr (.inr (.inl (Jx x y _ _ H M Q' rm ru rw h Q c)))
 ·exact .inr (.inr (.inr (Ls x y _ _ H M Q' rm ru rw h Q c)))
theorem cX (own:Bool:=false) (ha:bA D a ta) (hb:bA D b tb):bA D (.BinOp a .Add b pos) (lP (uQ own) ta tb) :=
 vM (r:=Ma D.K) (fun X h=>by have:=Pr.or (FC.or ((Ki (X:=X)).or (Nj (X:=X))));rw [h.K] at this;exact this) NI ha hb
theorem yU (ha:bA D a ta):bA D (.UnaryOp .USub a pos) (CY (fun x M Q=>match x with | .int i=>Q (.int (-i)) M | _=>False) ta):=by
 obtain ⟨x,p,s⟩:=ha
 refine ⟨_,fun X h=>QO Oe (p X h),OH (fun x u H M Q' rm ru h Q c=>?_) s⟩
 cases u with
 | int i=>exact ⟨i,ru.int,c.here rm eK h⟩
 | _=>exact h.elim
theorem Pq {op:CmpOp} {r:R2} {r':dQ} (ho:∀ X,kH D X->dI X (compareOp op) r) (hr:dX D.K r r') (ha:bA D a ta) (hb:bA D b tb) (hm:behindInMarks op b=false):bA D (.Compare a [op] [b] pos) (lP r' ta tb):=by
 obtain ⟨x,p,s⟩:=ha;obtain ⟨y,q,r⟩:=hb
 exact ⟨_,fun X h=>MR (ho X h) (p X h) (q X h) hm,uS hr s r⟩
theorem Od {op:CmpOp} {r:R2} {r':dQ} (ho:∀ X,kH D X->dI X (compareOp op) r) (hr:dX D.K r r') (ha:bA D a ta) (hb:bA D b tb) (hm:behindInMarks op b=false):pS D (.Compare a [op] [b] pos) (o8 (lP r' ta tb)):=by
 obtain ⟨x,p,s⟩:=ha;obtain ⟨y,q,r⟩:=hb
 exact ⟨_,fun X h=>Nu (ho X h) (p X h) (q X h) hm,JX (uS hr s r)⟩
abbrev Jb:dQ:=q8 fun i j=>.bl (decide (i < j))
abbrev D8:dQ:=q8 fun i j=>.bl (decide (i<=j))
abbrev Ep:dQ:=q8 fun i j=>.bl (decide (j < i))
abbrev Ek:dQ:=q8 fun i j=>.bl (decide (j<=i))
structure m9 (D:Dat) (op:CmpOp) (r':dQ):Prop where
 ex:∃ r:R2,(∀ X,kH D X->dI X (compareOp op) r)/\dX D.K r r'
theorem OJ:m9 D .LtE D8:=⟨⟨_,fun _ _=>QF,pO⟩⟩
theorem PY:m9 D .Gt Ep:=⟨⟨_,fun _ _=>QN,pO⟩⟩
theorem Rw:m9 D .GtE Ek:=⟨⟨_,fun _ _=>QH,pO⟩⟩
theorem L4:m9 D .Is tX:=⟨⟨_,fun _ _=>O5,Np⟩⟩
theorem CH:m9 D .IsNot pJ:=⟨⟨_,fun _ _=>NG,J1⟩⟩
def BO (neg:Bool):dQ:=fun x y M Q=>match x,y with
 | .str i,.str j=>Q (.bl (if neg then !(!(Builtin.Str.occurrences j i 0 j.length 1).isEmpty) else !(Builtin.Str.occurrences j i 0 j.length 1).isEmpty)) M
 | _,_=>False
theorem KY {op:CmpOp} {r':dQ} (k:m9 D op r') (ha:bA D a ta) (hb:bA D b tb) (hm:behindInMarks op b=false:=by first | exact HI _ | with_unfolding_all rfl):bA D (.Compare a [op] [b] pos) (lP r' ta tb) :=
 let ⟨_,h1,h2⟩:=k.ex;Pq h1 h2 ha hb hm
theorem cP {op:CmpOp} {r':dQ} (k:m9 D op r') (ha:bA D a ta) (hb:bA D b tb) (hm:behindInMarks op b=false:=by first | exact HI _ | with_unfolding_all rfl):pS D (.Compare a [op] [b] pos) (o8 (lP r' ta tb)) :=
 let ⟨_,h1,h2⟩:=k.ex;Od h1 h2 ha hb hm
theorem Q9 {op op':CmpOp} {r r':dQ} (k:m9 D op r) (k':m9 D op' r') (ha:bA D a ta) (hb:bA D b tb) (hc:bA D c tc) (hm:lastMarks [op,op'] [b,c]=false:=by with_unfolding_all rfl) :
  bA D (.Compare a [op,op'] [b,c] pos) (oE r r' ta tb tc):=by
 obtain ⟨x,p,s⟩:=ha;obtain ⟨y,q,r⟩:=hb;obtain ⟨z,u,v⟩:=hc
 obtain ⟨_,h1,h2⟩:=k.ex
 obtain ⟨_,h3,h4⟩:=k'.ex
 exact ⟨_,fun X h=>JJ (h1 X h) (h3 X h) (p X h) (q X h) (u X h) hm,Iq h2 h4 s r v⟩
theorem qD (ha:bA D a ta) (he:∀ env whole,isTrue a env whole=(do let v <- whole;standAt a.pos;holding [v] (truthy v)):=by intro _ _;rfl):pS D a (wU ta):=by
 obtain ⟨x,p,s⟩:=ha
 refine ⟨_,fun X h=>?_,NO s⟩
 have:=KI (p X h) (he X.env)
 rw [h.K] at this
 exact this
theorem l5.pt {t:UT} (h:l5 D a t):pS D a t:=let ⟨_,p,s⟩:=h;⟨_,fun X h=>(p X h).pt,s⟩
variable {rest:List Expr} {tA tB':UT}
theorem AB (ha:pS D a tA):l5 D (.BoolOp .And [a] pos) tA:=let ⟨_,p,s⟩:=ha;⟨_,fun X h=>NL (p X h),s⟩
theorem oN (ha:pS D a tA):l5 D (.BoolOp .Or [a] pos) tA:=let ⟨_,p,s⟩:=ha;⟨_,fun X h=>OK (p X h),s⟩
theorem Co (ha:pS D a tA) (hb:l5 D (.BoolOp .And (b :: rest) pos) tB'):l5 D (.BoolOp .And (a :: b :: rest) pos) (wZ tA tB'):=let ⟨_,p,s⟩:=ha;let ⟨_,q,r⟩:=hb;⟨_,fun X h=>Ow (p X h) (q X h),NP s r⟩
theorem pM (ha:pS D a tA) (hb:l5 D (.BoolOp .Or (b :: rest) pos) tB'):l5 D (.BoolOp .Or (a :: b :: rest) pos) (B9 tA tB'):=let ⟨_,p,s⟩:=ha;let ⟨_,q,r⟩:=hb;⟨_,fun X h=>QP (p X h) (q X h),P8 s r⟩
theorem Ox (ha:pS D a tA):pS D (.UnaryOp .Not a pos) (w6 tA):=let ⟨_,p,s⟩:=ha;⟨_,fun X h=>Oo (p X h),N5 s⟩
theorem P4 {op} (ha:bA D a ta):bA D (.BoolOp op [a] pos) ta:=let ⟨_,p,s⟩:=ha;⟨_,fun X h=>PH (p X h),s⟩
theorem O7 (ha:bA D a ta) (hb:bA D (.BoolOp .And (b :: rest) pos) tb):bA D (.BoolOp .And (a :: b :: rest) pos) (rN ta tb):=let ⟨_,p,s⟩:=ha;let ⟨_,q,r⟩:=hb;⟨_,fun X h=>Qc (p X h) (q X h),K7 s r⟩
theorem BG (hc:pS D c tA) (ha:bA D a ta) (hb:bA D b tb):bA D (.IfExp c a b pos) (C1 tA ta tb):=let ⟨_,p,s⟩:=ha;let ⟨_,q,r⟩:=hb;let ⟨_,u,v⟩:=hc;⟨_,fun X h=>JU (u X h) (p X h) (q X h),OO v s r⟩
variable {es:List Expr} {tas:UA}
theorem aB:l4 D [] wH:=⟨_,fun X h=>O3,MF⟩
theorem aA (ha:bA D e te) (hr:l4 D es tas) (hs:∀ env,starEach (e :: es) env=(false,eval e env) :: starEach es env:=by intro _;rfl):l4 D (e :: es) (r9 te tas):=let ⟨_,p,s⟩:=ha;let ⟨_,q,r⟩:=hr;⟨_,fun X h=>NR (p X h) (q X h) (hs _),JT s r⟩
theorem bI {x1} (h:l4 D es tas):bA D (.Tuple es x1 pos) (xI tas):=let ⟨_,p,s⟩:=h;⟨_,fun X h=>Ph (p X h),ND s⟩
theorem hZ (own:Bool:=false) (h:l4 D es tas):bA D (.List es pos) (wW own tas):=let ⟨_,p,s⟩:=h;⟨_,fun X h=>O4 (p X h),MD s⟩
theorem aN (ha:bA D a ta) (hb:bA D b tb) (hs:EI b:=by intro _ _;rfl):bA D (.Subscript a b pos) (lP AY ta tb):=by
 obtain ⟨x,p,s⟩:=ha;obtain ⟨y,q,r⟩:=hb
 refine ⟨_,fun X h=>?_,uS OG s r⟩
 have:=QK (pos:=pos) Qj (p X h) (q X h) hs
 rw [h.K] at this
 exact this
theorem n0:LH D none mD:=⟨_,fun X h=>Nd,Ge⟩
theorem nY (h:bA D e te):LH D (some e) (rX te):=let ⟨_,p,s⟩:=h;⟨_,fun X h=>ME (p X h),JK s⟩
variable {st:Stmt} {sts body body2:List Stmt} {t u:US}
theorem cT:oT D [] fJ:=⟨_,fun X h=>Ny,JL⟩
theorem aE (h1:o4 D st t) (h2:oT D sts u):oT D (st :: sts) (tW t u):=let ⟨_,p,s⟩:=h1;let ⟨_,q,r⟩:=h2;⟨_,fun X h=>Ln (p X h) (q X h),MN s r⟩
theorem aJ (h1:o4 D st t):oT D [st] t:=let ⟨_,p,s⟩:=h1;⟨_,fun X h=>MG (p X h),s⟩
theorem eA (he:bA D e te) (hs:∀ env,swapsWith e none pos.line env=pure false:=by intro _;rfl):o4 D (.Expr e pos) (gC te):=let ⟨_,p,s⟩:=he;⟨_,fun X h=>N7 (p X h) (hs _),J0 s⟩
theorem bP (he:bA D e te):o4 D (.Return (some e) pos) (gH te):=let ⟨_,p,s⟩:=he;⟨_,fun X h=>PJ (p X h),Nb s⟩
theorem dW {c:Expr} {tc:UT} (hc:pS D c tc) (ha:oT D body t) (hb:oT D body2 u):o4 D (.If c body body2 pos) (qC tc t u):=let ⟨_,p,s⟩:=ha;let ⟨_,q,r⟩:=hb;let ⟨_,x,y⟩:=hc;⟨_,fun X h=>Q0 (x X h) (p X h) (q X h),MQ y s r⟩
theorem wV {c:Expr} {tc:UT} (hc:pS D c tc) (hb:oT D body t):o4 D (.While c body [] pos) (CV tc t):=by
 obtain ⟨_,p,s⟩:=hb;obtain ⟨_,x,y⟩:=hc
 exact ⟨_,fun X h=>Lp (by rw [h.xe];exact PassesOwn.never) (x X h) (p X h),Ig y s⟩
variable {k:Nat} {g:UG} {gs:x8}
theorem aO (i:Nat) {x:Str} (hN:D.N.Nodup) (hi:D.N[i]?=some x:=by rfl) (hx:Loc D.sc x:=by first | exact Or.inl rfl | exact Or.inr rfl) (hik:i < k:=by decide) (hf:D.fn=true\/D.sc.names.lookup x=some .local:=by first | exact .inl rfl | exact .inr rfl):Dx D k (.Name x pos) (hName i) :=
 ⟨_,fun X h=>EJ (i:=i) (by rw [h.N];exact hN) (by rw [h.N];exact hi) (by rw [h.sc];exact hx) (by rcases hf with z | z;exact .inl (h.fn z x);exact .inr (by rw [h.sc];exact z)),pG i,Ex hik,OX⟩
theorem cW:GH D k [] kI:=⟨_,fun X h=>MJ,Kf,Pu,Q7⟩
theorem aT (h1:Dx D k e g) (h2:GH D k es gs) (hs:∀ env,(assignEach (e :: es) env).map (·.2)=assign e env :: (assignEach es env).map (·.2):=by intro _;rfl):GH D k (e :: es) (gN g gs) :=
 let ⟨_,p,s,x,y⟩:=h1;let ⟨_,q,r,z,w⟩:=h2;⟨_,fun X h=>Ll (p X h) (q X h) (hs _),G4 s r,NH x z w y,Po y w⟩
theorem dU {kk:Nat} {n:Nat} (h:GH D k es gs) (hn:∀ env,(assignEach es env).length=n:=by intro _;rfl) (hst:∀ env,(assignEach es env).findIdx? (·.1)=none:=by intro _;rfl):Dx D k (.Tuple es kk pos) (i9 n gs):=by
 obtain ⟨_,p,s,x,y⟩:=h
 refine ⟨_,fun X h=>?_,Ko s,Pb x,QR y⟩
 have:=Qu (pos:=pos) (k:=kk) h.calm (p X h) (hn _) (hst _)
 rw [h.K] at this
 exact this
theorem Qk {tg:Expr} (he:bA D e te) (hg:Dx D k tg g) (hs:∀ env,swapsWithSole [tg] e pos.line env=pure false:=by intro _;rfl) (hw:∀ env,swappedStores [tg] e env=pure none:=by intro _;rfl)
  (h1:∀ env,(assignEach [tg] env).map (·.2)=[assign tg env]:=by intro _;rfl):o4 D (.Assign [tg] e pos) (bR te g):=let ⟨_,p,s⟩:=he;let ⟨_,q,r,_⟩:=hg;⟨_,fun X h=>G9 (p X h) (q X h) (hs _) (hw _) (h1 _),zX s r⟩
theorem aY (i:Nat) {x:Str} {pos':Pos} (hN:D.N.Nodup) (he:bA D e te) (hi:D.N[i]?=some x:=by rfl) (hx:Loc D.sc x:=by first | exact Or.inl rfl | exact Or.inr rfl) (hs:∀ env,swapsWith e (some (.Name x pos')) pos.line env=pure false:=by intro _;rfl)
  (hf:D.fn=true\/D.sc.names.lookup x=some .local:=by first | exact .inl rfl | exact .inr rfl):o4 D (.Assign [.Name x pos'] e pos) (bR te (hName i)):=by
 obtain ⟨_,p,s⟩:=he
 exact ⟨_,fun X h=>PU (i:=i) (by rw [h.N];exact hN) (by rw [h.N];exact hi) (by rw [h.sc];exact hx) (p X h) (hs _) (by rcases hf with z | z;exact .inl (h.fn z x);exact .inr (by rw [h.sc];exact z)),zX s (pG i)⟩
variable {tg iter:Expr} {wi:UI}
theorem dD (h:bA D e te):uP D tg e (pB te):=by
 obtain ⟨_,p,s⟩:=h
 refine ⟨_,fun X h=>?_,Lg s⟩
 have:=Qm (tg:=tg) (p X h)
 rw [h.K] at this
 exact this
theorem Ml {p:Pos} {ta:UA} (hm:D.mg "range"=none) (ha:l4 D [a] ta) (hg:D.sc.names.lookup ("range":Str)=some .globalImplicit:=by rfl) (hs:∀ env,starEach [a] env=[(false,eval a env)]:=by intro _;rfl):uP D tg (.Call (.Name "range" p) [a] [] pos) (sU ta):=by
 obtain ⟨_,q,s⟩:=ha
 exact ⟨_,fun X h=>Hj (by show X.env.scope.names.lookup _=_;rw [h.sc];exact hg) (by rw [h.mg];exact hm) (q X h) (hs _),Lw s⟩
theorem eG (hi:uP D tg iter wi) (hg:Dx D k tg g) (hb:oT D body t) (hs:∀ env x,foldedSetIterable iter env x=pure x:=by intro _ _;rfl):o4 D (.For tg iter body [] pos) (Fn wi g t):=by
 obtain ⟨_,p,s⟩:=hi;obtain ⟨_,q,r,_⟩:=hg;obtain ⟨_,x,y⟩:=hb
 exact ⟨_,fun X h=>P6 (by rw [h.xe];exact PassesOwn.never) h.calm (p X h) (q X h) (x X h) (hs _),MI s r y⟩
end
end U2
namespace U2
open PySem PySem.Spec PyProof.Rows L2
structure Callee (P:Program) (w:World) (K:PySem.W.Frag) (mg:Str->Option Value) (base:Heap) (j:Nat) (x:Str) (sp:cV) (dus:List U):Prop where
 ex:∃ f fd ps dvs ds,i6 P w K mg base qM j f fd ps (gO K sp)/\mg x=some (.ref f)/\PySem.W.keepIn K (.ref f)=true/\Binds K fd ps ds/\Vals dvs ds/\∀ H M,aH K H M dus dvs
abbrev RE (D:Dat):=Callee D.prog D.w D.K D.mg D.base
section
variable {D:Dat} {a b c e o:Expr} {ta tb tc te:UE} {pos p:Pos} {es:List Expr} {tas:UA} {x:Str}
theorem aU {sp:cV} {dus:List U} {j:Nat} (F:RE D j x sp dus) (ha:l4 D (e :: es) tas) (hj:j<=D.k:=by first | exact Nat.le_refl _ | (dsimp only;omega) | omega | (dsimp only [bM];omega)) (hg:D.sc.names.lookup x=some .globalImplicit:=by rfl) (hdb:(x == ("__debug__":Str))=false:=by decide)
  (he:∀ env,starEach (e :: es) env=(false,eval e env) :: starEach es env:=by intro _;rfl) (hpl:∀ env,(backTo pos (starEach es env)).any (·.1)=false:=by intro _;rfl):bA D (.Call (.Name x p) (e :: es) [] pos) (sG sp dus tas):=by
 obtain ⟨f,fd,ps,dvs,ds,F,hm,kp,hb,hd,hr⟩:=F.ex
 obtain ⟨_,q,s⟩:=ha
 refine ⟨Fz (gO D.K sp) dvs E0 _,fun X h=>?_,Kn hr s⟩
 have F':i6 X.prog X.w X.K X.mg X.base qM j f fd ps (gO D.K sp):=by rw [h.prog,h.w,h.K,h.mg,h.base];exact F
 exact MX F' (h.room.mono hj) (by show X.env.scope.names.lookup x=_;rw [h.sc];exact hg) (by rw [h.mg];exact hm) (by rw [h.K];exact kp) (by rw [h.K];exact hb) hd L8 (q X h) hdb (he _) (hpl _)
structure vS (D:Dat) (f:Value) (r':List U->aD->UK->Prop):Prop where
 ex:∃ r,(∀ X,kH D X->lZ X f r)/\xX D.K r r'
theorem kM {id:String} {r':List U->aD->UK->Prop} (k:vS D (.builtin id) r') (hm:D.mg x=none) (ha:l4 D (e :: es) tas) (hv:bootBuiltins x=some (.builtin id):=by kernel_rfl) (hg:D.sc.names.lookup x=some .globalImplicit:=by rfl) (hn:x≠"__name__":=by decide) (hdb:(x == ("__debug__":Str))=false:=by decide)
  (he:∀ env,starEach (e :: es) env=(false,eval e env) :: starEach es env:=by intro _;rfl) (hpl:∀ env,(backTo pos (starEach es env)).any (·.1)=false:=by intro _;rfl):bA D (.Call (.Name x p) (e :: es) [] pos) (Bn r' tas):=by
 obtain ⟨r,h1,h2⟩:=k.ex
 obtain ⟨_,q,s⟩:=ha
 exact ⟨_,fun X h=>JO (h1 X h) (by show X.env.scope.names.lookup x=_;rw [h.sc];exact hg) (by rw [h.mg];exact hm) hv (q X h) hn hdb (he _) (hpl _),Ho h2 s⟩
theorem Dw {T:String} {r':List U->aD->UK->Prop} (k:vS D (.type T) r') (hm:D.mg x=none) (ha:l4 D (e :: es) tas) (hv:bootBuiltins x=some (.type T):=by kernel_rfl) (hg:D.sc.names.lookup x=some .globalImplicit:=by rfl) (hn:x≠"__name__":=by decide) (hdb:(x == ("__debug__":Str))=false:=by decide)
  (he:∀ env,starEach (e :: es) env=(false,eval e env) :: starEach es env:=by intro _;rfl) (hpl:∀ env,(backTo pos (starEach es env)).any (·.1)=false:=by intro _;rfl):bA D (.Call (.Name x p) (e :: es) [] pos) (Bn r' tas):=by
 obtain ⟨r,h1,h2⟩:=k.ex
 obtain ⟨_,q,s⟩:=ha
 exact ⟨_,fun X h=>Iz (h1 X h) (by show X.env.scope.names.lookup x=_;rw [h.sc];exact hg) (by rw [h.mg];exact hm) hv (q X h) hn hdb (he _) (hpl _),Ho h2 s⟩
theorem m4:vS D (.builtin "len") tR:=⟨⟨_,fun X h=>by have:=Ks (X:=X);rw [h.K] at this;exact this,Ni⟩⟩
theorem OY (own:Bool:=false):vS D (.type "list") (pN own):=⟨⟨_,fun X h=>by have:=CT (X:=X);rw [h.K] at this;exact this,Jr⟩⟩
theorem ED:vS D (.type "tuple") m8:=⟨⟨_,fun X h=>by have:=Bv (X:=X);rw [h.K] at this;exact this,IA⟩⟩
def O6:List (String × String × Bool):=[("NoneType","bool",false),("NoneType","int",false),("NoneType","str",false),("NoneType","tuple",false),("NoneType","list",false),("NoneType","dict",false),("bool","bool",true),("bool","int",true),("bool","str",false),("bool","tuple",false),("bool","list",false),("bool","dict",false),("int","bool",false),("int","int",true),("int","str",false),("int","tuple",false),("int","list",false),("int","dict",false),("str","bool",false),("str","int",false),("str","str",true),("str","tuple",false),("str","list",false),("str","dict",false),("tuple","bool",false),("tuple","int",false),("tuple","str",false),("tuple","tuple",true),("tuple","list",false),("tuple","dict",false),("list","bool",false),("list","int",false),("list","str",false),("list","tuple",false),("list","list",true),("list","dict",false),("dict","bool",false),("dict","int",false),("dict","str",false),("dict","tuple",false),("dict","list",false),("dict","dict",true)]
def bE (t T:String):Option Bool:=(O6.find? fun r=>r.1 == t && r.2.1 == T).map (·.2.2)
def yJ:List U->aD->UK->Prop:=fun us M Q=>match us with
 | [x,.ty T]=>match Ay M x with
  | some t=>match bE t T with
   | some b=>Q (.bl b) M
   | none=>False
  | none=>False
 | _=>False
def wD:List U->Option (List Bool)
 | []=>some []
 | .bl b :: r=>(wD r).map (b :: ·)
 | _=>none
def wC:List U->aD->UK->Prop:=fun us M Q=>match us with
 | [x]=>match view M x with
  | .lst ws=>match wD ws with
   | some bs=>Q (.bl (bs.all fun b=>b)) M
   | none=>False
  | _=>False
 | _=>False
theorem Dj {K:PySem.W.Frag} {H:Hp} {M:aD}:∀ {us:List U} {vs:List V} {bs:List Bool},aH K H M us vs->wD us=some bs->vs=bs.map V.bl
 | [],_,_,r,h=>by cases h;exact r.inv_nil
 | u :: us,_,bs,r,h=>by
  obtain ⟨v,vs',rfl,a,b⟩:=r.inv_cons
  cases u with
  | bl y =>
   simp only [wD] at h
   cases e:wD us with
   | none=>rw [e] at h;cases h
   | some cs =>
    rw [e] at h
    cases h
    rw [Dj b e,a.bl];rfl
  | _=>cases h
theorem Qx:vS D (.builtin "all") wC:=⟨⟨_,fun X h=>by have:=Iu (X:=X) h.calm;rw [h.K] at this;exact this,fun xs us H M Q' rm rus h Q c=>by
 unfold wC at h
 split at h
 ·rename_i x
  obtain ⟨v,rfl,a1⟩:=rus.one
  split at h
  ·rename_i ws e
   split at h
   ·rename_i bs e2
    obtain ⟨b,zvs,rfl,s2,r2⟩:=dG rm a1 e
    rw [Dj r2 e2] at s2
    exact ⟨b,bs,rfl,s2,c.here rm eW h⟩
   ·exact h.elim
  ·exact h.elim
 ·exact h.elim⟩⟩
theorem lG {apos:Pos} (ho:bA D o ta) (ha:l4 D [e] tas) (hbase:∀ env,attributeBase o "append" env (eval o env)=eval o env:=by intro _;rfl)
  (hfew:∀ env,((backTo pos (starEach [e] env)).all (fun x=>!x.1) && (backToKw pos (keywordEach [] env)).all (fun x=>x.1.isSome) && decide ([e].length + ([]:List Keyword).length + (if ([]:List Keyword).isEmpty then 0 else 1) < 30))=true:=by intro _;rfl)
  (hline:(apos.endLine == pos.line)=true:=by rfl) (hs:∀ env,starEach [e] env=[(false,eval e env)]:=by intro _;rfl):bA D (.Call (.Attribute o "append" apos) [e] [] pos) (xP lI ta tas):=by
 obtain ⟨_,p,s⟩:=ho;obtain ⟨_,q,r⟩:=ha
 refine ⟨_,fun X h=>?_,Dh FJ s r⟩
 have:=FG (cpos:=pos) (apos:=apos) PySem.F.plainAttrs_list PySem.F.slot_list_append PySem.F.type_list_append uJ (p X h) (q X h) (hbase _) (hfew _) hline (hs _) (by rfl)
 rw [h.K] at this
 exact this
theorem Hx {apos:Pos} (ho:bA D o ta) (hbase:∀ env,attributeBase o "pop" env (eval o env)=eval o env:=by intro _;rfl)
  (hline:(apos.endLine == pos.line)=true:=by rfl):bA D (.Call (.Attribute o "pop" apos) [] [] pos) (w9 uG ta):=by
 obtain ⟨_,p,s⟩:=ho
 refine ⟨_,fun X h=>?_,NB Nq s⟩
 have:=PV (cpos:=pos) (apos:=apos) PySem.F.plainAttrs_list PySem.F.slot_list_pop PySem.F.type_list_pop Ob (p X h) (hbase _) hline
 rw [h.K] at this
 exact this
def bX (scope sc:Scope):Scope :=
 { scope with names:=scope.names.map fun (n,k)=>if (k == .free && sc.kind == .function && sc.names.lookup n == some .cell) then (n,.cell) else (n,k) }
def bM (D:Dat) (N:List Str) (scope:Scope):Dat:={ D with N:=N,sc:=bX scope D.sc,fn:=false,cod:=.none }
theorem kH.comp {X:Cx} (h:kH D X) (N:List Str) (scope:Scope) (cl:List (Str × Addr)) (C:Addr) (s:Shared) (H:Hp) (fp:List Addr):kH (bM D N scope) (dR X N scope cl C s H fp) :=
 ⟨h.prog,h.w,h.K,h.mg,h.base,rfl,by show bX scope X.env.scope=bX scope D.sc;rw [h.sc],h.room,h.calm,rfl,(fun z=>by cases z),(fun z=>absurd rfl z)⟩
theorem g9:GC D [] (fun _ M Q=>Q true M):=⟨Kt,fun X h=>E1,fun σ τ H M Q' rs rm q Q c=>c true M H (aP.refl _ _) rm q⟩
theorem Ax {t:UT} (h:pS D c t):GC D [c] t:=let ⟨_,p,s⟩:=h;⟨_,fun X h=>Nm (p X h),s⟩
theorem kB (own:Bool) (N:List Str) (k:Nat) (ix:List Nat) {scope:Scope} {tg iter elt:Expr} {ifs:List Expr} {wi:UI} {g:UG} {tcs:UT} (hi:uP D tg iter wi) (hg:Dx (bM D N scope) k tg g) (hif:GC (bM D N scope) ifs tcs) (he:bA (bM D N scope) elt te)
  (hk:scope.kind=.function:=by rfl) (hcell:∀ y∈scope.names,y.2≠.cell:=by first | decide +kernel | (dsimp only;decide +kernel) | (dsimp only [bM,bX];decide +kernel)) (hnames:∀ y∈scope.names,y.2=.local->scope.names.lookup y.1=some .local:=by first | decide +kernel | (dsimp only;decide +kernel) | (dsimp only [bM,bX];decide +kernel))
  (hfree:∀ y∈scope.names,y.2=.free->D.sc.names.lookup y.1=some .cell\/D.sc.names.lookup y.1=some .free:=by first | decide +kernel | (dsimp only;decide +kernel) | (dsimp only [bM,bX];decide +kernel)) (hone:∀ y∈scope.names,y.2=.free->scope.names.lookup y.1=some .free:=by first | decide +kernel | (dsimp only;decide +kernel) | (dsimp only [bM,bX];decide +kernel))
  (hN:ix.map (fun i=>D.N[i]?)=(N.drop k).map some:=by rfl) (hcap:∀ x∈N.drop k,scope.names.lookup x=some .free:=by first | decide +kernel | (dsimp only;decide +kernel) | (dsimp only [bM,bX];decide +kernel)) (hlen:N.length=k + ix.length:=by rfl)
  (hs:∀ env x,foldedSetIterable iter env x=pure x:=by intro _ _;rfl):bA D (.ListComp elt [⟨tg,iter,ifs,0⟩] scope pos) (pQ own k ix wi g tcs te):=by
 obtain ⟨_,p1,s1⟩:=hi;obtain ⟨_,p2,s2,gk,_⟩:=hg;obtain ⟨_,p3,s3⟩:=hif;obtain ⟨_,p4,s4⟩:=he
 have hN':∀ (j:Nat) x,N[k + j]?=some x->∃ i,ix[j]?=some i/\D.N[i]?=some x:=fun j x e=>by
  have e1:((N.drop k).map some)[j]?=some (some x):=by rw [List.getElem?_map,List.getElem?_drop,e];rfl
  rw [<- hN,List.getElem?_map] at e1
  cases q:ix[j]? with
  | none=>rw [q] at e1;cases e1
  | some i=>rw [q] at e1;exact ⟨i,rfl,Option.some.inj e1⟩
 have hcap':∀ (j:Nat) x,N[k + j]?=some x->scope.names.lookup x=some .free:=fun j x e=>hcap x (List.mem_of_getElem? (i:=j) (by rw [List.getElem?_drop];exact e))
 refine ⟨_,fun X h=>Mv (N:=N) (k:=k) (ix:=ix) h.calm (p1 X h) gk hk hcell hnames (fun y hy e=>by show X.env.scope.names.lookup y.1=_\/X.env.scope.names.lookup y.1=_;rw [h.sc];exact hfree y hy e) hone (fun j x e=>by rw [h.N];exact hN' j x e) hcap' hlen
  (fun cl C s H fp=>p2 _ (h.comp N scope cl C s H fp)) (fun cl C s H fp=>p3 _ (h.comp N scope cl C s H fp)) (fun cl C s H fp=>p4 _ (h.comp N scope cl C s H fp)) (hs _),wO s1 s2 s3 s4⟩
theorem JI {elt:Expr} {gens:List Comprehension} {scope:Scope} {pos py:Pos} {y:Str} {line:Nat} {env:Env} (h1:env.scope.kind=.function) (h2:env.scope.names.lookup y=some .local) (h3:(py.line == pos.line && !(scope.names.any fun (n,k)=>n == y && (k == .local || k == .cell)))=true) :
  swapsWith (.ListComp elt gens scope pos) (some (.Name y py)) line env=pure true:=by
 have e1:(env.blockKind == .function)=true:=by first | (unfold Env.blockKind;rw [h1];rfl) | (unfold Env.blockKind;simp [h1])
 have e2:(env.kindOf y == some .local)=true:=by unfold Env.kindOf;rw [h2];rfl
 show pure (env.blockKind == .function && env.kindOf y == some .local && py.line == pos.line && !(scope.names.any fun (n,k)=>n == y && (k == .local || k == .cell)))=pure true
 rw [e1,e2]
 simp only [Bool.and_eq_true] at h3
 rw [h3.1,h3.2]
 rfl
theorem qT (i:Nat) {y:Str} {spos py:Pos} (hNd:D.N.Nodup) (own:Bool) (N:List Str) (k:Nat) (ix:List Nat) {scope:Scope} {tg iter elt:Expr} {ifs:List Expr} {wi:UI} {g:UG} {tcs:UT} (hi:uP D tg iter wi) (hg:Dx (bM D N scope) k tg g) (hif:GC (bM D N scope) ifs tcs) (he:bA (bM D N scope) elt te)
  (hk:scope.kind=.function:=by rfl) (hcell:∀ y∈scope.names,y.2≠.cell:=by first | decide +kernel | (dsimp only;decide +kernel) | (dsimp only [bM,bX];decide +kernel)) (hnames:∀ y∈scope.names,y.2=.local->scope.names.lookup y.1=some .local:=by first | decide +kernel | (dsimp only;decide +kernel) | (dsimp only [bM,bX];decide +kernel))
  (hfree:∀ y∈scope.names,y.2=.free->D.sc.names.lookup y.1=some .cell\/D.sc.names.lookup y.1=some .free:=by first | decide +kernel | (dsimp only;decide +kernel) | (dsimp only [bM,bX];decide +kernel)) (hone:∀ y∈scope.names,y.2=.free->scope.names.lookup y.1=some .free:=by first | decide +kernel | (dsimp only;decide +kernel) | (dsimp only [bM,bX];decide +kernel))
  (hN:ix.map (fun i=>D.N[i]?)=(N.drop k).map some:=by rfl) (hcap:∀ x∈N.drop k,scope.names.lookup x=some .free:=by first | decide +kernel | (dsimp only;decide +kernel) | (dsimp only [bM,bX];decide +kernel)) (hlen:N.length=k + ix.length:=by rfl)
  (hs:∀ env x,foldedSetIterable iter env x=pure x:=by intro _ _;rfl) (hl1:D.sc.kind=.function:=by rfl) (hl2:D.sc.names.lookup y=some .local:=by rfl) (hl3:(py.line == pos.line && !(scope.names.any fun (n,k)=>n == y && (k == .local || k == .cell)))=true:=by decide +kernel)
  (hiy:D.N[i]?=some y:=by rfl) (hy:Loc D.sc y:=by first | exact Or.inl rfl | exact Or.inr rfl) (hf:D.fn=true\/D.sc.names.lookup y=some .local:=by first | exact .inl rfl | exact .inr rfl):o4 D (.Assign [.Name y py] (.ListComp elt [⟨tg,iter,ifs,0⟩] scope pos) spos) (bR (pQ own k ix wi g tcs te) (hName i)):=by
 obtain ⟨_,p1,s1⟩:=hi;obtain ⟨_,p2,s2,gk,_⟩:=hg;obtain ⟨_,p3,s3⟩:=hif;obtain ⟨_,p4,s4⟩:=he
 have hN':∀ (j:Nat) x,N[k + j]?=some x->∃ i,ix[j]?=some i/\D.N[i]?=some x:=fun j x e=>by
  have e1:((N.drop k).map some)[j]?=some (some x):=by rw [List.getElem?_map,List.getElem?_drop,e];rfl
  rw [<- hN,List.getElem?_map] at e1
  cases q:ix[j]? with
  | none=>rw [q] at e1;cases e1
  | some i=>rw [q] at e1;exact ⟨i,rfl,Option.some.inj e1⟩
 have hcap':∀ (j:Nat) x,N[k + j]?=some x->scope.names.lookup x=some .free:=fun j x e=>hcap x (List.mem_of_getElem? (i:=j) (by rw [List.getElem?_drop];exact e))
 refine ⟨_,fun X h=>MY (i:=i) (N:=N) (k:=k) (ix:=ix) h.calm (p1 X h) gk hk hcell hnames (fun y hy e=>by show X.env.scope.names.lookup y.1=_\/X.env.scope.names.lookup y.1=_;rw [h.sc];exact hfree y hy e) hone (fun j x e=>by rw [h.N];exact hN' j x e) hcap' hlen
  (fun cl C s H fp=>p2 _ (h.comp N scope cl C s H fp)) (fun cl C s H fp=>p3 _ (h.comp N scope cl C s H fp)) (fun cl C s H fp=>p4 _ (h.comp N scope cl C s H fp)) (hs _) (JI (by rw [h.sc];exact hl1) (by rw [h.sc];exact hl2) hl3) (by rw [h.N];exact hNd) (by rw [h.N];exact hiy) (by rw [h.sc];exact hy) (by rcases hf with z | z;exact .inl (h.fn z y);exact .inr (by rw [h.sc];exact z)),zX (wO s1 s2 s3 s4) (pG i)⟩
end
section
variable {P:Program} {w:World} {K:PySem.W.Frag} {mg:Str->Option Value} {base:Heap}
theorem Bc {H:Hp} {M:aD} {N:List Str} {us:List U} {vs:List V} (r:aH K H M us vs):d8 K H M (L2.start N vs) (hG N us):=by
 have hl:=r.length
 refine ⟨by simp [L2.start,hG,hl],fun i u e=>?_⟩
 unfold hG at e
 unfold L2.start
 by_cases hi:i < us.length
 ·rw [List.getElem?_append_left (by simpa using hi),List.getElem?_map] at e
  cases q:us[i]? with
  | none=>rw [q] at e;cases e
  | some u' =>
   rw [q] at e
   cases e
   obtain ⟨v,h1,h2⟩:=r.get q
   exact ⟨v,by rw [List.getElem?_append_left (by rw [List.length_map];omega),List.getElem?_map,h1];rfl,h2⟩
 ·rw [List.getElem?_append_right (by simpa using hi),List.getElem?_replicate] at e
  split at e <;> cases e
theorem EU {x:Str} {st:Stmt} {f:Addr} {fd:FuncData} {N ps:List Str} {k:Nat} {sp:cV} {t:US} (F:dE K x x st f fd) (S:bD N ps (aR st))
  (len:∀ us M Q,sp us M Q->us.length=ps.length)
  (h:oT ⟨P,w,K,mg,base,N,aR st,k,true,.none,""⟩ (fN st) t)
  (q:∀ us M Q,sp us M Q->t { nx:=fun _ M'=>qS Q .non M',rt:=qS Q } (hG N us) M):i6 P w K mg base qM (k + 1) f fd ps (gO K sp):=by
 obtain ⟨t0,h1,h2⟩:=h
 refine F.ok S (fun vs H Q E ⟨us,M,Q',_,r,hs,_⟩=>by rw [<- r.length];exact len us M Q' hs) (fun cdv A outer s H vs Q E hr ⟨us,M,Q',rm,r,hs,c⟩=>?_)
 refine ⟨t0,h1 _ ⟨rfl,rfl,rfl,rfl,rfl,rfl,rfl,hr,rfl,rfl,fun _ _=>rfl,fun h=>absurd rfl h⟩,?_⟩
 refine h2 _ (hG N us) H M _ (Bc r) rm (q us M Q' hs) _ ⟨fun σ τ H1 M1 s1 rm1 rs1 q1=>?_,fun u v H1 M1 s1 rm1 ru q1=>qS.ok c s1 rm1 ru q1,fun _ _ _ _ _ _ _ z=>z.elim,fun _ _ _ _ _ _ _ z=>z.elim⟩
 exact qS.ok c s1 rm1 mM q1
theorem HV {x:Str} {st:Stmt} {f:Addr} {fd:FuncData} {N ps:List Str} {k:Nat} {sp:cV} {t:US} (F:dE K x x st f fd) (hm:mg x=some (.ref f)) (S:bD N ps (aR st))
  (bind:∀ (kV doc pm:Value) (an:Option Addr) (cdv ct:Value) (us:List Value),us.length=ps.length->bindArgs (PySem.W.fnOf x x (j9 st) (fN st) (aR st) .none kV doc pm an cdv ct) ⟨us,[]⟩=pure (ps.zip us))
  (len:∀ us M Q,sp us M Q->us.length=ps.length)
  (h:oT ⟨P,w,K,mg,base,N,aR st,k,true,.none,""⟩ (fN st) t)
  (q:∀ us M Q,sp us M Q->t { nx:=fun _ M'=>qS Q .non M',rt:=qS Q } (hG N us) M):Callee P w K mg base (k + 1) x sp []:=by
 obtain ⟨t0,h1,h2⟩:=h
 refine ⟨f,fd,ps,[],[],F.ok S (fun vs H Q E ⟨us,M,Q',_,r,hs,_⟩=>by rw [<- r.length];exact len us M Q' hs) (fun cdv A outer s H vs Q E hr ⟨us,M,Q',rm,r,hs,c⟩=>?_),hm,F.kp,F.binds bind,.nil,fun H M=>.nil⟩
 refine ⟨t0,h1 _ ⟨rfl,rfl,rfl,rfl,rfl,rfl,rfl,hr,rfl,rfl,fun _ _=>rfl,fun h=>absurd rfl h⟩,?_⟩
 refine h2 _ (hG N us) H M _ (Bc r) rm (q us M Q' hs) _ ⟨fun σ τ H1 M1 s1 rm1 rs1 q1=>?_,fun u v H1 M1 s1 rm1 ru q1=>qS.ok c s1 rm1 ru q1,fun _ _ _ _ _ _ _ z=>z.elim,fun _ _ _ _ _ _ _ z=>z.elim⟩
 exact qS.ok c s1 rm1 mM q1
end
end U2
namespace U2
open PySem L2
theorem fH:bE "NoneType" "bool"=some false:=by decide +kernel
theorem fR:bE "NoneType" "int"=some false:=by decide +kernel
theorem fQ:bE "NoneType" "str"=some false:=by decide +kernel
theorem eO:bE "NoneType" "tuple"=some false:=by decide +kernel
theorem fE:bE "NoneType" "list"=some false:=by decide +kernel
theorem fF:bE "NoneType" "dict"=some false:=by decide +kernel
theorem iH:bE "bool" "bool"=some true:=by decide +kernel
theorem jP:bE "bool" "int"=some true:=by decide +kernel
theorem jL:bE "bool" "str"=some false:=by decide +kernel
theorem hJ:bE "bool" "tuple"=some false:=by decide +kernel
theorem iQ:bE "bool" "list"=some false:=by decide +kernel
theorem iS:bE "bool" "dict"=some false:=by decide +kernel
theorem jX:bE "int" "bool"=some false:=by decide +kernel
theorem kW:bE "int" "int"=some true:=by decide +kernel
theorem kT:bE "int" "str"=some false:=by decide +kernel
theorem iR:bE "int" "tuple"=some false:=by decide +kernel
theorem jI:bE "int" "list"=some false:=by decide +kernel
theorem jM:bE "int" "dict"=some false:=by decide +kernel
theorem j0:bE "str" "bool"=some false:=by decide +kernel
theorem kX:bE "str" "int"=some false:=by decide +kernel
theorem kZ:bE "str" "str"=some true:=by decide +kernel
theorem iO:bE "str" "tuple"=some false:=by decide +kernel
theorem jU:bE "str" "list"=some false:=by decide +kernel
theorem j1:bE "str" "dict"=some false:=by decide +kernel
theorem gX:bE "tuple" "bool"=some false:=by decide +kernel
theorem iM:bE "tuple" "int"=some false:=by decide +kernel
theorem iP:bE "tuple" "str"=some false:=by decide +kernel
theorem gF:bE "tuple" "tuple"=some true:=by decide +kernel
theorem gZ:bE "tuple" "list"=some false:=by decide +kernel
theorem gW:bE "tuple" "dict"=some false:=by decide +kernel
theorem iI:bE "list" "bool"=some false:=by decide +kernel
theorem j3:bE "list" "int"=some false:=by decide +kernel
theorem jJ:bE "list" "str"=some false:=by decide +kernel
theorem hX:bE "list" "tuple"=some false:=by decide +kernel
theorem iW:bE "list" "list"=some true:=by decide +kernel
theorem iJ:bE "list" "dict"=some false:=by decide +kernel
theorem iU:bE "dict" "bool"=some false:=by decide +kernel
theorem jR:bE "dict" "int"=some false:=by decide +kernel
theorem jS:bE "dict" "str"=some false:=by decide +kernel
theorem hW:bE "dict" "tuple"=some false:=by decide +kernel
theorem iG:bE "dict" "list"=some false:=by decide +kernel
theorem iT:bE "dict" "dict"=some true:=by decide +kernel
theorem aZ {Q:UK} {u:U} {M:aD} (q:Q u M):qS Q u M:=⟨u,M,Sub.refl M,.inl rfl,q⟩
theorem Gn {o:Bool} {k:Nat} {ix:List Nat} {wi:UI} {g:UG} {tc:UT} {te:UE} {τ:SU} {M M1:aD} {Q:UK} {S:Src} (f:U->Option U) (hw:∀ R:Src->aD->Prop,R S M1->wi τ M R) (hz:S.xs.length<=sizeLine) (hs:S.ok M1)
  (h:∀ x∈S.xs,∀ M,Sub M1 M->∀ R:Option U->aD->Prop,R (f x) M->g x (cU k ix τ) M fun τ2 M2=>tc τ2 M2 fun ok M3=>if ok=true then te τ2 M3 fun y M4=>R (some y) M4 else R none M3)
  (q:iL o (S.xs.filterMap f) M1 Q):pQ o k ix wi g tc te τ M Q:=hw _ (Hu (wi:=wi) f hz hs h q)
theorem eT {wi:UI} {g:UG} {tb:US} {D:pE} {τ:SU} {M M1:aD} {S:Src} (hw:∀ R:Src->aD->Prop,R S M1->wi τ M R) (P:Nat->SU->aD->Prop) (h0:P 0 τ M1) (hok:∀ i τ M,P i τ M->S.ok M)
  (turn:∀ i x τ M,S.xs[i]?=some x->P i τ M->g x τ M fun τ2 M2=>tb { D with nx:=P (i + 1),ct:=P (i + 1),bk:=D.nx } τ2 M2) (fin:∀ τ M,P S.xs.length τ M->D.nx τ M):Fn wi g tb D τ M:=hw _ ⟨P,h0,hok,turn,fin⟩
theorem wF {c:UT} {tb:US} {D:pE} {τ:SU} {M:aD} (P:SU->aD->Prop) (μ:SU->aD->Nat) (h0:P τ M)
  (turn:∀ τ M,P τ M->c τ M fun b M1=>if b=true then tb { D with nx:=fun τ' M'=>P τ' M'/\μ τ' M' < μ τ M,ct:=fun τ' M'=>P τ' M'/\μ τ' M' < μ τ M,bk:=D.nx } τ M1 else D.nx τ M1):CV c tb D τ M:=⟨P,μ,h0,turn⟩
theorem Fx {lo:Int} {n i:Nat} {x:U} (h:(iV lo n)[i]?=some x):x=.int (lo + i)/\i < n:=by
 have hi:i < n:=by
  have:=(List.getElem?_eq_some_iff.mp h).1
  simpa [iV] using this
 simp only [iV,List.getElem?_map,List.getElem?_range hi,Option.map_some] at h
 exact ⟨(Option.some.inj h).symm,hi⟩
theorem F1 (lo:Int) (n:Nat):(iV lo n).length=n:=by simp [iV]
end U2
namespace U2
open PySem PySem.Spec PyProof.Rows L2
inductive Fl where
 | int (i:Int) | str (x:Str)
def Fl.d:Fl->PyData
 | .int i=>.int i
 | .str x=>.str x
def Fl.u:Fl->U
 | .int i=>.int i
 | .str x=>.str x
def Kj (T:List (Str × Fl)):List (PyData × PyData):=T.map fun p=>(PyData.str p.1,p.2.d)
def dS:List (Str × Fl)->Str->Option Fl
 | [],_=>none
 | (a,b) :: r,z=>if a=z then some b else dS r z
structure zE (P:Program) (w:World) (K:PySem.W.Frag) (d:Addr) (T:List (Str × Fl)):Prop where
 at_:∀ h:Heap,K.In h->StrTab P w h d (Kj T)
theorem Q2 (a b:Str):same (.str a) (.str b)=decide (a=b):=by
 by_cases h:a=b <;> simp [same,h]
theorem lookup_tab:∀ (T:List (Str × Fl)) (z:Str),PySem.Spec.lookup (.str z) (Kj T)=(dS T z).map Fl.d
 | [],_=>rfl
 | (a,b) :: r,z=>by
  have ih:=lookup_tab r z
  show (if same (.str a) (.str z)=true then some b.d else PySem.Spec.lookup (.str z) (Kj r))=((if a=z then some b else dS r z).map Fl.d)
  rw [Q2]
  by_cases e:a=z
  ·rw [if_pos (decide_eq_true e),if_pos e];rfl
  ·rw [if_neg (by simpa using e),if_neg e,ih]
def Af (T:List (Str × Fl)):List (Str × PyData):=T.map fun p=>(p.1,p.2.d)
theorem tab_of {P:Program} {w:World} {K:PySem.W.Frag} {d:Addr} {T:List (Str × Fl)} (n:((Af T).map (·.1)).Nodup) (e:KTD.tabLook KTD.flatLooks (fun b=>K.lookup b) d (Af T)=true) (q:KTD.hashesOf (fun b=>K.lookup b) d=(Af T).map fun p=>(PySem.strKind P w).hash p.1):zE P w K d T:=⟨fun h hK=>by
 have:=PySem.W.kt_tab_in P w hK e n q
 unfold Af at this
 rw [List.map_map] at this
 exact this⟩
section
variable {X:Cx} {d:Addr} {T:List (Str × Fl)}
theorem KP (t:zE X.prog X.w X.K d T):dI X (compareOp .In) (fun x y H Q=>∃ z,x=.str z/\y=.ref d/\Q (.bl (dS T z).isSome) H):=by
 intro pins s σ H x y v u Q I rx ry h
 obtain ⟨z,rfl,rfl,q⟩:=h
 obtain ⟨tk,rfl⟩:=rx
 cases ry
 refine in_strTab (t.at_ _ I.kIn) ?_
 rw [lookup_tab,Option.isSome_map]
 exact ⟨.bl _,H,I.tok _,rfl,q⟩
end
section
variable {D:Dat} {d:Addr} {T:List (Str × Fl)}
abbrev Tab (D:Dat):=zE D.prog D.w D.K
def u5 (d:Addr) (T:List (Str × Fl)) (neg:Bool):dQ:=fun x y M Q=>match x with
 | .str z=>y=.ref d/\Q (.bl (if neg then !(dS T z).isSome else (dS T z).isSome)) M
 | _=>False
theorem MV (t:Tab D d T):m9 D .In (u5 d T false):=⟨⟨_,fun X h=>KP (by rw [h.prog,h.w,h.K];exact t),fun x y u w H M Q' rm ru rw h Q c=>by
 cases u with
 | str z=>obtain ⟨rfl,h⟩:=h;exact ⟨z,ru.str,rw.ref,c.here rm eW h⟩
 | _=>exact h.elim⟩⟩
def xY (d:Addr) (T:List (Str × Fl)):dQ:=fun x y M Q=>match y with
 | .str z=>x=.ref d/\match dS T z with
  | some f=>Q f.u M
  | none=>False
 | _=>False
def GX (i:Nat) (f:Addr) (sp:Sp) (t:TA):TE:=fun σ H Q=>Kz i σ H fun v H1=>v=.ref f/\t σ H1 fun vs H2=>sp vs H2 Q E0
theorem Ky {X:Cx} {x:Str} {p pos:Pos} {e:Expr} {es:List Expr} {i k:Nat} {f:Addr} {fd:FuncData} {ps:List Str} {sp:Sp} {t:TA} (hN:X.N[i]?=some x) (hv:HS X.env.scope x) (F:i6 X.prog X.w X.K X.mg X.base qM k f fd ps sp) (hr:eN k X.A) (hk:PySem.W.keepIn X.K (.ref f)=true) (hb:Binds X.K fd ps [])
  (ha:PA X (e :: es) t) (hd:(x == ("__debug__":Str))=false) (hcd:(x == ("__classdict__":Str))=false) (he:starEach (e :: es) X.env=(false,eval e X.env) :: starEach es X.env) (hpl:(backTo pos (starEach es X.env)).any (·.1)=false) :
  PE X (.Call (.Name x p) (e :: es) [] pos) (GX i f sp t):=by
 intro pins s σ H Q I h
 refine wpAny_Call_Name_kw (bC (IV (i:=i) hN hv hd hcd pins s σ H _ I h) fun v s1 ⟨x',H1,I1,r1,e1,q1⟩=>?_)
 subst e1
 cases r1
 refine PySem.W.callWith_K (h₀:=X.base) I1.ok.mod.kin hk (bC (ha pos pins s1 σ H1 _ I1 q1) fun us s2 ⟨vs,H2,I2,r,q⟩=>⟨I2.kIn,?_⟩) he hpl
 exact Hr (dvs:=[]) F hr hb .nil L8 I2 r (by rw [List.append_nil];exact q)
structure sN (P:Program) (w:World) (K:PySem.W.Frag) (mg:Str->Option Value) (base:Heap) (j:Nat) (f:Addr) (sp:cV):Prop where
 ex:∃ fd ps,i6 P w K mg base qM j f fd ps (gO K sp)/\PySem.W.keepIn K (.ref f)=true/\Binds K fd ps []
def qX (i:Nat) (f:Addr) (sp:cV) (t:UA):UE:=fun τ M Q=>pW i τ M fun v M1=>v=.ref f/\t τ M1 fun us M2=>sp us M2 Q
theorem Jo (i:Nat) {x:Str} {p pos:Pos} {e:Expr} {es:List Expr} {j:Nat} {f:Addr} {sp:cV} {tas:UA} (F:sN D.prog D.w D.K D.mg D.base j f sp) (ha:l4 D (e :: es) tas) (hN:D.N[i]?=some x:=by rfl) (hv:HS D.sc x:=by first | exact Or.inl rfl | exact Or.inr (Or.inl rfl) | exact Or.inr (Or.inr rfl))
  (hj:j<=D.k:=by first | exact Nat.le_refl _ | (dsimp only;omega) | omega | (dsimp only [bM];omega)) (hd:(x == ("__debug__":Str))=false:=by decide) (hcd:(x == ("__classdict__":Str))=false:=by decide)
  (he:∀ env,starEach (e :: es) env=(false,eval e env) :: starEach es env:=by intro _;rfl) (hpl:∀ env,(backTo pos (starEach es env)).any (·.1)=false:=by intro _;rfl):bA D (.Call (.Name x p) (e :: es) [] pos) (qX i f sp tas):=by
 obtain ⟨fd,ps,F,kp,hb⟩:=F.ex
 obtain ⟨t,q,s⟩:=ha
 refine ⟨GX i f (gO D.K sp) t,fun X h=>?_,fun σ τ H M Q' rs rm h Q c=>?_⟩
 ·have F':i6 X.prog X.w X.K X.mg X.base qM j f fd ps (gO D.K sp):=by rw [h.prog,h.w,h.K,h.mg,h.base];exact F
  exact Ky (by rw [h.N];exact hN) (by rw [h.sc];exact hv) F' (h.room.mono hj) (by rw [h.K];exact kp) (by rw [h.K];exact hb) (q X h) hd hcd (he _) (hpl _)
 ·refine Ec i σ τ H M _ rs rm h _ fun u v M1 H1 s1 rm1 ru h1=>?_
  obtain ⟨rfl,h1⟩:=h1
  refine ⟨ru.ref,s σ τ H1 M1 _ (rs.stp s1) rm1 h1 _ fun us vs M2 H2 s2 rm2 rus h2=>?_⟩
  exact ⟨us,M2,Q',rm2,rus,h2,dJ.stp c (s1.trans s2)⟩
end
end U2
namespace U2
open PySem PySem.Spec PyProof.Rows L2
def half (j:Int):Nat:=((j + 1) / 2).toNat
theorem RA {j:Int} (h:0<=j):Builtin.Range.rangeSize 0 j 2=(half j:Nat):=by
 unfold Builtin.Range.rangeSize half
 simp only [show (2:Int) > 0 by decide,if_true]
 split <;> omega
def E9 (n:Nat):List U:=(List.range n).map fun (k:Nat)=>U.int ((k:Int) * 2)
theorem Qw (n:Nat):(E9 n).length=n:=by simp [E9]
end U2
namespace U2
open PySem PySem.Spec PyProof.Rows L2
def BH:List U->Option (List Str)
 | []=>some []
 | .str b :: r=>(BH r).map (b :: ·)
 | _=>none
theorem HJ {K:PySem.W.Frag} {H:Hp} {M:aD}:∀ {us:List U} {vs:List V} {bs:List Str},aH K H M us vs->BH us=some bs->vs=bs.map V.str
 | [],_,_,r,h=>by cases h;exact r.inv_nil
 | u :: us,_,bs,r,h=>by
  obtain ⟨v,vs',rfl,a,b⟩:=r.inv_cons
  cases u with
  | str y =>
   simp only [BH] at h
   cases e:BH us with
   | none=>rw [e] at h;cases h
   | some cs =>
    rw [e] at h
    cases h
    rw [HJ b e,a.str];rfl
  | _=>cases h
end U2
namespace U2
open PySem L2
theorem Hz {α:Type} {a:α} {r:List α}:eR (a :: r) 0=some a:=eX (j:=0) rfl
theorem G2 {α:Type} {a b:α} {r:List α}:eR (a :: b :: r) 1=some b:=eX (j:=1) rfl
theorem at2 {α:Type} {a b c:α} {r:List α}:eR (a :: b :: c :: r) 2=some c:=eX (j:=2) rfl
theorem Ik {α:Type} {a b c d:α} {r:List α}:eR (a :: b :: c :: d :: r) 3=some d:=eX (j:=3) rfl
theorem OD {α:Type} (l:List α) (i:Int) (h0:0<=i) (h1:i < l.length):∃ c,eR l i=some c:=by
 have hl:i.toNat < l.length:=by omega
 refine ⟨l[i.toNat],?_⟩
 have e:((i.toNat:Nat):Int)=i:=by omega
 have q:=eX (xs:=l) (j:=i.toNat) (v:=l[i.toNat]) (by simp [hl])
 rw [e] at q
 exact q
theorem Hs {α:Type} (l:List α) (a:α):eR (l++[a]) (-1)=some a:=JH l a
theorem Qe {α:Type} (l:List α) (a:α):(l++[a]).getLast?=some a:=by simp
theorem Qo {α:Type} (l:List α) (a:α):(l++[a]).dropLast=l:=List.dropLast_concat
theorem RC {α:Type} (a:α) (r:List α):fP (a :: r) (some 1) none=r:=by
 unfold fP
 simp [HT.bL]
 try omega
theorem tP {M:aD}:view M .non=.non:=rfl
theorem m5 {M:aD} {x:Bool}:view M (.bl x)=.bl x:=rfl
theorem uL {M:aD} {x:Int}:view M (.int x)=.int x:=rfl
theorem tV {M:aD} {x:Str}:view M (.str x)=.str x:=rfl
theorem t8 {M:aD} {x:List U}:view M (.tup x)=.tup x:=rfl
theorem qU {M:aD} {x:List U}:view M (.lst x)=.lst x:=rfl
theorem qP {M:aD} {p:Addr} {us:List U}:view (mup M p (.lst us)) (.ref p)=.lst us:=mR aF
theorem qL {M:aD} {p:Addr} {us:List U}:IQ (mup M p (.lst us)) (.ref p):=⟨us,qP⟩
theorem eM {o:Bool} {k:Nat} {ix:List Nat} {wi:UI} {g:UG} {te:UE} {τ:SU} {M M1:aD} {Q:UK} {S:Src} (zs:List U) (hw:∀ R:Src->aD->Prop,R S M1->wi τ M R) (hl:zs.length=S.xs.length) (hz:S.xs.length<=sizeLine) (hs:S.ok M1)
  (h:∀ (i:Nat) x y,S.xs[i]?=some x->zs[i]?=some y->∀ M,Sub M1 M->∀ R:UK,R y M->g x (cU k ix τ) M fun τ2 M2=>te τ2 M2 R)
  (q:iL o zs M1 Q):pQ o k ix wi g (fun _ M Q=>Q true M) te τ M Q:=by
 refine hw _ ⟨hz,fun D hD=>⟨fun i ys M=>ys=zs.take i/\M=mup M1 D (.lst ys)/\i<=S.xs.length,⟨by simp,rfl,Nat.zero_le _⟩,?_,?_,?_⟩⟩
 ·rintro i ys M ⟨rfl,rfl,hi⟩
  refine ⟨fun a e=>?_,aF,?_⟩
  ·have:=hs a e
   rw [aM (fun z=>by subst z;rw [hD] at this;cases this)]
   exact this
  ·rw [List.length_take];omega
 ·rintro i x ys M e ⟨rfl,rfl,hi⟩
  have hlt:i < S.xs.length:=(List.getElem?_eq_some_iff.mp e).1
  have hy:zs[i]?=some zs[i]:=by simp [show i < zs.length by omega]
  have tk:zs.take (i + 1)=zs.take i++[zs[i]]:=by rw [List.take_add_one,hy];rfl
  refine h i x zs[i] e hy (mup M1 D (.lst (zs.take i))) ((Sub.refl M1).mup hD) (fun y M4=>M4 D=some (.lst (zs.take i))/\(zs.take i++[y]=zs.take (i + 1)/\mup M4 D (.lst (zs.take i++[y]))=mup M1 D (.lst (zs.take i++[y]))/\i + 1<=S.xs.length)) ?_
  exact ⟨aF,tk.symm,bV,hlt⟩
 ·rintro ys M ⟨rfl,rfl,hi⟩
  rw [show zs.take S.xs.length=zs by rw [<- hl];exact List.take_length]
  cases o with
  | true=>exact q D hD
  | false=>exact ⟨M1,(Sub.refl M1).mup hD,hD,q⟩
end U2
namespace U2
open PySem PySem.Spec PyProof.Rows L2
section
variable {prog:Program} {w:World} {A:Around} {E:Value->Shared->Prop} {s:Shared}
theorem vO {it t:Addr} {i:Nat} {items} {x:Value} {Q:Value->Shared->Prop} (hit:s.heap.IsTupleIter it t i)
  (ht:s.heap.IsTuple t items) (hx:items[i]?=some x)
  (hQ:∀ h',h'.IsTupleIter it t (i + 1)->Heap.SameBut it s.heap h'->Q x { s with heap:=h' }) :
  wpAny (model prog w) A (Builtin.SmallTypes.nextOf (.ref it)) Q E s:=by
 obtain ⟨o,ho,hc,hd⟩:=id hit
 obtain ⟨ol,hol,_,nl,hdl⟩:=ht
 unfold Builtin.SmallTypes.nextOf
 refine wpAny_bind (wpAny_callSpecial?_slot (name:=Str.ofString "__next__") hit.typeIs PySem.F.slot_tuple_iterator_next
  (wpAny_call_entry PySem.F.slot_tuple_iterator_next hit.typeIs PySem.F.entry_tuple_iterator_next ?_ (PySem.F.args_tuple_iterator_next_1 _)))
 show wpAny _ _ (field (.ref it) 0 >>= _) _ _ s
 refine wpAny_bind (wpAny_field ho hd (x:=.ref t) rfl ?_)
 show wpAny _ _ (if (Value.ref t == Value.none)=true then _ else _) _ _ s
 rw [if_neg (show ¬ ((Value.ref t == Value.none)=true) from Bool.false_ne_true)]
 show wpAny _ _ (field (.ref it) 1 >>= _) _ _ s
 refine wpAny_bind (wpAny_field ho hd (x:=.int i 0) rfl ?_)
 show wpAny _ _ (seqItems? (.ref t) >>= _) _ _ s
 refine wpAny_bind (wpAny_seqItems hol hdl ?_)
 simp only [Int.toNat_natCast,hx]
 refine wpAny_bind (wpAny_setField ho hd (by simp) (wpAny_pure ⟨x,rfl,wpAny_pure (hQ _ ?_ (Heap.SameBut.update ..))⟩))
 exact ⟨_,Heap.get?_update_self _ ho (Obj.isFreed_of_fields (Obj.data_mapFields hd _)),(Obj.cls_mapFields ..).trans hc,by
  rw [Obj.data_mapFields hd];simp [rawInt]⟩
theorem xJ {it t:Addr} {i:Nat} {items} {Q:Value->Shared->Prop} (hh:A.handled=none)
  (hit:s.heap.IsTupleIter it t i) (ht:s.heap.IsTuple t items) (hx:items[i]?=none)
  (hE:∀ h' e,Heap.ExtBut it s.heap h'->(∃ o,h'.get? e=some o/\o.cls=.type "StopIteration")->E (.ref e) { s with heap:=h' }) :
  wpAny (model prog w) A (Builtin.SmallTypes.nextOf (.ref it)) Q E s:=by
 obtain ⟨o,ho,hc,hd⟩:=id hit
 obtain ⟨ol,hol,_,nl,hdl⟩:=ht
 unfold Builtin.SmallTypes.nextOf
 refine wpAny_bind (wpAny_callSpecial?_slot (name:=Str.ofString "__next__") hit.typeIs PySem.F.slot_tuple_iterator_next
  (wpAny_call_entry PySem.F.slot_tuple_iterator_next hit.typeIs PySem.F.entry_tuple_iterator_next ?_ (PySem.F.args_tuple_iterator_next_1 _)))
 show wpAny _ _ (field (.ref it) 0 >>= _) _ _ s
 refine wpAny_bind (wpAny_field ho hd (x:=.ref t) rfl ?_)
 show wpAny _ _ (if (Value.ref t == Value.none)=true then _ else _) _ _ s
 rw [if_neg (show ¬ ((Value.ref t == Value.none)=true) from Bool.false_ne_true)]
 show wpAny _ _ (field (.ref it) 1 >>= _) _ _ s
 refine wpAny_bind (wpAny_field ho hd (x:=.int i 0) rfl ?_)
 show wpAny _ _ (seqItems? (.ref t) >>= _) _ _ s
 refine wpAny_bind (wpAny_seqItems hol hdl ?_)
 simp only [Int.toNat_natCast,hx]
 refine wpAny_bind (wpAny_rule (wpAny_bind (wpAny_setField ho hd (by simp) ?_)))
 show wpAny _ _ (newExc (.type "StopIteration") [] >>= _) _ _ _
 refine wpAny_bind ?_
 simp only [newExc,newTuple]
 refine wpAny_bind (wpAny_newObj_type ?_ (by size_fits))
 refine wpAny_bind (m:=firstArgMember _ _) (wpAny_of_eq (a:=Value.none) (by first | rfl | (simp only [firstArgMember];rfl)) ?_)
 refine wpAny_newObj_type ?_ (by size_fits)
 simp only [raiseNew]
 refine wpAny_bind (wpAny_handled ?_)
 first | rw [show A.in1.handled=none from hh] | rw [hh]
 refine wpAny_bind (wpAny_pure (wpAny_throw ?_))
 exact hE _ _ (((Heap.SameBut.update ..).extBut.push _).push _) ⟨_,Heap.get?_push_size _ rfl,rfl⟩
theorem D0 {prog:Program} {w:World} {A:Around} (hh:A.handled=none) (it l:Addr) (hne:l≠it) (items:Array Value) :
  Draws prog w A it [it,l] items.size (fun i v=>items[i]?=some v) (fun i h=>h.IsTupleIter it l i/\h.IsTuple l items) where
 live:=fun _ _ st=>let ⟨o,ho,_⟩:=st.1;⟨o,ho⟩
 frame:=fun _ _ _ st hk=>⟨st.1.at fun o e=>hk it (by simp) o e,let ⟨o,ho,r⟩:=st.2;⟨o,hk l (by simp) o ho,r⟩⟩
 item:=fun i s Q E hi st hQ=>by
  refine vO st.1 st.2 (x:=items[i]) (by simp [hi]) fun h' hit' hs'=>?_
  exact hQ _ h' s.toks (by simp [hi]) ⟨hit',let ⟨o,ho,r⟩:=st.2;⟨o,hs'.extBut l o hne ho,r⟩⟩ hs'
 done:=fun s Q E st hE=>xJ hh st.1 st.2 (by simp) hE
end
def nK (b:Bool) (K:PySem.W.Frag) (H:Hp) (a:Addr) (xs:List V):Prop:=match b with
 | true=>dN K H a xs
 | false=>eY K H a xs
def kF (b:Bool) (h:Heap) (a:Addr) (xs:Array Value):Prop:=match b with
 | true=>h.IsList a xs
 | false=>h.IsTuple a xs
def lV (b:Bool) (h:Heap) (it a:Addr) (i:Nat):Prop:=match b with
 | true=>h.IsListIter it a i
 | false=>h.IsTupleIter it a i
def Rh:Bool->String
 | true=>"list"
 | false=>"tuple"
def tL:Bool->String
 | true=>"list_iterator"
 | false=>"tuple_iterator"
theorem kY {h:Heap} {b b':Addr} {o o':Obj} {n n':String} (x:h.get? b=some o) (y:h.get? b'=some o') (p:o.cls=.type n) (q:o'.cls=.type n') (ne:n≠n'):b≠b':=fun z=>by
 subst z;rw [x] at y;cases y;rw [p] at q;exact ne (Value.type.inj q)
theorem kF.obj {b:Bool} {h:Heap} {a:Addr} {xs:Array Value} (p:kF b h a xs):∃ o n,h.get? a=some o/\o.cls=.type (Rh b)/\o.data=.seq xs n:=by
 cases b <;> (obtain ⟨o,e,c,n,d⟩:=p;exact ⟨o,n,e,c,d⟩)
theorem lV.obj {b:Bool} {h:Heap} {it a:Addr} {i:Nat} (p:lV b h it a i):∃ o,h.get? it=some o/\o.cls=.type (tL b)/\o.data=.fields #[.ref a,.int i 0]:=by
 cases b <;> exact p
theorem lV.of {b:Bool} {h:Heap} {it a:Addr} {i:Nat} {o:Obj} (e:h.get? it=some o) (c:o.cls=.type (tL b)) (d:o.data=.fields #[.ref a,.int i 0]):lV b h it a i:=by
 cases b <;> exact ⟨o,e,c,d⟩
theorem lV.at {b:Bool} {h h':Heap} {it a:Addr} {i:Nat} (p:lV b h it a i) (k:∀ o,h.get? it=some o->h'.get? it=some o):lV b h' it a i :=
 let ⟨o,e,c,d⟩:=p.obj;.of (k o e) c d
theorem kF.ne {b b':Bool} {h:Heap} {a it c:Addr} {xs:Array Value} {i:Nat} (p:kF b h a xs) (q:lV b' h it c i):a≠it :=
 let ⟨_,_,e,c,_⟩:=p.obj;let ⟨_,e',c',_⟩:=q.obj;kY e e' c c' (by cases b <;> cases b' <;> decide)
theorem zJ {X:Cx} {pins:List (Addr × Obj)} {σ:L2.St} {H:Hp} {s:Shared} {b:Bool} {a:Addr} {xs:List V} (I:L2.Inv X pins σ H s) (h:nK b X.K H a xs):∃ its:List Value,Vals xs its/\kF b s.heap a its.toArray/\xs.length<=sizeLine:=by
 cases b
 ·exact I.tuple h
 ·obtain ⟨its,r,p,z⟩:=I.list h;exact ⟨its,r,p.isList,z⟩
theorem OL {X:Cx} {pins:List (Addr × Obj)} {σ:L2.St} {H:Hp} {s:Shared} {b:Bool} {a:Addr} {xs ys:List V} (I:L2.Inv X pins σ H s) (h:nK b X.K H a xs) (h':nK b X.K H a ys):xs=ys:=by
 cases b
 ·exact I.tuple_inj h h'
 ·exact I.list_inj h h'
theorem nX {prog:Program} {w:World} {A:Around} (b:Bool) (hh:A.handled=none) (it l:Addr) (hne:l≠it) (items:Array Value) :
  Draws prog w A it [it,l] items.size (fun i v=>items[i]?=some v) (fun i h=>lV b h it l i/\kF b h l items):=by
 cases b
 ·exact D0 hh it l hne items
 ·exact Draws.list hh it l hne items
def HU (b:Bool) (K:PySem.W.Frag) (H:Hp) (M:aD) (a:Addr) (vs:List V):Prop:=∀ H1 M1,aP H M H1 M1->nK b K H1 a vs
theorem Je {K:PySem.W.Frag} {H:Hp} {M:aD} {a:Addr} {vs:List V} (m:M a=none/\H a=some (.tup vs)):HU false K H M a vs:=fun _ _ s=>.inl (.inl (s.to m.2 m.1).1)
theorem RK {K:PySem.W.Frag} {H:Hp} {M:aD} {a:Addr} {vs:List V} (m:(M a=none/\Rd H a (.lst vs))\/KL K a vs):HU true K H M a vs:=fun _ _ s=>by
 rcases m with ⟨m,h⟩ | k
 ·exact .inl (Rd.stp s m h).2
 ·exact .inr k
section
variable {prog:Program} {w:World} {A:Around} {E:Value->Shared->Prop} {s:Shared}
theorem w5 (l:Addr) (items:Array Value) (n:Nat) (dd:Option Addr) (sl:Array (Option Value)) :
  Meets (Builtin.«enumerate.__new__» ⟨[.type "enumerate",.ref l],[]⟩) (fun _ R s=>s.heap.get? l=some { cls:=.type "tuple",dict:=dd,data:=.seq items n,slots:=sl } /\
   R (.ok (.ret (.ref (s.heap.push { cls:=.type "tuple_iterator",data:=.fields #[.ref l,.int 0 0] }).objs.size)))
    { s with heap:=(s.heap.push { cls:=.type "tuple_iterator",data:=.fields #[.ref l,.int 0 0] }).push { cls:=.type "enumerate",data:=.fields #[.none,.bool false,.ref s.heap.objs.size,rawInt 0,.none,.none] } }) :=
 .of_wp fun prog w A R s h=>by
  obtain ⟨hp,g,d,tk,os⟩:=s;obtain ⟨hl,h⟩:=h
  have hsub:=PySem.sub_enumerate
  have hL:Heap.IsTuple (Shared.heap ⟨hp,g,d,tk,os⟩) l items:=⟨_,hl,rfl,n,rfl⟩
  wp_walk using wpAny_loadPart' hl
  refine wpAny_stack_any fun st=>wpAny_pure ?_
  split
  ·rename_i c _ _ _ _ _
   cases (c == Value.type "enumerate")
   ·wp_walk using wpAny_loadPart' hl,wpAny_pyIter_tuple hL
    exact ⟨_,rfl,h⟩
   ·wp_walk using wpAny_loadPart' hl,wpAny_pyIter_tuple hL
    exact ⟨_,rfl,h⟩
  ·wp_walk using wpAny_loadPart' hl,wpAny_pyIter_tuple hL
   exact ⟨_,rfl,h⟩
theorem yK (l:Addr) (items:Array Value) (n:Nat) (dd:Option Addr) (sl:Array (Option Value)) :
  Meets (Builtin.«enumerate.__new__» ⟨[.type "enumerate",.ref l],[]⟩) (fun _ R s=>s.heap.get? l=some { cls:=.type "list",dict:=dd,data:=.seq items n,slots:=sl } /\
   R (.ok (.ret (.ref (s.heap.push { cls:=.type "list_iterator",data:=.fields #[.ref l,.int 0 0] }).objs.size)))
    { s with heap:=(s.heap.push { cls:=.type "list_iterator",data:=.fields #[.ref l,.int 0 0] }).push { cls:=.type "enumerate",data:=.fields #[.none,.bool false,.ref s.heap.objs.size,rawInt 0,.none,.none] } }) :=
 .of_wp fun prog w A R s h=>by
  obtain ⟨hp,g,d,tk,os⟩:=s;obtain ⟨hl,h⟩:=h
  have hsub:=PySem.sub_enumerate
  have hL:Heap.IsList (Shared.heap ⟨hp,g,d,tk,os⟩) l items:=⟨_,hl,rfl,n,rfl⟩
  wp_walk using wpAny_loadPart' hl
  refine wpAny_stack_any fun st=>wpAny_pure ?_
  split
  ·rename_i c _ _ _ _ _
   cases (c == Value.type "enumerate")
   ·wp_walk using wpAny_loadPart' hl,wpAny_pyIter_list hL
    exact ⟨_,rfl,h⟩
   ·wp_walk using wpAny_loadPart' hl,wpAny_pyIter_list hL
    exact ⟨_,rfl,h⟩
  ·wp_walk using wpAny_loadPart' hl,wpAny_pyIter_list hL
   exact ⟨_,rfl,h⟩
end
theorem l9 {X:Cx} {pins:List (Addr × Obj)} {σ:L2.St} {H:Hp} {s:Shared} {h':Heap} {ch:List Addr} {T:Addr} {o:HO} {tk:Nat} (I:L2.Inv X pins σ H s) (hf:∀ b∈ch,pY X pins H b)
  (k:∀ b o,b ∉ ch->s.heap.get? b=some o->h'.get? b=some o) (hT:s.heap.objs.size<=T) (new:dB X.prog X.w (upd H T o) h' T o):L2.Inv X pins σ (upd H T o) { s with heap:=h',toks:=tk }:=by
 have hn:H T=none:=I.hok.fresh hT
 refine I.call' (ch:=ch) (H':=upd H T o) rfl ⟨fun b u q n hb hx=>k b u hx q,fun b u q n hb hx=>⟨u.slots,k b u hx q⟩,fun b u q n hx=>?_,fun b u q hx=>⟨u,k b u hx q⟩,fun b xs q=>by rw [bF (cF q hn)];exact q,fun b u xs q=>by rw [bF (cF q hn)];exact q,
  fun b ps q=>⟨#[],by rw [bF (cF q hn),q];simp⟩⟩ (fun a u e=>?_) I.bare fun b hb=>⟨(hf b hb).2.2.2.1,(hf b hb).2.1,(hf b hb).2.2.2.2.1,(hf b hb).2.2.2.2.2⟩
 ·rw [bF (Nat.ne_of_lt (Nat.lt_of_lt_of_le (Heap.lt_size q) hT))];exact n
 ·by_cases ha:a=T
  ·subst ha;rw [cG] at e;cases e;exact new
  ·rw [bF ha] at e
   refine (I.hok a u e).stay (fun b z hb q=>k b z (fun hc=>?_) q) (fun c q=>by rw [bF (cF q hn)];exact q) fun c xs q=>by rw [bF (cF q hn)];exact q
   have hnone:=(hf b hc).1
   rcases hb with rfl | hb
   ·rw [hnone] at e;cases e
   ·rw [hnone] at hb;cases hb
def Oi (f:Bool) (K:PySem.W.Frag) (a:Addr):It :=
 ⟨fun i H=>∃ xs x,nK f K H a xs/\xs[i]?=some x,fun i H x H'=>∃ p v,(∀ xs,nK f K H a xs->xs[i]?=some v)/\H p=none/\x=.ref p/\H'=upd H p (.tup [.int i,v]),fun i H=>∃ xs,nK f K H a xs/\xs.length=i⟩
theorem IM {P:Program} {w:World} {K:PySem.W.Frag} {elts:List Expr} {kk:Nat} {pos:Pos} (f:Bool) (a it e:Addr):Turn P w K (.Tuple elts kk pos) (Oi f K a) [e,it] e (fun i h=>(∃ old,IsEnum h e it i old)/\lV f h it a i) where
 mem:=by simp
 obj:=fun i h st b hb=>by
  obtain ⟨⟨old,he⟩,hi⟩:=st
  obtain ⟨o,ho,hc,hd⟩:=hi.obj
  have:b=e\/b=it:=by simpa using hb
  rcases this with rfl | rfl
  ·exact ⟨_,he,fun v z=>by
    have z':Data.fields _=Data.cell v:=z
    cases z'⟩
  ·exact ⟨o,ho,fun v z=>by rw [hd] at z;cases z⟩
 keep:=fun i h h' st k=>let ⟨⟨old,he⟩,hi⟩:=st;⟨⟨old,k e (by simp) _ he⟩,hi.at fun o q=>k it (by simp) o q⟩
 item:=by
  intro X hP hw hK hc i pins s σ H E I hf st hg
  subst hP hw hK
  obtain ⟨⟨old,he⟩,hit⟩:=st
  obtain ⟨xs,x,hq,hx⟩:=hg
  obtain ⟨its,rv,p,hz⟩:=zJ I hq
  obtain ⟨u,hu,ru⟩:=rv.get hx
  have p':kF f s.heap a its.toArray:=p
  obtain ⟨oi,hoi,hci,hdi⟩:=hit.obj
  obtain ⟨oa,na,hoa,hca,hda⟩:=p'.obj
  have n1:a≠it:=p'.ne hit
  have n2:e≠it:=kY he hoi rfl hci (by cases f <;> decide)
  have n3:e≠a:=kY he hoa rfl hca (by cases f <;> decide)
  have W:=WalksT.enumerateD (prog:=X.prog) (w:=X.w) (A:=X.A) (nX f (A:=X.A.in1) (show X.A.in1.handled=none from I.ok.hd hc) it a n1 its.toArray) e n2 (by simp [n2,n3]) (by simp)
  have hlt:i < its.toArray.size:=by
   have:=(List.getElem?_eq_some_iff.mp hu).1
   simpa using this
  refine W.item i s _ E hlt ⟨⟨old,he⟩,hit,p'⟩ fun T vals h' tk hP hT i9 hMid hk=>?_
  refine ⟨.ref T,rfl,W.go elts kk pos i T _ _ E hMid fun h'' hSt hk2=>?_⟩
  obtain ⟨t,y,hy,rfl⟩:=hP
  have hy':y=u:=by
   have h3:its[i]?=some y:=by simpa using hy
   rw [hu] at h3;exact (Option.some.inj h3).symm
  subst hy'
  have hTT:h''.IsTuple T #[.int i t,y]:=let ⟨o,ho,r⟩:=i9;⟨o,hk2 T o (W.apart i T _ hMid) ho,r⟩
  refine ⟨.ref T,upd H T (.tup [.int i,x]),l9 (s:=s) (h':=h'') (tk:=tk) (ch:=[e,it]) I hf (fun b o hb q=>hk2 b o (by simpa using hb) (hk b o (by simpa using hb) q)) hT ⟨by show 2<=sizeLine;decide,[.int i t,y],.cons ⟨t,rfl⟩ (.cons ru .nil),hTT⟩,rfl,⟨T,x,fun ys hy=>by rw [<- OL I hq hy];exact hx,I.hok.fresh hT,rfl,rfl⟩,⟨by simpa using hSt.1,hSt.2.1⟩,fun b hb=>?_⟩
  have hn:=(hf b hb).1
  rw [bF (Nat.ne_of_lt (Nat.lt_of_lt_of_le ?_ hT))]
  ·exact hn
  ·have:b=e\/b=it:=by simpa using hb
   rcases this with rfl | rfl
   ·exact Heap.lt_size he
   ·exact Heap.lt_size hoi
 done:=by
  intro X hP hw hK hc i pins s σ H E I hf st hg
  subst hP hw hK
  obtain ⟨⟨old,he⟩,hit⟩:=st
  obtain ⟨xs,hq,hx⟩:=hg
  obtain ⟨its,rv,p,hz⟩:=zJ I hq
  have p':kF f s.heap a its.toArray:=p
  obtain ⟨oi,hoi,hci,hdi⟩:=hit.obj
  obtain ⟨oa,na,hoa,hca,hda⟩:=p'.obj
  have n1:a≠it:=p'.ne hit
  have n2:e≠it:=kY he hoi rfl hci (by cases f <;> decide)
  have n3:e≠a:=kY he hoa rfl hca (by cases f <;> decide)
  have W:=WalksT.enumerateD (prog:=X.prog) (w:=X.w) (A:=X.A) (nX f (A:=X.A.in1) (show X.A.in1.handled=none from I.ok.hd hc) it a n1 its.toArray) e n2 (by simp [n2,n3]) (by simp)
  have hi:i=its.toArray.size:=by rw [List.size_toArray,<- rv.length];exact hx.symm
  subst hi
  refine W.done s _ E ⟨⟨old,he⟩,hit,p'⟩ fun h' tk hk=>⟨rfl,?_⟩
  have:=I.call' (ch:=[e,it]) (H':=H) (s':={ s with heap:=h',toks:=tk }) rfl ⟨fun b u q n hb hx=>hk b u (by simpa using hx) q,fun b u q n hb hx=>⟨u.slots,hk b u (by simpa using hx) q⟩,fun b u q n hx=>n,fun b u q hx=>⟨u,hk b u (by simpa using hx) q⟩,fun b xs q=>q,fun b u xs q=>q,fun b ps q=>⟨#[],by rw [q];simp⟩⟩
   (fun a u e'=>?_) I.bare fun b hb=>⟨(hf b hb).2.2.2.1,(hf b hb).2.1,(hf b hb).2.2.2.2.1,(hf b hb).2.2.2.2.2⟩
  ·exact this
  ·refine (I.hok a u e').stay (fun b z hb q=>hk b z (fun hc=>?_) q) (fun _ q=>q) fun _ _ q=>q
   have hnone:=(hf b (by simpa using hc)).1
   rcases hb with rfl | hb
   ·rw [hnone] at e';cases e'
   ·rw [hnone] at hb;cases hb
 self:=fun _ _ _ _ _ st h=>let ⟨⟨old,he⟩,_⟩:=st;wpAny_pyIter_enum he h
theorem F8 {prog:Program} {w:World} {A:Around} {E:Value->Shared->Prop} {s:Shared} {f:Bool} {l:Addr} {items:Array Value} {Q:Value->Shared->Prop}
  (hl:kF f s.heap l items)
  (h:∀ h',IsEnum h' (s.heap.objs.size + 1) s.heap.objs.size 0 .none->lV f h' s.heap.objs.size l 0->h'.objs.size=s.heap.objs.size + 2 ->
   (∀ b o,s.heap.get? b=some o->h'.get? b=some o)->Q (.ref (s.heap.objs.size + 1)) { s with heap:=h' }) :
  wpAny (model prog w) A (call (.type "enumerate") [.ref l]) Q E s:=by
 have fin:Q (.ref (s.heap.push { cls:=.type (tL f),data:=.fields #[.ref l,.int 0 0] }).objs.size)
   { s with heap:=(s.heap.push { cls:=.type (tL f),data:=.fields #[.ref l,.int 0 0] }).push { cls:=.type "enumerate",data:=.fields #[.none,.bool false,.ref s.heap.objs.size,rawInt 0,.none,.none] } } /\
   ((s.heap.push { cls:=.type (tL f),data:=.fields #[.ref l,.int 0 0] }).push { cls:=.type "enumerate",data:=.fields #[.none,.bool false,.ref s.heap.objs.size,rawInt 0,.none,.none] }).get? (s.heap.push { cls:=.type (tL f),data:=.fields #[.ref l,.int 0 0] }).objs.size=some { cls:=.type "enumerate",data:=.fields #[.none,.bool false,.ref s.heap.objs.size,rawInt 0,.none,.none] }:=by
  have hz:(s.heap.push { cls:=.type (tL f),data:=.fields #[.ref l,.int 0 0] }).objs.size=s.heap.objs.size + 1:=Heap.size_push ..
  have he:=Heap.get?_push_size (s.heap.push { cls:=.type (tL f),data:=.fields #[.ref l,.int 0 0] })
   (o:={ cls:=.type "enumerate",data:=.fields #[.none,.bool false,.ref s.heap.objs.size,rawInt 0,.none,.none] }) rfl
  refine ⟨?_,he⟩
  rw [hz] at he
  rw [hz]
  exact h _ he (.of (Heap.get?_push_of_some _ (Heap.get?_push_size _ rfl)) rfl rfl) (by rw [Heap.size_push,hz]) fun b o x=>Heap.get?_push_of_some _ (Heap.get?_push_of_some _ x)
 obtain ⟨⟨oc,od,odt,osl⟩,n,ho,hc,hd⟩:=hl.obj
 have hc':oc=.type (Rh f):=hc
 have hd':odt=.seq items n:=hd
 subst hc' hd'
 cases f
 ·exact callType_new F.called_enumerate (by decide) (F.typeCall_enumerate_1 _) (F.newCall_enumerate_1 _) (fun obj=>F.args_object_init_2 obj _) F.entry_enumerate_new
   (w5 l items n od osl) ⟨ho,⟨_,fin.2,rfl⟩,fin.1⟩
 ·exact callType_new F.called_enumerate (by decide) (F.typeCall_enumerate_1 _) (F.newCall_enumerate_1 _) (fun obj=>F.args_object_init_2 obj _) F.entry_enumerate_new
   (yK l items n od osl) ⟨ho,⟨_,fin.2,rfl⟩,fin.1⟩
def Fi (f:Bool) (K:PySem.W.Frag) (ta:TA):TI:=fun σ H R=>ta σ H fun vs H1=>∃ a,vs=[.ref a]/\(∃ xs,nK f K H1 a xs)/\R (Oi f K a) H1
theorem EZ {f:Bool} {X:Cx} {elts:List Expr} {kk:Nat} {tpos:Pos} {a:Expr} {ta:TA} {p pos:Pos} (hg:Gl X "enumerate") (hm:X.mg "enumerate"=none) (ha:PA X [a] ta) (hs:starEach [a] X.env=[(false,eval a X.env)]) :
  PI X (.Tuple elts kk tpos) (.Call (.Name "enumerate" p) [a] [] pos) (Fi f X.K ta):=by
 intro pins s σ H R I h
 refine Call_ (nD I hg hm boot_enumerate (PyProof.Rows.callWith_type1 (bC (ha pos pins s σ H _ I h) fun us s1 ⟨vs,H1,I1,r1,q1⟩=>?_) hs rfl))
 obtain ⟨a,e,⟨xs,hq⟩,q⟩:=q1
 subst e
 cases r1 with
 | cons r rr =>
  cases rr
  cases r
  obtain ⟨its,rv,p,hz⟩:=zJ I1 hq
  refine F8 p fun h' he hit hsz hk=>?_
  refine wpAny_pyIter_enum (s:={ s1 with heap:=h' }) he ?_
  have I2:L2.Inv X pins σ H1 { s1 with heap:=h',toks:=s1.toks }:=I1.kept hk
  refine ⟨s1.heap.objs.size + 1,[s1.heap.objs.size + 1,s1.heap.objs.size],_,_,H1,rfl,I2,IM f a s1.heap.objs.size (s1.heap.objs.size + 1),⟨⟨_,he⟩,hit⟩,fun b hb=>?_,q⟩
  have e:b=s1.heap.objs.size + 1\/b=s1.heap.objs.size:=by simpa using hb
  rcases e with rfl | rfl
  ·exact I1.fpOk (Nat.le_succ _) (I1.hok.fresh (Nat.le_succ _))
  ·exact I1.fpOk (Nat.le_refl _) (I1.hok.fresh (Nat.le_refl _))
def numbered (us:List U):List U:=us.zipIdx.map fun p=>.tup [.int (p.2:Nat),p.1]
theorem jZ (us:List U):(numbered us).length=us.length:=by simp [numbered]
theorem gY {us:List U} {i:Nat} {x:U} (h:(numbered us)[i]?=some x):∃ u,us[i]?=some u/\x=.tup [.int i,u]:=by
 simp only [numbered,List.getElem?_map,List.getElem?_zipIdx] at h
 cases e:us[i]? with
 | none=>rw [e] at h;simp at h
 | some u=>rw [e] at h;simp at h;exact ⟨u,rfl,h.symm⟩
theorem AU {f:Bool} {K:PySem.W.Frag} {a:Addr} {us:List U} {vs:List V} {H:Hp} {M:aD} (sq:HU f K H M a vs) (r:aH K H M us vs):Walk K (Oi f K a) ⟨none,numbered us⟩ H M:=by
 refine ⟨fun H1 M1 s rm _ i u e=>?_,fun H1 M1 s rm _=>⟨vs,sq H1 M1 s,by show vs.length=(numbered us).length;rw [jZ,r.length]⟩⟩
 obtain ⟨w,e1,rfl⟩:=gY e
 obtain ⟨v,e2,ru⟩:=r.get e1
 refine ⟨⟨vs,v,sq H1 M1 s,e2⟩,fun x H2 y=>?_⟩
 obtain ⟨p,v',y,hp,rfl,rfl⟩:=y
 have:=y vs (sq _ M1 s)
 rw [e2] at this;cases this
 have st:=aP.laid (o:=.tup [.int i,v]) rm hp
 have rr:aH K H1 M1 [.int i,w] [.int i,v]:=by
  simp only [aH]
  exact ⟨_,_,rfl,eK,_,_,rfl,ru.stp s,rfl⟩
 exact ⟨st,rm.laid hp,rG (rm.no hp) cG (rr.stp st)⟩
def sP (ta:UA):UI:=fun τ M R=>ta τ M fun us M1=>match us with
 | [.tup us]=>R ⟨none,numbered us⟩ M1
 | _=>False
theorem Kr {K:PySem.W.Frag} {ta:TA} {ta':UA} (h:k8 K ta ta'):pZ K (Fi false K ta) (sP ta'):=fun σ τ H M R' rs rm q R c=>h σ τ H M _ rs rm q _ fun us vs M1 H1 s1 rm1 ru h1=>by
 split at h1
 ·rename_i xs
  obtain ⟨v,rfl,a⟩:=ru.one
  simp only [aK] at a
  obtain ⟨a,vs,rfl,m,r⟩:=a
  refine ⟨a,rfl,⟨vs,?_⟩,c _ _ M1 H1 s1 rm1 (AU (Je m) r) h1⟩
  exact .inl (.inl m.2)
 ·exact h1.elim
theorem lU {D:Dat} {elts:List Expr} {kk:Nat} {tpos:Pos} {a:Expr} {p pos:Pos} {ta:UA} (hm:D.mg "enumerate"=none) (ha:l4 D [a] ta) (hg:D.sc.names.lookup ("enumerate":Str)=some .globalImplicit:=by rfl) (hs:∀ env,starEach [a] env=[(false,eval a env)]:=by intro _;rfl):uP D (.Tuple elts kk tpos) (.Call (.Name "enumerate" p) [a] [] pos) (sP ta):=by
 obtain ⟨_,q,s⟩:=ha
 exact ⟨_,fun X h=>h.K ▸ EZ (by show X.env.scope.names.lookup _=_;rw [h.sc];exact hg) (by rw [h.mg];exact hm) (q X h) (hs _),Kr s⟩
def oH (ta:UA):UI:=fun τ M R=>ta τ M fun us M1=>match us with
 | [.lst us]=>R ⟨none,numbered us⟩ M1
 | _=>False
theorem Hy {K:PySem.W.Frag} {ta:TA} {ta':UA} (h:k8 K ta ta'):pZ K (Fi true K ta) (oH ta'):=fun σ τ H M R' rs rm q R c=>h σ τ H M _ rs rm q _ fun us vs M1 H1 s1 rm1 ru h1=>by
 split at h1
 ·rename_i xs
  obtain ⟨v,rfl,a⟩:=ru.one
  simp only [aK] at a
  obtain ⟨a,vs,rfl,m,r⟩:=a
  refine ⟨a,rfl,⟨vs,?_⟩,c _ _ M1 H1 s1 rm1 (AU (RK m) r) h1⟩
  rcases m with ⟨_,m⟩ | k
  ·exact .inl m
  ·exact .inr k
 ·exact h1.elim
theorem BA {D:Dat} {elts:List Expr} {kk:Nat} {tpos:Pos} {a:Expr} {p pos:Pos} {ta:UA} (hm:D.mg "enumerate"=none) (ha:l4 D [a] ta) (hg:D.sc.names.lookup ("enumerate":Str)=some .globalImplicit:=by rfl) (hs:∀ env,starEach [a] env=[(false,eval a env)]:=by intro _;rfl):uP D (.Tuple elts kk tpos) (.Call (.Name "enumerate" p) [a] [] pos) (oH ta):=by
 obtain ⟨_,q,s⟩:=ha
 exact ⟨_,fun X h=>h.K ▸ EZ (by show X.env.scope.names.lookup _=_;rw [h.sc];exact hg) (by rw [h.mg];exact hm) (q X h) (hs _),Hy s⟩
end U2
namespace U2
open PySem PySem.Spec PyProof.Rows L2
mutual
def fX (K:PySem.W.Frag) (H:Hp):PyData->V->Prop
 | .none,v=>v=.non
 | .bool b,v=>v=.bl b
 | .int i,v=>v=.int i
 | .str z,v=>v=.str z
 | .list ds,v=>∃ a xs,v=.ref a/\dN K H a xs/\fS K H ds xs
 | .tuple ds,v=>∃ a xs,v=.ref a/\eY K H a xs/\fS K H ds xs
 | .dict _,_=>False
def fS (K:PySem.W.Frag) (H:Hp):List PyData->List V->Prop
 | [],vs=>vs=[]
 | d :: ds,vs=>∃ v vs',vs=v :: vs'/\fX K H d v/\fS K H ds vs'
end
mutual
theorem fX.reads {X:Cx} {pins:List (Addr × Obj)} {σ:L2.St} {H:Hp} {s:Shared} (I:L2.Inv X pins σ H s):∀ {d:PyData} {v:V} {u:Value},fX X.K H d v->RelV v u->∃ as,Reads s.heap u d as
 | .none,v,u,h,r=>by simp only [fX] at h;subst h;cases r;exact ⟨_,.none⟩
 | .bool b,v,u,h,r=>by simp only [fX] at h;subst h;cases r;exact ⟨_,.bool b⟩
 | .int i,v,u,h,r=>by simp only [fX] at h;subst h;obtain ⟨t,rfl⟩:=r;exact ⟨_,.int i t⟩
 | .str z,v,u,h,r=>by simp only [fX] at h;subst h;obtain ⟨t,rfl⟩:=r;exact ⟨_,.str z t⟩
 | .list ds,v,u,h,r=>by
  simp only [fX] at h
  obtain ⟨a,xs,rfl,q,hs⟩:=h
  cases r
  obtain ⟨its,rv,p,hz⟩:=I.list q
  obtain ⟨as,ra⟩:=fS.reads I hs rv
  obtain ⟨o,h1,h2,n,h3⟩:=p.isList
  exact ⟨_,.list h1 h2 h3 (by simpa using ra)⟩
 | .tuple ds,v,u,h,r=>by
  simp only [fX] at h
  obtain ⟨a,xs,rfl,q,hs⟩:=h
  cases r
  obtain ⟨its,rv,p,hz⟩:=I.tuple q
  obtain ⟨as,ra⟩:=fS.reads I hs rv
  obtain ⟨o,h1,h2,n,h3⟩:=(show s.heap.IsTuple a its.toArray from p)
  exact ⟨_,.tuple h1 h2 h3 (by simpa using ra)⟩
 | .dict _,v,u,h,r=>by simp only [fX] at h
theorem fS.reads {X:Cx} {pins:List (Addr × Obj)} {σ:L2.St} {H:Hp} {s:Shared} (I:L2.Inv X pins σ H s):∀ {ds:List PyData} {vs:List V} {us:List Value},fS X.K H ds vs->Vals vs us->∃ as,ReadsAll s.heap us ds as
 | [],vs,us,h,r=>by simp only [fS] at h;subst h;cases r;exact ⟨_,.nil⟩
 | d :: ds,vs,us,h,r=>by
  simp only [fS] at h
  obtain ⟨v,vs',rfl,h1,h2⟩:=h
  cases r with
  | cons r rr =>
   obtain ⟨as,ra⟩:=fX.reads I h1 r
   obtain ⟨bs,rb⟩:=fS.reads I h2 rr
   exact ⟨_,.cons ra rb⟩
end
def K3 (K:PySem.W.Frag) (neg:Bool):R2:=fun x y H Q=>∃ d d',fX K H d x/\fX K H d' y/\d.canLay0=true/\d'.canLay0=true/\min d.depth d'.depth<=64/\Q (.bl (if neg then !PyData.eqv d d' else PyData.eqv d d')) H
theorem Pw {X:Cx} {k:Nat} (hr:eN k X.A):dI X (compareOp .Eq) (K3 X.K false):=by
 intro pins s σ H x y v u Q I rx ry h
 obtain ⟨d,d',h1,h2,c1,c2,hd,q⟩:=h
 obtain ⟨as,ra⟩:=h1.reads I rx
 obtain ⟨bs,rb⟩:=h2.reads I ry
 exact SeqAt.compareEq_reads ra rb c1 c2 (by have:=hr.units;omega) ⟨.bl _,H,I,rfl,q⟩
theorem PL {X:Cx} {k:Nat} (hr:eN k X.A):dI X (compareOp .NotEq) (K3 X.K true):=by
 intro pins s σ H x y v u Q I rx ry h
 obtain ⟨d,d',h1,h2,c1,c2,hd,q⟩:=h
 obtain ⟨as,ra⟩:=h1.reads I rx
 obtain ⟨bs,rb⟩:=h2.reads I ry
 exact SeqAt.compareNe_reads ra rb c1 c2 (by have:=hr.units;omega) ⟨.bl _,H,I,rfl,q⟩
mutual
def toD:U->Option PyData
 | .non=>some .none
 | .bl b=>some (.bool b)
 | .int i=>some (.int i)
 | .str z=>some (.str z)
 | .tup us=>(fA us).map .tuple
 | .lst us=>(fA us).map .list
 | .ty _=>none
 | .ref _=>none
 | .dic _ _ _=>none
def fA:List U->Option (List PyData)
 | []=>some []
 | u :: us=>match toD u,fA us with
  | some d,some ds=>some (d :: ds)
  | _,_=>none
end
def p9 (M:aD) (u:U):Option PyData:=match u with
 | .ref a=>match M a with
  | some (.lst us)=>(fA us).map .list
  | _=>none
 | u=>toD u
mutual
theorem Er {K:PySem.W.Frag} {H:Hp} {M:aD}:∀ {u:U} {v:V} {d:PyData},aK K H M u v->toD u=some d->fX K H d v
 | .non,v,d,r,e=>by simp only [toD,Option.some.injEq] at e;subst e;simp only [fX];exact r.non
 | .bl b,v,d,r,e=>by simp only [toD,Option.some.injEq] at e;subst e;simp only [fX];exact r.bl
 | .int i,v,d,r,e=>by simp only [toD,Option.some.injEq] at e;subst e;simp only [fX];exact r.int
 | .str i,v,d,r,e=>by simp only [toD,Option.some.injEq] at e;subst e;simp only [fX];exact r.str
 | .tup us,v,d,r,e=>by
  simp only [toD] at e
  cases e2:fA us with
  | none=>rw [e2] at e;simp at e
  | some ds =>
   rw [e2] at e;simp at e;subst e
   obtain ⟨a,vs,rfl,q,rs⟩:=r.tup
   simp only [fX]
   exact ⟨a,vs,rfl,q,sF rs e2⟩
 | .lst us,v,d,r,e=>by
  simp only [toD] at e
  cases e2:fA us with
  | none=>rw [e2] at e;simp at e
  | some ds =>
   rw [e2] at e;simp at e;subst e
   obtain ⟨a,vs,rfl,q,rs⟩:=r.lst
   simp only [fX]
   exact ⟨a,vs,rfl,q,sF rs e2⟩
 | .ty _,v,d,r,e=>by simp [toD] at e
 | .ref _,v,d,r,e=>by simp [toD] at e
 | .dic _ _ _,v,d,r,e=>by simp [toD] at e
theorem sF {K:PySem.W.Frag} {H:Hp} {M:aD}:∀ {us:List U} {vs:List V} {ds:List PyData},aH K H M us vs->fA us=some ds->fS K H ds vs
 | [],vs,ds,r,e=>by simp only [fA,Option.some.injEq] at e;subst e;simp only [fS];exact r.inv_nil
 | u :: us,vs,ds,r,e=>by
  obtain ⟨v,vs',rfl,a,b⟩:=r.inv_cons
  simp only [fA] at e
  cases e1:toD u with
  | none=>rw [e1] at e;simp at e
  | some d =>
   cases e2:fA us with
   | none=>rw [e1,e2] at e;simp at e
   | some ds' =>
    rw [e1,e2] at e;simp at e;subst e
    simp only [fS]
    exact ⟨v,vs',rfl,Er a e1,sF b e2⟩
end
theorem CI {K:PySem.W.Frag} {H:Hp} {M:aD} {u:U} {v:V} {d:PyData} (rm:RelM K H M) (r:aK K H M u v) (e:p9 M u=some d):fX K H d v:=by
 cases u with
 | ref a =>
  simp only [p9] at e
  split at e
  ·rename_i us hM
   cases e2:fA us with
   | none=>rw [e2] at e;simp at e
   | some ds =>
    rw [e2] at e;simp at e;subst e
    obtain ⟨vs,h1,rs⟩:=rm a _ hM
    cases r.ref
    simp only [fX]
    exact ⟨a,vs,rfl,.inl (.inl h1),sF rs e2⟩
  ·cases e
 | _=>exact Er r (by simpa only [p9] using e)
def Kh (neg:Bool):dQ:=fun x y M Q=>∃ d d',p9 M x=some d/\p9 M y=some d'/\d.canLay0=true/\d'.canLay0=true/\min d.depth d'.depth<=64/\Q (.bl (if neg then !PyData.eqv d d' else PyData.eqv d d')) M
theorem Ey {K:PySem.W.Frag} {neg:Bool}:dX K (K3 K neg) (Kh neg):=fun x y u w H M Q' rm ru rw h Q c=>by
 obtain ⟨d,d',e1,e2,c1,c2,hd,q⟩:=h
 exact ⟨d,d',CI rm ru e1,CI rm rw e2,c1,c2,hd,c.here rm eW q⟩
variable {D:Dat}
def kD:U->Bool
 | .non=>true
 | .bl _=>true
 | .int _=>true
 | .str _=>true
 | _=>false
def tK:U->U->Bool
 | .non,.non=>true
 | .bl a,.bl b=>a == b
 | .bl a,.int j=>(if a then 1 else 0) == j
 | .int i,.bl b=>i == (if b then 1 else 0)
 | .int i,.int j=>i == j
 | .str x,.str y=>x == y
 | _,_=>false
def items (M:aD):U->Option (List U)
 | .tup us=>some us
 | .lst us=>some us
 | .ref a=>match M a with
  | some (.lst us)=>some us
  | _=>none
 | _=>none
def xO (neg:Bool):dQ:=fun x y M Q=>match items M y with
 | some us=>kD x=true/\us.all kD=true/\Q (.bl (if neg then !us.any (fun u=>tK u x) else us.any (fun u=>tK u x))) M
 | none=>False
theorem BQ {K:PySem.W.Frag} {H:Hp} {M:aD} {u:U} {v:V} (r:aK K H M u v) (f:kD u=true):j8 v=true:=by
 cases u with
 | non=>cases r.non;rfl
 | bl b=>cases r.bl;rfl
 | int b=>cases r.int;rfl
 | str b=>cases r.str;rfl
 | _=>exact absurd (show false=true from f) Bool.false_ne_true
theorem NF {K:PySem.W.Frag} {H:Hp} {M:aD} {u w:U} {v x:V} (r:aK K H M u v) (r':aK K H M w x) (f:kD u=true) (f':kD w=true):qR v x=tK u w:=by
 cases u <;> (first | (cases r.non) | (cases r.bl) | (cases r.int) | (cases r.str) | exact absurd (show false=true from f) Bool.false_ne_true) <;> cases w <;>
  (first | (cases r'.non) | (cases r'.bl) | (cases r'.int) | (cases r'.str) | exact absurd (show false=true from f') Bool.false_ne_true) <;> rfl
theorem AR {K:PySem.W.Frag} {H:Hp} {M:aD}:∀ {us:List U} {vs:List V},aH K H M us vs->us.all kD=true->vs.all j8=true
 | [],vs,r,_=>by cases r.inv_nil;rfl
 | u :: us,vs,r,f=>by
  obtain ⟨v,vs',rfl,a,b⟩:=r.inv_cons
  rw [List.all_cons,Bool.and_eq_true] at f ⊢
  exact ⟨BQ a f.1,AR b f.2⟩
theorem Eh {K:PySem.W.Frag} {H:Hp} {M:aD} {w:U} {x:V} (r':aK K H M w x) (f':kD w=true):∀ {us:List U} {vs:List V},aH K H M us vs->us.all kD=true->Me x vs=us.any fun u=>tK u w
 | [],vs,r,_=>by cases r.inv_nil;rfl
 | u :: us,vs,r,f=>by
  obtain ⟨v,vs',rfl,a,b⟩:=r.inv_cons
  rw [List.all_cons,Bool.and_eq_true] at f
  have:=Eh r' f' b f.2
  unfold Me at this ⊢
  rw [List.any_cons,List.any_cons,this,NF a r' f.1 f']
theorem Ib {K:PySem.W.Frag} {H:Hp} {M:aD} {u:U} {v:V} {us:List U} (rm:RelM K H M) (r:aK K H M u v) (e:items M u=some us):∃ p xs,v=.ref p/\(dN K H p xs\/eY K H p xs)/\aH K H M us xs:=by
 cases u with
 | tup us'=>cases e;obtain ⟨a,vs,rfl,q,rs⟩:=r.tup;exact ⟨a,vs,rfl,.inr q,rs⟩
 | lst us'=>cases e;obtain ⟨a,vs,rfl,q,rs⟩:=r.lst;exact ⟨a,vs,rfl,.inl q,rs⟩
 | ref a =>
  simp only [items] at e
  split at e
  ·rename_i us' hM
   cases e
   obtain ⟨vs,h1,rs⟩:=rm a _ hM
   exact ⟨a,vs,r.ref,.inl (.inl (.inl h1)),rs⟩
  ·cases e
 | _=>cases e
theorem IY {K:PySem.W.Frag} {neg:Bool}:dX K (Ov K neg) (xO neg):=fun x y u w H M Q' rm ru rw h Q c=>by
 unfold xO at h
 split at h
 ·rename_i us e
  obtain ⟨f,fs,q⟩:=h
  obtain ⟨p,xs,rfl,hs,rs⟩:=Ib rm rw e
  refine ⟨p,xs,rfl,hs,BQ ru f,AR rs fs,?_⟩
  rw [Eh ru f rs fs]
  exact c.here rm eW q
 ·exact h.elim
theorem PX:m9 D .In (xO false):=⟨⟨_,fun X h=>h.K ▸ IB,IY⟩⟩
theorem Aa:m9 D .NotIn (xO true):=⟨⟨_,fun X h=>h.K ▸ Ds,IY⟩⟩
def tT (neg:Bool):dQ:=fun x y M Q=>match HD x y with
 | some b=>Q (.bl (if neg then !b else b)) M
 | none=>Kh neg x y M Q
theorem j6:m9 D .Eq (tT false):=⟨⟨_,fun X h=>h.K ▸ QE.or (Pw h.room),fun x y u w H M Q' rm ru rw h Q c=>by
 unfold tT at h
 split at h
 ·rename_i b e
  obtain ⟨h1,h2⟩:=Ej ru rw e
  exact .inl ⟨h1,c.here rm (by rw [h2];exact eW) h⟩
 ·exact .inr (Ey x y u w H M Q' rm ru rw h Q c)⟩⟩
theorem sO:m9 D .NotEq (tT true):=⟨⟨_,fun X h=>h.K ▸ QC.or (PL h.room),fun x y u w H M Q' rm ru rw h Q c=>by
 unfold tT at h
 split at h
 ·rename_i b e
  obtain ⟨h1,h2⟩:=Ej ru rw e
  exact .inl ⟨h1,c.here rm (by rw [h2];exact eW) h⟩
 ·exact .inr (Ey x y u w H M Q' rm ru rw h Q c)⟩⟩
end U2
namespace U2
open PySem PySem.Spec PyProof.Rows L2
structure Zp (z TI TO i1 i2:Addr) (f1 f2:List Addr):Prop where
 TIz:TI≠z
 TOz:TO≠z
 i1z:i1≠z
 i2z:i2≠z
 TITO:TI≠TO
 TIi1:TI≠i1
 TIi2:TI≠i2
 TOi1:TO≠i1
 TOi2:TO≠i2
 i12:i1≠i2
 zf1:z ∉ f1
 zf2:z ∉ f2
 Tf1:TO ∉ f1
 Tf2:TO ∉ f2
 if2:i1 ∉ f2
 if1:i2 ∉ f1
theorem Draws.same {prog:Program} {w:World} {A:Around} {it:Addr} {fp:List Addr} {n:Nat} {P:Nat->Value->Prop} {St:Nat->Heap->Prop} (D:Draws prog w A it fp n P St) {i:Nat} {h h':Heap} {c:Addr} (st:St i h) (sb:Heap.ExtBut c h h') (hc:c ∉ fp):St i h' :=
 D.frame _ _ _ st fun b hb o e=>sb b o (fun q=>hc (q ▸ hb)) e
section
variable {prog:Program} {w:World} {A:Around} {E:Value->Shared->Prop} {s:Shared} {z TI TO i1 i2:Addr} {f1 f2:List Addr} {n1 n2:Nat} {P1 P2:Nat->Value->Prop} {S1 S2:Nat->Heap->Prop} {i:Nat} {a b:Value}
theorem J7 (Z:Zp z TI TO i1 i2 f1 f2) (D1:Draws prog w A i1 f1 n1 P1 S1) (D2:Draws prog w A i2 f2 n2 P2 S2) {Q:Value->Shared->Prop}
  (hz:IsZip s.heap z TI TO .none) (hTI:IsPair s.heap TI (.ref i1) (.ref i2)) (hTO:IsPair s.heap TO a b) (h1:S1 i s.heap) (h2:S2 i s.heap) (l1:i < n1) (l2:i < n2)
  (hQ:∀ x y h' tk,P1 i x->P2 i y->IsZip h' z TI TO (rawInt s.heap.objs.size)->IsPair h' TO x y->S1 (i + 1) h'->S2 (i + 1) h'->IsPair h' s.heap.objs.size x y ->
   (∀ c o,c≠z->c≠TO->c≠i1->c≠i2->s.heap.get? c=some o->h'.get? c=some o)->Q (.ref s.heap.objs.size) { s with heap:=h',toks:=tk }) :
  wpAny (model prog w) A (Builtin.«zip.__next__» ⟨[.ref z],[]⟩) (fun fin s'=>∃ v,fin=.done (.ret v)/\Q v s') E s:=by
 show wpAny _ _ (field (.ref z) 2 >>= _) _ _ _
 refine wpAny_bind (wpAny_field hz rfl (x:=.bool false) rfl ?_)
 show wpAny _ _ (field (.ref z) 3 >>= _) _ _ _
 refine wpAny_bind (wpAny_field hz rfl (x:=.ref TI) rfl ?_)
 refine wpAny_bind (wpAny_seqItems hTI rfl ?_)
 show wpAny _ _ (Builtin.SmallTypes.ownedTupleIsFree (.ref z) >>= _) _ _ _
 refine wpAny_bind ?_
 unfold Builtin.SmallTypes.ownedTupleIsFree
 refine wpAny_bind (wpAny_field hz rfl (x:=.none) rfl (wpAny_pure ?_))
 simp only [if_true]
 refine wpAny_bind (wpAny_rule ?_)
 refine wpAny_bind (wpAny_field hz rfl (x:=.ref TO) rfl ?_)
 refine wpAny_bind (wpAny_setField_rec hz (by simp) fun g1 hz1 hs1=>?_)
 replace hz1:IsZip g1 z TI TO .ellipsis:=hz1
 refine wpAny_bind ?_
 simp only [List.zipIdx_cons,List.zipIdx_nil,List.forIn_cons,List.forIn_nil]
 refine wpAny_bind (wpAny_bind (wpAny_onRaise ?_))
 show wpAny _ _ (Builtin.SmallTypes.nextOf (.ref i1) >>= _) _ _ _
 refine wpAny_bind (D1.item i _ _ _ l1 (Draws.same D1 h1 hs1.extBut Z.zf1) fun x g2 tk2 px dH hs2=>wpAny_pure ?_)
 have hTO2:IsPair g2 TO a b:=hs2.extBut _ _ Z.TOi1 (hs1.extBut _ _ Z.TOz hTO)
 refine wpAny_bind (wpAny_seqItems hTO2 rfl ?_)
 refine wpAny_bind (wpAny_updateSeq_pair hTO2 fun g3 hTO3 hs3=>?_)
 replace hTO3:IsPair g3 TO x b:=hTO3
 refine wpAny_bind (wpAny_letGo (wpAny_pure ?_))
 refine wpAny_bind (wpAny_bind (wpAny_onRaise ?_))
 show wpAny _ _ (Builtin.SmallTypes.nextOf (.ref i2) >>= _) _ _ _
 refine wpAny_bind (D2.item i _ _ _ l2 (Draws.same D2 (Draws.same D2 (Draws.same D2 h2 hs1.extBut Z.zf2) hs2.extBut Z.if2) hs3.extBut Z.Tf2) fun y g4 tk4 py st4 hs4=>wpAny_pure ?_)
 have hTO4:IsPair g4 TO x b:=hs4.extBut _ _ Z.TOi2 hTO3
 refine wpAny_bind (wpAny_seqItems hTO4 rfl ?_)
 refine wpAny_bind (wpAny_updateSeq_pair hTO4 fun g5 hTO5 hs5=>?_)
 replace hTO5:IsPair g5 TO x y:=hTO5
 refine wpAny_bind (wpAny_letGo (wpAny_pure (wpAny_pure ?_)))
 refine wpAny_bind (wpAny_seqItems hTO5 rfl ?_)
 refine wpAny_bind (wpAny_newTuple ?_)
 have hsz:g5.objs.size=s.heap.objs.size:=by rw [hs5.1,hs4.1,hs3.1,hs2.1,hs1.1]
 have hz5:IsZip g5 z TI TO .ellipsis:=hs5.extBut _ _ Z.TOz.symm (hs4.extBut _ _ Z.i2z.symm (hs3.extBut _ _ Z.TOz.symm (hs2.extBut _ _ Z.i1z.symm hz1)))
 have hk5:∀ c o,c≠z->c≠TO->c≠i1->c≠i2->s.heap.get? c=some o->g5.get? c=some o:=fun c o c1 c2 c3 c4 e =>
  hs5.extBut _ _ c2 (hs4.extBut _ _ c4 (hs3.extBut _ _ c2 (hs2.extBut _ _ c3 (hs1.extBut _ _ c1 e))))
 have h15:S1 (i + 1) g5:=Draws.same D1 (Draws.same D1 (Draws.same D1 dH hs3.extBut Z.Tf1) hs4.extBut Z.if1) hs5.extBut Z.Tf1
 have h25:S2 (i + 1) g5:=Draws.same D2 st4 hs5.extBut Z.Tf2
 have hzlt:z < g5.objs.size:=Heap.lt_size hz5
 show wpAny _ _ (Builtin.SmallTypes.ownedTupleHandOut (.ref z) (.ref g5.objs.size) >>= _) _ _ _
 refine wpAny_bind ?_
 unfold Builtin.SmallTypes.ownedTupleHandOut
 have hz6:IsZip (g5.push { cls:=.type "tuple",data:=.seq #[x,y] }) z TI TO .ellipsis:=Heap.get?_push_of_some _ hz5
 refine wpAny_bind (wpAny_setField_rec hz6 (by simp) fun g7 hz7 hs7=>?_)
 replace hz7:IsZip g7 z TI TO (rawInt g5.objs.size):=hz7
 refine wpAny_setField_rec hz7 (by simp) fun g8 hz8 hs8=>?_
 replace hz8:IsZip g8 z TI TO (rawInt g5.objs.size):=hz8
 have up:∀ c o,c≠z->g5.get? c=some o->g8.get? c=some o:=fun c o c1 e=>hs8.extBut _ _ c1 (hs7.extBut _ _ c1 (Heap.get?_push_of_some _ e))
 have hT8:IsPair g8 g5.objs.size x y:=hs8.extBut _ _ (Nat.ne_of_gt hzlt) (hs7.extBut _ _ (Nat.ne_of_gt hzlt) (Heap.get?_push_size _ rfl))
 rw [hsz] at hz8 hT8
 refine wpAny_pure ⟨_,rfl,?_⟩
 show Q (.ref g5.objs.size) _
 rw [hsz]
 exact hQ x y g8 _ px py hz8 (up _ _ Z.TOz hTO5) (D1.frame _ _ _ h15 fun b hb o e=>up b o (fun q=>Z.zf1 (q ▸ hb)) e) (D2.frame _ _ _ h25 fun b hb o e=>up b o (fun q=>Z.zf2 (q ▸ hb)) e) hT8 fun c o c1 c2 c3 c4 e=>up c o c1 (hk5 c o c1 c2 c3 c4 e)
theorem Mn (Z:Zp z TI TO i1 i2 f1 f2) (D1:Draws prog w A i1 f1 n1 P1 S1) (D2:Draws prog w A i2 f2 n2 P2 S2) {Q:Fin->Shared->Prop}
  (hz:IsZip s.heap z TI TO .none) (hTI:IsPair s.heap TI (.ref i1) (.ref i2)) (hTO:IsPair s.heap TO a b) (h1:S1 i s.heap) (h2:S2 i s.heap) (l1:i<=n1) (hi:i=min n1 n2)
  (hE:∀ h' e tk,(∀ c o,c≠z->c≠TO->c≠i1->c≠i2->s.heap.get? c=some o->h'.get? c=some o)->(∃ o,h'.get? e=some o/\o.cls=.type "StopIteration")->E (.ref e) { s with heap:=h',toks:=tk }) :
  wpAny (model prog w) A (Builtin.«zip.__next__» ⟨[.ref z],[]⟩) Q E s:=by
 show wpAny _ _ (field (.ref z) 2 >>= _) _ _ _
 refine wpAny_bind (wpAny_field hz rfl (x:=.bool false) rfl ?_)
 show wpAny _ _ (field (.ref z) 3 >>= _) _ _ _
 refine wpAny_bind (wpAny_field hz rfl (x:=.ref TI) rfl ?_)
 refine wpAny_bind (wpAny_seqItems hTI rfl ?_)
 show wpAny _ _ (Builtin.SmallTypes.ownedTupleIsFree (.ref z) >>= _) _ _ _
 refine wpAny_bind ?_
 unfold Builtin.SmallTypes.ownedTupleIsFree
 refine wpAny_bind (wpAny_field hz rfl (x:=.none) rfl (wpAny_pure ?_))
 simp only [if_true]
 refine wpAny_bind (wpAny_rule ?_)
 refine wpAny_bind (wpAny_field hz rfl (x:=.ref TO) rfl ?_)
 refine wpAny_bind (wpAny_setField_rec hz (by simp) fun g1 hz1 hs1=>?_)
 replace hz1:IsZip g1 z TI TO .ellipsis:=hz1
 refine wpAny_bind ?_
 simp only [List.zipIdx_cons,List.zipIdx_nil,List.forIn_cons,List.forIn_nil]
 refine wpAny_bind (wpAny_bind (wpAny_onRaise ?_))
 show wpAny _ _ (Builtin.SmallTypes.nextOf (.ref i1) >>= _) _ _ _
 have hA:S1 i g1:=Draws.same D1 h1 hs1.extBut Z.zf1
 by_cases hlt:i < n1
 ·have hn2:i=n2:=by omega
  refine wpAny_bind (D1.item i _ _ _ hlt hA fun x g2 tk2 px dH hs2=>wpAny_pure ?_)
  have hTO2:IsPair g2 TO a b:=hs2.extBut _ _ Z.TOi1 (hs1.extBut _ _ Z.TOz hTO)
  refine wpAny_bind (wpAny_seqItems hTO2 rfl ?_)
  refine wpAny_bind (wpAny_updateSeq_pair hTO2 fun g3 hTO3 hs3=>?_)
  refine wpAny_bind (wpAny_letGo (wpAny_pure ?_))
  refine wpAny_bind (wpAny_bind (wpAny_onRaise ?_))
  show wpAny _ _ (Builtin.SmallTypes.nextOf (.ref i2) >>= _) _ _ _
  refine wpAny_bind (D2.done _ _ _ (hn2 ▸ Draws.same D2 (Draws.same D2 (Draws.same D2 h2 hs1.extBut Z.zf2) hs2.extBut Z.if2) hs3.extBut Z.Tf2) fun g4 e hs4 he=>?_)
  obtain ⟨oe,hoe,hce⟩:=he
  have hz4:IsZip g4 z TI TO .ellipsis:=hs4 _ _ Z.i2z.symm (hs3.extBut _ _ Z.TOz.symm (hs2.extBut _ _ Z.i1z.symm hz1))
  have hez:e≠z:=fun x=>by subst x;rw [hz4] at hoe;cases hoe;simp at hce
  exact wpAny_setField_rec hz4 (by simp) fun g5 _ hs5=>hE g5 e _ (fun c o c1 c2 c3 c4 x=>hs5.extBut _ _ c1 (hs4 _ _ c4 (hs3.extBut _ _ c2 (hs2.extBut _ _ c3 (hs1.extBut _ _ c1 x))))) ⟨oe,hs5.extBut _ _ hez hoe,hce⟩
 ·have hn1:i=n1:=by omega
  refine wpAny_bind (D1.done _ _ _ (hn1 ▸ hA) fun g2 e hs2 he=>?_)
  obtain ⟨oe,hoe,hce⟩:=he
  have hz2:IsZip g2 z TI TO .ellipsis:=hs2 _ _ Z.i1z.symm hz1
  have hez:e≠z:=fun x=>by subst x;rw [hz2] at hoe;cases hoe;simp at hce
  exact wpAny_setField_rec hz2 (by simp) fun g3 _ hs3=>hE g3 e _ (fun c o c1 _ c3 _ x=>hs3.extBut _ _ c1 (hs2 _ _ c3 (hs1.extBut _ _ c1 x))) ⟨oe,hs3.extBut _ _ hez hoe,hce⟩
theorem Bu (Z:Zp z TI TO i1 i2 f1 f2) (D1:Draws prog w A.in1 i1 f1 n1 P1 S1) (D2:Draws prog w A.in1 i2 f2 n2 P2 S2) {Q:Option Value->Shared->Prop}
  (hz:IsZip s.heap z TI TO .none) (hTI:IsPair s.heap TI (.ref i1) (.ref i2)) (hTO:IsPair s.heap TO a b) (h1:S1 i s.heap) (h2:S2 i s.heap) (l1:i < n1) (l2:i < n2)
  (hQ:∀ x y h' tk,P1 i x->P2 i y->IsZip h' z TI TO (rawInt s.heap.objs.size)->IsPair h' TO x y->S1 (i + 1) h'->S2 (i + 1) h'->IsPair h' s.heap.objs.size x y ->
   (∀ c o,c≠z->c≠TO->c≠i1->c≠i2->s.heap.get? c=some o->h'.get? c=some o)->Q (some (.ref s.heap.objs.size)) { s with heap:=h',toks:=tk }) :
  wpAny (model prog w) A (pyNext (.ref z)) Q E s:=by
 have hT:s.TypeIs (.ref z) "zip":=⟨_,hz,rfl⟩
 unfold pyNext
 exact wpAny_bind (wpAny_attempt (wpAny_callSpecial?_slot (name:=Str.ofString "__next__") hT PySem.F.slot_zip_next
  (wpAny_call_entry PySem.F.slot_zip_next hT PySem.F.entry_zip_next
   (J7 Z D1 D2 hz hTI hTO h1 h2 l1 l2 fun x y h' tk a1 a2 a3 a4 a5 a6 a7 a8=>wpAny_pure (hQ x y h' tk a1 a2 a3 a4 a5 a6 a7 a8)) (PySem.F.args_zip_next_1 _))))
theorem C5 (Z:Zp z TI TO i1 i2 f1 f2) (D1:Draws prog w A.in1 i1 f1 n1 P1 S1) (D2:Draws prog w A.in1 i2 f2 n2 P2 S2) {Q:Option Value->Shared->Prop}
  (hz:IsZip s.heap z TI TO .none) (hTI:IsPair s.heap TI (.ref i1) (.ref i2)) (hTO:IsPair s.heap TO a b) (h1:S1 i s.heap) (h2:S2 i s.heap) (l1:i<=n1) (hi:i=min n1 n2)
  (hQ:∀ h' tk,(∀ c o,c≠z->c≠TO->c≠i1->c≠i2->s.heap.get? c=some o->h'.get? c=some o)->Q none { s with heap:=h',toks:=tk }):wpAny (model prog w) A (pyNext (.ref z)) Q E s:=by
 have hT:s.TypeIs (.ref z) "zip":=⟨_,hz,rfl⟩
 unfold pyNext
 refine wpAny_bind (wpAny_attempt (wpAny_callSpecial?_slot (name:=Str.ofString "__next__") hT PySem.F.slot_zip_next
  (wpAny_call_entry PySem.F.slot_zip_next hT PySem.F.entry_zip_next (Mn Z D1 D2 hz hTI hTO h1 h2 l1 hi fun h' e tk hk he=>?_) (PySem.F.args_zip_next_1 _))))
 obtain ⟨o,ho,hc⟩:=he
 refine wpAny_bind (wpAny_isInstance (T:="StopIteration") (b:=true) ⟨o,ho,hc⟩ isSubtype_stop ?_)
 exact wpAny_pure (hQ _ _ hk)
end
def PQ (f g:Bool) (K:PySem.W.Frag) (a c:Addr):It :=
  ⟨fun i H=>∃ xs ys x y,nK f K H a xs/\nK g K H c ys/\xs[i]?=some x/\ys[i]?=some y,
   fun i H v H'=>∃ p x y,(∀ xs,nK f K H a xs->xs[i]?=some x)/\(∀ ys,nK g K H c ys->ys[i]?=some y)/\H p=none/\v=.ref p/\H'=upd H p (.tup [x,y]),
   fun i H=>∃ xs ys,nK f K H a xs/\nK g K H c ys/\i=min xs.length ys.length⟩
theorem L7 {f g:Bool} {h:Heap} {z TI TO i1 i2 a c:Addr} {f0 u v:Value} {k1 k2:Nat} {xs ys:Array Value} (hz:IsZip h z TI TO f0) (q:TI≠TO/\i1≠i2/\TO≠a/\TO≠c) (hTI:IsPair h TI (.ref i1) (.ref i2)) (hTO:IsPair h TO u v)
  (h1:lV f h i1 a k1) (h2:lV g h i2 c k2) (ha:kF f h a xs) (hc:kF g h c ys):Zp z TI TO i1 i2 [i1,a] [i2,c]:=by
 have iz:=fun {r:Bool} {i x:Addr} {k:Nat} (p:lV r h i x k)=>let ⟨_,e,c,_⟩:=p.obj;kY e hz c rfl (by cases r <;> decide)
 have az:=fun {r:Bool} {x:Addr} {xs:Array Value} (p:kF r h x xs)=>let ⟨_,_,e,c,_⟩:=p.obj;kY e hz c rfl (by cases r <;> decide)
 have ti:=fun {r:Bool} {i x t:Addr} {u v:Value} {k:Nat} (w:IsPair h t u v) (p:lV r h i x k)=>let ⟨_,e,c,_⟩:=p.obj;kY w e rfl c (by cases r <;> decide)
 refine ⟨kY hTI hz rfl rfl (by decide),kY hTO hz rfl rfl (by decide),iz h1,iz h2,q.1,ti hTI h1,ti hTI h2,ti hTO h1,ti hTO h2,q.2.1,?_,?_,?_,?_,?_,?_⟩ <;> simp only [List.mem_cons,List.not_mem_nil,or_false,not_or]
 ·exact ⟨(iz h1).symm,(az ha).symm⟩
 ·exact ⟨(iz h2).symm,(az hc).symm⟩
 ·exact ⟨ti hTO h1,q.2.2.1⟩
 ·exact ⟨ti hTO h2,q.2.2.2⟩
 ·exact ⟨q.2.1,(hc.ne h1).symm⟩
 ·exact ⟨q.2.1.symm,(ha.ne h2).symm⟩
theorem Jp {P:Program} {w:World} {K:PySem.W.Frag} {elts:List Expr} {kk:Nat} {pos:Pos} (f g:Bool) (a c z TI TO i1 i2:Addr) (q:TI≠TO/\i1≠i2/\TO≠a/\TO≠c) :
  Turn P w K (.Tuple elts kk pos) (PQ f g K a c) [z,TI,TO,i1,i2] z (fun i h=>IsZip h z TI TO .none/\IsPair h TI (.ref i1) (.ref i2)/\(∃ u v,IsPair h TO u v)/\lV f h i1 a i/\lV g h i2 c i) where
 mem:=by simp
 obj:=fun i h st b hb=>by
  obtain ⟨hz,hTI,⟨u,v,hTO⟩,h1,h2⟩:=st
  obtain ⟨o1,e1,c1,d1⟩:=h1.obj
  obtain ⟨o2,e2,c2,d2⟩:=h2.obj
  have:b=z\/b=TI\/b=TO\/b=i1\/b=i2:=by simpa using hb
  rcases this with rfl | rfl | rfl | rfl | rfl
  ·exact ⟨_,hz,fun v x=>by
    have x':Data.fields _=Data.cell v:=x
    cases x'⟩
  ·exact ⟨_,hTI,fun v x=>by
    have x':Data.seq _ _=Data.cell v:=x
    cases x'⟩
  ·exact ⟨_,hTO,fun v x=>by
    have x':Data.seq _ _=Data.cell v:=x
    cases x'⟩
  ·exact ⟨_,e1,fun v x=>by rw [d1] at x;cases x⟩
  ·exact ⟨_,e2,fun v x=>by rw [d2] at x;cases x⟩
 keep:=fun i h h' st k=>let ⟨hz,hTI,⟨u,v,hTO⟩,h1,h2⟩:=st
  ⟨k z (by simp) _ hz,k TI (by simp) _ hTI,⟨u,v,k TO (by simp) _ hTO⟩,h1.at fun o e=>k i1 (by simp) o e,h2.at fun o e=>k i2 (by simp) o e⟩
 item:=by
  intro X hP hw hK hc i pins s σ H E I hf st hg
  subst hP hw hK
  obtain ⟨hz,hTI,⟨u,v,hTO⟩,h1,h2⟩:=st
  obtain ⟨xs,ys,x,y,hqx,hqy,hx,hy⟩:=hg
  obtain ⟨its,rv,p,_⟩:=zJ I hqx
  obtain ⟨its',rv',p',_⟩:=zJ I hqy
  obtain ⟨x',hu,ru⟩:=rv.get hx
  obtain ⟨y',hu',ru'⟩:=rv'.get hy
  have Z:=L7 hz q hTI hTO h1 h2 p p'
  have n1:a≠i1:=p.ne h1
  have n2:c≠i2:=p'.ne h2
  have hd:X.A.in1.handled=none:=I.ok.hd hc
  have lt1:i < its.toArray.size:=by
   have:=(List.getElem?_eq_some_iff.mp hu).1
   simpa using this
  have lt2:i < its'.toArray.size:=by
   have:=(List.getElem?_eq_some_iff.mp hu').1
   simpa using this
  refine Bu Z (nX f hd i1 a n1 its.toArray) (nX g hd i2 c n2 its'.toArray) hz hTI hTO ⟨h1,p⟩ ⟨h2,p'⟩ lt1 lt2 fun x1 y1 h' tk px py hz' hTO' s1 s2 hT hk=>?_
  refine ⟨_,rfl,wpAny_letOwnedTupleGo_zip (s:={ s with heap:=h',toks:=tk }) hz' fun h'' hz'' hs''=>?_⟩
  have ex:x1=x':=by
   have h3:its[i]?=some x1:=by simpa using px
   rw [hu] at h3;exact (Option.some.inj h3).symm
  have ey:y1=y':=by
   have h3:its'[i]?=some y1:=by simpa using py
   rw [hu'] at h3;exact (Option.some.inj h3).symm
  subst ex ey
  have lt:∀ {b o},s.heap.get? b=some o->s.heap.objs.size≠b:=fun e=>Nat.ne_of_gt (Heap.lt_size e)
  have hTT:h''.IsTuple s.heap.objs.size #[x1,y1]:=⟨_,hs''.extBut _ _ (lt hz) hT,rfl,_,rfl⟩
  refine ⟨.ref s.heap.objs.size,upd H s.heap.objs.size (.tup [x,y]),l9 (s:=s) (h':=h'') (tk:=tk) (ch:=[z,TI,TO,i1,i2]) I hf (fun b o hb e=>?_) (Nat.le_refl _) ⟨by show 2<=sizeLine;decide,[x1,y1],.cons ru (.cons ru' .nil),hTT⟩,rfl,
   ⟨s.heap.objs.size,x,y,fun zs hz=>by rw [<- OL I hqx hz];exact hx,fun zs hz=>by rw [<- OL I hqy hz];exact hy,I.hok.fresh (Nat.le_refl _),rfl,rfl⟩,⟨hz'',?_,?_,?_,?_⟩,fun b hb=>?_⟩
  ·have hb':¬ (b=z\/b=TI\/b=TO\/b=i1\/b=i2):=by simpa using hb
   simp only [not_or] at hb'
   exact hs''.extBut _ _ hb'.1 (hk b o hb'.1 hb'.2.2.1 hb'.2.2.2.1 hb'.2.2.2.2 e)
  ·exact hs''.extBut _ _ Z.TIz (hk _ _ Z.TIz Z.TITO Z.TIi1 Z.TIi2 hTI)
  ·exact ⟨_,_,hs''.extBut _ _ Z.TOz hTO'⟩
  ·exact s1.1.at fun o e=>hs''.extBut _ _ Z.i1z e
  ·exact s2.1.at fun o e=>hs''.extBut _ _ Z.i2z e
  ·rw [bF (fun e=>?_)]
   ·exact (hf b hb).1
   ·have:b=z\/b=TI\/b=TO\/b=i1\/b=i2:=by simpa using hb
    obtain ⟨o1,e1,_⟩:=h1.obj
    obtain ⟨o2,e2,_⟩:=h2.obj
    rcases this with rfl | rfl | rfl | rfl | rfl
    ·exact lt hz e.symm
    ·exact lt hTI e.symm
    ·exact lt hTO e.symm
    ·exact lt e1 e.symm
    ·exact lt e2 e.symm
 done:=by
  intro X hP hw hK hc i pins s σ H E I hf st hg
  subst hP hw hK
  obtain ⟨hz,hTI,⟨u,v,hTO⟩,h1,h2⟩:=st
  obtain ⟨xs,ys,hqx,hqy,hi⟩:=hg
  obtain ⟨its,rv,p,_⟩:=zJ I hqx
  obtain ⟨its',rv',p',_⟩:=zJ I hqy
  have Z:=L7 hz q hTI hTO h1 h2 p p'
  have n1:a≠i1:=p.ne h1
  have n2:c≠i2:=p'.ne h2
  have hd:X.A.in1.handled=none:=I.ok.hd hc
  have hi':i=min its.toArray.size its'.toArray.size:=by rw [List.size_toArray,List.size_toArray,<- rv.length,<- rv'.length];exact hi
  refine C5 Z (nX f hd i1 a n1 its.toArray) (nX g hd i2 c n2 its'.toArray) hz hTI hTO ⟨h1,p⟩ ⟨h2,p'⟩ (by omega) hi' fun h' tk hk=>⟨rfl,?_⟩
  have kk:∀ b o,b ∉ [z,TI,TO,i1,i2]->s.heap.get? b=some o->h'.get? b=some o:=fun b o hb e=>by
   have hb':¬ (b=z\/b=TI\/b=TO\/b=i1\/b=i2):=by simpa using hb
   simp only [not_or] at hb'
   exact hk b o hb'.1 hb'.2.2.1 hb'.2.2.2.1 hb'.2.2.2.2 e
  have:=I.call' (ch:=[z,TI,TO,i1,i2]) (H':=H) (s':={ s with heap:=h',toks:=tk }) rfl ⟨fun b u q n hb hx=>kk b u hx q,fun b u q n hb hx=>⟨u.slots,kk b u hx q⟩,fun b u q n hx=>n,fun b u q hx=>⟨u,kk b u hx q⟩,fun b xs q=>q,fun b u xs q=>q,fun b ps q=>⟨#[],by rw [q];simp⟩⟩
   (fun a u e'=>?_) I.bare fun b hb=>⟨(hf b hb).2.2.2.1,(hf b hb).2.1,(hf b hb).2.2.2.2.1,(hf b hb).2.2.2.2.2⟩
  ·exact this
  ·refine (I.hok a u e').stay (fun b z hb q=>kk b z (fun hc=>?_) q) (fun _ q=>q) fun _ _ q=>q
   have hnone:=(hf b hc).1
   rcases hb with rfl | hb
   ·rw [hnone] at e';cases e'
   ·rw [hnone] at hb;cases hb
 self:=fun _ _ _ _ _ st h=>wpAny_pyIter_zip st.1 h
abbrev Mc (f:Bool) (h:Heap) (a:Addr):Heap:=h.push { cls:=.type (tL f),data:=.fields #[.ref a,.int 0 0] }
abbrev LJ (f g:Bool) (h:Heap) (a c:Addr):Heap:=(Mc f h a).push { cls:=.type (tL g),data:=.fields #[.ref c,.int 0 0] }
abbrev LI (f g:Bool) (h:Heap) (a c:Addr):Heap:=(LJ f g h a c).push { cls:=.type "tuple",data:=.seq #[.ref h.objs.size,.ref (Mc f h a).objs.size] }
abbrev LR (f g:Bool) (h:Heap) (a c:Addr):Heap:=(LI f g h a c).push { cls:=.type "tuple",data:=.seq #[.none,.none] }
abbrev EM (f g:Bool) (h:Heap) (a c:Addr):Heap:=(LR f g h a c).push { cls:=.type "zip",data:=.fields #[.none,.bool false,.bool false,.ref (LJ f g h a c).objs.size,.ref (LI f g h a c).objs.size] }
theorem kF.push {f:Bool} {h:Heap} {a:Addr} {xs:Array Value} (p:kF f h a xs) (o:Obj):kF f (h.push o) a xs:=by
 obtain ⟨o',n,e,c,d⟩:=p.obj
 cases f <;> exact ⟨o',Heap.get?_push_of_some _ e,c,n,d⟩
theorem GY {prog:Program} {w:World} {A:Around} {E:Value->Shared->Prop} {s:Shared} {f:Bool} {l:Addr} {items:Array Value} {Q:Value->Shared->Prop} (hl:kF f s.heap l items)
  (hQ:Q (.ref s.heap.objs.size) { s with heap:=s.heap.push { cls:=.type (tL f),data:=.fields #[.ref l,.int 0 0] } }):wpAny (model prog w) A (pyIter (.ref l)) Q E s:=by
 cases f
 ·exact wpAny_pyIter_tuple hl hQ
 ·exact wpAny_pyIter_list hl hQ
theorem Ft (f g:Bool) (a c:Addr) (xs ys:Array Value) :
  Meets (Builtin.«zip.__new__» ⟨[.type "zip",.ref a,.ref c],[]⟩) (fun _ R s=>kF f s.heap a xs/\kF g s.heap c ys /\
   R (.ok (.ret (.ref (LR f g s.heap a c).objs.size))) { s with heap:=EM f g s.heap a c }) :=
 .of_wp fun prog w A R s h=>by
  obtain ⟨hp,g',d,tk,os⟩:=s;obtain ⟨h1,h2,h⟩:=h
  have hsub:=sub_zip
  have hL1:kF f (Shared.heap ⟨hp,g',d,tk,os⟩) a xs:=h1
  have hL2:kF g (Shared.heap ⟨hp.push { cls:=.type (tL f),data:=.fields #[.ref a,.int 0 0] },g',d,tk,os⟩) c ys:=h2.push _
  wp_walk using GY hL1,GY hL2
  exact ⟨_,rfl,h⟩
theorem HG {f g:Bool} {prog:Program} {w:World} {A:Around} {E:Value->Shared->Prop} {s:Shared} {a c:Addr} {xs ys:Array Value} {Q:Value->Shared->Prop} (h1:kF f s.heap a xs) (h2:kF g s.heap c ys)
  (h:∀ h',IsZip h' (s.heap.objs.size + 4) (s.heap.objs.size + 2) (s.heap.objs.size + 3) .none->IsPair h' (s.heap.objs.size + 2) (.ref s.heap.objs.size) (.ref (s.heap.objs.size + 1)) ->
   IsPair h' (s.heap.objs.size + 3) .none .none->lV f h' s.heap.objs.size a 0->lV g h' (s.heap.objs.size + 1) c 0 ->
   (∀ b o,s.heap.get? b=some o->h'.get? b=some o)->Q (.ref (s.heap.objs.size + 4)) { s with heap:=h' }) :
  wpAny (model prog w) A (call (.type "zip") [.ref a,.ref c]) Q E s:=by
 refine callType_new PySem.F.called_zip (by decide) (PySem.F.typeCall_zip_2 _ _) (PySem.F.newCall_zip_2 _ _) (fun obj=>PySem.F.args_object_init_3 obj _ _) PySem.F.entry_zip_new
  (Ft f g a c xs ys) ⟨h1,h2,?_⟩
 have z1:(Mc f s.heap a).objs.size=s.heap.objs.size + 1:=Heap.size_push ..
 have z2:(LJ f g s.heap a c).objs.size=s.heap.objs.size + 2:=by rw [Heap.size_push,z1]
 have z3:(LI f g s.heap a c).objs.size=s.heap.objs.size + 3:=by rw [Heap.size_push,z2]
 have z4:(LR f g s.heap a c).objs.size=s.heap.objs.size + 4:=by rw [Heap.size_push,z3]
 have g5:(EM f g s.heap a c).get? (LR f g s.heap a c).objs.size=some _:=Heap.get?_push_size _ rfl
 have g4:(EM f g s.heap a c).get? (LI f g s.heap a c).objs.size=some _:=Heap.get?_push_of_some _ (Heap.get?_push_size _ rfl)
 have g3:(EM f g s.heap a c).get? (LJ f g s.heap a c).objs.size=some _:=Heap.get?_push_of_some _ (Heap.get?_push_of_some _ (Heap.get?_push_size _ rfl))
 have g2:(EM f g s.heap a c).get? (Mc f s.heap a).objs.size=some _:=Heap.get?_push_of_some _ (Heap.get?_push_of_some _ (Heap.get?_push_of_some _ (Heap.get?_push_size _ rfl)))
 have g1:(EM f g s.heap a c).get? s.heap.objs.size=some _:=Heap.get?_push_of_some _ (Heap.get?_push_of_some _ (Heap.get?_push_of_some _ (Heap.get?_push_of_some _ (Heap.get?_push_size _ rfl))))
 show _/\_
 rw [z2,z3,z4] at g5
 rw [z1,z2] at g3
 rw [z3] at g4
 rw [z1] at g2
 rw [z4]
 exact ⟨⟨_,g5,rfl⟩,h _ g5 g3 g4 (.of g1 rfl rfl) (.of g2 rfl rfl) fun b o x =>
  Heap.get?_push_of_some _ (Heap.get?_push_of_some _ (Heap.get?_push_of_some _ (Heap.get?_push_of_some _ (Heap.get?_push_of_some _ x))))⟩
def PB (f g:Bool) (K:PySem.W.Frag) (ta:TA):TI:=fun σ H R=>ta σ H fun vs H1=>∃ a c,vs=[.ref a,.ref c]/\(∃ xs,nK f K H1 a xs)/\(∃ ys,nK g K H1 c ys)/\R (PQ f g K a c) H1
theorem P0 {f g:Bool} {X:Cx} {elts:List Expr} {kk:Nat} {tpos:Pos} {a b:Expr} {ta:TA} {p pos:Pos} (hg:Gl X "zip") (hm:X.mg "zip"=none) (ha:PA X [a,b] ta) (hs:starEach [a,b] X.env=[(false,eval a X.env),(false,eval b X.env)]) (hs2:starEach [b] X.env=[(false,eval b X.env)]) :
  PI X (.Tuple elts kk tpos) (.Call (.Name "zip" p) [a,b] [] pos) (PB f g X.K ta):=by
 intro pins s σ H R I h
 refine Call_ (nD I hg hm boot_zip (PyProof.Rows.callWith_type1 (bC (ha pos pins s σ H _ I h) fun us s1 ⟨vs,H1,I1,r1,q1⟩=>?_) (by rw [hs,hs2]) (by rw [hs2];rfl)))
 obtain ⟨a,c,e,⟨xs,hq⟩,⟨ys,hq'⟩,q⟩:=q1
 subst e
 cases r1 with
 | cons r rr =>
  cases rr with
  | cons r' rr =>
   cases rr
   cases r
   cases r'
   obtain ⟨its,rv,p,hz⟩:=zJ I1 hq
   obtain ⟨its',rv',p',hz'⟩:=zJ I1 hq'
   have la:a < s1.heap.objs.size:=by obtain ⟨_,_,e,_⟩:=p.obj;exact Heap.lt_size e
   have lc:c < s1.heap.objs.size:=by obtain ⟨_,_,e,_⟩:=p'.obj;exact Heap.lt_size e
   refine HG p p' fun h' hz hTI hTO h1 h2 hk=>?_
   refine wpAny_pyIter_zip (s:={ s1 with heap:=h' }) hz ?_
   have I2:L2.Inv X pins σ H1 { s1 with heap:=h',toks:=s1.toks }:=I1.kept hk
   refine ⟨_,_,_,_,H1,rfl,I2,Jp f g a c (s1.heap.objs.size + 4) (s1.heap.objs.size + 2) (s1.heap.objs.size + 3) s1.heap.objs.size (s1.heap.objs.size + 1) ⟨Nat.ne_of_lt (Nat.lt_succ_self _),Nat.ne_of_lt (Nat.lt_succ_self _),Nat.ne_of_gt (Nat.lt_of_lt_of_le la (Nat.le_add_right _ _)),Nat.ne_of_gt (Nat.lt_of_lt_of_le lc (Nat.le_add_right _ _))⟩,⟨hz,hTI,⟨_,_,hTO⟩,h1,h2⟩,fun b hb=>?_,q⟩
   have le:s1.heap.objs.size<=b:=by
    have:b=s1.heap.objs.size + 4\/b=s1.heap.objs.size + 2\/b=s1.heap.objs.size + 3\/b=s1.heap.objs.size\/b=s1.heap.objs.size + 1:=by simpa using hb
    rcases this with e | e | e | e | e <;> rw [e]
    ·exact Nat.le_add_right _ _
    ·exact Nat.le_add_right _ _
    ·exact Nat.le_add_right _ _
    ·exact Nat.le_refl _
    ·exact Nat.le_add_right _ _
   exact I1.fpOk le (I1.hok.fresh le)
def fG:List U->List U->List U
 | u :: us,w :: ws=>.tup [u,w] :: fG us ws
 | _,_=>[]
theorem yR:∀ us ws:List U,(fG us ws).length=min us.length ws.length
 | [],ws=>by simp [fG]
 | _ :: _,[]=>by simp [fG]
 | u :: us,w :: ws=>by simp only [fG,List.length_cons,yR us ws];omega
theorem xQ:∀ {us ws:List U} {i:Nat} {x:U},(fG us ws)[i]?=some x->∃ u w,us[i]?=some u/\ws[i]?=some w/\x=.tup [u,w]
 | [],ws,i,x,h=>by simp [fG] at h
 | _ :: _,[],i,x,h=>by simp [fG] at h
 | u :: us,w :: ws,0,x,h=>by simp [fG] at h;exact ⟨u,w,rfl,rfl,h.symm⟩
 | u :: us,w :: ws,i + 1,x,h=>by
  simp only [fG,List.getElem?_cons_succ] at h ⊢
  exact xQ h
theorem Ju {f g:Bool} {K:PySem.W.Frag} {a c:Addr} {us ws:List U} {vs xs:List V} {H:Hp} {M:aD} (m:HU f K H M a vs) (m':HU g K H M c xs) (r:aH K H M us vs) (r':aH K H M ws xs):Walk K (PQ f g K a c) ⟨none,fG us ws⟩ H M:=by
 refine ⟨fun H1 M1 s rm _ i u e=>?_,fun H1 M1 s rm _=>⟨vs,xs,m _ _ s,m' _ _ s,by show (fG us ws).length=_;rw [yR,r.length,r'.length]⟩⟩
 obtain ⟨u,w,e1,e1',rfl⟩:=xQ e
 obtain ⟨v,e2,ru⟩:=r.get e1
 obtain ⟨x,e2',ru'⟩:=r'.get e1'
 refine ⟨⟨vs,xs,v,x,m _ _ s,m' _ _ s,e2,e2'⟩,fun y H2 y'=>?_⟩
 obtain ⟨p,v',x',y1,y2,hp,rfl,rfl⟩:=y'
 have:=y1 vs (m _ _ s)
 rw [e2] at this;cases this
 have:=y2 xs (m' _ _ s)
 rw [e2'] at this;cases this
 have st:=aP.laid (o:=.tup [v,x]) rm hp
 have rr:aH K H1 M1 [u,w] [v,x]:=by
  simp only [aH]
  exact ⟨_,_,rfl,ru.stp s,_,_,rfl,ru'.stp s,rfl⟩
 exact ⟨st,rm.laid hp,rG (rm.no hp) cG (rr.stp st)⟩
def xH (ta:UA):UI:=fun τ M R=>ta τ M fun us M1=>match us with
 | [.tup us,.tup ws]=>R ⟨none,fG us ws⟩ M1
 | _=>False
theorem My {K:PySem.W.Frag} {ta:TA} {ta':UA} (h:k8 K ta ta'):pZ K (PB false false K ta) (xH ta'):=fun σ τ H M R' rs rm q R c=>h σ τ H M _ rs rm q _ fun us vs M1 H1 s1 rm1 ru h1=>by
 split at h1
 ·obtain ⟨v,vs',rfl,a,b⟩:=ru.inv_cons
  obtain ⟨v2,rfl,a2⟩:=b.one
  simp only [aK] at a a2
  obtain ⟨a,vs,rfl,m,r⟩:=a
  obtain ⟨a',vs',rfl,m',r'⟩:=a2
  exact ⟨a,a',rfl,⟨vs,Je m _ _ (aP.refl _ _)⟩,⟨vs',Je m' _ _ (aP.refl _ _)⟩,c _ _ M1 H1 s1 rm1 (Ju (Je m) (Je m') r r') h1⟩
 ·exact h1.elim
theorem Om {D:Dat} {elts:List Expr} {kk:Nat} {tpos:Pos} {a b:Expr} {p pos:Pos} {ta:UA} (hm:D.mg "zip"=none) (ha:l4 D [a,b] ta) (hg:D.sc.names.lookup ("zip":Str)=some .globalImplicit:=by rfl) (hs:∀ env,starEach [a,b] env=[(false,eval a env),(false,eval b env)]:=by intro _;rfl) (hs2:∀ env,starEach [b] env=[(false,eval b env)]:=by intro _;rfl):uP D (.Tuple elts kk tpos) (.Call (.Name "zip" p) [a,b] [] pos) (xH ta):=by
 obtain ⟨_,q,s⟩:=ha
 exact ⟨_,fun X h=>h.K ▸ P0 (by show X.env.scope.names.lookup _=_;rw [h.sc];exact hg) (by rw [h.mg];exact hm) (q X h) (hs _) (hs2 _),My s⟩
def bG (ta:UA):UI:=fun τ M R=>ta τ M fun us M1=>match us with
 | [.tup us,.lst ws]=>R ⟨none,fG us ws⟩ M1
 | _=>False
end U2
namespace U2
open PySem PySem.Spec PyProof.Rows L2
theorem Bx (l:Addr) (items:Array Value) (n:Nat) (b:Addr) (items2:Array Value) (n2:Nat) (dd:Option Addr) (sl:Array (Option Value)) (hc0:¬(!items.isEmpty && Builtin.List.listTooLong (items.size + items2.size))=true) (hc1:items.size<=sizeLine) (hs2:items.size + items2.size<=sizeLine + 1) :
  Meets (Builtin.«list.extend» ⟨[.ref l,.ref b],[]⟩) (fun _ R s=>s.heap.get? l=some { cls:=.type "list",dict:=none,data:=.seq items n,slots:=#[] }/\s.heap.get? b=some { cls:=.type "list",dict:=dd,data:=.seq items2 n2,slots:=sl }/\R (.ok (.ret Value.none)) { s with heap:=s.heap.update l (Obj.mapSeq fun x=>x++items2),toks:=s.toks }) :=
 .of_wp fun prog w A R s h=>by
  obtain ⟨hp,g,d,tk,os⟩:=s;obtain ⟨hl,hb,h⟩:=h
  have f1:=PySem.AutoSeq1.idx_int;have f2:=PySem.AutoSeq1.sub_tuple_tuple;have f3:=PySem.AutoSeq1.sub_list_list;have f4:=PySem.AutoSeq1.sub_tuple_list;have f5:=PySem.AutoSeq1.sub_list_tuple
  have hz':(items++items2).size<=sizeLine + 1:=by rw [Array.size_append];exact hs2
  wp_walk using (wpAny_updateSeq hl rfl (hz:=hc1) (_hz':=hz')),wpAny_loadPart' hl,wpAny_loadPart' hb
  exact ⟨_,rfl,h⟩
theorem Gf {X:Cx}:LM X "list.extend" (BN X.K):=by
 intro pins s σ H x vs v us Q I rx rv h
 obtain ⟨l,b,xs,zs,rfl,rfl,hH,hB,hz,q⟩:=h
 cases rx
 obtain ⟨u,rfl,ru⟩:=rv.one
 cases ru
 obtain ⟨z,its,n,r,hl,e⟩:=I.lstM hH
 obtain ⟨its2,r2,⟨⟨oc,od,odt,osl⟩,n2,e2,hc,hd,hdt⟩,hl2⟩:=I.list hB
 have hc':oc=.type "list":=hc
 have hdt':odt=.seq its2.toArray n2:=hdt
 subst hc' hdt'
 have l2:=r2.length
 have hsz:its.toArray.size + its2.toArray.size<=sizeLine:=by rw [List.size_toArray,List.size_toArray];omega
 have hlong:¬ (!its.toArray.isEmpty && Builtin.List.listTooLong (its.toArray.size + its2.toArray.size))=true:=by
  rw [Dz hsz,Bool.and_false]
  exact Bool.false_ne_true
 refine call_meets PySem.F.slot_list_extend ⟨_,e,rfl⟩ PySem.F.entry_list_extend (PySem.F.args_list_extend_2 _ _)
  (Bx l its.toArray n b its2.toArray n2 od osl hlong (by rw [List.size_toArray];omega) (by omega)) ⟨e,e2,?_⟩
 refine ⟨.non,_,I.lset (its':=its++its2) hH e (by simp) (r.append r2) ?_,rfl,q⟩
 rw [List.length_append]
 omega
variable {D:Dat} {o e:Expr} {ta:UE} {tas:UA} {pos:Pos}
theorem uK {apos:Pos} (ho:bA D o ta) (ha:l4 D [e] tas) (hbase:∀ env,attributeBase o "extend" env (eval o env)=eval o env:=by intro _;rfl)
  (hfew:∀ env,((backTo pos (starEach [e] env)).all (fun x=>!x.1) && (backToKw pos (keywordEach [] env)).all (fun x=>x.1.isSome) && decide ([e].length + ([]:List Keyword).length + (if ([]:List Keyword).isEmpty then 0 else 1) < 30))=true:=by intro _;rfl)
  (hline:(apos.endLine == pos.line)=true:=by rfl) (hs:∀ env,starEach [e] env=[(false,eval e env)]:=by intro _;rfl):bA D (.Call (.Attribute o "extend" apos) [e] [] pos) (xP lM ta tas):=by
 obtain ⟨_,p,s⟩:=ho;obtain ⟨_,q,r⟩:=ha
 refine ⟨_,fun X h=>?_,Dh Gy s r⟩
 have:=FG (cpos:=pos) (apos:=apos) PySem.F.plainAttrs_list PySem.F.slot_list_extend PySem.F.type_list_extend Gf (p X h) (q X h) (hbase _) (hfew _) hline (hs _) (by rfl)
 rw [h.K] at this
 exact this
end U2
namespace U2
open PySem PySem.Spec PyProof.Rows L2
def intsOf:List U->Option (List Int)
 | []=>some []
 | .int i :: us=>(intsOf us).map (i :: ·)
 | _ :: _=>none
theorem lN {K:PySem.W.Frag} {H:Hp} {M:aD}:∀ {us:List U} {vs:List V} {xs:List Int},aH K H M us vs->intsOf us=some xs->vs=xs.map V.int
 | [],vs,xs,r,e=>by cases e;exact r.inv_nil
 | u :: us,vs,xs,r,e=>by
  obtain ⟨v,vs',rfl,a,b⟩:=r.inv_cons
  cases u with
  | int i =>
   simp only [intsOf] at e
   cases e2:intsOf us with
   | none=>rw [e2] at e;cases e
   | some ys=>rw [e2] at e;cases e;rw [a.int,lN b e2];rfl
  | _=>cases e
def wK:dQ:=fun x y M Q=>match x,y with
 | .int i,.int j=>Q (.bl (decide (i < j))) M
 | .tup us,.tup ws=>∃ xs ys,intsOf us=some xs/\intsOf ws=some ys/\Q (.bl (HT.lexLt xs ys)) M
 | _,_=>False
variable {D:Dat}
theorem BF:m9 D .Lt wK:=⟨⟨_,fun X h=>h.K ▸ Q6.or (PC h.room.units0),fun x y u w H M Q' rm ru rw h Q c=>by
 unfold wK at h
 split at h
 ·rename_i i j
  exact .inl (pO (f:=fun i j=>decide (i < j)) x y (.int i) (.int j) H M Q' rm ru rw h Q c)
 ·rename_i us ws
  obtain ⟨xs,ys,e1,e2,q⟩:=h
  obtain ⟨a,vs,rfl,s1,r1⟩:=ru.tup
  obtain ⟨a',vs',rfl,s2,r2⟩:=rw.tup
  cases lN r1 e1
  cases lN r2 e2
  exact .inr ⟨a,a',xs,ys,rfl,rfl,s1,s2,c.here rm eW q⟩
 ·exact h.elim⟩⟩
end U2
namespace U2
open PySem PySem.Spec PyProof.Rows L2
def N8:Int->List Int->Int
 | m,[]=>m
 | m,n :: ns=>N8 (if n > m then n else m) ns
section
variable {X:Cx}
theorem Ia (hc:X.calm=true):lZ X (.builtin "sum") (fun xs H Q=>∃ p ns,xs=[.ref p]/\dN X.K H p (ns.map V.int)/\PySem.SumFits ns/\Q (.int ns.sum) H):=by
 intro pins s σ H xs us Q I r h
 obtain ⟨p,ns,rfl,hq,hf,q⟩:=h
 obtain ⟨u,rfl,rx⟩:=vals1 r
 cases rx
 obtain ⟨its,r',pl,hz⟩:=I.list hq
 have hi:IntsAre its ns:=intsAre_of r'
 obtain ⟨ys,e⟩:=hi.allInts.items
 have hns:ns=ys.toList.map (·.1):=by
  rw [<- hi.numsOf,<- nums_intItems,<- e]
 have hl:=pl.isList
 rw [e] at hl
 subst hns
 refine sum_intList (I.ok.hd hc) hl (fun j hj=>?_) fun h' tk t' hk=>?_
 ·rw [numAt_eq,preSum_eq];exact hf j (by simpa using hj)
 ·refine ⟨.int _,H,I.kept hk,⟨t',?_⟩,q⟩
  rw [preSum_eq,List.take_of_length_le (by simp)]
def wJ:List U->aD->UK->Prop:=fun us M Q=>match us with
 | [x]=>match view M x with
  | .lst ws=>∃ ns,intsOf ws=some ns/\PySem.SumFits ns/\Q (.int ns.sum) M
  | _=>False
 | _=>False
theorem LC {D:Dat}:vS D (.builtin "sum") wJ:=⟨⟨_,fun X h=>by
  have:=(Ia (X:=X) h.calm);rw [h.K] at this;exact this,fun xs us H M Q' rm rus h Q c=>by
 unfold wJ at h
 split at h
 ·rename_i x
  obtain ⟨v,rfl,a1⟩:=rus.one
  split at h
  ·rename_i ws e
   obtain ⟨ns,e2,hf,q⟩:=h
   obtain ⟨b,zvs,rfl,s2,r2⟩:=dG rm a1 e
   rw [lN r2 e2] at s2
   exact ⟨b,ns,rfl,s2,hf,c.here rm eK q⟩
  ·exact h.elim
 ·exact h.elim⟩⟩
def CF:List U->aD->UK->Prop:=fun us M Q=>match us with
 | [.int i,.int j]=>Q (.int (if j > i then j else i)) M
 | [x]=>match view M x with
  | .lst ws=>∃ m ns,intsOf ws=some (m :: ns)/\Q (.int (N8 m ns)) M
  | _=>False
 | _=>False
end
end U2
namespace U2
open PySem PySem.Spec PyProof.Rows L2
section
variable {D:Dat} {a b c e o i:Expr} {ta tb tc te to ti:UE} {pos p:Pos} {es:List Expr} {tas:UA} {x:Str}
def aG (te to ti:UE):US:=fun D τ M=>te τ M fun v M1=>to τ M1 fun x M2=>ti τ M2 fun y M3=>match x,y with
 | .ref a,.int k=>match M3 a with
  | some (.lst us)=>∃ j,tM us.length k=some j/\D.nx τ (mup M3 a (.lst (us.set j v)))
  | _=>False
 | _,_=>False
theorem qJ {tpos:Pos} (he:bA D e te) (ho:bA D o to) (hi:bA D i ti) (hs:∀ env,swapsWithSole [.Subscript o i tpos] e pos.line env=pure false:=by intro _;rfl) (hw:∀ env,swappedStores [.Subscript o i tpos] e env=pure none:=by intro _;rfl)
  (h1:∀ env,(assignEach [.Subscript o i tpos] env).map (·.2)=[assign (.Subscript o i tpos) env]:=by intro _;rfl)
  (ha:∀ env v,assign (.Subscript o i tpos) env v=(do
   let ov <- holding [v] (eval o env)
   let iv <- holding [v,ov] (eval i env)
   standAt tpos
   holding [v,ov,iv] (setItem ov iv v)
   release [v,ov,iv] []):=by intro _ _;rfl):o4 D (.Assign [.Subscript o i tpos] e pos) (aG te to ti):=by
 obtain ⟨_,p1,s1⟩:=he;obtain ⟨_,p2,s2⟩:=ho;obtain ⟨_,p3,s3⟩:=hi
 refine ⟨_,fun X h=>G9 (p1 X h) (Oa (p2 X h) (p3 X h) set_list (ha _)) (hs _) (hw _) (h1 _),fun σ τ H M D' rs rm h EE d=>?_⟩
 refine s1 σ τ H M _ rs rm h _ fun v vv M1 H1 st1 rm1 rv h1=>?_
 refine s2 σ τ H1 M1 _ (rs.stp st1) rm1 h1 _ fun x vx M2 H2 dH rm2 rx h2=>?_
 refine s3 σ τ H2 M2 _ ((rs.stp st1).stp dH) rm2 h2 _ fun y vy M3 H3 st3 rm3 ry h3=>?_
 split at h3
 ·rename_i a k
  split at h3
  ·rename_i us e
   obtain ⟨j,hj,q⟩:=h3
   cases (rx.stp st3).ref
   cases ry.int
   obtain ⟨vs,hv,rus⟩:=rm3 a _ e
   have rv3:=(rv.stp dH).stp st3
   have st4:aP H3 M3 (upd H3 a (.lst (vs.set j vv))) (mup M3 a (.lst (us.set j v))):=aP.write e
   have rnew:RelM D.K (upd H3 a (.lst (vs.set j vv))) (mup M3 a (.lst (us.set j v))):=rm3.put st4 ⟨_,cG,(aH.set rv3 j rus).stp st4⟩
   refine ⟨a,vs,k,j,rfl,rfl,hv,by rw [<- rus.length];exact hj,?_⟩
   exact d.nx _ _ _ _ (((st1.trans dH).trans st3).trans st4) rnew ((((rs.stp st1).stp dH).stp st3).stp st4) q
  ·exact h3.elim
 ·exact h3.elim
def uM:U->List U->aD->UK->Prop:=fun x ws M Q=>match x,ws with
 | .ref a,[.int i]=>match M a with
  | some (.lst us)=>-(2 ^ 63)<=i/\i < 2 ^ 63/\∃ k y,seqIndex? i us.length=some k/\us[k]?=some y/\Q y (mup M a (.lst (us.eraseIdx k)))
  | _=>False
 | _,_=>False
def Df:List U->aD->UK->Prop:=fun us M Q=>match us with
 | [.int i]=>Q (.int i) M
 | [.bl k]=>Q (.int (if k then 1 else 0)) M
 | _=>False
def nO (i j:Int):Prop:=K9 i j\/(Builtin.Int.intBits i<=60000000/\Builtin.Int.intBits j<=60000000)
theorem nO.ok {i j:Int} (h:nO i j):IntMulOk i j:=by
 rcases h with h | ⟨h1,h2⟩
 ·exact h.ok
 ·exact IntMulOk.of_le h1 h2 (by decide)
theorem NY {X:Cx}:dI X (binaryOp .Mult) (rI nO fun i j=>.int (i * j)):=Mb fun _ _ _ _ _ _ _ hc q=>mul_int q hc.ok
def uH (z:Str) (n:Int):Str:=if n < 1 then Str.empty else if (n == 1 || z.length == 0)=true then z else ⟨(List.replicate n.toNat z.cps).foldl (·++·) #[]⟩
theorem Nt {X:Cx}:dI X (binaryOp .Mult) (fun x y H Q=>∃ z n,x=.str z/\y=.int n/\-(2 ^ 63)<=n/\n < 2 ^ 20/\z.length<=2 ^ 20/\z.length * n.toNat<=100000/\Q (.str (uH z n)) H):=by
 intro pins s σ H x y v u Q I rx ry h
 obtain ⟨z,n,rfl,rfl,h1,h2,h3,h4,q⟩:=h
 obtain ⟨t,rfl⟩:=rx
 obtain ⟨t',rfl⟩:=ry
 have e1:(decide (n < -(2 ^ 63:Int)) || decide (n ≥ 2 ^ 63))=false:=by
  rw [decide_eq_false (by omega),decide_eq_false (by omega)];rfl
 refine PySem.P.mul_str e1 (fun g1 g2=>?_) (fun g1 g2=>?_) ?_
 ·intro hh
  have hn:(1:Int)<=n:=by omega
  have e3:(z.length:Int) * n=((z.length * n.toNat:Nat):Int):=by
   rw [Int.natCast_mul,Int.toNat_of_nonneg (by omega)]
  have:=Int.le_ediv_of_mul_le (show (0:Int) < n by omega) (show (z.length:Int) * n<=2 ^ 63 - 1 by rw [e3];omega)
  omega
 ·unfold Builtin.Str.tooLong sizeLine
  exact decide_eq_false (by omega)
 ·have hq:∀ (t2:Tok) k,EP X pins σ Q (.str (uH z n) t2) { s with toks:=k }:=fun t2 k=>⟨.str (uH z n),H,I.tok k,⟨t2,rfl⟩,q⟩
  unfold uH at hq
  by_cases g1:n < 1
  ·rw [if_pos g1]
   simp only [if_pos g1] at hq
   exact ⟨by decide,hq _ _⟩
  ·rw [if_neg g1]
   simp only [if_neg g1] at hq
   by_cases g2:(n == 1 || z.length == 0)=true
   ·rw [if_pos g2]
    simp only [if_pos g2] at hq
    exact hq t s.toks
   ·rw [if_neg g2]
    simp only [if_neg g2] at hq
    refine ⟨?_,hq _ _⟩
    have hsz:∀ (k:Nat) (acc:Array Nat),((List.replicate k z.cps).foldl (·++·) acc).size=acc.size + k * z.cps.size:=by
     intro k
     induction k with
     | zero=>intro acc;simp
     | succ k ih=>intro acc;rw [List.replicate_succ,List.foldl_cons,ih,Array.size_append,Nat.succ_mul];omega
    show ((List.replicate n.toNat z.cps).foldl (·++·) #[]).size<=sizeLine
    rw [hsz]
    have h5:n.toNat * z.cps.size<=100000:=by rw [Nat.mul_comm];exact h4
    have:(100000:Nat)<=sizeLine:=by decide
    simp only [Array.size_empty,Nat.zero_add]
    omega
def t9 (o:Bool):dQ:=fun x y M Q=>match x,y with
 | .int i,.int j=>nO i j/\Q (.int (i * j)) M
 | .str z,.int n=>-(2 ^ 63)<=n/\n < 2 ^ 20/\z.length<=2 ^ 20/\z.length * n.toNat<=100000/\Q (.str (uH z n)) M
 | .ref a,.int k=>match M a with
  | some (.lst us)=>-(2 ^ 63)<=k/\k < 2 ^ 63/\us.length * k.toNat<=sizeLine/\iL o (List.replicate k.toNat us).flatten M Q
  | _=>False
 | _,_=>False
theorem aH.rep {K:PySem.W.Frag} {H:Hp} {M:aD} {us:List U} {vs:List V} (r:aH K H M us vs):∀ k:Nat,aH K H M (List.replicate k us).flatten (List.replicate k vs).flatten
 | 0=>by simp only [List.replicate_zero,List.flatten_nil];exact .nil
 | k + 1=>by simp only [List.replicate_succ,List.flatten_cons];exact r.append (aH.rep r k)
theorem NZ {K:PySem.W.Frag} {o:Bool}:dX K (fun x y H Q=>rI nO (fun i j=>.int (i * j)) x y H Q\/((∃ z n,x=.str z/\y=.int n/\-(2 ^ 63)<=n/\n < 2 ^ 20/\z.length<=2 ^ 20/\z.length * n.toNat<=100000/\Q (.str (uH z n)) H)\/P5 x y H Q)) (t9 o):=fun x y u w H M Q' rm ru rw h Q c=>by
 unfold t9 at h
 split at h
 ·rename_i i j
  exact .inl (pP (C:=nO) (f:=fun i j=>i * j) x y (.int i) (.int j) H M Q' rm ru rw h Q c)
 ·rename_i z n
  cases ru.str;cases rw.int
  exact .inr (.inl ⟨z,n,rfl,rfl,h.1,h.2.1,h.2.2.1,h.2.2.2.1,c.here rm mW h.2.2.2.2⟩)
 ·rename_i a k
  split at h
  ·rename_i us e
   obtain ⟨vs,hv,r⟩:=rm a _ e
   cases ru.ref;cases rw.int
   exact .inr (.inr ⟨a,k,vs,rfl,rfl,hv,h.1,h.2.1,by rw [<- r.length];exact h.2.2.1,fun p hp=>c.lst rm (r.rep k.toNat) hp h.2.2.2⟩)
  ·exact h.elim
 ·exact h.elim
theorem j7 (own:Bool:=false) (ha:bA D a ta) (hb:bA D b tb):bA D (.BinOp a .Mult b pos) (lP (t9 own) ta tb):=vM (fun _ _=>NY.or (Nt.or PM)) NZ ha hb
def L1 (_ j:Int):Prop:=0 < j/\j < 2 ^ 64
theorem KS {X:Cx}:dI X (binaryOp .FloorDiv) (rI L1 fun i j=>.int (i / j)):=Mb fun i j _ _ _ _ _ hc q=>by
 have h1:(0:Int) < j:=hc.1
 have h2:j.natAbs.log2 < 9000:=by
  have h3:j.natAbs < 2 ^ 64:=by have:=hc.2;omega
  by_cases h:j.natAbs=0
  ·rw [h];decide
  ·have:=(Nat.log2_lt h).mpr h3
   omega
 exact floordiv_int (by omega) (by rw [Int.fdiv_eq_ediv_of_nonneg i (by omega)];exact q) (.inl (PyProof.noPylong_of_log2 h2))
theorem Fb (ha:bA D a ta) (hb:bA D b tb):bA D (.BinOp a .FloorDiv b pos) (lP (uI L1 fun i j=>.int (i / j)) ta tb):=vM (fun _ _=>KS) pP ha hb
end
end U2
namespace HT
open PySem PySem.Spec PyProof.Rows L2
variable {prog:Program} {w:World} {A:Around} {E:Value->Shared->Prop} {s:Shared}
theorem tN {t sl:Addr} {items:Array Value} {vl vu:Value} {lo hi:Option Int} {Q:Value->Shared->Prop} (ht:IsTup s.heap t items) (hs:s.heap.IsSliceOf sl vl vu .none) (pl:IsPart vl lo) (pu:IsPart vu hi)
  (hw:bL items.size 0 lo=0/\bL items.size items.size hi=items.size)
  (h:Q (.ref t) s):wpAny (model prog w) A (getItem (.ref t) (.ref sl)) Q E s:=by
 obtain ⟨os,hos,hcs,hds⟩:=id hs
 have hTs:s.TypeIs (.ref sl) "slice":=⟨os,hos,hcs⟩
 unfold getItem
 try with_reducible refine wpAny_holding ?_
 first | refine wpAny_bind (wpAny_pure ?_) | skip
 refine wpAny_bind (wpAny_sequenceKey ht.typeIs (by decide) ?_)
 refine wpAny_bind (wpAny_callSpecial?_slot (name:=Str.ofString "__getitem__") ht.typeIs PyProof.Rows.slot_tuple_getitem
  (wpAny_call_entry PyProof.Rows.slot_tuple_getitem ht.typeIs entry_tuple_getitem ?_ (args_tuple_getitem _ _)))
 show wpAny _ _ (Builtin.Tuple.tupleItemsOf (.ref t) >>= _) _ _ s
 refine wpAny_bind (tupleItemsOf_ ht ?_)
 refine wpAny_bind (wpAny_typeOf hTs ?_)
 rw [if_pos (by decide)]
 refine wpAny_bind (oP hs pl pu ?_)
 have hyes:((((bL items.size 0 lo:Nat):Int) == 0 && (1:Int) == 1 && (bL items.size items.size hi - bL items.size 0 lo) == items.size)=true):=by
  rw [hw.1,hw.2];simp
 show wpAny _ _ (if (((bL items.size 0 lo:Nat):Int) == 0 && (1:Int) == 1 && (bL items.size items.size hi - bL items.size 0 lo) == items.size)=true then _ else _) _ _ s
 rw [if_pos hyes]
 unfold Builtin.Tuple.tupleIsExact
 refine wpAny_bind (wpAny_bind (wpAny_typeOf ht.typeIs (wpAny_pure ?_)))
 rw [if_pos (by decide)]
 refine wpAny_bind (wpAny_rule ?_)
 exact wpAny_pure ⟨_,rfl,wpAny_pure h⟩
end HT
namespace U2
open PySem PySem.Spec PyProof.Rows L2
def OQ (K:PySem.W.Frag):V->Option Int->Option Int->Hp->VK->Prop:=fun x lo hi H Q=>∃ a xs,x=.ref a/\eY K H a xs/\(HT.bL xs.length 0 lo=0/\HT.bL xs.length xs.length hi=xs.length)/\Q (.ref a) H
theorem Nf {X:Cx}:wA X (OQ X.K):=by
 intro pins s σ H x v vl vu lo hi sl Q I rx hs pl pu h
 obtain ⟨a,xs,rfl,hx,hw,q⟩:=h
 cases rx
 obtain ⟨its,r,ht,hz⟩:=I.tuple hx
 have hlen:its.toArray.size=xs.length:=by rw [List.size_toArray];exact r.length.symm
 refine ⟨"tuple",_,PyProof.Rows.slot_tuple_getitem.lookup,ht.typeIs,?_⟩
 refine HT.tN ht hs pl pu (by rw [hlen];exact hw) ⟨.ref a,H,I,rfl,q⟩
def wI (o:Bool) (te:UE) (tl th:UO):UE:=fun τ M Q=>te τ M fun x M1=>tl τ M1 fun l M2=>th τ M2 fun h M3=>match view M3 x with
 | .lst us=>iL o (fP us l h) M3 Q
 | .tup us=>Q (.tup (fP us l h)) M3
 | .str z=>z.length<=sizeLine/\Q (.str (Txt.slice z l h)) M3
 | _=>False
theorem NW {K:PySem.W.Frag} {o:Bool} {te:TE} {te':UE} {tl th:TO} {tl' th':UO} (h0:cE K te te') (h1:Cs K tl tl') (h2:Cs K th th'):cE K (Rn (fun x lo hi H Q=>Qq K x lo hi H Q\/OQ K x lo hi H Q) te tl th) (wI o te' tl' th'):=fun σ τ H M Q' rs rm q Q c =>
 h0 σ τ H M _ rs rm q _ fun u v M1 H1 s1 rm1 ru q1=>h1 σ τ H1 M1 _ (rs.stp s1) rm1 q1 _ fun lo M2 H2 s2 rm2 q2=>h2 σ τ H2 M2 _ ((rs.stp s1).stp s2) rm2 q2 _ fun hi M3 H3 s3 rm3 q3=>by
  have c3:=dJ.stp c ((s1.trans s2).trans s3)
  have ru3:=ru.stp (s2.trans s3)
  split at q3
  ·rename_i us e
   obtain ⟨a,xs,rfl,r1,r2⟩:=dG rm3 ru3 e
   exact .inl (.inl ⟨a,xs,rfl,r1,fun p hp=>c3.lst rm3 (Em r2 lo hi) hp q3⟩)
  ·rename_i us e
   have e':=oA e
   subst e'
   obtain ⟨a,xs,rfl,r1,r2⟩:=ru3.tup
   by_cases hw:HT.bL xs.length 0 lo=0/\HT.bL xs.length xs.length hi=xs.length
   ·refine .inr ⟨a,xs,rfl,r1,hw,c3 _ _ M3 H3 (aP.refl _ _) rm3 ?_ q3⟩
    have e4:fP us lo hi=us:=by
     unfold fP
     rw [r2.length,hw.1,hw.2,List.drop_zero,Nat.sub_zero,<- r2.length,List.take_length]
    rw [e4]
    exact ru3
   ·exact .inl (.inr (.inl ⟨a,xs,rfl,r1,hw,fun p hp=>c3.tup rm3 (Em r2 lo hi) hp q3⟩))
  ·rename_i z e
   have e':=xE e
   subst e'
   exact .inl (.inr (.inr ⟨z,ru3.str,q3.1,c3 _ _ M3 H3 (aP.refl _ _) rm3 mW q3.2⟩))
  ·exact q3.elim
theorem qY {D:Dat} {a:Expr} {ta:UE} {pos:Pos} (own:Bool:=false) {lo hi:Option Expr} {tl th:UO} {p2:Pos} (ha:bA D a ta) (hl:LH D lo tl) (hh:LH D hi th):bA D (.Subscript a (.Slice lo hi none p2) pos) (wI own ta tl th):=by
 obtain ⟨_,p,s⟩:=ha;obtain ⟨_,q,r⟩:=hl;obtain ⟨_,u,v⟩:=hh
 refine ⟨_,fun X h=>?_,NW s r v⟩
 have:=Kd (pos:=pos) (p2:=p2) (Qg.or Nf) (p X h) (q X h) (u X h)
 rw [h.K] at this
 exact this
end U2
namespace Att
open PySem PySem.Spec PyProof.Rows PySem.W Calls
end Att
namespace L2
open PySem PySem.Spec PyProof.Rows
end L2
namespace U2
open PySem PySem.Spec PyProof.Rows L2
def AZ (K:PySem.W.Frag) (n:Nat) (a:Addr):It :=
 ⟨fun i H=>∃ xs x,dN K H a xs/\xs.length=n/\i < n/\xs[n - 1 - i]?=some x,fun i H x H'=>H'=H/\∀ xs,dN K H a xs->xs[n - 1 - i]?=some x,fun i H=>i=n⟩
theorem Ka {P:Program} {w:World} {K:PySem.W.Frag} {tg:Expr} (n:Nat) (a it:Addr):Turn P w K tg (AZ K n a) [it] it (fun i h=>h.IsRevIter it a ((n:Int) - 1 - (i:Int))) where
 mem:=by simp
 obj:=fun i h st b hb=>by
  have e:b=it:=by simpa using hb
  subst e
  obtain ⟨o,e,c,d⟩:=st
  exact ⟨o,e,fun v z=>by rw [d] at z;cases z⟩
 keep:=fun i h h' st k=>st.at fun o e=>k it (by simp) o e
 item:=by
  intro X hP hw hK hc i pins s σ H E I hf st hg
  subst hP hw hK
  obtain ⟨xs,x,hq,hn,hi,hx⟩:=hg
  obtain ⟨its,rv,p,hz⟩:=I.list hq
  obtain ⟨u,hu,ru⟩:=rv.get hx
  obtain ⟨f0,f1,f2,f3,f4,f5⟩:=hf it (by simp)
  have e:(n:Int) - 1 - (i:Int)=((n - 1 - i:Nat):Int):=by omega
  have st0:=st
  rw [e] at st0
  refine wpAny_pyNext_rev_item st0 p.isList (x:=u) (by simpa using hu) fun h' st' sb=>?_
  have I1:Inv X pins σ H { s with heap:=h' }:=I.turned (t':=s.toks) (fun b o hb e=>(sb.2 b hb).trans e) f0 f1 f3 f4 f5
  have e2:((n - 1 - i:Nat):Int) - 1=(n:Int) - 1 - ((i + 1:Nat):Int):=by omega
  rw [e2] at st'
  obtain ⟨o,e,c,d⟩:=id st'
  exact ⟨u,rfl,xU (s:={ s with heap:=h' }) e c d (by decide) ⟨x,H,I1,ru,⟨rfl,fun ys hy=>by rw [I.list_inj hy hq];exact hx⟩,st',fun b hb=>(hf b hb).1⟩⟩
 done:=by
  intro X hP hw hK hc i pins s σ H E I hf st hg
  subst hP hw hK
  have hg':i=n:=hg
  subst hg'
  obtain ⟨f0,f1,f2,f3,f4,f5⟩:=hf it (by simp)
  have e:(i:Int) - 1 - (i:Int)=-1:=by omega
  rw [e] at st
  exact wpAny_pyNext_rev_end (I.ok.hd hc) st fun h' eb=>⟨rfl,I.turned (t':=s.toks) (fun b o hb e=>eb b o hb e) f0 f1 f3 f4 f5⟩
 self:=fun _ _ _ _ _ st h=>wpAny_pyIter_revIter st h
def Oz (K:PySem.W.Frag) (ta:TA):TI:=fun σ H R=>ta σ H fun vs H1=>∃ a xs,vs=[.ref a]/\dN K H1 a xs/\R (AZ K xs.length a) H1
theorem boot_reversed:bootBuiltins "reversed"=some (.type "reversed"):=by kernel_rfl
theorem Oq {X:Cx} {tg:Expr} {a:Expr} {ta:TA} {p pos:Pos} (hg:Gl X "reversed") (hm:X.mg "reversed"=none) (ha:PA X [a] ta) (hs:starEach [a] X.env=[(false,eval a X.env)]) :
  PI X tg (.Call (.Name "reversed" p) [a] [] pos) (Oz X.K ta):=by
 intro pins s σ H R I h
 refine Call_ (nD I hg hm boot_reversed (PyProof.Rows.callWith_type1 (bC (ha pos pins s σ H _ I h) fun us s1 ⟨vs,H1,I1,r1,q1⟩=>?_) hs rfl))
 obtain ⟨a,xs,e,hq,q⟩:=q1
 subst e
 cases r1 with
 | cons r rr =>
  cases rr
  cases r
  obtain ⟨its,rv,p,hz⟩:=I1.list hq
  have hrev:Heap.IsRevIter (s1.heap.push (revObj a ((its.toArray.size:Int) - 1))) s1.heap.objs.size a ((xs.length:Int) - 1 - ((0:Nat):Int)):=by
   refine ⟨_,Heap.get?_push_size _ rfl,rfl,?_⟩
   have e1:((its.toArray.size:Nat):Int) - 1=(xs.length:Int) - 1 - ((0:Nat):Int):=by rw [List.size_toArray,<- rv.length];omega
   rw [<- e1];rfl
  refine call_reversed_list p.isList ?_
  refine wpAny_pyIter_revIter (s:={ s1 with heap:=s1.heap.push (revObj a ((its.toArray.size:Int) - 1)) }) hrev ?_
  have I2:L2.Inv X pins σ H1 { s1 with heap:=s1.heap.push (revObj a ((its.toArray.size:Int) - 1)),toks:=s1.toks }:=I1.kept fun b o e=>Heap.get?_push_of_some _ e
  refine ⟨s1.heap.objs.size,[s1.heap.objs.size],_,_,H1,rfl,I2,Ka xs.length a s1.heap.objs.size,hrev,fun b hb=>?_,q⟩
  have e:b=s1.heap.objs.size:=by simpa using hb
  subst e
  exact I1.fpOk (Nat.le_refl _) (I1.hok.fresh (Nat.le_refl _))
theorem JY {K:PySem.W.Frag} {a:Addr} {us:List U} {vs:List V} {H:Hp} {M:aD} (m:(M a=none/\Rd H a (.lst vs))\/KL K a vs) (r:aH K H M us vs):Walk K (AZ K vs.length a) ⟨none,us.reverse⟩ H M:=by
 have sq:∀ H1 M1,aP H M H1 M1->dN K H1 a vs:=fun H1 M1 s=>by
  rcases m with ⟨m,h⟩ | k
  ·exact .inl (Rd.stp s m h).2
  ·exact .inr k
 refine ⟨fun H1 M1 s rm _ i u e=>?_,fun H1 M1 s rm _=>by show us.reverse.length=vs.length;rw [List.length_reverse,r.length]⟩
 have e':us.reverse[i]?=some u:=e
 have hi:i < us.length:=by
  have:=(List.getElem?_eq_some_iff.mp e').1
  simpa using this
 rw [List.getElem?_reverse hi] at e'
 obtain ⟨v,e2,ru⟩:=r.get e'
 rw [r.length] at e2 hi
 refine ⟨⟨vs,v,sq H1 M1 s,rfl,hi,e2⟩,fun x H2 y=>?_⟩
 obtain ⟨rfl,y⟩:=y
 have:=y vs (sq _ M1 s)
 rw [e2] at this;cases this
 exact ⟨aP.refl _ _,rm,ru.stp s⟩
def iE (ta:UA):UI:=fun τ M R=>ta τ M fun us M1=>match us with
 | [.lst us]=>R ⟨none,us.reverse⟩ M1
 | _=>False
theorem MA {K:PySem.W.Frag} {ta:TA} {ta':UA} (h:k8 K ta ta'):pZ K (Oz K ta) (iE ta'):=fun σ τ H M R' rs rm q R c=>h σ τ H M _ rs rm q _ fun us vs M1 H1 s1 rm1 ru h1=>by
 split at h1
 ·rename_i xs
  obtain ⟨v,rfl,a⟩:=ru.one
  simp only [aK] at a
  obtain ⟨a,vs,rfl,m,r⟩:=a
  refine ⟨a,vs,rfl,?_,c _ _ M1 H1 s1 rm1 (JY m r) h1⟩
  rcases m with ⟨_,m⟩ | k
  ·exact .inl m
  ·exact .inr k
 ·exact h1.elim
theorem vY {D:Dat} {tg:Expr} {a:Expr} {p pos:Pos} {ta:UA} (hm:D.mg "reversed"=none) (ha:l4 D [a] ta) (hg:D.sc.names.lookup ("reversed":Str)=some .globalImplicit:=by rfl) (hs:∀ env,starEach [a] env=[(false,eval a env)]:=by intro _;rfl):uP D tg (.Call (.Name "reversed" p) [a] [] pos) (iE ta):=by
 obtain ⟨_,q,s⟩:=ha
 exact ⟨_,fun X h=>h.K ▸ Oq (by show X.env.scope.names.lookup _=_;rw [h.sc];exact hg) (by rw [h.mg];exact hm) (q X h) (hs _),MA s⟩
end U2
namespace U2
open PySem PySem.Spec PyProof.Rows L2
theorem HH:typeLookup (.type "list_reverseiterator") "__len__"=pure none:=by rw [typeLookup_type,builtinLookup_eq_fast];kernel_rfl
theorem Lj:typeLookup (.type "list_reverseiterator") "__length_hint__"=pure (some (.builtin "list_reverseiterator.__length_hint__")):=by rw [typeLookup_type,builtinLookup_eq_fast];kernel_rfl
section
variable {prog:Program} {w:World} {A:Around} {E:Value->Shared->Prop} {s:Shared}
theorem GJ {R:Result->Shared->Prop} {it l:Addr} {items:Array Value} (hh:A.handled=none) (hit:s.heap.IsRevIter it l ((items.size:Int) - 1)) (hl:s.heap.IsList l items) (hne:l≠it) (hlen:items.size<=sizeLine) (S:Addr) (res:Value) (c₀:Nat)
  (hS:s.heap.get? S=some { cls:=.type "list",data:=.seq #[] c₀ }) (hSl:S≠l) (hSi:S≠it)
  (hR:∀ h' tk acc' c',(∀ b o,b≠S->b≠it->s.heap.get? b=some o->h'.get? b=some o)->h'.get? S=some { cls:=.type "list",dict:=none,data:=.seq acc' c',slots:=#[] } ->
   ItemsOf (fun i v=>items[items.size - 1 - i]?=some v) acc' items.size->R (.ok (.ret res)) { s with heap:=h',toks:=tk }) :
  wpAny (model prog w) A.in1 (Builtin.List.listExtendWith (.ref S) (.ref it) res)
   (fun fin s'=>match fin with | .done f=>R (.ok f) s' | .again c'=>c'.quiet=true/\codeAny (model prog w) A c' R s') (fun e s'=>R (.error e) s') s:=by
 have hSf:S ∉ [it,l]:=fun hm=>by
  rcases List.mem_cons.mp hm with e | hm
  ·exact hSi e
  ·exact hSl (List.mem_singleton.mp hm)
 have W:=(Walks.listRev (prog:=prog) (w:=w) (A:=A.in1) hh it l hne items).toS
 have e0:((items.size:Int) - 1 - ((0:Nat):Int))=(items.size:Int) - 1:=by omega
 have hst:(0<=items.size/\s.heap.IsRevIter it l ((items.size:Int) - 1 - ((0:Nat):Int))/\s.heap.IsList l items):=⟨Nat.zero_le _,by rw [e0];exact hit,hl⟩
 have h1:Builtin.List.listSameRef (.ref S) (.ref it)=false:=by simp [Builtin.List.listSameRef,hSi]
 unfold Builtin.List.listExtendWith
 refine wpAny_bind (wpAny_typeOf hit.typeIs ?_)
 rw [if_neg (by rw [h1];decide)]
 refine wpAny_bind (wpAny_pyIter_revIter hit ?_)
 refine wpAny_bind (wpAny_holding ?_)
 unfold Builtin.List.listLengthHint
 refine wpAny_bind (wpAny_specialOf hit.typeIs HH ?_)
 show wpAny _ A.in1 (specialOf (Value.ref it) (Str.ofString "__length_hint__") >>= _) _ _ _
 refine wpAny_bind (wpAny_specialOf hit.typeIs Lj ?_)
 generalize hid:("list_reverseiterator.__length_hint__":String)=id0
 wp_delta
 rw [show splitId id0=some ("list_reverseiterator","__length_hint__") from by subst hid;decide +kernel]
 subst hid
 refine wpAny_bind (wpAny_isInstance (b:=true) hit.typeIs (by rw [isSubtype_type];kernel_rfl) ?_)
 refine wpAny_pure ?_
 rw [if_neg (by decide)]
 refine wpAny_pure ⟨plainId_quiet F.plain_extend_loop _,codeAny_extend_loopS W hlen S hSf res items.size 0 _ #[] c₀ rfl (Nat.zero_le _) hst hS (ItemsOf.nil _) fun s' acc' c' hm hS' hacc=>?_⟩
 rw [Moved.eq_with hm]
 refine hR s'.heap s'.toks acc' c' (fun b o hb hb2 e=>hm.heap b o (fun hmem=>?_) e) hS' hacc
 rcases List.mem_cons.mp hmem with e' | hmem
 ·exact hb e'
 ·exact hb2 (List.mem_singleton.mp hmem)
theorem Bz {R:Result->Shared->Prop} {it l:Addr} {items:Array Value} (hh:A.handled=none) (hit:s.heap.IsRevIter it l ((items.size:Int) - 1)) (hl:s.heap.IsList l items) (hne:l≠it) (hlen:items.size<=sizeLine) (S:Addr)
  (hS:s.heap.get? S=some { cls:=.type "list",data:=.seq #[] }) (hSl:S≠l) (hSi:S≠it)
  (hR:∀ h' tk acc' c',(∀ b o,b≠S->b≠it->s.heap.get? b=some o->h'.get? b=some o)->h'.get? S=some { cls:=.type "list",dict:=none,data:=.seq acc' c',slots:=#[] } ->
   ItemsOf (fun i v=>items[items.size - 1 - i]?=some v) acc' items.size->R (.ok (.ret .none)) { s with heap:=h',toks:=tk }) :
  wpAny (model prog w) A.in1 (Builtin.«list.__init__» ⟨[.ref S,.ref it],[]⟩)
   (fun fin s'=>match fin with | .done f=>R (.ok f) s' | .again c'=>c'.quiet=true/\codeAny (model prog w) A c' R s') (fun e s'=>R (.error e) s') s:=by
 show wpAny _ _ (do let old <- Builtin.List.listItems (.ref S);Builtin.List.listUpdate (.ref S) (fun _=>#[]);letGo old.toList.reverse;Builtin.List.listExtendWith (.ref S) (.ref it) .none) _ _ s
 refine wpAny_bind ?_
 unfold Builtin.List.listItems
 refine wpAny_bind (wpAny_seqItems hS rfl (wpAny_pure ?_))
 show wpAny _ _ (updateSeq S (fun _=>#[]) >>= fun _=>letGo (#[]:Array Value).toList.reverse >>= fun _=>Builtin.List.listExtendWith (.ref S) (.ref it) .none) _ _ s
 refine wpAny_bind (wpAny_updateSeq hS rfl ?_)
 have hS₂:=Heap.get?_update_self (Obj.mapSeq (fun _=>(#[]:Array Value))) hS rfl
 have oth:∀ b o,b≠S->s.heap.get? b=some o->(s.heap.update S (Obj.mapSeq (fun _=>(#[]:Array Value)))).get? b=some o :=
  fun b o hb e=>(Heap.get?_update_other _ _ (Ne.symm hb)).trans e
 refine wpAny_bind (wpAny_letGo ?_)
 refine GJ hh (hit.at fun o e=>oth it o (Ne.symm hSi) e) (hl.at fun o e=>oth l o (Ne.symm hSl) e) hne hlen S .none _ hS₂ hSl hSi fun h' tk acc' c' hk hS' hacc=>?_
 exact hR h' tk acc' c' (fun b o hb hb2 e=>hk b o hb hb2 (oth b o hb e)) hS' hacc
theorem Bp {Q:Value->Shared->Prop} {it l:Addr} {items:Array Value} (hh:A.handled=none) (hit:s.heap.IsRevIter it l ((items.size:Int) - 1)) (hl:s.heap.IsList l items) (hne:l≠it) (hlen:items.size<=sizeLine)
  (hQ:∀ h' tk acc' c',(∀ b o,b≠it->s.heap.get? b=some o->h'.get? b=some o) ->
   h'.get? s.heap.objs.size=some { cls:=.type "list",dict:=none,data:=.seq acc' c',slots:=#[] }->ItemsOf (fun i v=>items[items.size - 1 - i]?=some v) acc' items.size->Q (.ref s.heap.objs.size) { s with heap:=h',toks:=tk }) :
  wpAny (model prog w) A (call (.type "list") [.ref it]) Q E s:=by
 obtain ⟨oi,hoi,_⟩:=id hit
 obtain ⟨ol,hol,_⟩:=id hl
 refine callType_codes (Q₁:=fun obj s₁=>obj=.ref s.heap.objs.size/\s₁={ s with heap:=s.heap.push { cls:=.type "list",data:=.seq #[] } }) F.called_list (F.typeCall_list_1 _) F.entry_list_init
  (code_list_new _ ⟨rfl,rfl⟩) fun obj s₁ h₁=>?_
 obtain ⟨rfl,rfl⟩:=h₁
 have hS:(s.heap.push { cls:=.type "list",data:=.seq #[] }).get? s.heap.objs.size=some { cls:=.type "list",data:=.seq #[] }:=Heap.get?_push_size _ rfl
 refine ⟨⟨_,hS,rfl⟩,F.args_list_init_2 _ _,Bz (A:=A.in1) hh (hit.at fun o e=>Heap.get?_push_of_some _ e) (hl.at fun o e=>Heap.get?_push_of_some _ e) hne hlen _ hS (fun z=>Nat.lt_irrefl _ (z ▸ Heap.lt_size hol)) (fun z=>Nat.lt_irrefl _ (z ▸ Heap.lt_size hoi)) fun h' tk acc' c' hk hS' hacc=>?_⟩
 exact ⟨rfl,hQ h' tk acc' c' (fun b o hb e=>hk b o (Nat.ne_of_lt (Heap.lt_size e)) hb (Heap.get?_push_of_some _ e)) hS' hacc⟩
end
theorem F9:bootBuiltins "list"=some (.type "list"):=by kernel_rfl
theorem Jf {its:List Value} {acc:Array Value} (h:ItemsOf (fun i v=>its.toArray[its.toArray.size - 1 - i]?=some v) acc its.toArray.size):acc=its.reverse.toArray:=by
 obtain ⟨h1,h2⟩:=h
 have hs:its.toArray.size=its.length:=by simp
 rw [hs] at h1
 refine Array.ext (by simpa using h1) fun j hj hj2=>?_
 have:=h2 j acc[j] (by simp [hj])
 rw [hs] at this
 have h3:its[its.length - 1 - j]?=some acc[j]:=by simpa using this
 have h4:its.reverse[j]?=some acc[j]:=by rw [List.getElem?_reverse (by omega)];exact h3
 have h5:=(List.getElem?_eq_some_iff.mp h4).2
 simpa using h5.symm
def BM (K:PySem.W.Frag) (ta:TA):TE:=fun σ H Q=>ta σ H fun vs H1=>∃ a xs,vs=[.ref a]/\dN K H1 a xs/\∀ p,H1 p=none->Q (.ref p) (upd H1 p (.lst xs.reverse))
theorem FQ {X:Cx} {a:Expr} {ta:TA} {p1 p2 pos1 pos2:Pos} (hc:X.calm=true) (hgL:Gl X "list") (hmL:X.mg "list"=none) (hgR:Gl X "reversed") (hmR:X.mg "reversed"=none) (ha:PA X [a] ta) (hs:starEach [a] X.env=[(false,eval a X.env)])
  (hs2:starEach [.Call (.Name "reversed" p2) [a] [] pos2] X.env=[(false,eval (.Call (.Name "reversed" p2) [a] [] pos2) X.env)]) :
  PE X (.Call (.Name "list" p1) [.Call (.Name "reversed" p2) [a] [] pos2] [] pos1) (BM X.K ta):=by
 intro pins s σ H Q I h
 refine Call_ (nD I hgL hmL F9 (PyProof.Rows.callWith_type1 ?_ hs2 rfl))
 rw [hs2]
 show wpAny _ _ (spliced ((false,eval (.Call (.Name "reversed" p2) [a] [] pos2) X.env) :: backTo pos1 [])) _ _ s
 refine Calls.spliced_cons (Call_ (nD I hgR hmR boot_reversed (PyProof.Rows.callWith_type1 (bC (ha pos2 pins s σ H _ I h) fun us s1 ⟨vs,H1,I1,r1,q1⟩=>?_) hs rfl)))
 obtain ⟨b,xs,e,hq,q⟩:=q1
 subst e
 cases r1 with
 | cons r rr =>
  cases rr
  cases r
  obtain ⟨its,rv,pl,hz⟩:=I1.list hq
  have hl:=pl.isList
  obtain ⟨ol,hol,_⟩:=id hl
  refine call_reversed_list hl (Calls.spliced_nil ?_)
  have hrev:Heap.IsRevIter (s1.heap.push (revObj b ((its.toArray.size:Int) - 1))) s1.heap.objs.size b ((its.toArray.size:Int) - 1):=⟨_,Heap.get?_push_size _ rfl,rfl,rfl⟩
  refine Bp (s:={ s1 with heap:=s1.heap.push (revObj b ((its.toArray.size:Int) - 1)) }) (I1.ok.hd hc) hrev (hl.at fun o e=>Heap.get?_push_of_some _ e) (Nat.ne_of_lt (Heap.lt_size hol)) (by rw [List.size_toArray,<- rv.length];exact hz) fun h' tk acc' c' hk hS' hacc=>?_
  have hacc':=Jf hacc
  subst hacc'
  have hsz:(s1.heap.push (revObj b ((its.toArray.size:Int) - 1))).objs.size=s1.heap.objs.size + 1:=Heap.size_push ..
  have hD:H1 (s1.heap.push (revObj b ((its.toArray.size:Int) - 1))).objs.size=none:=I1.hok.fresh (by rw [hsz];omega)
  refine ⟨.ref (s1.heap.push (revObj b ((its.toArray.size:Int) - 1))).objs.size,_,I1.laid (t':=tk) (o:=.lst xs.reverse) (fun c o e=>hk c o (Nat.ne_of_lt (Heap.lt_size e)) (Heap.get?_push_of_some _ e)) (by rw [hsz];omega) ⟨by rw [List.length_reverse];exact hz,its.reverse,c',rv.reverse,hS'⟩,rfl,q _ hD⟩
def cQ (o:Bool) (ta:UA):UE:=fun τ M Q=>ta τ M fun us M1=>match us with
 | [x]=>match view M1 x with
  | .lst us=>iL o us.reverse M1 Q
  | _=>False
 | _=>False
theorem DG {K:PySem.W.Frag} {o:Bool} {ta:TA} {ta':UA} (h:k8 K ta ta'):cE K (BM K ta) (cQ o ta'):=fun σ τ H M Q' rs rm q Q c=>h σ τ H M _ rs rm q _ fun us vs M1 H1 s1 rm1 ru h1=>by
 split at h1
 ·rename_i x
  split at h1
  ·rename_i ws e
   obtain ⟨v,rfl,a1⟩:=ru.one
   obtain ⟨a,zs,rfl,sq,r2⟩:=dG rm1 a1 e
   exact ⟨a,zs,rfl,sq,fun p hp=>(dJ.stp c s1).lst rm1 r2.reverse hp h1⟩
  ·exact h1.elim
 ·exact h1.elim
theorem GL {D:Dat} (own:Bool:=false) {a:Expr} {p1 p2 pos1 pos2:Pos} {ta:UA} (hmL:D.mg "list"=none) (hmR:D.mg "reversed"=none) (ha:l4 D [a] ta) (hgL:D.sc.names.lookup ("list":Str)=some .globalImplicit:=by rfl) (hgR:D.sc.names.lookup ("reversed":Str)=some .globalImplicit:=by rfl)
  (hs:∀ env,starEach [a] env=[(false,eval a env)]:=by intro _;rfl) (hs2:∀ env,starEach [.Call (.Name "reversed" p2) [a] [] pos2] env=[(false,eval (.Call (.Name "reversed" p2) [a] [] pos2) env)]:=by intro _;rfl) :
  bA D (.Call (.Name "list" p1) [.Call (.Name "reversed" p2) [a] [] pos2] [] pos1) (cQ own ta):=by
 obtain ⟨_,q,s⟩:=ha
 refine ⟨_,fun X h=>?_,DG s⟩
 have:=FQ (X:=X) (p1:=p1) (p2:=p2) (pos1:=pos1) (pos2:=pos2) h.calm (by show X.env.scope.names.lookup _=_;rw [h.sc];exact hgL) (by rw [h.mg];exact hmL) (by show X.env.scope.names.lookup _=_;rw [h.sc];exact hgR) (by rw [h.mg];exact hmR) (q X h) (hs _) (hs2 _)
 rw [h.K] at this
 exact this
end U2
namespace U2
open PySem PySem.Spec PyProof.Rows L2
section
variable {prog:Program} {w:World} {A:Around} {E:Value->Shared->Prop} {s:Shared}
end
def cY (te to ti:UE):US:=fun D τ M=>te τ M fun v M1=>to τ M1 fun x M2=>ti τ M2 fun y M3=>match v,x,y with
 | .ref b,.ref l,.int a=>match M3 b,M3 l with
  | some (.lst ws),some (.lst us)=>l≠b/\0<=a/\a<=us.length/\us.length + ws.length<=sizeLine/\D.nx τ (mup M3 l (.lst (us.take a.toNat++ws)))
  | _,_=>False
 | _,_,_=>False
end U2
namespace U2
open PySem PySem.Spec PyProof.Rows L2
end U2
namespace U2
open PySem PySem.Spec PyProof.Rows L2
def L6:dQ:=fun x y M Q=>match x,y with
 | .bl i,.bl j=>Q (.bl (!decide (i=j))) M
 | _,_=>False
def L3:dQ:=fun x y M Q=>match x,y with
 | .bl i,.bl j=>Q (.bl (decide (i=j))) M
 | _,_=>False
end U2
namespace U2
open PySem PySem.Spec PyProof.Rows L2
def bK (o:Bool):List U->aD->UK->Prop:=fun us M Q=>match us with
 | [x]=>match view M x with
  | .lst ws=>∃ ns,intsOf ws=some ns/\ns.length < 64/\∀ ns':List Int,ns'.Perm ns->ns'.Pairwise (·<=·)->iL o (ns'.map U.int) M Q
  | _=>False
 | _=>False
theorem fS.len {K:PySem.W.Frag} {H:Hp}:∀ {ds:List PyData} {vs:List V},fS K H ds vs->ds.length=vs.length
 | [],vs,h=>by simp only [fS] at h;subst h;rfl
 | d :: ds,vs,h=>by
  simp only [fS] at h
  obtain ⟨v,vs',rfl,_,h2⟩:=h
  simp only [List.length_cons,fS.len h2]
open Classical in
def mE (neg:Bool):dQ:=fun x y M Q=>∃ us ds d,items M y=some us/\fA us=some ds/\p9 M x=some d/\PyData.canLayAll0 ds=true/\d.canLay0=true/\d.depth<=60/\Q (.bl (if neg then !ds.any (fun e=>PyData.eqv e d) else ds.any (fun e=>PyData.eqv e d))) M
def cI (o:Bool):dQ:=fun x y M Q=>match view M x,y with
 | .lst us,.int k=>-(2 ^ 63)<=k/\k < 2 ^ 63/\us.length * k.toNat<=sizeLine/\iL o (List.replicate k.toNat us).flatten M Q
 | _,_=>False
end U2
namespace U2
open PySem PySem.Spec PyProof.Rows L2
def iC (_:PySem.W.Frag):Prop:=True
def kP:U->Option Key
 | .int i=>some (.inl i)
 | .str x=>some (.inr x)
 | _=>none
def eE:List U->Option (List Key)
 | []=>some []
 | u :: us=>match kP u,eE us with
  | some k,some ks=>some (k :: ks)
  | _,_=>none
def kU:Key->U
 | .inl i=>.int i
 | .inr x=>.str x
theorem Ew (k:Key):kP (kU k)=some k:=by cases k <;> rfl
theorem Kk:∀ ks:List Key,eE (ks.map kU)=some ks
 | []=>rfl
 | k :: ks=>by simp only [List.map_cons,eE,Ew,Kk ks]
theorem tF {K:PySem.W.Frag} {H:Hp} {M:aD} {u:U} {v:V} {k:Key} (r:aK K H M u v) (e:kP u=some k):v=kV k:=by
 cases u with
 | int i=>cases e;exact r.int
 | str x=>cases e;exact r.str
 | _=>cases e
theorem AV {K:PySem.W.Frag} {H:Hp} {M:aD}:∀ {us:List U} {vs:List V} {ks:List Key},aH K H M us vs->eE us=some ks->vs=ks.map kV
 | [],_,_,r,e=>by cases e;exact r.inv_nil
 | u :: us,_,ks,r,e=>by
  obtain ⟨v,vs',rfl,a,b⟩:=r.inv_cons
  simp only [eE] at e
  cases e1:kP u with
  | none=>rw [e1] at e;cases e
  | some k =>
   cases e2:eE us with
   | none=>rw [e1,e2] at e;cases e
   | some ks' =>
    rw [e1,e2] at e;cases e
    rw [tF a e1,AV b e2];rfl
section
variable {κ:Type} [DecidableEq κ]
def cH (kvs:List (κ × U)) (k:κ):Option U:=(kvs.find? fun kv=>decide (kv.1=k)).map (·.2)
def eP (kvs:List (κ × U)) (k:κ) (u:U):List (κ × U) :=
 if (kvs.any fun kv=>decide (kv.1=k))=true then kvs.map (fun kv=>if kv.1=k then (kv.1,u) else kv) else kvs++[(k,u)]
theorem jQ {p:κ × U} {r:List (κ × U)} {k:κ} (e:p.1=k):cH (p :: r) k=some p.2:=by simp [cH,List.find?_cons,e]
theorem jT {p:κ × U} {r:List (κ × U)} {k:κ} (e:¬ p.1=k):cH (p :: r) k=cH r k:=by simp [cH,List.find?_cons,e]
theorem wG (k:κ):∀ kvs:List (κ × U),(kvs.any fun kv=>decide (kv.1=k))=(cH kvs k).isSome
 | []=>rfl
 | p :: r=>by
  rw [List.any_cons]
  by_cases e:p.1=k
  ·simp only [jQ e,decide_eq_true e,Bool.true_or,Option.isSome_some]
  ·rw [jT e,decide_eq_false e,Bool.false_or];exact wG k r
theorem sA {kvs:List (κ × U)} {k:κ} {u:U} (h:cH kvs k=none):eP kvs k u=kvs++[(k,u)]:=by
 unfold eP
 rw [wG,h]
 exact if_neg (by decide)
variable {K:PySem.W.Frag} {H:Hp} {M:aD}
theorem cD.any {kvs:List (κ × U)} {ws:List (κ × V)} (r:cD K H M kvs ws) (k:κ):(kvs.any fun kv=>decide (kv.1=k))=ws.any fun kv=>decide (kv.1=k):=by
 unfold cD at r
 induction r with
 | nil=>rfl
 | cons h t ih=>rw [List.any_cons,List.any_cons,ih,h.1]
def vD (K:PySem.W.Frag) (H:Hp) (M:aD):Option U->Option V->Prop
 | none,none=>True
 | some u,some v=>aK K H M u v
 | _,_=>False
theorem cD.val {kvs:List (κ × U)} {ws:List (κ × V)} (r:cD K H M kvs ws) (k:κ):vD K H M (cH kvs k) (lR ws k):=by
 unfold cD at r
 induction r with
 | nil=>exact True.intro
 | @cons p q ps qs h t ih =>
  obtain ⟨h1,h2⟩:=h
  by_cases e:p.1=k
  ·rw [jQ e,jN (h1.symm.trans e)];exact h2
  ·rw [jT e,jW (fun z=>e (h1.trans z))];exact ih
theorem cD.repl {kvs:List (κ × U)} {ws:List (κ × V)} (r:cD K H M kvs ws) (k:κ) {u:U} {v:V} (ru:aK K H M u v):cD K H M (kvs.map fun kv=>if kv.1=k then (kv.1,u) else kv) (ws.map fun kv=>if kv.1=k then (kv.1,v) else kv):=by
 unfold cD at r ⊢
 induction r with
 | nil=>exact .nil
 | @cons p q ps qs h t ih =>
  rw [List.map_cons,List.map_cons]
  refine .cons ?_ ih
  obtain ⟨h1,h2⟩:=h
  by_cases e:p.1=k
  ·rw [if_pos e,if_pos (h1.symm.trans e)];exact ⟨h1,ru⟩
  ·rw [if_neg e,if_neg (fun z=>e (h1.trans z))];exact ⟨h1,h2⟩
theorem cD.put {kvs:List (κ × U)} {ws:List (κ × V)} (r:cD K H M kvs ws) (k:κ) {u:U} {v:V} (ru:aK K H M u v):cD K H M (eP kvs k u) (putK ws k v):=by
 unfold eP putK
 rw [r.any k]
 split
 ·exact r.repl k ru
 ·exact Paired.snoc r ⟨rfl,ru⟩
theorem cD.length {kvs:List (κ × U)} {ws:List (κ × V)} (r:cD K H M kvs ws):kvs.length=ws.length:=Paired.length r
theorem C9:∀ {ws:List (κ × V)} {us:List U},aH K H M us (ws.map (·.2))->cD K H M ((ws.map (·.1)).zip us) ws
 | [],us,r=>by
  have:=r.length
  cases us with
  | nil=>exact .nil
  | cons _ _=>simp at this
 | w :: ws,us,r=>by
  cases us with
  | nil=>have:=r.length;simp at this
  | cons u us =>
   obtain ⟨v,vs',e,a,b⟩:=r.inv_cons
   rw [List.map_cons] at e
   cases e
   exact .cons ⟨rfl,a⟩ (C9 b)
end
def pT:List Key->Key
 | [k]=>k
 | _=>.inl 0
def d7 (M:aD):U->Option MO
 | .ref a=>M a
 | .dic ks true us=>some (.dT (ks.zip us))
 | .dic ks false us=>some (.dK ((ks.map pT).zip us))
 | _=>none
section
variable {K:PySem.W.Frag} {H:Hp} {M:aD} {x y:U} {v u:V}
theorem L0 {kvs:List (Key × U)} (rm:RelM K H M) (r:aK K H M x v) (e:d7 M x=some (.dK kvs)):∃ a ws,v=.ref a/\Rd H a (.dK ws)/\cD K H M kvs ws:=by
 cases x with
 | ref a=>obtain ⟨ws,h1,h2⟩:=rm a _ e;exact ⟨a,ws,r.ref,.inl h1,h2⟩
 | dic ks tk us =>
  cases tk with
  | true=>cases e
  | false =>
   simp only [d7] at e
   cases e
   simp only [aK] at r
   obtain ⟨a,vs,rfl,m,⟨ws,h1,rfl,rfl⟩,ru⟩:=r
   refine ⟨a,ws,rfl,h1,?_⟩
   have e1:(ws.map (fun p=>[p.1])).map pT=ws.map (·.1):=by rw [List.map_map];rfl
   rw [e1];exact C9 ru
 | _=>cases e
theorem Md {kvs:List (List Key × U)} (rm:RelM K H M) (r:aK K H M x v) (e:d7 M x=some (.dT kvs)):∃ a ws,v=.ref a/\Rd H a (.dT ws)/\cD K H M kvs ws:=by
 cases x with
 | ref a=>obtain ⟨ws,h1,h2⟩:=rm a _ e;exact ⟨a,ws,r.ref,.inl h1,h2⟩
 | dic ks tk us =>
  cases tk with
  | false=>cases e
  | true =>
   simp only [d7] at e
   cases e
   simp only [aK] at r
   obtain ⟨a,vs,rfl,m,⟨ws,h1,rfl,rfl⟩,ru⟩:=r
   exact ⟨a,ws,rfl,h1,C9 ru⟩
 | _=>cases e
theorem Es {ys:List U} {ks:List Key} (hk:iC K) (r:aK K H M (.tup ys) u) (e:eE ys=some ks):∃ b,u=.ref b/\H b=some (.tup (ks.map kV)):=by
 simp only [aK] at r
 obtain ⟨b,vs,rfl,h,ru⟩:=r
 have:=AV ru e
 subst this
 exact ⟨b,rfl,h.2⟩
def cR (tk:Bool) (M:aD) (x y:U):Option (Option U):=match tk with
 | false=>match d7 M x,kP y with
  | some (.dK kvs),some k=>some (cH kvs k)
  | _,_=>none
 | true=>match d7 M x,y with
  | some (.dT kvs),.tup ys=>(eE ys).map (cH kvs)
  | _,_=>none
theorem tZ {tk:Bool} {o:Option U} (hk:tk=true->iC K) (rm:RelM K H M) (rx:aK K H M x v) (ry:aK K H M y u) (e:cR tk M x y=some o):∃ a ov,v=.ref a/\p8 H a u ov/\vD K H M o ov:=by
 cases tk with
 | false =>
  simp only [cR] at e
  split at e
  ·rename_i kvs k e1 e2
   cases e
   obtain ⟨a,ws,rfl,h1,h2⟩:=L0 rm rx e1
   have:=tF ry e2
   subst this
   exact ⟨a,_,rfl,.inl ⟨_,k,h1,rfl,rfl⟩,h2.val k⟩
  ·cases e
 | true =>
  simp only [cR] at e
  split at e
  ·rename_i kvs ys e1
   obtain ⟨a,ws,rfl,h1,h2⟩:=Md rm rx e1
   cases e3:eE ys with
   | none=>rw [e3] at e;cases e
   | some ks =>
    rw [e3] at e;cases e
    obtain ⟨b,rfl,hb⟩:=Es (hk rfl) ry e3
    exact ⟨a,_,rfl,.inr ⟨_,ks,b,h1,rfl,hb,rfl⟩,h2.val ks⟩
  ·cases e
end
def nQ (tk:Bool):dQ:=fun x y M Q=>match cR tk M x y with
 | some (some u)=>Q u M
 | _=>False
def LX:R2:=fun x y H Q=>∃ a v,x=.ref a/\p8 H a y (some v)/\Q v H
theorem Jv {K:PySem.W.Frag} {tk:Bool} (hk:tk=true->iC K):dX K LX (nQ tk):=fun x y u w H M Q' rm ru rw h Q c=>by
 unfold nQ at h
 split at h
 ·rename_i z e
  obtain ⟨a,ov,rfl,g,r⟩:=tZ hk rm ru rw e
  cases ov with
  | none=>exact r.elim
  | some v=>exact ⟨a,v,rfl,g,c.here rm r h⟩
 ·exact h.elim
section
variable {D:Dat} {a b c e o i:Expr} {ta tb tc te to ti:UE} {pos p:Pos} {es:List Expr} {tas:UA} {x:Str}
theorem i8 {K:PySem.W.Frag}:false=true->iC K:=fun h=>by cases h
theorem dA (tk:Bool) (hk:tk=true->iC D.K) (ha:bA D a ta) (hb:bA D b tb) (hs:JC b:=by intro _ _;rfl):bA D (.Subscript a b pos) (lP (nQ tk) ta tb):=by
 obtain ⟨_,p,s⟩:=ha;obtain ⟨_,q,r⟩:=hb
 exact ⟨Ee LX _ _,fun X h=>Mm (zG h.room) (p X h) (q X h) hs,uS (Jv hk) s r⟩
def Ly (neg:Bool):R2:=fun y x H Q=>∃ a o,x=.ref a/\p8 H a y o/\Q (.bl (if neg then !o.isSome else o.isSome)) H
def tY (tk neg:Bool):dQ:=fun y x M Q=>match cR tk M x y with
 | some o=>Q (.bl (if neg then !o.isSome else o.isSome)) M
 | none=>False
theorem vD.isSome_eq {K:PySem.W.Frag} {H:Hp} {M:aD} {o:Option U} {ov:Option V} (r:vD K H M o ov):o.isSome=ov.isSome:=by
 cases o <;> cases ov <;> first | rfl | exact r.elim
theorem E4 {K:PySem.W.Frag} {tk neg:Bool} (hk:tk=true->iC K):dX K (Ly neg) (tY tk neg):=fun x y u w H M Q' rm ru rw h Q c=>by
 unfold tY at h
 split at h
 ·rename_i o e
  obtain ⟨a,ov,rfl,g,r⟩:=tZ hk rm rw ru e
  refine ⟨a,ov,rfl,g,?_⟩
  rw [<- r.isSome_eq]
  exact c.here rm eW h
 ·exact h.elim
theorem P7 {X:Cx} {k:Nat} (hr:eN k X.A):dI X (compareOp .In) (Ly false):=by
 intro pins s σ H x y v u Q I rx ry h
 obtain ⟨a,o,rfl,g,q⟩:=h
 cases ry
 exact RB (zG hr) I g rx fun s' I'=>⟨.bl o.isSome,H,I',rfl,q⟩
theorem G5 {X:Cx} {k:Nat} (hr:eN k X.A):dI X (compareOp .NotIn) (Ly true):=by
 intro pins s σ H x y v u Q I rx ry h
 obtain ⟨a,o,rfl,g,q⟩:=h
 cases ry
 exact Mt (zG hr) I g rx fun s' I'=>⟨.bl (!o.isSome),H,I',rfl,q⟩
theorem Fy (tk:Bool) (hk:tk=true->iC D.K):m9 D .In (tY tk false):=⟨⟨_,fun X h=>P7 h.room,E4 hk⟩⟩
theorem JQ (tk:Bool) (hk:tk=true->iC D.K):m9 D .NotIn (tY tk true):=⟨⟨_,fun X h=>G5 h.room,E4 hk⟩⟩
def v9 (tk:Bool):MO:=if tk then .dT [] else .dK []
def pU (tk:Bool):UE:=fun _ M Q=>∀ p,M p=none->Q (.ref p) (mup M p (v9 tk))
theorem iX (tk:Bool):bA D (.Dict [] [] pos) (pU tk):=by
 cases tk with
 | false =>
  refine ⟨IL,fun X h=>Jt,fun σ τ H M Q' rs rm h Q c p hp=>?_⟩
  have st:aP H M (upd H p (.dK [])) (mup M p (.dK [])):=aP.own rm hp
  exact c (.ref p) _ _ _ st (rm.put st ⟨[],cG,.nil⟩) mL (h p (rm.no hp))
 | true =>
  refine ⟨HX,fun X h=>JM,fun σ τ H M Q' rs rm h Q c p hp=>?_⟩
  have st:aP H M (upd H p (.dT [])) (mup M p (.dT [])):=aP.own rm hp
  exact c (.ref p) _ _ _ st (rm.put st ⟨[],cG,.nil⟩) mL (h p (rm.no hp))
def kC (tk:Bool) (te to ti:UE):US:=fun D τ M=>te τ M fun v M1=>to τ M1 fun x M2=>ti τ M2 fun y M3=>match x with
 | .ref a=>match tk with
  | false=>match M3 a,kP y with
   | some (.dK kvs),some k=>kvs.length < sizeLine/\D.nx τ (mup M3 a (.dK (eP kvs k v)))
   | _,_=>False
  | true=>match M3 a,y with
   | some (.dT kvs),.tup ys=>match eE ys with
    | some ks=>kvs.length < sizeLine/\D.nx τ (mup M3 a (.dT (eP kvs ks v)))
    | none=>False
   | _,_=>False
 | _=>False
theorem i4 (tk:Bool) (hk:tk=true->iC D.K) {tpos:Pos} (he:bA D e te) (ho:bA D o to) (hi:bA D i ti) (hs:∀ env,swapsWith e (some (.Subscript o i tpos)) pos.line env=pure false:=by intro _;rfl):o4 D (.Assign [.Subscript o i tpos] e pos) (kC tk te to ti):=by
 obtain ⟨_,p1,s1⟩:=he;obtain ⟨_,p2,s2⟩:=ho;obtain ⟨_,p3,s3⟩:=hi
 refine ⟨_,fun X h=>NQ (zG h.room) (p2 X h) (p3 X h) (p1 X h) (hs _),fun σ τ H M D' rs rm h EE d=>?_⟩
 refine s1 σ τ H M _ rs rm h _ fun v vv M1 H1 st1 rm1 rv h1=>?_
 refine s2 σ τ H1 M1 _ (rs.stp st1) rm1 h1 _ fun x vx M2 H2 dH rm2 rx h2=>?_
 refine s3 σ τ H2 M2 _ ((rs.stp st1).stp dH) rm2 h2 _ fun y vy M3 H3 st3 rm3 ry h3=>?_
 have rv3:=(rv.stp dH).stp st3
 have rs3:=((rs.stp st1).stp dH).stp st3
 cases x with
 | ref a =>
  cases (rx.stp st3).ref
  cases tk with
  | false =>
   dsimp only at h3
   split at h3
   ·rename_i kvs k e1 e2
    obtain ⟨hl,q⟩:=h3
    obtain ⟨ws,hv,r⟩:=rm3 a _ e1
    have:=tF ry e2
    subst this
    have st4:aP H3 M3 (upd H3 a (.dK (putK ws k vv))) (mup M3 a (.dK (eP kvs k v))):=aP.write e1
    have rnew:RelM D.K (upd H3 a (.dK (putK ws k vv))) (mup M3 a (.dK (eP kvs k v))):=rm3.put st4 ⟨_,cG,(r.put k rv3).stp st4⟩
    exact ⟨a,_,rfl,.k hv (by rw [<- r.length];exact hl),d.nx _ _ _ _ (((st1.trans dH).trans st3).trans st4) rnew (rs3.stp st4) q⟩
   ·exact h3.elim
  | true =>
   dsimp only at h3
   split at h3
   ·rename_i kvs ys e1
    split at h3
    ·rename_i ks e2
     obtain ⟨hl,q⟩:=h3
     obtain ⟨ws,hv,r⟩:=rm3 a _ e1
     obtain ⟨b,rfl,hb⟩:=Es (hk rfl) ry e2
     have st4:aP H3 M3 (upd H3 a (.dT (putK ws ks vv))) (mup M3 a (.dT (eP kvs ks v))):=aP.write e1
     have rnew:RelM D.K (upd H3 a (.dT (putK ws ks vv))) (mup M3 a (.dT (eP kvs ks v))):=rm3.put st4 ⟨_,cG,(r.put ks rv3).stp st4⟩
     exact ⟨a,_,rfl,.t hv hb (by rw [<- r.length];exact hl),d.nx _ _ _ _ (((st1.trans dH).trans st3).trans st4) rnew (rs3.stp st4) q⟩
    ·exact h3.elim
   ·exact h3.elim
 | _=>exact h3.elim
def uB (M:aD) (x:U):Bool:=match d7 M x with
 | some (.dK _)=>true
 | some (.dT _)=>true
 | _=>false
theorem Li {K:PySem.W.Frag} {H:Hp} {M:aD} {x:U} {v:V} (rm:RelM K H M) (r:aK K H M x v) (e:uB M x=true):∃ a,v=.ref a/\Qd H a:=by
 unfold uB at e
 split at e
 ·rename_i kvs h
  obtain ⟨a,ws,rfl,h1,_⟩:=L0 rm r h
  exact ⟨a,rfl,.inl ⟨ws,h1⟩⟩
 ·rename_i kvs h
  obtain ⟨a,ws,rfl,h1,_⟩:=Md rm r h
  exact ⟨a,rfl,.inr ⟨ws,h1⟩⟩
 ·cases e
theorem vD.getD {K:PySem.W.Frag} {H:Hp} {M:aD} {o:Option U} {ov:Option V} {u:U} {v:V} (r:vD K H M o ov) (q:aK K H M u v):aK K H M (o.getD u) (ov.getD v):=by
 cases o <;> cases ov <;> first | exact q | exact r | exact r.elim
def t6 (tk:Bool) (to ti:UE):UE:=fun τ M Q=>to τ M fun x M1=>uB M1 x=true/\ti τ M1 fun y M2=>match cR tk M2 x y with
 | some o=>Q (o.getD .non) M2
 | none=>False
theorem oX (tk:Bool) (hk:tk=true->iC D.K) {apos:Pos} (ho:bA D o to) (hi:bA D e te) (hbase:∀ env,attributeBase o "get" env (eval o env)=eval o env:=by intro _;rfl)
  (hfew:∀ env,((backTo pos (starEach [e] env)).all (fun x=>!x.1) && (backToKw pos (keywordEach [] env)).all (fun x=>x.1.isSome) && decide ([e].length + ([]:List Keyword).length + (if ([]:List Keyword).isEmpty then 0 else 1) < 30))=true:=by intro _;rfl)
  (hline:(apos.endLine == pos.line)=true:=by rfl) (hs:∀ env,backTo pos (starEach [e] env)=[(false,eval e env)]:=by intro _;rfl):bA D (.Call (.Attribute o "get" apos) [e] [] pos) (t6 tk to te):=by
 obtain ⟨_,p1,s1⟩:=ho;obtain ⟨_,p2,s2⟩:=hi
 refine ⟨_,fun X h=>Ku (zG h.room) (p1 X h) (p2 X h) ⟨hbase _,hfew _,hline,hs _⟩,fun σ τ H M Q' rs rm h Q c=>?_⟩
 refine s1 σ τ H M _ rs rm h _ fun x vx M1 H1 st1 rm1 rx h1=>?_
 obtain ⟨hd,h1⟩:=h1
 obtain ⟨a,rfl,hd⟩:=Li rm1 rx hd
 refine ⟨a,rfl,hd,s2 σ τ H1 M1 _ (rs.stp st1) rm1 h1 _ fun y vy M2 H2 dH rm2 ry h2=>?_⟩
 split at h2
 ·rename_i o e
  obtain ⟨a',ov,e',g,r⟩:=tZ hk rm2 (rx.stp dH) ry e
  cases e'
  exact ⟨ov,g,c _ _ M2 H2 (st1.trans dH) rm2 (r.getD mM) h2⟩
 ·exact h2.elim
end
end U2
namespace U2
open PySem PySem.Spec PyProof.Rows L2
theorem DK {M:Model} {A:Around} {E:Value->Shared->Prop} {s:Shared} {scope:Scope} {env:Env} {cl:List (Str × Addr)} {x0:Str} {g:Addr} {q:Str} {Q:Env->Shared->Prop} (hcf:∀ a cl,cellsFrom a scope.names cl=(x0,a) :: cl) (hpc:∀ h,pushCells h scope.names=h.push { cls:=.type "cell",data:=.cell none })
  (hQ:Q { scope:=scope,locals:=s.heap.objs.size,globals:=g,cells:=(x0,s.heap.objs.size + 1) :: cl,qual:=q,func:=none,code:=env.code,frame:=env.frame,builtins:=env.builtins } { s with heap:=(s.heap.push { cls:=.type "dict",data:=.dict #[] }).push { cls:=.type "cell",data:=.cell none } }) :
  wpAny M A (newFunctionEnv scope g cl [] q none .none (some env)) Q E s:=by
 simp only [newFunctionEnv,Option.isSome_some,if_true]
 refine wpAny_bind (wpAny_alloc ?_)
 refine wpAny_bind (wpAny_layCells _ (fun name kind cells=>by cases hkc:kind == NameKind.cell <;> simp [hkc]) _ _ _ _ ?_)
 rw [hcf,hpc]
 have hz:(s.heap.push { cls:=.type "dict",data:=.dict #[] }).objs.size=s.heap.objs.size + 1:=Heap.size_push ..
 simp only [List.forIn_nil]
 refine wpAny_bind (wpAny_pure (wpAny_pure ?_))
 rw [show ({ s with heap:=s.heap.push { cls:=.type "dict",data:=.dict #[] } }:Shared).heap.objs.size=s.heap.objs.size + 1 from hz]
 exact hQ
def fO (X:Cx) (N:List Str) (scope:Scope) (cl:List (Str × Addr)) (C:Addr) (s:Shared) (H:Hp) (fp:List Addr) (x0:Str):Cx:={ dR X N scope cl C s H fp with fn:=fun y=>decide (y=x0) }
theorem GP {X:Cx} {x0:Str} {tg elt iter:Expr} {ifs:List Expr} {scope:Scope} {pos:Pos} {N:List Str} {k:Nat} {ix:List Nat} {wi:TI} {g:TG} {tc:TT} {te:TE}
  (hc:X.calm=true) (hi:PI X tg iter wi) (gk:GK k g)
  (hk:scope.kind=.function) (hcell:∀ y∈scope.names,y.2=.cell->y.1=x0) (hx0:scope.names.lookup x0=some .cell) (hcf:∀ a cl,cellsFrom a scope.names cl=(x0,a) :: cl) (hpc:∀ h,pushCells h scope.names=h.push { cls:=.type "cell",data:=.cell none }) (hnames:∀ y∈scope.names,y.2=.local->scope.names.lookup y.1=some .local)
  (hfree:∀ y∈scope.names,y.2=.free->X.env.kindOf y.1=some .cell\/X.env.kindOf y.1=some .free)
  (hone:∀ y∈scope.names,y.2=.free->scope.names.lookup y.1=some .free)
  (hN:∀ (j:Nat) x,N[k + j]?=some x->∃ i,ix[j]?=some i/\X.N[i]?=some x)
  (hcap:∀ (j:Nat) x,N[k + j]?=some x->scope.names.lookup x=some .free)
  (hlen:N.length=k + ix.length)
  (hg:∀ cl C s H fp,PG (fO X N scope cl C s H fp x0) tg g)
  (hif:∀ cl C s H fp,BU (fO X N scope cl C s H fp x0) ifs tc)
  (he:∀ cl C s H fp,PE (fO X N scope cl C s H fp x0) elt te)
  (hs:∀ x,foldedSetIterable iter X.env x=pure x) {pins:List (Addr × Obj)} {s:Shared} {σ:L2.St} {H:Hp} {Q:VK} (I:L2.Inv X pins σ H s) (h:vG k ix wi g tc te σ H Q) {pos':Pos} {use:Option (Value->Sem Unit)} {QQ:Value->Shared->Prop}
  (end_:∀ (D C:Addr) (H3:Hp) (s4:Shared),L2.Inv X pins σ H3 s4->(∃ m,s4.heap.Ns C m)->H3 C=none->C≠X.env.locals->X.s₀.heap.objs.size<=C->(∀ x c,X.env.cells.lookup x=some c->c≠C)->(∀ p∈X.pn++pins,p.1≠C) ->
   (∀ h':Heap,Heap.SameBut C s4.heap h'->L2.Inv X pins σ H3 { s4 with heap:=h' })->Q (.ref D) H3->compPost (model X.prog X.w) X.A X.xe use QQ (.ref D) C (.ok .next) s4) :
  wpAny (model X.prog X.w) X.A (comprehension (.ListComp elt [⟨tg,iter,ifs,0⟩] scope pos) scope X.env pos' (newList []) false (eval iter X.env) use) QQ X.xe s:=by
 obtain ⟨cl,hclos,hcl,hcl2⟩:=xM (env:=X.env) (scope:=scope) (fun x hx e=>I.ok.has x.1 (hfree x hx e))
 refine wpAny_comprehension_free (use:=use) rfl hs hclos hk hnames (bC (hi pins s σ H _ I h) fun v s1 h1=>bC h1 fun itv s2 h2=>?_)
 obtain ⟨it,fp,tn,J,H2,rfl,I2,T,dH,f2,h2⟩:=h2
 refine wpAny_newObj_type (DK hcf hpc ?_)
 dsimp only
 generalize hP:s2.heap.push { cls:=.type "list",dict:=none,data:=.seq ([]:List Value).toArray }=P2
 have hns₀:(P2.push { cls:=.type "dict",data:=.dict #[] }).Ns P2.objs.size (fun _=>none):=Heap.Ns.new P2 (.type "dict")
 have hsz0:(P2.push { cls:=.type "dict",data:=.dict #[] }).objs.size=P2.objs.size + 1:=Heap.size_push ..
 generalize hh₁:(P2.push { cls:=.type "dict",data:=.dict #[] }).push { cls:=.type "cell",data:=.cell none }=h₁
 have hns₁:h₁.Ns P2.objs.size (fun _=>none):=by rw [<- hh₁];exact hns₀.keeps fun b o e=>Heap.get?_push_of_some _ e
 have hcel:h₁.get? (P2.objs.size + 1)=some { cls:=.type "cell",data:=.cell none }:=by
  rw [<- hh₁,<- hsz0];exact Heap.get?_push_size _ rfl
 have ext:∀ b o,P2.get? b=some o->h₁.get? b=some o:=fun b o e=>by rw [<- hh₁];exact Heap.get?_push_of_some _ (Heap.get?_push_of_some _ e)
 have hCs:P2.objs.size=s2.heap.objs.size + 1:=by rw [<- hP,Heap.size_push]
 have below:∀ b,b < s2.heap.objs.size->b≠P2.objs.size:=fun b hb=>by rw [hCs];omega
 have old:∀ b o,s2.heap.get? b=some o->h₁.get? b=some o:=fun b o e=>ext b o (hP ▸ Heap.get?_push_of_some _ e)
 have below':∀ b,b < s2.heap.objs.size->b≠P2.objs.size + 1:=fun b hb=>by rw [hCs];omega
 have cls:∀ x c,((x0,P2.objs.size + 1) :: cl).lookup x=some c->(x=x0/\c=P2.objs.size + 1)\/(x≠x0/\cl.lookup x=some c):=fun x c e=>by
  rw [List.lookup_cons] at e
  by_cases h:x=x0
  ·subst h;simp only [beq_self_eq_true] at e;exact .inl ⟨rfl,(Option.some.inj e).symm⟩
  ·have hb:(x == x0)=false:=by simpa using h
   rw [hb] at e;exact .inr ⟨h,e⟩
 have clne:∀ x,x≠x0->((x0,P2.objs.size + 1) :: cl).lookup x=cl.lookup x:=fun x h=>by
  have hb:(x == x0)=false:=by simpa using h
  rw [List.lookup_cons,hb]
 have hacc:h₁.get? s2.heap.objs.size=some { cls:=.type "list",dict:=none,data:=.seq ([]:List Value).toArray }:=ext _ _ (hP ▸ Heap.get?_push_size _ rfl)
 obtain ⟨W,⟨m0,w0⟩,turn⟩:=h2 s2.heap.objs.size (I2.hok.fresh (Nat.le_refl _))
 have fpl:∀ b∈fp,b < s2.heap.objs.size:=fun b hb=>let ⟨o,e,_⟩:=T.obj _ _ dH b hb;Heap.lt_size e
 have σl:(cU k ix σ).length=N.length:=by rw [hlen];simp [cU]
 have i2:=I2.ok
 have ok':(fO X N scope ((x0,P2.objs.size + 1) :: cl) P2.objs.size s2 H2 fp x0).Ok:=by
  refine ⟨i2.mod,hk,i2.glob,i2.blt,(by show s2.heap.objs.size<=P2.objs.size;rw [hCs];exact Nat.le_succ _),(fun x y c e1 e2=>?inj),fun x hx=>?_,(fun x c e e2=>?cab),i2.hd,i2.frames,.inl rfl,fun b hb=>?_,fun b o e=>I2.bs b o e,Nat.le_trans i2.bsz I2.sz,fun b o e hb=>?_,fun b hb hb2=>?_,I2.stack,I2.stkFree⟩
  case inj =>
   rcases cls x c e1 with ⟨a1,b1⟩ | ⟨a1,b1⟩ <;> rcases cls y c e2 with ⟨a2,b2⟩ | ⟨a2,b2⟩
   ·rw [a1,a2]
   ·exfalso
    obtain ⟨v,o,ho,_⟩:=I2.cell y c (hcl y c b2)
    exact below' c (Heap.lt_size ho) b1
   ·exfalso
    obtain ⟨v,o,ho,_⟩:=I2.cell x c (hcl x c b1)
    exact below' c (Heap.lt_size ho) b2
   ·exact i2.inj x y c (hcl x c b1) (hcl y c b2)
  case cab =>
   rcases cls x c e2 with ⟨a1,b1⟩ | ⟨a1,b1⟩
   ·rw [b1];show s2.heap.objs.size<=_;rw [hCs];omega
   ·exact absurd (of_decide_eq_true e) a1
  ·
   have hx':(relabel scope X.env).names.lookup x=some .cell\/(relabel scope X.env).names.lookup x=some .free:=hx
   have key:∀ (names:List (Str × NameKind)),(∀ y∈names,y.2=.cell->y.1=x0)->((names.map fun (n,k)=>if (k == NameKind.free && X.env.scope.kind == .function && X.env.kindOf n == some .cell) then (n,NameKind.cell) else (n,k)).lookup x=some .cell \/
     (names.map fun (n,k)=>if (k == NameKind.free && X.env.scope.kind == .function && X.env.kindOf n == some .cell) then (n,NameKind.cell) else (n,k)).lookup x=some .free)->x=x0\/(x,NameKind.free)∈names:=by
    intro names
    induction names with
    | nil=>intro _ h;rcases h with h | h <;> cases h
    | cons y r ih =>
     obtain ⟨n,kd⟩:=y
     intro hnc h
     by_cases hxn:x=n
     ·subst hxn
      by_cases hkc0:kd=.cell
      ·exact .inl (hnc (x,kd) List.mem_cons_self hkc0)
      have hkc:kd≠.cell:=hkc0
      by_cases hkf:kd=.free
      ·subst hkf;exact .inr List.mem_cons_self
      ·exfalso
       have hb:(kd == NameKind.free)=false:=by simpa using hkf
       simp only [List.map_cons,hb,Bool.false_and,Bool.false_eq_true,if_false,List.lookup_cons,beq_self_eq_true] at h
       rcases h with h | h
       ·exact hkc (Option.some.inj h)
       ·exact hkf (Option.some.inj h)
     ·have hb:(x == n)=false:=by simpa using hxn
      refine (ih (fun y hy=>hnc y (List.mem_cons_of_mem _ hy)) ?_).imp_right fun z=>List.mem_cons_of_mem _ z
      have e1:∀ z:NameKind,List.lookup x (((n,z)) :: (r.map fun (n,k)=>if (k == NameKind.free && X.env.scope.kind == .function && X.env.kindOf n == some .cell) then (n,NameKind.cell) else (n,k)))=List.lookup x (r.map fun (n,k)=>if (k == NameKind.free && X.env.scope.kind == .function && X.env.kindOf n == some .cell) then (n,NameKind.cell) else (n,k)):=fun z=>by rw [List.lookup_cons,hb]
      rw [List.map_cons] at h
      dsimp only at h
      split at h
      ·rw [e1] at h;exact h
      ·rw [e1] at h;exact h
   rcases key scope.names hcell hx' with hxx | hxx
   ·exact ⟨P2.objs.size + 1,by show ((x0,P2.objs.size + 1) :: cl).lookup x=_;rw [hxx,List.lookup_cons];simp⟩
   ·by_cases hne:x=x0
    ·exact ⟨P2.objs.size + 1,by show ((x0,P2.objs.size + 1) :: cl).lookup x=_;rw [hne,List.lookup_cons];simp⟩
    ·obtain ⟨c,hc⟩:=hcl2 x hxx
     exact ⟨c,by show ((x0,P2.objs.size + 1) :: cl).lookup x=_;rw [clne x hne];exact hc⟩
  ·exact ⟨below b (fpl b hb),fun x c e=>by
    rcases cls x c e with ⟨_,b1⟩ | ⟨_,b1⟩
    ·rw [b1];exact fun z=>below' b (fpl b hb) z.symm
    ·exact (f2 b hb).2.2.2.2.1 x c (hcl x c b1)⟩
  ·rcases (f2 b hb).2.2.2.1 with z | z
   ·exact i2.noex b o e z
   ·exact absurd (Nat.lt_of_lt_of_le (Heap.lt_size e) (Nat.le_trans i2.bsz z)) (Nat.lt_irrefl _)
  ·rcases List.mem_cons.mp (I2.stkSub b hb2) with z | z
   ·exact (f2 b hb).2.1 z
   ·exact (f2 b hb).2.2.1 z
 have stat:∀ {H':Hp},(∀ b∈fp,H' b=none)->∀ b∈fp,pY (fO X N scope ((x0,P2.objs.size + 1) :: cl) P2.objs.size s2 H2 fp x0) [] H' b:=fun hn b hb =>
  ⟨hn b hb,below b (fpl b hb),fun z=>ok'.exfs b hb z,.inl hb,fun x c e=>by
    rcases cls x c e with ⟨_,b1⟩ | ⟨_,b1⟩
    ·rw [b1];exact fun z=>below' b (fpl b hb) z.symm
    ·exact (f2 b hb).2.2.2.2.1 x c (hcl x c b1),(fun p hp=>by cases hp)⟩
 have hD:H2 s2.heap.objs.size=none:=I2.hok.fresh (Nat.le_refl _)
 have relf:∀ x,scope.names.lookup x=some .free->(X.env.kindOf x=some .cell\/X.env.kindOf x=some .free)->((relabel scope X.env).names.lookup x=some .cell\/(relabel scope X.env).names.lookup x=some .free):=by
  intro x hx hkx
  have key:∀ (names:List (Str × NameKind)),names.lookup x=some .free->((names.map fun (n,k)=>if (k == NameKind.free && X.env.scope.kind == .function && X.env.kindOf n == some .cell) then (n,NameKind.cell) else (n,k)).lookup x=some .cell \/
    (names.map fun (n,k)=>if (k == NameKind.free && X.env.scope.kind == .function && X.env.kindOf n == some .cell) then (n,NameKind.cell) else (n,k)).lookup x=some .free):=by
   intro names
   induction names with
   | nil=>intro h;cases h
   | cons y r ih =>
    obtain ⟨n,kd⟩:=y
    intro h
    rw [List.lookup_cons] at h
    by_cases hxn:x=n
    ·subst hxn
     simp only [beq_self_eq_true] at h
     cases h
     rw [List.map_cons]
     dsimp only
     split
     ·left;simp [List.lookup_cons]
     ·right;simp [List.lookup_cons]
    ·have hb:(x == n)=false:=by simpa using hxn
     rw [hb] at h
     have:=ih h
     rw [List.map_cons]
     dsimp only
     split
     ·rw [List.lookup_cons,hb];exact this
     ·rw [List.lookup_cons,hb];exact this
  exact key scope.names hx
 have Istart:∀ tk,Inv (fO X N scope ((x0,P2.objs.size + 1) :: cl) P2.objs.size s2 H2 fp x0) [] (cU k ix σ) (upd H2 s2.heap.objs.size (.lst [])) { s2 with heap:=h₁,toks:=tk }:=fun tk=>by
  refine ⟨ok',rfl,I2.bare,Un.laid old (Nat.le_refl _) hD,⟨_,hns₁,fun i x v e1 e2 e3=>?_⟩,fun x c e=>?_,?_,fun x c e=>?_,(fun p hp=>by cases hp),I2.hok.laid old (Nat.le_refl _) ⟨Nat.zero_le _,[],_,.nil,hacc⟩,σl⟩
  ·by_cases hik:i < k
   ·exfalso
    unfold cU at e2
    rw [List.getElem?_append_left (by simpa using hik),List.getElem?_replicate] at e2
    split at e2 <;> cases e2
   ·have ej:i=k + (i - k):=by omega
    have e1':N[k + (i - k)]?=some x:=by rw [<- ej];exact e1
    obtain ⟨i0,hi0,hXN⟩:=hN (i - k) x e1'
    have hfx:=hcap (i - k) x e1'
    have hmem:(x,NameKind.free)∈scope.names:=PySem.mem_of_lookup hfx
    have hkx:=hfree _ hmem rfl
    have e4:σ[i0]?=some (some v):=by
     unfold cU at e2
     rw [List.getElem?_append_right (by simpa using Nat.le_of_not_lt hik),List.getElem?_map] at e2
     simp only [List.length_replicate,hi0,Option.map_some,Option.some.injEq] at e2
     cases z:σ[i0]? with
     | none=>rw [z] at e2;cases e2
     | some y=>rw [z] at e2;simp only [Option.getD_some] at e2;rw [e2]
    obtain ⟨m2,hn2,hl2⟩:=I2.loc
    obtain ⟨u,ru,lk⟩:=hl2 i0 x v hXN e4 (by rcases hkx with z | z;exact .inr (.inl z);exact .inr (.inr z))
    rcases lk with ⟨z,_⟩ | ⟨_,c,hc1,hc2⟩
    ·exfalso
     have z':X.env.kindOf x=some .local:=z
     rcases hkx with y | y <;> (rw [z'] at y;cases y)
    ·obtain ⟨c',hc'⟩:=hcl2 x hmem
     have e5:=hcl x c' hc'
     rw [hc1] at e5;cases e5
     obtain ⟨o,ho,hd⟩:=hc2
     have hne:x≠x0:=fun z=>by rw [z,hx0] at hfx;cases hfx
     exact ⟨u,ru,.inr ⟨relf x hfx hkx,c,by show ((x0,P2.objs.size + 1) :: cl).lookup x=_;rw [clne x hne];exact hc',o,old _ _ ho,hd⟩⟩
  ·rcases cls x c e with ⟨_,b1⟩ | ⟨_,b1⟩
   ·rw [b1];exact ⟨none,_,hcel,rfl⟩
   ·obtain ⟨v,o,ho,hd⟩:=I2.cell x c (hcl x c b1)
    exact ⟨v,o,old _ _ ho,hd⟩
  ·show upd H2 s2.heap.objs.size (.lst []) P2.objs.size=none
   rw [bF (show P2.objs.size≠s2.heap.objs.size by rw [hCs];exact Nat.succ_ne_self _)]
   exact I2.hok.fresh (show s2.heap.objs.size<=P2.objs.size by rw [hCs];exact Nat.le_succ _)
  ·rcases cls x c e with ⟨_,b1⟩ | ⟨_,b1⟩
   ·have hne:P2.objs.size + 1≠s2.heap.objs.size:=by rw [hCs];omega
    have hle:s2.heap.objs.size<=P2.objs.size + 1:=by rw [hCs];omega
    rw [b1,bF hne]
    exact I2.hok.fresh hle
   ·have e':=hcl x c b1
    obtain ⟨v,o,ho,hd⟩:=I2.cell x c e'
    rw [bF (Nat.ne_of_lt (Heap.lt_size ho))]
    exact I2.freeC x c e'
 have st1:tn 0 h₁:=T.keep 0 _ _ dH fun b hb o e=>old b o e
 have fr1:∀ b∈fp,upd H2 s2.heap.objs.size (.lst []) b=none:=fun b hb=>by rw [bF (Nat.ne_of_lt (fpl b hb))];exact (f2 b hb).1
 have fin:∀ (H3:Hp) (s4:Shared),Inv (fO X N scope ((x0,P2.objs.size + 1) :: cl) P2.objs.size s2 H2 fp x0) [] (cU k ix σ) H3 s4->∀ h':Heap,Heap.SameBut P2.objs.size s4.heap h'->Inv X pins σ H3 { s4 with heap:=h' }:=fun H3 s4 I4 h' sb=>by
  have kp:∀ b o,b < s2.heap.objs.size->s4.heap.get? b=some o->h'.get? b=some o:=fun b o hb e=>sb.extBut b o (below b hb) e
  have u:Un (qI X.stack) fp H2 H3 s2.heap s4.heap:=I4.base
  refine I2.call' (ch:=fp) (H':=H3) I4.os ⟨fun b o q n hb hx=>kp b o (Heap.lt_size q) (u.keep b o q n hb hx),fun b o q n hb hx=>?_,u.free,fun b o q hx=>?_,u.tups,u.frzs,u.tbls⟩ (fun a o e=>?_) I4.bare fun b hb=>⟨(f2 b hb).2.2.2.1,(f2 b hb).2.1,(f2 b hb).2.2.2.2.1,(f2 b hb).2.2.2.2.2⟩
  ·obtain ⟨sl,e⟩:=u.slot b o q n hb hx
   exact ⟨sl,kp b _ (Heap.lt_size q) e⟩
  ·obtain ⟨o',e⟩:=u.there b o q hx
   exact ⟨o',kp b _ (Heap.lt_size q) e⟩
  ·have nC:H3 P2.objs.size=none:=I4.free
   refine (I4.hok a o e).stay (fun b z hb q=>sb.extBut b z ?_ q) (fun _ q=>q) fun _ _ q=>q
   rcases hb with rfl | hb
   ·exact cF e nC
   ·exact cF hb nC
 have loop:∀ tk,codeAny (model X.prog X.w) X.A (.compLoop (.ListComp elt [⟨tg,iter,ifs,0⟩] scope pos) 0 (.ref it) (.ref s2.heap.objs.size) (compEnvC scope ((x0,P2.objs.size + 1) :: cl) P2.objs.size X.env))
   (compPost (model X.prog X.w) X.A X.xe use QQ (.ref s2.heap.objs.size) P2.objs.size) { s2 with heap:=h₁,toks:=tk }:=fun tk=>by
  refine vX (fun n s'=>∃ i H',Inv (fO X N scope ((x0,P2.objs.size + 1) :: cl) P2.objs.size s2 H2 fp x0) [] (cU k ix σ) H' s'/\tn i s'.heap/\(∀ b∈fp,H' b=none)/\W i n H') ?_ m0 ⟨0,_,Istart tk,st1,fr1,w0⟩
  rintro n s3 ⟨i,H3,I3,st3,fr3,w3⟩
  rcases turn i n H3 w3 with ⟨stop,q⟩ | ⟨go,step⟩
  ·refine bC (T.done (fO X N scope ((x0,P2.objs.size + 1) :: cl) P2.objs.size s2 H2 fp x0) rfl rfl rfl hc i [] s3 _ H3 (fun _ _=>False) I3 (stat fr3) st3 stop) fun r s4 ⟨hr,I4⟩=>?_
   subst hr
   obtain ⟨m,hn,_⟩:=I4.loc
   refine end_ s2.heap.objs.size P2.objs.size H3 s4 (fin H3 s4 I4 s4.heap (Heap.SameBut.refl ..)) ⟨m,hn⟩ I4.free (Ne.symm (below _ I2.lt)) (Nat.le_trans I2.sz (show s2.heap.objs.size<=P2.objs.size by rw [hCs];exact Nat.le_succ _)) (fun x c e=>?_) (fun p hp=>below _ (Heap.lt_size (I2.pin p hp).1)) (fin H3 s4 I4) q
   obtain ⟨v,o,ho,_⟩:=I2.cell x c e
   exact below _ (Heap.lt_size ho)
  ·refine bC (T.item (fO X N scope ((x0,P2.objs.size + 1) :: cl) P2.objs.size s2 H2 fp x0) rfl rfl rfl hc i [] s3 _ H3 (fun _ _=>False) I3 (stat fr3) st3 go) fun r s4 ⟨u,hr,h4⟩=>?_
   subst hr
   refine bC h4 fun _ s5 ⟨x,H5,I5,r5,y5,st5,fr5⟩=>?_
   have I5':=I5.pinned (stat fr5) (T.obj _ _ st5)
   refine bC (hg ((x0,P2.objs.size + 1) :: cl) P2.objs.size s2 H2 fp _ s5 _ H5 x u _ I5' r5 (gk _ _ _ _ (step x H5 y5))) fun _ s6 ⟨σ6,H6,I6,ag,q6⟩=>?_
   have again:∀ {s7:Shared} {H7:Hp} {m':Nat},Inv (fO X N scope ((x0,P2.objs.size + 1) :: cl) P2.objs.size s2 H2 fp x0) ([]++qK fp s5.heap) σ6 H7 s7->m' < n->W (i + 1) m' H7->∃ m,m < n/\∃ i H',Inv (fO X N scope ((x0,P2.objs.size + 1) :: cl) P2.objs.size s2 H2 fp x0) [] (cU k ix σ) H' s7/\tn i s7.heap/\(∀ b∈fp,H' b=none)/\W i m H':=fun {s7 H7 m'} I7 hm w7=>by
    refine ⟨m',hm,i + 1,H7,(I7.unpinned).weak (by rw [σl];exact (I7.len).symm) (fun j v e=>?_),T.keep _ _ _ st5 fun b hb o e=>(I7.pin (b,o) (List.mem_append_right _ (List.mem_append_right _ (j5 hb e)))).1,fun b hb=>?_,w7⟩
    ·by_cases hj:j < k
     ·exfalso
      unfold cU at e
      rw [List.getElem?_append_left (by simpa using hj),List.getElem?_replicate] at e
      split at e <;> cases e
     ·rw [ag j (by omega)];exact e
    ·obtain ⟨o,e,d⟩:=T.obj _ _ st5 b hb
     exact (I7.pin (b,o) (List.mem_append_right _ (List.mem_append_right _ (j5 hb e)))).2.1
   refine bC (hif ((x0,P2.objs.size + 1) :: cl) P2.objs.size s2 H2 fp _ s6 σ6 H6 _ I6 q6) fun ok s7 ⟨H7,I7,q7⟩=>?_
   cases ok with
   | false =>
    obtain ⟨m',hm,w7⟩:=q7
    exact again I7 hm w7
   | true =>
    refine bC (he ((x0,P2.objs.size + 1) :: cl) P2.objs.size s2 H2 fp _ s7 σ6 H7 _ I7 q7) fun y s8 ⟨yv,H8,I8,r8,ys,hD8,hz8,m',hm,w8⟩=>?_
    refine bC (uJ _ s8 σ6 H8 (.ref s2.heap.objs.size) [yv] (.ref s2.heap.objs.size) [y] (fun v H9=>H9=upd H8 s2.heap.objs.size (.lst (ys++[yv]))) I8 rfl (.cons r8 .nil) ⟨_,ys,yv,rfl,rfl,hD8,hz8,rfl⟩) fun _ s9 ⟨_,H9,I9,_,e9⟩=>?_
    subst e9
    exact again I9 hm w8
 exact codeAny_compStart_list (loop _) (T.self _ 0 _ _ _ st1 (loop _))
theorem kH.compC {D:Dat} {X:Cx} (h:kH D X) (N:List Str) (scope:Scope) (cl:List (Str × Addr)) (C:Addr) (s:Shared) (H:Hp) (fp:List Addr) (x0:Str):kH (bM D N scope) (fO X N scope cl C s H fp x0) :=
 ⟨h.prog,h.w,h.K,h.mg,h.base,rfl,by show bX scope X.env.scope=bX scope D.sc;rw [h.sc],h.room,h.calm,rfl,(fun z=>by cases z),(fun z=>absurd rfl z)⟩
theorem K1 {D:Dat} {pos px:Pos} {te:UE} (own:Bool) (N:List Str) (ix:List Nat) {x0:Str} {scope:Scope} {iter elt:Expr} {wi:UI} (hi:uP D (.Name x0 px) iter wi) (he:bA (bM D N scope) elt te) (hN0:N[0]?=some x0:=by rfl) (hNd:N.Nodup:=by decide +kernel)
  (hk:scope.kind=.function:=by rfl) (hcell:∀ y∈scope.names,y.2=.cell->y.1=x0:=by decide +kernel) (hx0:scope.names.lookup x0=some .cell:=by rfl) (hcf:∀ a cl,cellsFrom a scope.names cl=(x0,a) :: cl:=by intros;rfl) (hpc:∀ h,pushCells h scope.names=h.push { cls:=.type "cell",data:=.cell none }:=by intros;rfl)
  (hnames:∀ y∈scope.names,y.2=.local->scope.names.lookup y.1=some .local:=by first | decide +kernel | (dsimp only;decide +kernel) | (dsimp only [bM,bX];decide +kernel))
  (hfree:∀ y∈scope.names,y.2=.free->D.sc.names.lookup y.1=some .cell\/D.sc.names.lookup y.1=some .free:=by first | decide +kernel | (dsimp only;decide +kernel) | (dsimp only [bM,bX];decide +kernel)) (hone:∀ y∈scope.names,y.2=.free->scope.names.lookup y.1=some .free:=by first | decide +kernel | (dsimp only;decide +kernel) | (dsimp only [bM,bX];decide +kernel))
  (hN:ix.map (fun i=>D.N[i]?)=(N.drop 1).map some:=by rfl) (hcap:∀ x∈N.drop 1,scope.names.lookup x=some .free:=by first | decide +kernel | (dsimp only;decide +kernel) | (dsimp only [bM,bX];decide +kernel)) (hlen:N.length=1 + ix.length:=by rfl)
  (hloc:Loc (bX scope D.sc) x0:=by first | exact Or.inr rfl | exact Or.inr (by decide +kernel))
  (hs:∀ env x,foldedSetIterable iter env x=pure x:=by intro _ _;rfl):bA D (.ListComp elt [⟨.Name x0 px,iter,[],0⟩] scope pos) (pQ own 1 ix wi (hName 0) (fun _ M Q=>Q true M) te):=by
 obtain ⟨_,p1,s1⟩:=hi;obtain ⟨_,p4,s4⟩:=he
 have hN':∀ (j:Nat) x,N[1 + j]?=some x->∃ i,ix[j]?=some i/\D.N[i]?=some x:=fun j x e=>by
  have e1:((N.drop 1).map some)[j]?=some (some x):=by rw [List.getElem?_map,List.getElem?_drop,e];rfl
  rw [<- hN,List.getElem?_map] at e1
  cases q:ix[j]? with
  | none=>rw [q] at e1;cases e1
  | some i=>rw [q] at e1;exact ⟨i,rfl,Option.some.inj e1⟩
 have hcap':∀ (j:Nat) x,N[1 + j]?=some x->scope.names.lookup x=some .free:=fun j x e=>hcap x (List.mem_of_getElem? (i:=j) (by rw [List.getElem?_drop];exact e))
 refine ⟨vG 1 ix _ (o3 0) Kt _,fun X h=>?_,wO s1 (pG 0) (fun σ τ H M Q' rs rm q Q c=>c true M H (aP.refl _ _) rm q) s4⟩
 intro pins s σ H Q I q
 rw [eval_ListComp]
 refine GP (use:=none) (x0:=x0) h.calm (p1 X h) (Ex (by decide)) hk hcell hx0 hcf hpc hnames (fun y hy e=>by show X.env.scope.names.lookup y.1=_\/X.env.scope.names.lookup y.1=_;rw [h.sc];exact hfree y hy e) hone (fun j x e=>by rw [h.N];exact hN' j x e) hcap' hlen
  (fun cl C s H fp=>EJ (i:=0) hNd hN0 (by show Loc (bX scope X.env.scope) x0;rw [h.sc];exact hloc) (.inl (decide_eq_true rfl))) (fun cl C s H fp=>E1) (fun cl C s H fp=>p4 _ (h.compC N scope cl C s H fp x0)) (hs _) I q fun D' C H3 s4 I4 ⟨m,hn⟩ _ _ _ _ _ fin q=>?_
 exact ⟨m,hn,fun h' sb=>⟨.ref D',H3,fin h' sb,rfl,q⟩⟩
end U2
namespace L2
open PySem PySem.Spec PyProof.Rows
def lT (o:Obj):Array DictEntry:=match o.data with | .dict es _=>es | _=>#[]
def C4 (o:Obj):Nat:=match o.data with | .dict _ ep=>ep | _=>0
def nF:HO->Nat
 | .dK kvs=>kvs.length
 | .dT kvs=>kvs.length
 | _=>0
def zL (H:Hp) (i:Nat) (x:V):HO->Prop
 | .dK kvs=>∃ p,kvs[i]?=some p/\x=kV p.1
 | .dT kvs=>∃ p b,kvs[i]?=some p/\x=.ref b/\H b=some (.tup (p.1.map kV))
 | _=>False
def vA (i:Nat) (x:V):HO->Prop
 | .dK kvs=>∃ p,kvs[i]?=some p/\x=p.2
 | .dT kvs=>∃ p,kvs[i]?=some p/\x=p.2
 | _=>False
theorem Qp {P:Program} {w:World} {k:Key} {u:Value} (h:(cN P w).is k u=true):RelV (kV k) u:=by
 rcases dZ (show sS k u=true from h) with ⟨i,t,rfl,rfl⟩ | ⟨x,t,rfl,rfl⟩
 ·exact ⟨_,rfl⟩
 ·exact ⟨_,rfl⟩
theorem ES {P:Program} {w:World}:∀ {es:List DictEntry} {vs:List (Key × Value)} {kvs:List (Key × V)},Pairs (cN P w) es vs->KV kvs vs->es.length=kvs.length/\∀ (i:Nat) (e:DictEntry),es[i]?=some e->∃ p,kvs[i]?=some p/\RelV (kV p.1) e.key/\RelV p.2 e.val
 | _,_,_,.nil,.nil=>⟨rfl,fun i e h=>by simp at h⟩
 | _,_,_,.cons h1 h2 t,.cons q r=>by
  obtain ⟨hl,ih⟩:=ES t r
  refine ⟨by simp [hl],fun i e h=>?_⟩
  cases i with
  | zero=>simp at h;subst h;exact ⟨_,rfl,by rw [q.1];exact Qp h1,by rw [h2];exact q.2⟩
  | succ j=>simpa using ih j e (by simpa using h)
theorem vI {P:Program} {w:World} {H:Hp} {h:Heap} {d:Addr} {o:Obj} {u:HO} (ok:fT P w H h) (e:H d=some (.frz o u)) (dk:U2.uW u=true):gE h d (lT o) (C4 o)/\(lT o).size=nF u/\(d == sysModules)=false/\nF u<=sizeLine /\
  ∀ (i:Nat) en,(lT o)[i]?=some en->∃ k v,zL H i k u/\RelV k en.key/\vA i v u/\RelV v en.val:=by
 obtain ⟨g,hq⟩:=(show dB P w H h d (.frz o u) from ok d _ e)
 cases u with
 | dK kvs =>
  obtain ⟨z,hs,vs,rel,o',es,ep,g',c',d',kk,pp,nn⟩:=hq
  rw [g] at g';cases g'
  have e1:lT o=es:=by unfold lT;rw [d']
  have e2:C4 o=ep:=by unfold C4;rw [d']
  obtain ⟨hl,pr⟩:=ES pp rel
  rw [e1,e2]
  refine ⟨⟨o,g,c',d'⟩,by simpa [nF] using hl,hs,z,fun i en hi=>?_⟩
  obtain ⟨p,h1,h2,h3⟩:=pr i en (by rw [Array.getElem?_toList];exact hi)
  exact ⟨_,_,⟨p,h1,rfl⟩,h2,⟨p,h1,rfl⟩,h3⟩
 | dT kvs =>
  obtain ⟨z,hs,xs,rel,o',es,ep,g',c',d',pp,nn⟩:=hq
  rw [g] at g';cases g'
  have e1:lT o=es:=by unfold lT;rw [d']
  have e2:C4 o=ep:=by unfold C4;rw [d']
  rw [e1,e2]
  have hl:es.size=kvs.length:=by rw [<- Array.length_toList,pp,List.length_map];exact (Paired.length rel).symm
  have pr:∀ {kvs:List (List Key × V)} {xs:List (List Key × Addr × Value)},Paired (fun (p:List Key × V) (q:List Key × Addr × Value)=>p.1=q.1/\H q.2.1=some (.tup (p.1.map kV))/\RelV p.2 q.2.2) kvs xs->∀ (i:Nat) q,xs[i]?=some q->∃ p,kvs[i]?=some p/\p.1=q.1/\H q.2.1=some (.tup (p.1.map kV))/\RelV p.2 q.2.2:=by
   intro kvs xs r
   induction r with
   | nil=>intro i q h;simp at h
   | cons h t ih =>
    intro i q hq
    cases i with
    | zero=>simp at hq;subst hq;exact ⟨_,rfl,h⟩
    | succ j=>simpa using ih j q (by simpa using hq)
  refine ⟨⟨o,g,c',d'⟩,hl,hs,z,fun i en hi=>?_⟩
  have h0:(xs.map (entryOfKey (tupleKind (cN P w))))[i]?=some en:=by rw [<- pp,Array.getElem?_toList];exact hi
  rw [List.getElem?_map] at h0
  cases hx:xs[i]? with
  | none=>rw [hx] at h0;cases h0
  | some q =>
   rw [hx] at h0;cases h0
   obtain ⟨p,h1,h2,h3,h4⟩:=pr rel i q hx
   exact ⟨.ref q.2.1,p.2,⟨p,q.2.1,h1,rfl,h3⟩,rfl,⟨p,h1,rfl⟩,h4⟩
 | _=>cases dk
def OT (d:Addr) (o:Obj) (u:HO):It :=
 ⟨fun i H=>H d=some (.frz o u)/\i < nF u,fun i H x H'=>∃ T k v,zL H i k u/\vA i v u/\H T=none/\x=.ref T/\H'=upd H T (.tup [k,v]),fun i H=>H d=some (.frz o u)/\nF u<=i⟩
theorem Ae:entryFor table "dict_itemiterator.__iter__"=some Builtin.«dict_keyiterator.__iter__» :=
 entryFor_alias (id':="dict_keyiterator.__iter__") (by kernel_rfl) (by rfl) (by decide +kernel) (by kernel_rfl)
theorem Gi {P:Program} {w:World} {K:PySem.W.Frag} {elts:List Expr} {kk:Nat} {pos:Pos} (d it:Addr) (o:Obj) (u:HO) (dk:U2.uW u=true):Turn P w K (.Tuple elts kk pos) (OT d o u) [it] it (fun i h=>∃ ok ov,IsItemIter h it d i (lT o).size (C4 o) ok ov) where
 mem:=by simp
 obj:=fun i h st b hb=>by
  have e:b=it:=by simpa using hb
  subst e
  obtain ⟨ok,ov,e⟩:=st
  exact ⟨_,e,fun v z=>by
   have z':Data.fields _=Data.cell v:=z
   cases z'⟩
 keep:=fun i h h' st k=>let ⟨ok,ov,e⟩:=st;⟨ok,ov,k it (by simp) _ e⟩
 item:=by
  intro X hP hw hK hc i pins s σ H E I hf st hg
  subst hP hw hK
  obtain ⟨ok,ov,st⟩:=st
  obtain ⟨hq,hx⟩:=hg
  obtain ⟨raw,hlen,hs,_,at'⟩:=vI I.hok hq dk
  have hil:i < (lT o).size:=by rw [hlen];exact hx
  obtain ⟨k,v,hk,rk,hv,rv⟩:=at' i _ (Array.getElem?_eq_getElem hil)
  refine Bt st raw (Array.getElem?_eq_getElem hil) fun h' so ht hz hk2=>?_
  refine ⟨.ref s.heap.objs.size,rfl,wpAny_letOwnedTupleGo_items (s:={ s with heap:=h' }) so fun h'' so2 sb=>?_⟩
  have hTi:s.heap.objs.size≠it:=Nat.ne_of_gt (Heap.lt_size st)
  have hTT:h''.get? s.heap.objs.size=some { cls:=.type "tuple",data:=.seq #[(lT o)[i].key,(lT o)[i].val] }:=sb.extBut _ _ hTi ht
  refine ⟨.ref s.heap.objs.size,upd H s.heap.objs.size (.tup [k,v]),U2.l9 (s:=s) (h':=h'') (tk:=s.toks) (ch:=[it]) I hf (fun b o hb q=>?_) (Nat.le_refl _) ⟨by show 2<=sizeLine;decide,[(lT o)[i].key,(lT o)[i].val],.cons rk (.cons rv .nil),⟨_,hTT,rfl,_,rfl⟩⟩,rfl,⟨_,k,v,hk,hv,I.hok.fresh (Nat.le_refl _),rfl,rfl⟩,⟨_,_,so2⟩,fun b hb=>?_⟩
  ·have hb':b≠it:=by simpa using hb
   exact sb.extBut b o hb' (hk2 b o hb' q)
  ·have e:b=it:=by simpa using hb
   subst e
   rw [bF (Ne.symm hTi)]
   exact (hf _ hb).1
 done:=by
  intro X hP hw hK hc i pins s σ H E I hf st hg
  subst hP hw hK
  obtain ⟨ok,ov,st⟩:=st
  obtain ⟨hq,hx⟩:=hg
  obtain ⟨raw,hlen,hs,_,at'⟩:=vI I.hok hq dk
  obtain ⟨f0,f1,f2,f3,f4,f5⟩:=hf it (by simp)
  exact B1 (I.ok.hd hc) st raw (Array.getElem?_eq_none (by rw [hlen];exact hx)) fun h' eb=>⟨rfl,I.turned (t':=s.toks) (fun b o hb e=>eb b o hb e) f0 f1 f3 f4 f5⟩
 self:=fun A i s Q E st h=>by
  obtain ⟨ok,ov,st⟩:=st
  have T:s.TypeIs (.ref it) "dict_itemiterator":=⟨_,st,rfl⟩
  refine wpAny_pyIter_slot T PySem.F.slot_dict_itemiterator_iter (wpAny_call_entry PySem.F.slot_dict_itemiterator_iter T Ae ?_ (PySem.F.args_dict_itemiterator_iter_1 _))
  show wpAny (model P w) _ (ret (.ref it)) _ _ s;exact wpAny_pure ⟨_,rfl,"dict_itemiterator",_,T,PySem.F.slot_dict_itemiterator_next.lookup,h⟩
section
variable {X:Cx} {tg:Expr}
theorem freeze {pins:List (Addr × Obj)} {σ:St} {H:Hp} {s:Shared} {d:Addr} {u:HO} (I:Inv X pins σ H s) (e:H d=some u) (dk:U2.uW u=true):∃ o,Inv X pins σ (upd H d (.frz o u)) s:=by
 have ok:dB X.prog X.w H s.heap d u:=I.hok d _ e
 have hx:∃ o,s.heap.get? d=some o:=by
  cases u with
  | dK kvs=>obtain ⟨_,_,_,_,o,_,_,h1,_⟩:=ok;exact ⟨o,h1⟩
  | dT kvs=>obtain ⟨_,_,_,_,o,_,_,h1,_⟩:=ok;exact ⟨o,h1⟩
  | _=>cases dk
 obtain ⟨o,g⟩:=hx
 refine ⟨o,?_⟩
 have ok2:dB X.prog X.w (upd H d (.frz o u)) s.heap d u:=by
  cases u with
  | dK kvs=>exact ok
  | dT kvs =>
   obtain ⟨z,hs,xs,rel,r⟩:=ok
   refine ⟨z,hs,xs,?_,r⟩
   have up:∀ {kvs:List (List Key × V)} {xs:List (List Key × Addr × Value)},Paired (fun (p:List Key × V) (q:List Key × Addr × Value)=>p.1=q.1/\H q.2.1=some (.tup (p.1.map kV))/\RelV p.2 q.2.2) kvs xs->∀ f:HO,Paired (fun (p:List Key × V) (q:List Key × Addr × Value)=>p.1=q.1/\upd H d f q.2.1=some (.tup (p.1.map kV))/\RelV p.2 q.2.2) kvs xs:=by
    intro kvs xs r f
    induction r with
    | nil=>exact .nil
    | cons h t ih=>exact .cons ⟨h.1,by rw [bF (fun z=>by rw [z,e] at h;exact absurd h.2.1 (by simp))];exact h.2.1,h.2.2⟩ ih
   exact up rel _
  | _=>cases dk
 have:=I.write (x:=d) (e:=d) (o:=.frz o u) (h':=s.heap) (t':=s.toks) (by rw [e];cases u <;> first | trivial | cases dk) (.inl rfl) (fun b u _ q=>q) ⟨o,g⟩ ⟨g,ok2⟩
 exact this
def AL (H:Hp) (d:Addr) (R:Obj->HO->Hp->Prop):Prop:=∃ u,U2.uW u=true/\((H d=some u/\∀ o,R o u (upd H d (.frz o u)))\/∃ o,H d=some (.frz o u)/\R o u H)
theorem AL.go {pins:List (Addr × Obj)} {σ:St} {H:Hp} {s:Shared} {d:Addr} {R:Obj->HO->Hp->Prop} (I:Inv X pins σ H s) (h:AL H d R):∃ o u H2,Inv X pins σ H2 s/\H2 d=some (.frz o u)/\U2.uW u=true/\R o u H2:=by
 obtain ⟨u,dk,⟨e,r⟩ | ⟨o,e,r⟩⟩:=h
 ·obtain ⟨o,I2⟩:=freeze I e dk
  exact ⟨o,u,_,I2,cG,dk,r o⟩
 ·exact ⟨o,u,H,I,e,dk,r⟩
def GZ (tl:TE):TI:=fun σ H R=>tl σ H fun x H1=>∃ d,x=.ref d/\AL H1 d fun o u H2=>R (OT d o u) H2
theorem Jw {elts:List Expr} {kk:Nat} {tpos apos cpos:Pos} {l:Expr} {tl:TE} (hl:PE X l tl) (hbase:attributeBase l "items" X.env (eval l X.env)=eval l X.env:=by rfl) (hline:(apos.endLine == cpos.line)=true:=by rfl):PI X (.Tuple elts kk tpos) (.Call (.Attribute l "items" apos) [] [] cpos) (GZ tl):=by
 intro pins s σ H R I h
 refine wpAny_Call_method0_late hbase hline (bC (hl pins s σ H _ I h) fun v s1 ⟨x,H1,I1,r1,q1⟩=>?_)
 obtain ⟨d,e,hq⟩:=q1
 subst e
 cases r1
 obtain ⟨o,u,H2,I2,e,dk,q⟩:=hq.go I1
 obtain ⟨raw,hlen,hs,_⟩:=vI I2.hok e dk
 refine ⟨"dict","dict.items",PySem.F.plainAttrs_dict,PySem.F.slot_dict_items,PySem.F.type_dict_items,raw.ty,fun b q=>?_,Calls.callWith_builtin rfl (PySem.evalArgs_none ?_)⟩
 ·cases q
  obtain ⟨ob,g,c,_⟩:=raw
  exact ⟨ob,g,c.2.1⟩
 ·refine call_meetsIn PySem.F.slot_dict_items raw.ty PySem.F.entry_dict_items (PySem.F.args_dict_items_1 _) (Ji d hs) ⟨⟨_,_,raw⟩,?_⟩
  have raw2:=raw.at (h':=s1.heap.push { cls:=.type "dict_items",data:=.fields #[.ref d] }) fun o e=>Heap.get?_push_of_some _ e
  show wpAny (model X.prog X.w) X.A (pyIter (.ref s1.heap.objs.size)) _ _ _
  refine CN (s:={ s1 with heap:=s1.heap.push { cls:=.type "dict_items",data:=.fields #[.ref d] } }) ⟨_,Heap.get?_push_size _ rfl,rfl,rfl⟩ raw2 ?_
  have hz:(s1.heap.push { cls:=.type "dict_items",data:=.fields #[.ref d] }).objs.size=s1.heap.objs.size + 1:=Heap.size_push ..
  refine ⟨_,[(s1.heap.push { cls:=.type "dict_items",data:=.fields #[.ref d] }).objs.size],_,_,H2,rfl,I2.kept (t':=s1.toks) fun b o e=>Heap.get?_push_of_some _ (Heap.get?_push_of_some _ e),Gi d _ o u dk,⟨_,_,Heap.get?_push_size _ rfl⟩,fun b hb=>?_,q⟩
  have e:b=(s1.heap.push { cls:=.type "dict_items",data:=.fields #[.ref d] }).objs.size:=by simpa using hb
  subst e
  exact I2.fpOk (by rw [hz];exact Nat.le_succ _) (I2.hok.fresh (by rw [hz];exact Nat.le_succ _))
theorem HE {prog:Program} {w:World} {A:Around} (hh:A.handled=none) (I d:Addr) (hne:d≠I) (es:Array DictEntry) (ep:Nat):Walks prog w A I [I,d] [I] es.size (fun i v=>∃ e,es[i]?=some e/\v=e.key) (fun i h=>h.IsKeyIter I d i es.size ep/\gE h d es ep) where
 sub:=fun b hb=>by simp at hb;simp [hb]
 frame:=fun _ _ _ st hk=>⟨st.1.at fun o e=>hk I (by simp) o e,st.2.at fun o e=>hk d (by simp) o e⟩
 item:=fun i s Q E hi st hQ=>K8 st.1 st.2 (Array.getElem?_eq_getElem hi) fun h' hit' hs'=>hQ _ h' s.toks ⟨_,Array.getElem?_eq_getElem hi,rfl⟩ ⟨hit',st.2.at fun o e=>hs'.extBut d o hne e⟩ fun b o hb e=>hs'.extBut b o (fun h=>hb (by simp [h])) e
 done:=fun s Q E st hQ=>Nw hh st.1 st.2 (Array.getElem?_eq_none (Nat.le_refl _)) fun h' he'=>hQ h' s.toks fun b o hb e=>he' b o (fun h=>hb (by simp [h])) e
 self:=fun _ _ _ _ st hQ=>wpAny_pyIter_keyiter st.1 hQ
theorem Nv {prog:Program} {w:World} {d:Addr} (lo:(d == sysModules)=false) (es:Array DictEntry) (ep:Nat):PySem.W.KdlSrc prog w "dict" d d es.size (fun i v=>∃ e,es[i]?=some e/\v=e.key) (fun h=>gE h d es ep) where
 type:=fun _ hm=>hm.ty
 there:=fun _ hm=>⟨hm.lt,hm.lt⟩
 keep:=fun _ _ hm hk=>hm.at fun o e=>hk d (.inl rfl) o e
 notList:=by decide
 notTuple:=by decide
 hint:=fun _ _ _ _ hm hq=>PySem.W.kdl_hint_dict hm.ty hq
 iter:=fun _ _ hh hm=>⟨_,_,(fun _ _ hq=>JP lo hm hq),HE hh _ d (Nat.ne_of_lt hm.lt) es ep,⟨⟨_,Heap.get?_push_size _ rfl,rfl,rfl⟩,hm.at fun o e=>Heap.get?_push_of_some _ e⟩⟩
def KeysAre (H:Hp) (u:HO) (ys:List V):Prop:=ys.length=nF u/\∀ i x,ys[i]?=some x->zL H i x u
def Pf:List V->Hp->VK->Prop:=fun xs H Q=>∃ d,xs=[.ref d]/\AL H d fun o u H2=>∀ l ys,H2 l=none->KeysAre H2 u ys->Q (.ref l) (upd H2 l (.lst ys))
theorem HL {P:Nat->V->Prop}:∀ (us:List Value),(∀ (i:Nat) u,us[i]?=some u->∃ x,P i x/\RelV x u)->∃ xs:List V,Vals xs us/\∀ i x,xs[i]?=some x->P i x:=by
 intro us
 induction us generalizing P with
 | nil=>exact fun _=>⟨[],.nil,fun i x h=>by simp at h⟩
 | cons u us ih =>
  intro h
  obtain ⟨x,hx,rx⟩:=h 0 u rfl
  obtain ⟨xs,rv,hp⟩:=ih (P:=fun i=>P (i + 1)) fun i u' e=>h (i + 1) u' (by simpa using e)
  refine ⟨x :: xs,.cons rx rv,fun i y e=>?_⟩
  cases i with
  | zero=>simp at e;subst e;exact hx
  | succ j=>exact hp j y (by simpa using e)
theorem FR (hc:X.calm=true):lZ X (.type "list") Pf:=by
 intro pins s σ H xs us Q I r h
 obtain ⟨d,rfl,hq⟩:=h
 obtain ⟨v,rfl,ru⟩:=vals1 r
 cases ru
 obtain ⟨o,u,H2,I2,e,dk,q⟩:=hq.go I
 obtain ⟨raw,hlen,hs,hz,at'⟩:=vI I2.hok e dk
 refine PySem.W.kdl_call (Nv hs (lT o) (C4 o)) (I2.ok.hd hc) raw (by rw [hlen];exact hz) fun h' tk acc c hk hD hacc=>?_
 obtain ⟨xs,rv,hp⟩:=HL (P:=fun i x=>zL H2 i x u) acc.toList fun i v hv=>by
  obtain ⟨en,e1,rfl⟩:=hacc.2 i v (by rw [<- Array.getElem?_toList];exact hv)
  obtain ⟨k,_,h1,h2,_⟩:=at' i en e1
  exact ⟨k,h1,h2⟩
 have hl:xs.length=nF u:=by rw [rv.length,Array.length_toList,hacc.1,hlen]
 have hn:H2 s.heap.objs.size=none:=I2.hok.fresh (Nat.le_refl _)
 refine ⟨.ref s.heap.objs.size,upd H2 s.heap.objs.size (.lst xs),I2.laid (t':=tk) hk (Nat.le_refl _) ⟨by rw [hl];exact hz,acc.toList,c,rv,by simpa using hD⟩,rfl,q _ xs hn ⟨hl,hp⟩⟩
end
end L2
namespace U2
open PySem PySem.Spec PyProof.Rows L2
def keyOf (tk:Bool) (k:List Key):U:=if tk then .tup (k.map kU) else kU (pT k)
def vF (tk:Bool) (ks:List (List Key)):List U:=ks.map (keyOf tk)
def gS (tk:Bool) (ks:List (List Key)) (us:List U):List U:=(ks.zip us).map fun p=>.tup [keyOf tk p.1,p.2]
theorem Jc (tk:Bool) (ks:List (List Key)):(vF tk ks).length=ks.length:=by simp [vF]
def xN (u:HO) (ks:List (List Key)) (tk:Bool) (vs:List V):Prop:=match tk with
 | true=>∃ ws,u=.dT ws/\ks=ws.map (·.1)/\vs=ws.map (·.2)
 | false=>∃ ws,u=.dK ws/\ks=ws.map (fun p=>[p.1])/\vs=ws.map (·.2)
section
variable {K:PySem.W.Frag} {H:Hp} {M:aD}
theorem Jj (k:Key):aK K H M (kU k) (kV k):=by cases k <;> simp only [kU,kV,aK]
theorem EB:∀ k:List Key,aH K H M (k.map kU) (k.map kV)
 | []=>.nil
 | a :: k=>.cons (Jj a) (EB k)
theorem RelM.tupNone (rm:RelM K H M) {b:Addr} {ys:List V} (h:H b=some (.tup ys)):M b=none:=by
 cases e:M b with
 | none=>rfl
 | some mo =>
  have r:=rm b mo e
  cases mo with
  | lst us=>obtain ⟨vs,x,_⟩:=r;rw [h] at x;cases x
  | dK us=>obtain ⟨vs,x,_⟩:=r;rw [h] at x;cases x
  | dT us=>obtain ⟨vs,x,_⟩:=r;rw [h] at x;cases x
  | tbl q=>obtain ⟨_,ps,x,_⟩:=r;rw [h] at x;cases x
theorem xN.key {u:HO} {ks:List (List Key)} {tk:Bool} {vs:List V} {i:Nat} {x:V} (d:xN u ks tk vs) (rm:RelM K H M) (h:zL H i x u):∃ k,ks[i]?=some k/\aK K H M (keyOf tk k) x:=by
 cases tk with
 | true =>
  obtain ⟨ws,rfl,rfl,rfl⟩:=d
  obtain ⟨p,b,h1,rfl,h3⟩:=h
  refine ⟨p.1,by rw [List.getElem?_map,h1];rfl,?_⟩
  show aK K H M (.tup (p.1.map kU)) (.ref b)
  simp only [aK]
  exact ⟨b,_,rfl,⟨rm.tupNone h3,h3⟩,EB _⟩
 | false =>
  obtain ⟨ws,rfl,rfl,rfl⟩:=d
  obtain ⟨p,h1,rfl⟩:=h
  exact ⟨[p.1],by rw [List.getElem?_map,h1];rfl,Jj _⟩
theorem xN.val {u:HO} {ks:List (List Key)} {tk:Bool} {vs:List V} {i:Nat} {x:V} (d:xN u ks tk vs) (h:vA i x u):vs[i]?=some x:=by
 cases tk with
 | true=>obtain ⟨ws,rfl,rfl,rfl⟩:=d;obtain ⟨p,h1,rfl⟩:=h;rw [List.getElem?_map,h1];rfl
 | false=>obtain ⟨ws,rfl,rfl,rfl⟩:=d;obtain ⟨p,h1,rfl⟩:=h;rw [List.getElem?_map,h1];rfl
theorem xN.len {u:HO} {ks:List (List Key)} {tk:Bool} {vs:List V} (d:xN u ks tk vs):ks.length=nF u/\vs.length=nF u:=by
 cases tk with
 | true=>obtain ⟨ws,rfl,rfl,rfl⟩:=d;simp [nF]
 | false=>obtain ⟨ws,rfl,rfl,rfl⟩:=d;simp [nF]
theorem C6 {ks:List (List Key)} {tk:Bool} {us:List U} {v:V} {R:Addr->Obj->HO->Hp->Prop} (rm:RelM K H M) (r:aK K H M (.dic ks tk us) v)
  (h:∀ a o u H2 vs,v=.ref a->aP H M H2 M->RelM K H2 M->H2 a=some (.frz o u)->M a=none->xN u ks tk vs->aH K H2 M us vs->R a o u H2):∃ d,v=.ref d/\AL H d (R d):=by
 simp only [aK] at r
 obtain ⟨a,vs,rfl,m,da,ru⟩:=r
 refine ⟨a,rfl,?_⟩
 have go:∀ u,uW u=true->xN u ks tk vs->Rd H a u->AL H a (R a):=by
  intro u dk dok rd
  rcases rd with e | ⟨o,e⟩
  ·refine ⟨u,dk,.inl ⟨e,fun o=>?_⟩⟩
   have st:aP H M (upd H a (.frz o u)) M:=fun b ob eb mb=>by
    by_cases hb:b=a
    ·subst hb;rw [e] at eb;cases eb
     exact ⟨.inr ⟨dk,o,cG⟩,m⟩
    ·exact ⟨.inl (by rw [bF hb];exact eb),mb⟩
   have rm2:RelM K (upd H a (.frz o u)) M:=fun b mo eb=>(rm b mo eb).stp (fun _ _ z=>z) st (bF (fun z=>by rw [z,m] at eb;cases eb))
   exact h a o u _ vs rfl st rm2 cG m dok (ru.stp st)
  ·exact ⟨u,dk,.inr ⟨o,e,h a o u H vs rfl (aP.refl _ _) rm e m dok ru⟩⟩
 cases tk with
 | true=>obtain ⟨ws,e,e1,e2⟩:=da;exact go _ rfl ⟨ws,rfl,e1,e2⟩ e
 | false=>obtain ⟨ws,e,e1,e2⟩:=da;exact go _ rfl ⟨ws,rfl,e1,e2⟩ e
theorem CG {H1:Hp} {M1:aD} {a:Addr} {o:Obj} {u:HO} (st:aP H M H1 M1) (e:H a=some (.frz o u)) (m:M a=none):H1 a=some (.frz o u):=(st.to e m).1
theorem Gr {ks:List (List Key)} {tk:Bool} {us:List U} {vs:List V} {a:Addr} {o:Obj} {u:HO} (e:H a=some (.frz o u)) (m:M a=none) (d:xN u ks tk vs) (ru:aH K H M us vs):Walk K (OT a o u) ⟨none,gS tk ks us⟩ H M:=by
 have hl:us.length=ks.length:=by rw [ru.length,d.len.2,d.len.1]
 have pl:(gS tk ks us).length=ks.length:=by simp [gS,hl]
 refine ⟨fun H1 M1 s rm _ i w ew=>?_,fun H1 M1 s rm _=>⟨CG s e m,by show nF u<=(gS tk ks us).length;rw [pl,d.len.1];exact Nat.le_refl _⟩⟩
 have hi:i < ks.length:=by have:=(List.getElem?_eq_some_iff.mp ew).1;rw [<- pl];exact this
 refine ⟨⟨CG s e m,by rw [<- d.len.1];exact hi⟩,fun x H2 y=>?_⟩
 obtain ⟨T,k,v,hk,hv,hT,rfl,rfl⟩:=y
 obtain ⟨kk,h1,h2⟩:=d.key rm hk
 have h3:=d.val hv
 obtain ⟨z,hz⟩:∃ z,us[i]?=some z:=⟨us[i]'(by omega),List.getElem?_eq_getElem (by omega)⟩
 obtain ⟨v',h4,h5⟩:=ru.get hz
 rw [h3] at h4;cases h4
 have st:=aP.laid (o:=.tup [k,v]) rm hT
 have:(gS tk ks us)[i]?=some (.tup [keyOf tk kk,z]):=by
  have hz':(ks.zip us)[i]?=some (kk,z):=by rw [List.getElem?_zip_eq_some];exact ⟨h1,hz⟩
  simp only [gS,List.getElem?_map,hz',Option.map_some]
 rw [show (Src.mk none (gS tk ks us)).xs[i]?=(gS tk ks us)[i]? from rfl,this] at ew
 cases ew
 have rr:aH K H1 M1 [keyOf tk kk,z] [k,v]:=.cons h2 (.cons (h5.stp s) .nil)
 exact ⟨st,rm.laid hT,rG (rm.no hT) cG (rr.stp st)⟩
def RN (te:UE):UI:=fun τ M R=>te τ M fun x M1=>match x with
 | .dic ks tk us=>R ⟨none,vF tk ks⟩ M1
 | _=>False
def yI (te:UE):UI:=fun τ M R=>te τ M fun x M1=>match x with
 | .dic ks tk us=>R ⟨none,gS tk ks us⟩ M1
 | _=>False
theorem IF {t:TE} {t':UE} (h:cE K t t'):pZ K (GZ t) (yI t'):=fun σ τ H M R' rs rm q R c=>h σ τ H M _ rs rm q _ fun x v M1 H1 s1 rm1 ru h1=>by
 cases x with
 | dic ks tk us=>exact C6 rm1 ru fun a o u H2 vs hv st rm2 e m d r=>c _ _ M1 H2 (s1.trans st) rm2 (Gr e m d r) h1
 | _=>exact h1.elim
end
section
variable {D:Dat} {tg e:Expr} {te:UE} {pos p:Pos}
theorem B4 {elts:List Expr} {kk:Nat} {tpos apos cpos:Pos} (h:bA D e te) (hbase:∀ env,attributeBase e "items" env (eval e env)=eval e env:=by intro _;rfl) (hline:(apos.endLine == cpos.line)=true:=by rfl):uP D (.Tuple elts kk tpos) (.Call (.Attribute e "items" apos) [] [] cpos) (yI te):=by
 obtain ⟨_,q,s⟩:=h
 exact ⟨_,fun X h=>Jw (q X h) (hbase _) hline,IF s⟩
def BS (o:Bool):List U->aD->UK->Prop:=fun us M Q=>match us with
 | [.dic ks tk _]=>iL o (vF tk ks) M Q
 | _=>False
theorem C2 {K:PySem.W.Frag} {H:Hp} {M:aD}:∀ {us:List U} {vs:List V},us.length=vs.length->(∀ (i:Nat) u v,us[i]?=some u->vs[i]?=some v->aK K H M u v)->aH K H M us vs
 | [],[],_,_=>.nil
 | u :: us,v :: vs,hl,h=>.cons (h 0 u v rfl rfl) (C2 (by simpa using hl) fun i a b h1 h2=>h (i + 1) a b (by simpa using h1) (by simpa using h2))
 | [],_ :: _,hl,_=>by simp at hl
 | _ :: _,[],hl,_=>by simp at hl
theorem NJ (own:Bool:=false):vS D (.type "list") (BS own):=⟨⟨_,fun X h=>FR h.calm,fun xs us H M Q' rm rus h Q c=>by
 unfold BS at h
 split at h
 ·rename_i ks tk ws
  obtain ⟨v,rfl,a1⟩:=rus.one
  obtain ⟨d,rfl,f⟩:=C6 (R:=fun d o u H2=>∀ l ys,H2 l=none->KeysAre H2 u ys->Q (.ref l) (upd H2 l (.lst ys))) rm a1 fun a o u H2 vs hv st rm2 e m dk r l ys hl hk=>by
   have rr:aH D.K H2 M (vF tk ks) ys:=C2 (by rw [Jc,dk.len.1];exact hk.1.symm) fun i w y h1 h2=>by
    obtain ⟨k,h3,h4⟩:=dk.key rm2 (hk.2 i y h2)
    simp only [vF,List.getElem?_map,h3,Option.map_some,Option.some.injEq] at h1
    rw [<- h1];exact h4
   exact (c.stp st).lst rm2 rr hl h
  exact ⟨d,rfl,f⟩
 ·exact h.elim⟩⟩
end
end U2
namespace U2
open PySem PySem.Spec PyProof.Rows L2
def Cv (τ:SU) (M:aD) (τ':SU) (M':aD):Prop:=∀ (K:PySem.W.Frag) (H:Hp) (σ:L2.St),RelM K H M->d8 K H M σ τ->aP H M H M'/\RelM K H M'/\d8 K H M' σ τ'
def Rl (t:US):US:=fun D τ M=>t { D with nx:=fun τ1 M1=>∃ τ' M',Cv τ1 M1 τ' M'/\D.nx τ' M' } τ M
theorem QV {D:Dat} {s:Stmt} {t:US} (h:o4 D s t):o4 D s (Rl t):=by
 obtain ⟨u,p,q⟩:=h
 refine ⟨u,p,fun σ τ H M D' rs rm h D d=>q σ τ H M _ rs rm h D ⟨fun σ1 τ1 H1 M1 s1 rm1 rs1 h1=>?_,d.rt,d.bk,d.ct⟩⟩
 obtain ⟨τ',M',c,h2⟩:=h1
 obtain ⟨s2,rm2,rs2⟩:=c _ H1 σ1 rm1 rs1
 exact d.nx σ1 τ' H1 M' (s1.trans s2) rm2 rs2 h2
def LG (Q:UK):UK:=fun u M1=>∃ u' M',(∀ (K:PySem.W.Frag) (H:Hp) (v:V),RelM K H M1->aK K H M1 u v->aP H M1 H M'/\RelM K H M'/\aK K H M' u' v)/\Q u' M'
theorem Callee.conv {P:Program} {w:World} {K:PySem.W.Frag} {mg:Str->Option Value} {base:Heap} {j:Nat} {x:Str} {sp sp':cV} {dus:List U} (c:Callee P w K mg base j x sp dus) (h:∀ us M Q,sp' us M Q->sp us M (LG Q)):Callee P w K mg base j x sp' dus :=
 let ⟨f,fd,ps,dvs,ds,F,r⟩:=c.ex;⟨f,fd,ps,dvs,ds,F.imp fun vs H Q E ⟨us,M,Q',h1,h2,h3,h4⟩=>⟨us,M,LG Q',h1,h2,h us M Q' h3,fun u v M1 H1 st rm1 ru ⟨u',M',cv,q⟩=>let ⟨s2,rm2,ru2⟩:=cv K H1 v rm1 ru;h4 u' v M' H1 (st.trans s2) rm2 ru2 q⟩,r⟩
section
variable {K:PySem.W.Frag} {H:Hp} {M1 M':aD}
theorem zR {κ:Type}:∀ {kvs:List (κ × U)} {ws:List (κ × V)} {M:aD},cD K H M kvs ws->kvs.map (·.1)=ws.map (·.1)/\aH K H M (kvs.map (·.2)) (ws.map (·.2))
 | _,_,_,.nil=>⟨rfl,.nil⟩
 | _,_,_,.cons h t=>by
  obtain ⟨h1,h2⟩:=zR t
  refine ⟨?_,.cons h.2 h2⟩
  rw [List.map_cons,List.map_cons,h1,h.1]
def lA (kvs:List (Key × U)):U:=.dic (kvs.map fun e=>[e.1]) false (kvs.map (·.2))
def lC (kvs:List (List Key × U)):U:=.dic (kvs.map (·.1)) true (kvs.map (·.2))
theorem K2 (M:aD) (kvs:List (Key × U)):d7 M (lA kvs)=some (.dK kvs):=by
 have e:∀ l:List (Key × U),((l.map fun e=>[e.1]).map pT).zip (l.map (·.2))=l:=by
  intro l
  induction l with
  | nil=>rfl
  | cons a r ih=>simp only [List.map_cons,List.zip_cons_cons,ih,pT]
 simp only [lA,d7,e]
theorem KZ (M:aD) (kvs:List (List Key × U)):d7 M (lC kvs)=some (.dT kvs):=by
 have e:∀ l:List (List Key × U),(l.map (·.1)).zip (l.map (·.2))=l:=by
  intro l
  induction l with
  | nil=>rfl
  | cons a r ih=>simp only [List.map_cons,List.zip_cons_cons,ih]
 simp only [lC,d7,e]
theorem Lf {kvs:List (Key × U)} {a:Addr} (rm:RelM K H M1) (h:M1 a=some (.dK kvs)) (hn:M' a=none) (st:aP H M1 H M'):aK K H M' (lA kvs) (.ref a):=by
 obtain ⟨ws,h1,r⟩:=rm a _ h
 obtain ⟨h2,h3⟩:=zR r
 refine ⟨a,ws.map (·.2),rfl,hn,⟨ws,.inl h1,?_,rfl⟩,h3.stp st⟩
 have:=congrArg (List.map fun k:Key=>[k]) h2
 rw [List.map_map,List.map_map] at this
 exact this
theorem JR {kvs:List (List Key × U)} {a:Addr} (rm:RelM K H M1) (h:M1 a=some (.dT kvs)) (hn:M' a=none) (st:aP H M1 H M'):aK K H M' (lC kvs) (.ref a):=by
 obtain ⟨ws,h1,r⟩:=rm a _ h
 obtain ⟨h2,h3⟩:=zR r
 exact ⟨a,ws.map (·.2),rfl,hn,⟨ws,.inl h1,h2,rfl⟩,h3.stp st⟩
theorem Mo {us:List U} {a:Addr} (rm:RelM K H M1) (h:M1 a=some (.lst us)) (hn:M' a=none) (st:aP H M1 H M'):aK K H M' (.lst us) (.ref a):=by
 obtain ⟨vs,h1,r⟩:=rm a _ h
 exact rT hn h1 (r.stp st)
end
theorem Jd {M M1:aD} {a:Addr} {kvs:List (Key × U)} {Q:UK} (hs:Sub M M1) (ha:M1 a=some (.dK kvs)) (hn:M a=none) (q:Q (lA kvs) M):LG Q (.ref a) M1 :=
 ⟨_,M,fun K H v rm ru=>⟨hs.less,rm.sub hs,by rw [ru.ref];exact Lf rm ha hn hs.less⟩,q⟩
theorem EO {M M1:aD} {a:Addr} {kvs:List (List Key × U)} {Q:UK} (hs:Sub M M1) (ha:M1 a=some (.dT kvs)) (hn:M a=none) (q:Q (lC kvs) M):LG Q (.ref a) M1 :=
 ⟨_,M,fun K H v rm ru=>⟨hs.less,rm.sub hs,by rw [ru.ref];exact JR rm ha hn hs.less⟩,q⟩
end U2
namespace L2
open PySem PySem.Spec PyProof.Rows
section
variable {X:Cx} {o e f:Expr} {apos cpos:Pos} {td ty tx:TE}
end
end L2
namespace U2
open PySem PySem.Spec PyProof.Rows L2
end U2
namespace PySem
open Sem (wp)
namespace F
theorem lk_list_keys:typeLookup (.type "list") "keys"=pure none:=by rw [typeLookup_type,builtinLookup_eq_fast];kernel_rfl
end F
section
variable {prog:Program} {w:World} {A:Around} {E:Value->Shared->Prop} {h:Heap} {g:Array GenState} {d:Drawn} {t:Nat} {os:OsState} {a:Addr} {o:Obj}
theorem Ac {α:Type} {s:Shared} {name msg:Str} {Q:α->Shared->Prop} (hh:A.handled=none) (hlen:msg.length<=sizeLine) (hn:name.length<=sizeLine)
  (hq:∀ h' e t',(∀ b u,s.heap.get? b=some u->h'.get? b=some u)->(∃ oe,h'.get? e=some oe/\oe.cls=.type "AttributeError")->E (.ref e) { s with heap:=h',toks:=t' }) :
  wpAny (model prog w) A (raiseAttrError (.ref a) name msg:Sem α) Q E s:=by
 unfold raiseAttrError newExc newTuple
 obtain ⟨h,g,d,t,os⟩:=s
 refine wpAny_bind (wpAny_mkStr ?_ hlen)
 refine wpAny_bind (wpAny_bind (wpAny_newObj_type ?_ (by size_fits)))
 refine wpAny_bind (m:=firstArgMember _ _) (wpAny_of_eq (a:=Value.none) (by first | rfl | (simp only [firstArgMember];rfl)) ?_)
 refine wpAny_newObj_type ?_ (by size_fits)
 have hom:ownMembersOf (Value.type "AttributeError") [Value.str msg t]=#[unsetMember,unsetMember]:=rfl
 dsimp only at *
 rw [hom]
 have he:((h.push { cls:=Value.type "tuple",data:=Data.seq #[Value.str msg t] }).push { cls:=Value.type "AttributeError",data:=Data.fields (#[Value.ref h.objs.size,Value.none,Value.none,Value.none,Value.bool false,Value.none]++#[unsetMember,unsetMember]) }).get? (h.push { cls:=Value.type "tuple",data:=Data.seq #[Value.str msg t] }).objs.size=some _:=Heap.get?_push_size _ rfl
 have hk:∀ b u,h.get? b=some u->((h.push { cls:=Value.type "tuple",data:=Data.seq #[Value.str msg t] }).push { cls:=Value.type "AttributeError",data:=Data.fields (#[Value.ref h.objs.size,Value.none,Value.none,Value.none,Value.bool false,Value.none]++#[unsetMember,unsetMember]) }).get? b=some u:=fun b u x=>Heap.get?_push_of_some _ (Heap.get?_push_of_some _ x)
 have hne:∀ b u,h.get? b=some u->b≠(h.push { cls:=Value.type "tuple",data:=Data.seq #[Value.str msg t] }).objs.size:=fun b u x=>Nat.ne_of_lt (Nat.lt_of_lt_of_le (Heap.lt_size x) (by rw [Heap.size_push];exact Nat.le_succ _))
 generalize ((h.push { cls:=Value.type "tuple",data:=Data.seq #[Value.str msg t] }).push { cls:=Value.type "AttributeError",data:=Data.fields (#[Value.ref h.objs.size,Value.none,Value.none,Value.none,Value.bool false,Value.none]++#[unsetMember,unsetMember]) })=h1 at he hk ⊢
 generalize (h.push { cls:=Value.type "tuple",data:=Data.seq #[Value.str msg t] }).objs.size=e at he hne ⊢
 refine wpAny_bind (wpAny_mkText ?_)
 have hT:(⟨h1,g,d,t + 1 + 1,os⟩:Shared).TypeIs (.ref e) "AttributeError":=⟨_,he,rfl⟩
 refine wpAny_bind ?_
 unfold noteAttr lacksNameAndObj
 refine wpAny_bind (wpAny_bind (wpAny_isInstance hT (by rw [isSubtype_type];kernel_rfl:isSubtype (.type "AttributeError") (.type "AttributeError")=pure true) ?_))
 simp only [Bool.not_true,Bool.false_eq_true,if_false]
 refine wpAny_bind (wpAny_load he ?_)
 show wpAny _ _ (pure true) _ _ _
 refine wpAny_pure ?_
 simp only [if_true]
 refine wpAny_bind (wpAny_rule (wpAny_bind (wpAny_typeOf hT ?_)))
 unfold layMembers
 refine wpAny_bind (wpAny_load he ?_)
 refine wpAny_update he ?_
 refine wpAny_raiseNew_none hh (hq _ _ _ (fun b u x=>?_) ⟨_,Heap.get?_update_self _ he ?_,rfl⟩)
 ·rw [Heap.get?_update_ne]
  ·exact hk b u x
  ·exact hne b u x
 ·rfl
theorem BZ {tk:Tok} {Q:Fin->Shared->Prop} (hh:A.handled=none) {its:Array Value} {n:Nat} {sl:Array (Option Value)} (hx:h.get? a=some { cls:=.type "list",dict:=none,data:=.seq its n,slots:=sl })
  (hq:∀ h' e t',(∀ b u,h.get? b=some u->h'.get? b=some u)->(∃ oe,h'.get? e=some oe/\oe.cls=.type "AttributeError")->E (.ref e) ⟨h',g,d,t',os⟩) :
  wpAny (model prog w) A (Builtin.«object.__getattribute__» ⟨[.ref a,.str "keys" tk],[]⟩) Q E ⟨h,g,d,t,os⟩:=by
 have hT:(⟨h,g,d,t,os⟩:Shared).TypeIs (.ref a) "list":=⟨_,hx,rfl⟩
 have f4:=F.lk_list_keys
 repeat (any_goals (first | assumption | refine wpAny_loadPart_at hx ?_ | wp_step))
 have hlen:(Str.ofString (toString "'"++toString ((Manifest.find? "list").elim "list" fun x=>x.tpName)++toString "' object has no attribute '")++Str.ofString "keys"++Str.ofString "'").length<=sizeLine:=by decide +kernel
 generalize (Str.ofString (toString "'"++toString ((Manifest.find? "list").elim "list" fun x=>x.tpName)++toString "' object has no attribute '")++Str.ofString "keys"++Str.ofString "'")=msg at hlen ⊢
 exact Ac hh hlen (by decide +kernel) hq
theorem D5 {tk:Tok} {R:Result->Shared->Prop} (hh:A.handled=none) {its:Array Value} {n:Nat} {sl:Array (Option Value)} (hx:h.get? a=some { cls:=.type "list",dict:=none,data:=.seq its n,slots:=sl })
  (hq:∀ h' e t',(∀ b u,h.get? b=some u->h'.get? b=some u)->(∃ oe,h'.get? e=some oe/\oe.cls=.type "AttributeError")->R (.error (.ref e)) ⟨h',g,d,t',os⟩) :
  codeAny (model prog w) A (.call (.builtin "list.__getattribute__") ⟨[.ref a,.str "keys" tk],[]⟩) R ⟨h,g,d,t,os⟩ :=
 codeAny_call_builtin F.slot_list_getattribute.plain F.entry_list_ga (F.slot_list_getattribute.check _ _ _ _ _ _ _ _ (show (⟨h,g,d,t,os⟩:Shared).TypeIs (.ref a) "list" from ⟨_,hx,rfl⟩) (F.args_list_getattribute_2 _ _) (BZ hh hx hq))
theorem G1 {tk:Tok} {Q:Value->Shared->Prop} (hh:A.handled=none) {its:Array Value} {n:Nat} {sl:Array (Option Value)} (hx:h.get? a=some { cls:=.type "list",dict:=none,data:=.seq its n,slots:=sl })
  (hq:∀ h' e t',(∀ b u,h.get? b=some u->h'.get? b=some u)->(∃ oe,h'.get? e=some oe/\oe.cls=.type "AttributeError")->E (.ref e) ⟨h',g,d,t',os⟩) :
  wpAny (model prog w) A (getAttrBy (.ref a) (.str "keys" tk) false) Q E ⟨h,g,d,t,os⟩:=by
 have hT:(⟨h,g,d,t,os⟩:Shared).TypeIs (.ref a) "list":=⟨_,hx,rfl⟩
 have f2:=F.slot_list_getattribute.lookup
 have f3:=F.slot_list_getattribute.bind (.ref a)
 repeat (any_goals (first | assumption | wp_step))
 refine D5 (tk:=tk) hh hx fun h' e t' hk he=>?_
 obtain ⟨oe,he,hc⟩:=he
 have hE:(⟨h',g,d,t',os⟩:Shared).TypeIs (.ref e) "AttributeError":=⟨_,he,hc⟩
 have hq':=hq h' e t' hk ⟨oe,he,hc⟩
 have f5:isSubtype (.type "AttributeError") (.type "AttributeError")=pure true:=by rw [isSubtype_type];kernel_rfl
 have f6:typeLookup (.type "list") "__getattr__"=pure none:=by rw [typeLookup_type,builtinLookup_eq_fast];kernel_rfl
 dsimp only
 unfold getattributeRaised
 refine wpAny_bind (wpAny_isInstance hE f5 ?_)
 repeat (any_goals (first | assumption | wp_step))
theorem DN {Q:Option Value->Shared->Prop} (hh:A.handled=none) {its:Array Value} {n:Nat} {sl:Array (Option Value)} (hx:h.get? a=some { cls:=.type "list",dict:=none,data:=.seq its n,slots:=sl })
  (hq:∀ h' t',(∀ b u,h.get? b=some u->h'.get? b=some u)->Q none ⟨h',g,d,t',os⟩):wpAny (model prog w) A (getAttr? (.ref a) "keys") Q E ⟨h,g,d,t,os⟩:=by
 unfold getAttr? getAttrBy?
 refine wpAny_bind (wpAny_mkText (wpAny_bind (wpAny_attempt (G1 hh hx fun h' e t' hk he=>?_))))
 obtain ⟨oe,he,hc⟩:=he
 have f5:isSubtype (.type "AttributeError") (.type "AttributeError")=pure true:=by rw [isSubtype_type];kernel_rfl
 refine wpAny_bind (wpAny_isInstance (⟨_,he,hc⟩:(⟨h',g,d,t',os⟩:Shared).TypeIs (.ref e) "AttributeError") f5 ?_)
 exact wpAny_pure (hq h' t' hk)
theorem A1 {K:Type} [DecidableEq K] {knd:KeyKind prog w K} {R:Result->Shared->Prop} (hh:A.handled=none) (D it l:Addr) (hl:l≠it) (hD:D≠it) (items:Array Value) (rs:List (K × Value)) (hlen:rs.length=items.size) (hsz:items.size<=sizeLine)
  (hp:Heap->Prop) (hpk:∀ h h':Heap,hp h->(∀ b o,b≠D->b≠it->h.get? b=some o->h'.get? b=some o)->hp h') (hpair:∀ h,hp h->h.IsList l items/\∀ (i:Nat) x k v,items[i]?=some x->rs[i]?=some (k,v)->∃ p u,x=.ref p/\h.IsTuple p #[u,v]/\knd.is k u=true) :
  ∀ (n i:Nat) (s:Shared) (vs:List (K × Value)),i + n=items.size->s.heap.IsListIter it l i->hp s.heap->s.heap.DictOf knd D vs->vs.length<=i ->
   (∀ h' t',(∀ b o,b≠D->b≠it->s.heap.get? b=some o->h'.get? b=some o)->h'.DictOf knd D ((rs.drop i).foldl (fun m e=>stored m e.1 e.2) vs)->R (.ok (.ret .none)) { s with heap:=h',toks:=t' }) ->
   codeAny (model prog w) A (.builtin "dict.update.loop" ⟨[.ref D,.ref it,rawInt i,.none],[]⟩) R s
 | 0,i,s,vs,hi,hit,hP,hd,hvl,hq=>by
  refine codeAny_builtin (entryFor_of_tree (by kernel_rfl):entryFor table "dict.update.loop"=some Builtin.«dict.update.loop») ?_
  show wpAny _ _ (pyNext (.ref it) >>= _) _ _ _
  have hx:items[i]?=none:=by simp;omega
  refine wpAny_bind (wpAny_pyNext_list_end (show (A.under _).handled=none from hh) hit (hpair _ hP).1 hx fun h' he=>?_)
  show wpAny _ _ (Builtin.Dict.addKeywords D [] >>= _) _ _ _
  refine wpAny_bind (wpAny_pure (wpAny_pure ?_))
  refine hq h' s.toks (fun b o _ hb e=>he b o hb e) ?_
  rw [List.drop_of_length_le (by omega)]
  obtain ⟨o,es,ep,ho,r⟩:=hd
  exact ⟨o,es,ep,he _ _ hD ho,r⟩
 | n + 1,i,s,vs,hi,hit,hP,hd,hvl,hq=>by
  refine codeAny_builtin (entryFor_of_tree (by kernel_rfl):entryFor table "dict.update.loop"=some Builtin.«dict.update.loop») ?_
  show wpAny _ _ (pyNext (.ref it) >>= _) _ _ _
  have hlt:i < items.size:=by omega
  have hx:items[i]?=some items[i]:=by simp [hlt]
  have hr:rs[i]?=some rs[i]:=by simp [show i < rs.length by omega]
  obtain ⟨p,u,ep,hpt,hku⟩:=(hpair _ hP).2 i _ rs[i].1 rs[i].2 hx hr
  refine wpAny_bind (wpAny_pyNext_list_item hit (hpair _ hP).1 hx fun h1 hit1 hs1=>?_)
  have k1:∀ b o,b≠D->b≠it->s.heap.get? b=some o->h1.get? b=some o:=fun b o _ hb e=>hs1.extBut b o hb e
  have hP1:=hpk _ _ hP k1
  obtain ⟨p1,u1,ep1,hpt1,hku1⟩:=(hpair _ hP1).2 i _ rs[i].1 rs[i].2 hx hr
  have pT:h1.DictOf knd D vs:=by
   obtain ⟨o,es,ep,ho,r⟩:=hd
   exact ⟨o,es,ep,hs1.extBut _ _ hD ho,r⟩
  rw [ep1]
  dsimp only
  refine wpAny_bind ?_
  refine wpAny_holding ?_
  unfold Builtin.Dict.pairItems
  obtain ⟨o1,ho1,hc1,m1,hd1'⟩:=hpt1
  refine wpAny_bind (wpAny_tryCatch ?_)
  refine wpAny_bind (wpAny_typeOf (⟨_,ho1,hc1⟩:(⟨h1,s.gens,s.drawn,s.toks,s.os⟩:Shared).TypeIs (.ref p1) "tuple") ?_)
  rw [if_pos (by decide)]
  refine wpAny_bind (wpAny_seqItems ho1 hd1' (wpAny_pure ?_))
  show wpAny _ _ (holding [u1,rs[i].2] (dictSet D u1 rs[i].2)) _ _ _
  refine wpAny_holding (wpAny_dictSet_pairs (knd:=knd) hku1 pT (fun h2 hd2 hs2=>?_) (by omega))
  have k2:∀ b o,b≠D->b≠it->s.heap.get? b=some o->h2.get? b=some o:=fun b o hb hb' e=>hs2.extBut b o hb (k1 b o hb hb' e)
  have hit2:h2.IsListIter it l (i + 1):=hit1.at fun o e=>hs2.extBut it o hD.symm e
  refine wpAny_pure ⟨Code.quiet_builtin _ (by decide +kernel),?_⟩
  have hst:(stored vs rs[i].1 rs[i].2).length<=i + 1:=by
   have:=stored_length_le vs rs[i].1 rs[i].2
   omega
  have hcast:rawInt ((i:Int) + 1)=rawInt ((i + 1:Nat):Int):=by push_cast;rfl
  rw [hcast]
  refine A1 hh D it l hl hD items rs hlen hsz hp hpk hpair n (i + 1) _ _ (by omega) hit2 (hpk _ _ hP k2) hd2 hst fun h' t' kk dd=>?_
  refine hq h' t' (fun b o hb hb' e=>kk b o hb hb' (k2 b o hb hb' e)) ?_
  rw [List.drop_eq_getElem_cons (show i < rs.length by omega),List.foldl_cons]
  exact dd
theorem xR {K:Type} [DecidableEq K] {knd:KeyKind prog w K} {s:Shared} {Q:Value->Shared->Prop} (hh:A.handled=none) {l:Addr} {items:Array Value} {n:Nat} {sl:Array (Option Value)} (rs:List (K × Value))
  (hx:s.heap.get? l=some { cls:=.type "list",dict:=none,data:=.seq items n,slots:=sl }) (hlen:rs.length=items.size) (hsz:items.size<=sizeLine)
  (hpair:∀ (i:Nat) x k v,items[i]?=some x->rs[i]?=some (k,v)->∃ p u,x=.ref p/\s.heap.IsTuple p #[u,v]/\knd.is k u=true)
  (hq:∀ h' t',(∀ b o,s.heap.get? b=some o->h'.get? b=some o)->h'.DictOf knd s.heap.objs.size (merged [] rs)->Q (.ref s.heap.objs.size) { s with heap:=h',toks:=t' }) :
  wpAny (model prog w) A (call (.type "dict") [.ref l]) Q E s:=by
 refine callType_codes (Q₁:=fun obj s₁=>obj=.ref s.heap.objs.size/\s₁={ s with heap:=s.heap.push { cls:=.type "dict",data:=.dict #[] } }) F.kt_called_dict (F.kt_typeCall_dict_1 _) F.entry_dict_init (kt_code_dict_new _ ⟨rfl,rfl⟩) ?_
 rintro obj s₁ ⟨rfl,rfl⟩
 have hnew:(s.heap.push { cls:=.type "dict",data:=.dict #[] }).DictOf knd s.heap.objs.size []:=Heap.DictOf.new s.heap
 have hl1:(s.heap.push { cls:=.type "dict",data:=.dict #[] }).get? l=some _:=Heap.get?_push_of_some _ hx
 have hk0:∀ b o,s.heap.get? b=some o->(s.heap.push { cls:=.type "dict",data:=.dict #[] }).get? b=some o:=fun b o e=>Heap.get?_push_of_some _ e
 have hD0:∀ b o,s.heap.get? b=some o->b≠s.heap.objs.size:=fun b o e=>Nat.ne_of_lt (Heap.lt_size e)
 generalize (s.heap.push { cls:=.type "dict",data:=.dict #[] })=h0 at hnew hl1 hk0 ⊢
 generalize hDD:s.heap.objs.size=D at *
 refine ⟨hnew.typeIs,F.args_dict_init_2 _ _,?_⟩
 unfold Builtin.«dict.__init__»
 refine wpAny_bind ?_
 unfold Builtin.Dict.selfAndRest
 refine wpAny_bind (wpAny_notOrdered_dict hnew.typeIs ?_)
 show wpAny _ _ (pure (D,[Value.ref l])) _ _ _
 refine wpAny_pure ?_
 show wpAny _ _ (Builtin.Dict.updateFrom "dict.__init__" D (.ref l) [] .none) _ _ _
 unfold Builtin.Dict.updateFrom
 refine wpAny_bind (wpAny_typeOf (⟨_,hl1,rfl⟩:(⟨h0,s.gens,s.drawn,s.toks,s.os⟩:Shared).TypeIs (.ref l) "list") ?_)
 rw [if_pos (by decide)]
 refine wpAny_bind (DN (show (A.in1).handled=none from hh) hl1 fun h1 t1 hk1=>?_)
 simp only [Option.isNone_none,if_true]
 have hL1:(⟨h1,s.gens,s.drawn,t1,s.os⟩:Shared).heap.IsList l items:=⟨_,hk1 _ _ hl1,rfl,n,rfl⟩
 refine wpAny_bind (wpAny_rule (wpAny_bind (wpAny_pyIter_list hL1 (wpAny_pure ⟨Code.quiet_builtin _ (by decide +kernel),?_⟩))))
 have hltl:l < h1.objs.size:=Heap.lt_size (hk1 _ _ hl1)
 have hDlt:D < h1.objs.size:=by
  obtain ⟨o,es,ep,ho,_⟩:=hnew
  exact Heap.lt_size (hk1 _ _ ho)
 have hall:∀ b o,s.heap.get? b=some o->(h1.push { cls:=.type "list_iterator",data:=.fields #[.ref l,.int 0 0] }).get? b=some o:=fun b o e=>Heap.get?_push_of_some _ (hk1 _ _ (hk0 _ _ e))
 have hdd:(h1.push { cls:=.type "list_iterator",data:=.fields #[.ref l,.int 0 0] }).DictOf knd D []:=by
  obtain ⟨o,es,ep,ho,r⟩:=hnew
  exact ⟨o,es,ep,Heap.get?_push_of_some _ (hk1 _ _ ho),r⟩
 have hit:(h1.push { cls:=.type "list_iterator",data:=.fields #[.ref l,.int 0 0] }).IsListIter h1.objs.size l 0:=⟨_,Heap.get?_push_size _ rfl,rfl,rfl⟩
 have hnit:∀ b o,s.heap.get? b=some o->b≠h1.objs.size:=fun b o e=>Nat.ne_of_lt (Heap.lt_size (hk1 _ _ (hk0 _ _ e)))
 refine A1 (A:=A.in1) (knd:=knd) (show (A.in1).handled=none from hh) D h1.objs.size l (Nat.ne_of_lt hltl) (Nat.ne_of_lt hDlt) items rs hlen hsz (fun h=>∀ b o,s.heap.get? b=some o->h.get? b=some o)
  (fun h h' a k b o e=>k b o (hD0 b o e) (hnit b o e) (a b o e)) (fun h a=>⟨⟨_,a _ _ hx,rfl,n,rfl⟩,fun i x k v e e'=>?_⟩) items.size 0 _ [] (by omega) hit hall hdd (Nat.le_refl _) fun h' t' kk dd=>?_
 ·obtain ⟨p,u,e1,⟨o,e2,r⟩,e3⟩:=hpair i x k v e e'
  exact ⟨p,u,e1,⟨o,a _ _ e2,r⟩,e3⟩
 ·refine ⟨rfl,hq h' t' (fun b o e=>kk b o (hD0 b o e) (hnit b o e) (hall b o e)) ?_⟩
  rw [List.drop_zero] at dd
  exact dd
end
end PySem
namespace L2
open PySem PySem.Spec PyProof.Rows
theorem Fg {X:Cx} (hc:X.calm=true):lZ X (.type "dict") (fun xs H Q=>∃ (a:Addr) (ps:List V) (kvs:List (Key × V)),xs=[V.ref a]/\dN X.K H a ps/\ps.length=kvs.length /\
  (∀ (i:Nat) (p:V) (kv:Key × V),ps[i]?=some p->kvs[i]?=some kv->∃ b,p=.ref b/\eY X.K H b [kV kv.1,kv.2])/\∀ q,H q=none->Q (.ref q) (upd H q (.dK (nB [] kvs)))):=by
 intro pins s σ H xs us Q I r h
 obtain ⟨a,ps,kvs,rfl,ha,hl,hp,q⟩:=h
 obtain ⟨u,rfl,ru⟩:=vals1 r
 cases ru
 obtain ⟨its,rv,⟨o,n,ho,hcl,hdi,hda⟩,hz⟩:=I.list ha
 have hob:o={ cls:=.type "list",dict:=none,data:=.seq its.toArray n,slots:=o.slots }:=by
  obtain ⟨c,d,da,sl⟩:=o
  cases hcl;cases hdi;cases hda;rfl
 rw [hob] at ho
 have one:∀ (i:Nat) (x:Value) (kv:Key × V),its[i]?=some x->kvs[i]?=some kv->∃ p u v,x=.ref p/\s.heap.IsTuple p #[u,v]/\RelV (kV kv.1) u/\RelV kv.2 v:=fun i x kv e e'=>by
  obtain ⟨z,e2⟩:∃ z,ps[i]?=some z:=by
   have:i < ps.length:=by rw [hl];exact (List.getElem?_eq_some_iff.mp e').1
   exact ⟨ps[i],by simp [this]⟩
  obtain ⟨b,rfl,hb⟩:=hp i z kv e2 e'
  obtain ⟨x',e3,rx⟩:=rv.get e2
  rw [e] at e3;cases e3
  cases rx
  obtain ⟨its2,rv2,pt,_⟩:=I.tuple hb
  obtain ⟨u,v,rfl,r1,r2⟩:=vals2 rv2
  exact ⟨b,u,v,rfl,pt,r1,r2⟩
 have hlen:=rv.length
 have mk:∃ rs:List (Key × Value),KV kvs rs/\rs.length=its.length/\∀ (i:Nat) x k v,its[i]?=some x->rs[i]?=some (k,v)->∃ p u,x=.ref p/\s.heap.IsTuple p #[u,v]/\(cN X.prog X.w).is k u=true:=by
  have go:∀ (kvs:List (Key × V)) (its:List Value),kvs.length=its.length->(∀ (i:Nat) (x:Value) (kv:Key × V),its[i]?=some x->kvs[i]?=some kv->∃ p u v,x=.ref p/\s.heap.IsTuple p #[u,v]/\RelV (kV kv.1) u/\RelV kv.2 v) ->
    ∃ rs:List (Key × Value),KV kvs rs/\rs.length=its.length/\∀ (i:Nat) x k v,its[i]?=some x->rs[i]?=some (k,v)->∃ p u,x=.ref p/\s.heap.IsTuple p #[u,v]/\(cN X.prog X.w).is k u=true:=by
   intro kvs
   induction kvs with
   | nil=>intro its hl _;cases its with
    | nil=>exact ⟨[],.nil,rfl,fun i x k v e=>by simp at e⟩
    | cons a b=>cases hl
   | cons kv r ih=>intro its hl hh;cases its with
    | nil=>cases hl
    | cons x xs =>
     obtain ⟨p,u,v,rfl,pt,r1,r2⟩:=hh 0 x kv rfl rfl
     obtain ⟨rs,k1,k2,k3⟩:=ih xs (by simpa using hl) fun i x kv e e'=>hh (i + 1) x kv (by simpa using e) (by simpa using e')
     refine ⟨(kv.1,v) :: rs,.cons ⟨rfl,r2⟩ k1,by simp [k2],fun i x k w e e'=>?_⟩
     cases i with
     | zero=>cases e;cases e';exact ⟨p,u,rfl,pt,sX r1⟩
     | succ i=>exact k3 i x k w (by simpa using e) (by simpa using e')
  exact go kvs its (by omega) one
 obtain ⟨rs,rk,rl,rp⟩:=mk
 refine xR (knd:=cN X.prog X.w) (I.ok.hd hc) rs ho (by simpa using rl) (by simp;omega) (fun i x k v e e'=>rp i x k v (by simpa using e) e') fun h' t' kp dd=>?_
 refine ⟨.ref s.heap.objs.size,_,I.laid (t':=t') kp (Nat.le_refl _) (show dB X.prog X.w _ h' _ (.dK (nB [] kvs)) from ⟨?_,?_,_,rk.merge .nil,dd⟩),rfl,q _ (I.hok.fresh (Nat.le_refl _))⟩
 ·have:=tJ kvs []
  simp at this
  omega
 ·have:=I.big
  simp only [beq_eq_false_iff_ne]
  exact Nat.ne_of_gt this
end L2
namespace U2
open PySem PySem.Spec PyProof.Rows L2
def oI (kvs more:List (Key × U)):List (Key × U):=more.foldl (fun acc kv=>eP acc kv.1 kv.2) kvs
def Dk:List U->aD->UK->Prop:=fun us M Q=>match us with
 | [x]=>match view M x with
  | .lst es=>∃ kvs:List (Key × U),es=kvs.map (fun e=>.tup [kU e.1,e.2])/\∀ p,M p=none->Q (.ref p) (mup M p (.dK (oI [] kvs)))
  | _=>False
 | _=>False
theorem cD.merge {K:PySem.W.Frag} {H:Hp} {M:aD}:∀ {more:List (Key × U)} {ws:List (Key × V)} {kvs:List (Key × U)} {vs:List (Key × V)},cD K H M more ws->cD K H M kvs vs->cD K H M (oI kvs more) (nB vs ws)
 | [],_,_,_,.nil,r=>r
 | p :: more,q :: ws,kvs,vs,.cons h t,r=>by
  obtain ⟨h1,h2⟩:=h
  show cD K H M (oI (eP kvs p.1 p.2) more) (nB (putK vs q.1 q.2) ws)
  rw [<- h1]
  exact cD.merge t (r.put p.1 h2)
theorem A7 {K:PySem.W.Frag} {H:Hp} {M:aD}:∀ {kvs:List (Key × U)} {vs:List V},aH K H M (kvs.map fun e=>U.tup [kU e.1,e.2]) vs ->
  ∃ ws:List (Key × V),cD K H M kvs ws/\vs.length=ws.length/\∀ (i:Nat) (p:V) (kv:Key × V),vs[i]?=some p->ws[i]?=some kv->∃ b,p=.ref b/\eY K H b [kV kv.1,kv.2]
 | [],vs,r=>by
  have:=r.length
  simp at this
  cases vs with
  | nil=>exact ⟨[],.nil,rfl,fun i p kv e=>by simp at e⟩
  | cons a b=>cases this
 | e :: kvs,vs,r=>by
  rw [List.map_cons] at r
  obtain ⟨v,vs',rfl,a,b⟩:=r.inv_cons
  obtain ⟨ws,k1,k2,k3⟩:=A7 b
  obtain ⟨b0,zvs,rfl,s2,r2⟩:=a.tup
  obtain ⟨v1,r',rfl,a1,b1⟩:=r2.inv_cons
  obtain ⟨v2,rfl,a2⟩:=b1.one
  have hk:=tF a1 (Ew e.1)
  subst hk
  refine ⟨(e.1,v2) :: ws,.cons ⟨rfl,a2⟩ k1,by simp [k2],fun i p kv h h'=>?_⟩
  cases i with
  | zero=>cases h;cases h';exact ⟨b0,rfl,s2⟩
  | succ i=>exact k3 i p kv (by simpa using h) (by simpa using h')
theorem MT {D:Dat}:vS D (.type "dict") Dk:=⟨⟨_,fun X h=>by have:=Fg (X:=X) h.calm;rw [h.K] at this;exact this,fun xs us H M Q' rm rus h Q c=>by
 unfold Dk at h
 split at h
 ·rename_i x
  obtain ⟨v,rfl,a1⟩:=rus.one
  split at h
  ·rename_i es e
   obtain ⟨kvs,rfl,h⟩:=h
   obtain ⟨a,vs,rfl,s1,r1⟩:=dG rm a1 e
   obtain ⟨ws,k1,k2,k3⟩:=A7 r1
   refine ⟨a,vs,ws,rfl,s1,k2,k3,fun p hp=>?_⟩
   have st:aP H M (upd H p (.dK (nB [] ws))) (mup M p (.dK (oI [] kvs))):=aP.own rm hp
   exact c (.ref p) _ _ _ st (rm.put st ⟨_,cG,(cD.merge k1 .nil).stp st⟩) mL (h p (rm.no hp))
  ·exact h.elim
 ·exact h.elim⟩⟩
end U2
namespace U2
open PySem PySem.Spec PyProof.Rows L2
def gK:Int->List Int->Int
 | m,[]=>m
 | m,n :: ns=>gK (if n < m then n else m) ns
theorem EF:∀ (ns:List Int) (m:Int),gK m ns<=m/\∀ n∈ns,gK m ns<=n
 | [],m=>⟨Int.le_refl _,fun n h=>by cases h⟩
 | k :: ns,m=>by
  obtain ⟨h1,h2⟩:=EF ns (if k < m then k else m)
  have hk:(if k < m then k else m)<=m/\(if k < m then k else m)<=k:=by split <;> omega
  simp only [gK]
  refine ⟨by omega,fun n hn=>?_⟩
  rcases List.mem_cons.mp hn with rfl | hn
  ·omega
  ·exact h2 n hn
theorem Cq:∀ (ns:List Int) (m:Int),gK m ns=m\/gK m ns∈ns
 | [],m=>.inl rfl
 | k :: ns,m=>by
  simp only [gK]
  rcases Cq ns (if k < m then k else m) with h | h
  ·by_cases hk:k < m
   ·rw [if_pos hk] at h ⊢;exact .inr (by rw [h];exact List.mem_cons_self)
   ·rw [if_neg hk] at h ⊢;exact .inl h
  ·exact .inr (List.mem_cons_of_mem _ h)
theorem MC {m M:Int} {ns:List Int} (h1:M=m\/M∈ns) (h2:M<=m) (h3:∀ n∈ns,M<=n):gK m ns=M:=by
 obtain ⟨g1,g2⟩:=EF ns m
 rcases Cq ns m with e | e
 ·rcases h1 with rfl | h1
  ·exact e
  ·have:=g2 M h1;omega
 ·have:=h3 _ e
  rcases h1 with rfl | h1
  ·omega
  ·have:=g2 M h1;omega
section
variable {X:Cx}
theorem Im (hc:X.calm=true):lZ X (.builtin "min") (fun xs H Q=>∃ p m ns,xs=[.ref p]/\dN X.K H p ((m :: ns).map V.int)/\Q (.int (gK m ns)) H):=by
 intro pins s σ H xs us Q I r h
 obtain ⟨p,m,ns,rfl,hq,q⟩:=h
 obtain ⟨u,rfl,rx⟩:=vals1 r
 cases rx
 obtain ⟨its,r',pl,hz⟩:=I.list hq
 have hi:IntsAre its (m :: ns):=intsAre_of r'
 obtain ⟨ys,e⟩:=hi.allInts.items
 have hns:(m :: ns)=ys.toList.map (·.1):=by
  rw [<- hi.numsOf,<- nums_intItems,<- e]
 have hsz:0 < ys.size:=by
  have h3:ns.length + 1=ys.size:=by have:=congrArg List.length hns;simpa using this
  omega
 have hl:=pl.isList
 rw [e] at hl
 refine min_intList (I.ok.hd hc) hl hsz fun v h' tk hv hk=>?_
 obtain ⟨t,rfl⟩:=intItems_at hv
 obtain ⟨h1,h2⟩:=argBest_lt (numAt ys) (ys.size - 1)
 have hM:gK m ns=numAt ys (argBest (fun i j=>decide (numAt ys i < numAt ys j)) (ys.size - 1)):=by
  have hin:numAt ys (argBest (fun i j=>decide (numAt ys i < numAt ys j)) (ys.size - 1))∈m :: ns:=by
   rw [hns,numAt_eq];exact getD_mem (by rw [List.length_map,Array.length_toList];omega)
  have hge:∀ a∈m :: ns,numAt ys (argBest (fun i j=>decide (numAt ys i < numAt ys j)) (ys.size - 1))<=a:=fun a ha=>by
   rw [hns] at ha
   obtain ⟨j,hj,rfl⟩:=mem_getD ha
   rw [List.length_map,Array.length_toList] at hj
   rw [<- numAt_eq];exact h2 j (by omega)
  exact MC (List.mem_cons.mp hin) (hge m List.mem_cons_self) fun n hn=>hge n (List.mem_cons_of_mem _ hn)
 exact ⟨.int (gK m ns),H,I.kept hk,⟨t,by rw [hM]⟩,q⟩
def BI:List U->aD->UK->Prop:=fun us M Q=>match us with
 | [x]=>match view M x with
  | .lst ws=>∃ m ns,intsOf ws=some (m :: ns)/\Q (.int (gK m ns)) M
  | _=>False
 | _=>False
theorem Cy {D:Dat}:vS D (.builtin "min") BI:=⟨⟨_,fun X h=>by
  have:=Im (X:=X) h.calm;rw [h.K] at this;exact this,fun xs us H M Q' rm rus h Q c=>by
 unfold BI at h
 split at h
 ·rename_i x
  obtain ⟨v,rfl,a1⟩:=rus.one
  split at h
  ·rename_i ws e
   obtain ⟨m,ns,e2,q⟩:=h
   obtain ⟨b,zvs,rfl,s2,r2⟩:=dG rm a1 e
   rw [lN r2 e2] at s2
   exact ⟨b,m,ns,rfl,s2,c.here rm eK q⟩
  ·exact h.elim
 ·exact h.elim⟩⟩
end
end U2
namespace U2
open PySem PySem.Spec PyProof.Rows L2
section
variable {prog:Program} {w:World} {A:Around} {E:Value->Shared->Prop} {s:Shared} {r:Addr} {a b:Int} {t u v:Tok}
end
section
variable {X:Cx} {tg a b e:Expr} {ta:TA} {te:TE} {p pos:Pos}
end
section
variable {D:Dat} {tg a b:Expr} {p p2 pos pos2:Pos} {ta:UA}
end
end U2
namespace U2
open PySem PySem.Spec PyProof.Rows L2
section
variable {prog:Program} {w:World} {A:Around} {E:Value->Shared->Prop} {s:Shared}
end
section
variable {prog:Program} {w:World} {A:Around} {E:Value->Shared->Prop} {s:Shared}
end
def RD (ta:UA):UE:=fun τ M Q=>ta τ M fun us M1=>match us with
 | [.tup us]=>Q (.tup us.reverse) M1
 | _=>False
def He (K:PySem.W.Frag):V->List V->Hp->VK->Prop:=fun x vs H Q=>∃ p xs y,x=.ref p/\vs=[y]/\dN K H p xs/\j8 y=true/\xs.all j8=true/\Q (.int (xs.countP fun z=>qR z y:Nat)) H
theorem xS {α β:Type} (f:α->Bool) (g:β->Bool):∀ (l:List α) (m:List β),l.length=m.length->(∀ (i:Nat) a b,l[i]?=some a->m[i]?=some b->f a=g b)->l.countP f=m.countP g
 | [],[],_,_=>rfl
 | [],_ :: _,h,_=>by cases h
 | _ :: _,[],h,_=>by cases h
 | a :: l,b :: m,h,k=>by
  rw [List.countP_cons,List.countP_cons,k 0 a b rfl rfl,xS f g l m (by simpa using h) fun i a b h1 h2=>k (i + 1) a b h1 h2]
theorem Lx {X:Cx}:LM X "list.count" (He X.K):=by
 intro pins s σ H x vs v us Q I rx rv h
 obtain ⟨p,xs,y,rfl,rfl,hq,fy,fs,q⟩:=h
 cases rx
 obtain ⟨u,rfl,ru⟩:=rv.one
 obtain ⟨its,r,pl,hz⟩:=I.list hq
 obtain ⟨⟨cls,dd,data,sl⟩,n,ho,hc,_,hd⟩:=pl
 simp only at hc hd
 subst hc hd
 refine call_meets F.slot_list_count ⟨_,ho,rfl⟩ F.entry_list_count (F.args_list_count_2 _ _)
  (SeqAt.list_countAt p its.toArray n dd sl u (nA y)) ⟨ho,fun w' hw=>mH ru fy r fs w' (by simpa using hw),?_⟩
 have e:(its.toArray.toList.countP (nA y):Nat)=xs.countP fun z=>qR z y:=by
  refine xS _ _ _ _ (by simp [r.length]) fun i a b h1 h2=>?_
  have h1':its[i]?=some a:=by simpa using h1
  obtain ⟨w',h3,h4⟩:=r.get h2
  rw [h1'] at h3;cases h3
  exact BY h4 (List.all_eq_true.mp fs b (List.mem_of_getElem? h2))
 rw [e]
 exact ⟨.int _,H,I.tok _,⟨_,rfl⟩,q⟩
def rJ:List U->Option (List Int)
 | []=>some []
 | .int b :: r=>(rJ r).map (b :: ·)
 | _=>none
theorem Be {K:PySem.W.Frag} {H:Hp} {M:aD}:∀ {us:List U} {vs:List V} {bs:List Int},aH K H M us vs->rJ us=some bs->vs=bs.map V.int
 | [],_,_,r,h=>by cases h;exact r.inv_nil
 | u :: us,_,bs,r,h=>by
  obtain ⟨v,vs',rfl,a,b⟩:=r.inv_cons
  cases u with
  | int y =>
   simp only [rJ] at h
   cases e:rJ us with
   | none=>rw [e] at h;cases h
   | some cs =>
    rw [e] at h
    cases h
    rw [Be b e,a.int];rfl
  | _=>cases h
theorem Ba:∀ l:List Int,rJ (l.map U.int)=some l
 | []=>rfl
 | a :: l=>by simp only [List.map_cons,rJ,Ba l,Option.map_some]
def De:U->List U->aD->UK->Prop:=fun x ws M Q=>match view M x,ws with
 | .lst us,[.int w]=>∃ ns:List Int,rJ us=some ns/\Q (.int (ns.countP (· == w):Nat)) M
 | _,_=>False
theorem IK {K:PySem.W.Frag}:uZ K (He K) De:=fun x xs u us H M Q' rm ru rus h Q c=>by
 unfold De at h
 split at h
 ·rename_i ws w e
  obtain ⟨ss,h1,h4⟩:=h
  obtain ⟨a,vs,rfl,s2,r2⟩:=dG rm ru e
  rw [Be r2 h1] at s2
  obtain ⟨v,rfl,a1⟩:=rus.one
  cases a1.int
  refine ⟨a,_,_,rfl,rfl,s2,rfl,by simp [j8],?_⟩
  have e3:((ss.map V.int).countP fun z=>qR z (.int w))=ss.countP (· == w):=by
   rw [List.countP_map]
   refine List.countP_congr fun z _=>?_
   simp [qR]
  rw [e3]
  exact c.here rm eK h4
 ·exact h.elim
theorem JD {D:Dat} {o e:Expr} {ta:UE} {tas:UA} {pos apos:Pos} (ho:bA D o ta) (ha:l4 D [e] tas) (hbase:∀ env,attributeBase o "count" env (eval o env)=eval o env:=by intro _;rfl)
  (hfew:∀ env,((backTo pos (starEach [e] env)).all (fun x=>!x.1) && (backToKw pos (keywordEach [] env)).all (fun x=>x.1.isSome) && decide ([e].length + ([]:List Keyword).length + (if ([]:List Keyword).isEmpty then 0 else 1) < 30))=true:=by intro _;rfl)
  (hline:(apos.endLine == pos.line)=true:=by rfl) (hs:∀ env,starEach [e] env=[(false,eval e env)]:=by intro _;rfl):bA D (.Call (.Attribute o "count" apos) [e] [] pos) (xP De ta tas):=by
 obtain ⟨_,p,s⟩:=ho;obtain ⟨_,q,r⟩:=ha
 refine ⟨_,fun X h=>?_,Dh IK s r⟩
 have:=FG (cpos:=pos) (apos:=apos) PySem.F.plainAttrs_list PySem.F.slot_list_count PySem.F.type_list_count Lx (p X h) (q X h) (hbase _) (hfew _) hline (hs _) (by rfl)
 rw [h.K] at this
 exact this
end U2
namespace L2
open PySem
theorem Ip {q:List Value->Prop} (h:q []) (us:List Value) (e:us.length=0):q us:=by rw [List.length_eq_zero_iff.mp e];exact h
theorem oF {n:Nat} {q:List Value->Prop} (h:∀ x us,us.length=n->q (x :: us)) (us:List Value) (e:us.length=n + 1):q us:=by
 cases us with
 | nil=>cases e
 | cons x r=>exact h x r (Nat.succ.inj e)
abbrev Ar:=Value->Value->Value->Option Addr->Value->Value->List Value->Prop
theorem tO {p:Ar} (h:∀ a b c d e g x0,p a b c d e g [x0]) (a b c d e g):∀ us,us.length=1->p a b c d e g us:=oF fun x0=>Ip (h a b c d e g x0)
theorem qN {p:Ar} (h:∀ a b c d e g x0 x1,p a b c d e g [x0,x1]) (a b c d e g):∀ us,us.length=2->p a b c d e g us:=oF fun x0=>oF fun x1=>Ip (h a b c d e g x0 x1)
theorem HR {p:Ar} (h:∀ a b c d e g x0 x1 x2,p a b c d e g [x0,x1,x2]) (a b c d e g):∀ us,us.length=3->p a b c d e g us:=oF fun x0=>oF fun x1=>oF fun x2=>Ip (h a b c d e g x0 x1 x2)
theorem I0 {p:Ar} (h:∀ a b c d e g x0 x1 x2 x3,p a b c d e g [x0,x1,x2,x3]) (a b c d e g):∀ us,us.length=4->p a b c d e g us:=oF fun x0=>oF fun x1=>oF fun x2=>oF fun x3=>Ip (h a b c d e g x0 x1 x2 x3)
theorem RJ {p:Ar} (h:∀ a b c d e g x0 x1 x2 x3 x4,p a b c d e g [x0,x1,x2,x3,x4]) (a b c d e g):∀ us,us.length=5->p a b c d e g us:=oF fun x0=>oF fun x1=>oF fun x2=>oF fun x3=>oF fun x4=>Ip (h a b c d e g x0 x1 x2 x3 x4)
end L2
namespace U2
open PySem PySem.Spec PyProof.Rows L2
theorem fV {N P:List Str} {sc:Scope} (a:sc.kind=.function:=by rfl) (b:sc.isCoroutine=false:=by rfl) (c:sc.isGenerator=false:=by rfl) (d:N.Nodup:=by decide +kernel) (e:N.take P.length=P:=by rfl) (f:∀ x∈P,sc.names.lookup x=some .local\/sc.names.lookup x=some .cell:=by decide +kernel) (g:∀ y∈sc.names,y.2≠.free:=by decide +kernel):bD N P sc:=⟨a,b,c,d,e,f,g⟩
theorem nk {xs:List U} {I:Nat->SU->aD->Prop}:∀ i τ M,I i τ M->(Src.mk none xs).ok M:=fun _ _ _ _ _ e=>nomatch e
theorem bT {P:Program} {w:World} {K:PySem.W.Frag} {mg:Str->Option Value} {base:Heap} {x:Str} {st:Stmt} {f:Addr} {fd:FuncData} {N ps:List Str} {k:Nat} {sp:cV} {t:US} (F:dE K x x st f fd) (hm:mg x=some (.ref f)) (S:bD N ps (aR st))
  (bind:∀ (kV doc pm:Value) (an:Option Addr) (cdv ct:Value) (us:List Value),us.length=ps.length->bindArgs (PySem.W.fnOf x x (j9 st) (fN st) (aR st) .none kV doc pm an cdv ct) ⟨us,[]⟩=pure (ps.zip us))
  (h:oT ⟨P,w,K,mg,base,N,aR st,k,true,.none,""⟩ (fN st) t)
  (q:∀ us M Q,sp us M Q->us.length=ps.length/\t { nx:=fun _ M'=>qS Q .non M',rt:=qS Q } (hG N us) M):Callee P w K mg base (k + 1) x sp [] :=
 HV F hm S bind (fun us M Q hs=>(q us M Q hs).1) h (fun us M Q hs=>(q us M Q hs).2)
end U2
namespace K33
open PySem L2 U2
def top (i:Nat):Stmt:=PySem.Challenge.pw_rowsmith_k33_passes_in_rings.main.body.getD i (.Pass ⟨0,0,0,0⟩)
abbrev sW:Stmt:=top 2
theorem DP:bD ["shape"] ["shape"] (aR sW):=fV
abbrev i3:Stmt:=top 3
theorem eV:bD ["shape","found","number","part"] ["shape"] (aR i3):=fV
abbrev tE:Stmt:=top 4
theorem mZ:bD ["shape","place","here","number"] ["shape","place"] (aR tE):=fV
abbrev mK:Stmt:=top 5
theorem yF:bD ["pattern","tree"] ["pattern","tree"] (aR mK):=fV
abbrev uT:Stmt:=top 6
theorem Gw:bD ["tile"] ["tile"] (aR uT):=fV
abbrev AI:Stmt:=top 8
theorem Kx:bD ["tree"] ["tree"] (aR AI):=fV
abbrev wX:Stmt:=top 9
theorem G8:bD ["tree"] ["tree"] (aR wX):=fV
abbrev tQ:Stmt:=top 10
theorem Gb:bD ["tree","place"] ["tree","place"] (aR tQ):=fV
abbrev zZ:Stmt:=top 12
theorem Di:bD ["pattern","found"] ["pattern"] (aR zZ):=fV
abbrev yE:Stmt:=top 14
theorem Nk:bD ["pattern","tree"] ["pattern","tree"] (aR yE):=fV
abbrev Av:Stmt:=top 15
theorem Kl:bD ["table","cover"] ["table","cover"] (aR Av):=fV
abbrev rQ:Stmt:=top 17
theorem iZ:bD ["table","tree","place","here","found","number","tile","spots"] ["table","tree","place"] (aR rQ):=fV
abbrev oJ:Stmt:=top 18
theorem nJ:bD ["table","tree","found","place"] ["table","tree"] (aR oJ):=fV
abbrev oS:Stmt:=top 19
theorem tH:bD ["price","spots","values","joined","had"] ["price","spots","values","joined"] (aR oS):=fV
abbrev oD:Stmt:=top 20
theorem dP:bD ["tiles","place","values","choices","joined","lowered","number","cls","price","spots","value"] ["tiles","place","values","choices","joined"] (aR oD):=fV
abbrev mP:Stmt:=top 21
theorem jG:bD ["table","tree","joined","values","choices","place"] ["table","tree","joined"] (aR mP):=fV
abbrev mV:Stmt:=top 22
theorem gD:bD ["choices","cls","cover","waiting","spot","choice"] ["choices","cls"] (aR mV):=fV
abbrev rR:Stmt:=top 23
theorem DH:bD ["table","tree","values"] ["table","tree","values"] (aR rR):=fV
abbrev lE:Stmt:=top 24
theorem kJ:bD ["table","found","tile"] ["table"] (aR lE):=fV
abbrev rS:Stmt:=top 25
theorem o9:bD ["found","key","price","count","had"] ["found","key","price","count"] (aR rS):=fV
abbrev kO:Stmt:=top 26
theorem cM:bD ["table","cls","steps","found","waiting","chain","classes","joint","step"] ["table","cls"] (aR kO):=fV
abbrev mI:Stmt:=top 28
theorem yT:bD ["price","prices"] ["price","prices"] (aR mI):=fV
abbrev xB:Stmt:=top 29
theorem Jg:bD ["table","tree"] ["table","tree"] (aR xB):=fV
abbrev AE:Stmt:=top 31
theorem BX:bD ["table","tree","cls","choices"] ["table","tree","cls"] (aR AE):=fV
abbrev nI:Stmt:=top 32
theorem cK:bD ["tiles","below","found","number","cls","price","spots","had","ways","cost","count"] ["tiles","below"] (aR nI):=fV
abbrev k0:Stmt:=top 33
theorem cJ:bD ["table","tree","cls","chains","laid","found","place","first","kind","end","chain"] ["table","tree","cls"] (aR k0):=fV
abbrev tD:Stmt:=top 35
theorem gL:bD ["tape","many","spot","cell","some","rest"] ["tape","many"] (aR tD):=fV
abbrev nP:Stmt:=top 36
theorem mX:bD ["passes","row","cost","found","begin","end","more"] ["passes","row","cost","found"] (aR nP):=fV
abbrev p5:Stmt:=top 37
theorem bZ:bD ["tape","classes","begin","passes","k","at","other","tiles","one","cost","name"] ["tape"] (aR p5):=fV
abbrev nS:Stmt:=top 38
theorem gQ:bD ["script","tape","table","begin","passes","found","tree","told","at","cls","some","many","cover"] ["script"] (aR nS):=fV
section
variable {P:Program} {w:World} {K:PySem.W.Frag} {mg:Str->Option Value} {base:Heap} {f d d2 fl:Addr} {fd:FuncData}
inductive Op where
 | sum | less | by_
def Op.word:Op->Str
 | .sum=>"sum" | .less=>"less" | .by_=>"by"
inductive Tr where
 | num (n:Int) | name (x:Str) | turn (a:Tr) | two (o:Op) (a b:Tr)
def Tr.toU:Tr->U
 | .num n=>.tup [.str "num",.int n]
 | .name x=>.tup [.str "name",.str x]
 | .turn a=>.tup [.str "turn",a.toU]
 | .two o a b=>.tup [.str o.word,a.toU,b.toU]
def Tr.ok:Tr->Prop
 | .num _=>True
 | .name x=>PyData.strOk x=true/\x.length<=100
 | .turn a=>a.ok
 | .two _ a b=>a.ok/\b.ok
def Tr.dep:Tr->Nat
 | .num _=>1
 | .name _=>1
 | .turn a=>a.dep + 1
 | .two _ a b=>max a.dep b.dep + 1
inductive Pt where
 | hole (c:Str) | any | fr (l h:Int) | turn (a:Pt) | two (o:Op) (a b:Pt)
def Pt.toU:Pt->U
 | .hole c=>.tup [.str "at",.str c]
 | .any=>.tup [.str "any"]
 | .fr l h=>.tup [.str "from",.int l,.int h]
 | .turn a=>.tup [.str "turn",a.toU]
 | .two o a b=>.tup [.str o.word,a.toU,b.toU]
def Pt.ok:Pt->Prop
 | .hole c=>PyData.strOk c=true
 | .any=>True
 | .fr l h=>0<=l/\l<=h
 | .turn a=>a.ok
 | .two _ a b=>a.ok/\b.ok
def Pt.dep:Pt->Nat
 | .hole _=>1
 | .any=>1
 | .fr _ _=>1
 | .turn a=>a.dep + 1
 | .two _ a b=>max a.dep b.dep + 1
def Pt.holes:Pt->Nat
 | .hole _=>1
 | .any=>0
 | .fr _ _=>0
 | .turn a=>a.holes
 | .two _ a b=>a.holes + b.holes
def Pt.leafy:Pt->Bool
 | .turn _=>false
 | .two _ _ _=>false
 | _=>true
def Pt.ends:Pt->List Pt
 | .turn a=>a.ends
 | .two _ a b=>a.ends++b.ends
 | p=>[p]
instance:DecidableEq Op:=fun a b=>by cases a <;> cases b <;> first | exact isTrue rfl | exact isFalse (fun h=>nomatch h)
def eC:Pt->Tr->Bool
 | .hole _,_=>true
 | .any,.name _=>true
 | .any,_=>false
 | .fr l h,.num n=>decide (l<=n) && decide (n<=h)
 | .fr _ _,_=>false
 | .turn p,.turn a=>eC p a
 | .turn _,_=>false
 | .two o p q,.two o' a b=>decide (o=o') && (eC p a && eC q b)
 | .two _ _ _,_=>false
theorem Op.word_inj {a b:Op}:a.word=b.word ↔ a=b:=by
 cases a <;> cases b <;> first | exact ⟨fun _=>rfl,fun _=>rfl⟩ | exact ⟨fun h=>absurd h (by decide +kernel),fun h=>nomatch h⟩
def gG:List (Str × Fl):=[("turn",.int 1),("sum",.int 2),("less",.int 2),("by",.int 2)]
theorem QI (x y:Str):(x++y).cps.toList=x.cps.toList++y.cps.toList:=by
 show (x.cps++y.cps).toList=_
 simp
theorem small {n:Nat} (h:n<=100000):n<=sizeLine:=Nat.le_trans h (by decide)
theorem Hk {n:Nat} (h:n<=100000):(n<=sizeLine)=True:=eq_true (small h)
theorem Lk:(Str.ofString "at"=Str.ofString "any")=False:=eq_false (by decide +kernel)
theorem Hl:(Str.ofString "at"=Str.ofString "from")=False:=eq_false (by decide +kernel)
theorem IG:(Str.ofString "at"=Str.ofString "turn")=False:=eq_false (by decide +kernel)
theorem Lv:(Str.ofString "at"=Str.ofString "num")=False:=eq_false (by decide +kernel)
theorem II:(Str.ofString "at"=Str.ofString "name")=False:=eq_false (by decide +kernel)
theorem Kb:(Str.ofString "any"=Str.ofString "at")=False:=eq_false (by decide +kernel)
theorem FO:(Str.ofString "any"=Str.ofString "from")=False:=eq_false (by decide +kernel)
theorem Fs:(Str.ofString "any"=Str.ofString "turn")=False:=eq_false (by decide +kernel)
theorem IW:(Str.ofString "any"=Str.ofString "num")=False:=eq_false (by decide +kernel)
theorem GI:(Str.ofString "any"=Str.ofString "name")=False:=eq_false (by decide +kernel)
theorem Hv:(Str.ofString "from"=Str.ofString "at")=False:=eq_false (by decide +kernel)
theorem FN:(Str.ofString "from"=Str.ofString "any")=False:=eq_false (by decide +kernel)
theorem DJ:(Str.ofString "from"=Str.ofString "turn")=False:=eq_false (by decide +kernel)
theorem FY:(Str.ofString "from"=Str.ofString "num")=False:=eq_false (by decide +kernel)
theorem DY:(Str.ofString "from"=Str.ofString "name")=False:=eq_false (by decide +kernel)
theorem IH:(Str.ofString "turn"=Str.ofString "at")=False:=eq_false (by decide +kernel)
theorem GD:(Str.ofString "turn"=Str.ofString "any")=False:=eq_false (by decide +kernel)
theorem DL:(Str.ofString "turn"=Str.ofString "from")=False:=eq_false (by decide +kernel)
theorem Fe:(Str.ofString "turn"=Str.ofString "num")=False:=eq_false (by decide +kernel)
theorem DT:(Str.ofString "turn"=Str.ofString "name")=False:=eq_false (by decide +kernel)
theorem KJ:(Str.ofString "num"=Str.ofString "at")=False:=eq_false (by decide +kernel)
theorem IE:(Str.ofString "num"=Str.ofString "any")=False:=eq_false (by decide +kernel)
theorem Gh:(Str.ofString "num"=Str.ofString "from")=False:=eq_false (by decide +kernel)
theorem FA:(Str.ofString "num"=Str.ofString "turn")=False:=eq_false (by decide +kernel)
theorem F3:(Str.ofString "num"=Str.ofString "name")=False:=eq_false (by decide +kernel)
theorem HZ:(Str.ofString "name"=Str.ofString "at")=False:=eq_false (by decide +kernel)
theorem Ff:(Str.ofString "name"=Str.ofString "any")=False:=eq_false (by decide +kernel)
theorem DV:(Str.ofString "name"=Str.ofString "from")=False:=eq_false (by decide +kernel)
theorem D3:(Str.ofString "name"=Str.ofString "turn")=False:=eq_false (by decide +kernel)
theorem GB:(Str.ofString "name"=Str.ofString "num")=False:=eq_false (by decide +kernel)
theorem OZ (o:Op):(o.word=Str.ofString "at")=False:=eq_false (by cases o <;> decide +kernel)
theorem MB (o:Op):(o.word=Str.ofString "any")=False:=eq_false (by cases o <;> decide +kernel)
theorem JE (o:Op):(o.word=Str.ofString "from")=False:=eq_false (by cases o <;> decide +kernel)
theorem J8 (o:Op):(o.word=Str.ofString "turn")=False:=eq_false (by cases o <;> decide +kernel)
theorem Mw (o:Op):(o.word=Str.ofString "num")=False:=eq_false (by cases o <;> decide +kernel)
theorem Ke (o:Op):(o.word=Str.ofString "name")=False:=eq_false (by cases o <;> decide +kernel)
theorem ON (o:Op):(Str.ofString "at"=o.word)=False:=eq_false (by cases o <;> decide +kernel)
theorem ML (o:Op):(Str.ofString "any"=o.word)=False:=eq_false (by cases o <;> decide +kernel)
theorem Jl (o:Op):(Str.ofString "from"=o.word)=False:=eq_false (by cases o <;> decide +kernel)
theorem K4 (o:Op):(Str.ofString "turn"=o.word)=False:=eq_false (by cases o <;> decide +kernel)
theorem Nx (o:Op):(Str.ofString "num"=o.word)=False:=eq_false (by cases o <;> decide +kernel)
theorem Lu (o:Op):(Str.ofString "name"=o.word)=False:=eq_false (by cases o <;> decide +kernel)
theorem jA:(Str.ofString "at"=Str.ofString "any")=False/\(Str.ofString "at"=Str.ofString "from")=False/\(Str.ofString "at"=Str.ofString "turn")=False/\(Str.ofString "at"=Str.ofString "num")=False/\(Str.ofString "at"=Str.ofString "name")=False/\(Str.ofString "any"=Str.ofString "at")=False:=⟨Lk,Hl,IG,Lv,II,Kb⟩
theorem jF:(Str.ofString "any"=Str.ofString "from")=False/\(Str.ofString "any"=Str.ofString "turn")=False/\(Str.ofString "any"=Str.ofString "num")=False/\(Str.ofString "any"=Str.ofString "name")=False/\(Str.ofString "from"=Str.ofString "at")=False/\(Str.ofString "from"=Str.ofString "any")=False:=⟨FO,Fs,IW,GI,Hv,FN⟩
theorem jC:(Str.ofString "from"=Str.ofString "turn")=False/\(Str.ofString "from"=Str.ofString "num")=False/\(Str.ofString "from"=Str.ofString "name")=False/\(Str.ofString "turn"=Str.ofString "at")=False/\(Str.ofString "turn"=Str.ofString "any")=False/\(Str.ofString "turn"=Str.ofString "from")=False:=⟨DJ,FY,DY,IH,GD,DL⟩
theorem jD:(Str.ofString "turn"=Str.ofString "num")=False/\(Str.ofString "turn"=Str.ofString "name")=False/\(Str.ofString "num"=Str.ofString "at")=False/\(Str.ofString "num"=Str.ofString "any")=False/\(Str.ofString "num"=Str.ofString "from")=False/\(Str.ofString "num"=Str.ofString "turn")=False:=⟨Fe,DT,KJ,IE,Gh,FA⟩
theorem jE:(Str.ofString "num"=Str.ofString "name")=False/\(Str.ofString "name"=Str.ofString "at")=False/\(Str.ofString "name"=Str.ofString "any")=False/\(Str.ofString "name"=Str.ofString "from")=False/\(Str.ofString "name"=Str.ofString "turn")=False/\(Str.ofString "name"=Str.ofString "num")=False:=⟨F3,HZ,Ff,DV,D3,GB⟩
theorem jB:(∀ o:Op,(o.word=Str.ofString "at")=False)/\(∀ o:Op,(o.word=Str.ofString "any")=False)/\(∀ o:Op,(o.word=Str.ofString "from")=False)/\(∀ o:Op,(o.word=Str.ofString "turn")=False)/\(∀ o:Op,(o.word=Str.ofString "num")=False)/\(∀ o:Op,(o.word=Str.ofString "name")=False):=⟨OZ,MB,JE,J8,Mw,Ke⟩
theorem jH:(∀ o:Op,(Str.ofString "at"=o.word)=False)/\(∀ o:Op,(Str.ofString "any"=o.word)=False)/\(∀ o:Op,(Str.ofString "from"=o.word)=False)/\(∀ o:Op,(Str.ofString "turn"=o.word)=False)/\(∀ o:Op,(Str.ofString "num"=o.word)=False)/\(∀ o:Op,(Str.ofString "name"=o.word)=False):=⟨ON,ML,Jl,K4,Nx,Lu⟩
theorem lK {neg:Bool} {i j:Int} {M:aD} {Q:UK}:tT neg (.int i) (.int j) M Q=Q (.bl (if neg then !decide (i=j) else decide (i=j))) M:=rfl
theorem q9 {neg:Bool} {i j:Str} {M:aD} {Q:UK}:tT neg (.str i) (.str j) M Q=Q (.bl (if neg then !decide (i=j) else decide (i=j))) M:=rfl
theorem big {k:Nat} (h:k < 100000):k < sizeLine:=Nat.lt_of_lt_of_le h (by decide)
def fC:cV:=fun us M Q=>∃ (z:Str) (r:List U) (b:Bool),us=[.tup (.str z :: r)]/\(dS gG z).isSome=b/\r.length<=1000/\Q (.tup (if b then r else [])) M
local macro_rules | `(tactic| dsimp! only [$xs,*] $[$l]?) => `(tactic| simp only [$xs,*, Bool.false_eq_true, Bool.not_false, Bool.not_true, List.append_nil, List.cons_append, List.getElem?_cons_succ, List.getElem?_cons_zero, List.length_cons, List.length_nil, List.map_cons, List.map_nil, List.nil_append, List.replicate, List.set_cons_succ, List.set_cons_zero, Nat.add_sub_cancel, Nat.reduceAdd, Nat.reduceLeDiff, Nat.reduceSub, Nat.sub_self, Option.getD_some, Option.some.injEq, and_true, Hz, G2, at2, Ik, wC, Df, zD, yQ, yJ, tR, pN, CF, wJ, m8, Ek, Ep, D8, Jb, cU, decide_false, decide_true, lK, q9, exists_eq_left', gN, hName, kI, i9, if_false, if_true, BO, u5, gA, fH, fF, fR, fE, fQ, eO, iH, iS, jP, iQ, jL, hJ, iU, iT, jR, iG, jS, hW, jX, jM, kW, jI, kT, iR, iI, iJ, j3, iW, jJ, hX, j0, j1, kX, jU, kZ, iO, gX, gW, iM, gZ, iP, gF, items, xY, lI, uE, lM, uG, uM, iL, bV, aF, reduceCtorEq, hG, Hk, true_and, Ay, uQ, o6, wZ, rN, bR, xP, w9, Og, uC, Bn, sG, qX, oE, r9, QT, gC, sP, oH, Cj, uI, q8, C1, qC, xO, tX, pB, AY, wW, wK, t9, Dr, fJ, wH, mD, w6, pJ, zI, lP, B9, BV, rX, gH, Q8, sU, zB, tW, aG, wI, o8, wU, xI, CY, pW, xH, m5, uL, qU, tP, qP, tV, t8] $[$l]?)
theorem DE (F:dE K "parts_of" "parts_of" sW f fd) (hm:mg "parts_of"=some (.ref f)) (Am:zE P w K d gG) (Az:mg "SIGNS"=some (.ref d)):Callee P w K mg base 1 "parts_of" fC []:=by
 refine bT F hm DP (tO fun _ _ _ _ _ _ _=>rfl) (aJ (bP (BG (cP (MV Am) (aN (uv 0) aS) (CW Az)) (qY (own:=false) (uv 0) (nY aS) n0) (bI aB)))) ?_
 rintro us M Q ⟨z,r,b,rfl,hb,hl,q⟩
 refine ⟨rfl,?_⟩
 dsimp! only [hb]
 cases b with
 | true =>
  dsimp! only [RC]
  exact aZ q
 | false =>
  dsimp! only [true_and]
  exact aZ q
theorem K6 (F:dE K "parts" "parts" AI f fd) (hm:mg "parts"=some (.ref f)) (b9:Callee P w K mg base 1 "parts_of" fC []):Callee P w K mg base 2 "parts" fC []:=by
 refine bT F hm Kx (tO fun _ _ _ _ _ _ _=>rfl) (aJ (bP (aU b9 (aA (uv 0) aB)))) ?_
 rintro us M Q ⟨z,r,b,rfl,hb,hl,q⟩
 refine ⟨rfl,?_⟩
 dsimp! only [true_and]
 exact ⟨z,r,b,rfl,hb,hl,aZ q⟩
theorem nU:(dS gG (Str.ofString "turn")).isSome=true:=by decide +kernel
theorem oW (o:Op):(dS gG o.word).isSome=true:=by cases o <;> decide +kernel
def xA:cV:=fun us M Q=>∃ (p:Pt) (t:Tr),us=[p.toU,t.toU]/\(p=.any\/∃ l h,p=.fr l h)/\Q (.bl (eC p t)) M
theorem xV (F:dE K "lies_on_leaf" "lies_on_leaf" mK f fd) (hm:mg "lies_on_leaf"=some (.ref f)):Callee P w K mg base 1 "lies_on_leaf" xA []:=by
 refine bT F hm yF (qN fun _ _ _ _ _ _ _ _=>rfl) (aE (dW (cP j6 (aN (uv 0) aS) kS)
 (aJ (bP (KY j6 (aN (uv 1) aS) kS)))
 cT)
 (aJ (bP (O7 (KY j6 (aN (uv 1) aS) kS) (P4 (Q9 OJ OJ (aN (uv 0) aS) (aN (uv 1) aS) (aN (uv 0) aS))))))) ?_
 rintro us M Q ⟨p,t,rfl,hp,q⟩
 refine ⟨rfl,?_⟩
 rcases hp with rfl | ⟨l,h,rfl⟩
 ·cases t <;> (dsimp! only [Pt.toU,Tr.toU,eC,jA,jF,jC,jD,jE,jB,jH] at q ⊢;exact aZ q)
 ·cases t with
  | num n =>
   dsimp! only [Pt.toU,Tr.toU,eC,jA,jF,jC,jD,jE,jB,jH] at q ⊢
   by_cases h1:l<=n
   ·rw [if_pos (decide_eq_true h1)]
    rw [decide_eq_true h1,Bool.true_and] at q
    exact aZ q
   ·rw [if_neg (by simpa using h1)]
    rw [decide_eq_false h1,Bool.false_and] at q
    exact aZ q
  | _=>dsimp! only [Pt.toU,Tr.toU,eC,jA,jF,jC,jD,jE,jB,jH] at q ⊢;exact aZ q
theorem uX (z:Str):([U.str (Str.ofString "any"),U.str (Str.ofString "from")].any fun u=>tK u (.str z))=(decide (Str.ofString "any"=z) || decide (Str.ofString "from"=z)):=by
 have e:∀ a:Str,tK (.str a) (.str z)=decide (a=z):=fun a=>by
  show (a == z)=_
  by_cases h:a=z
  ·subst h;simp
  ·simp [h]
 simp only [List.any_cons,List.any_nil,e,Bool.or_false]
def uD (n:Nat):cV:=fun us M Q=>∃ (p:Pt) (t:Tr),us=[p.toU,t.toU]/\p.dep<=n/\Q (.bl (eC p t)) M
theorem NC {n:Nat} (F:dE K "lies" "lies" yE f fd) (hm:mg "lies"=some (.ref f)) (vH:mg "all"=none) (vK:mg "zip"=none) (j4:Callee P w K mg base 1 "lies_on_leaf" xA []) (b9:Callee P w K mg base 1 "parts_of" fC []) (u7:Callee P w K mg base 2 "parts" fC [])
  (CD:Callee P w K mg base (n + 3) "lies" (uD n) []):Callee P w K mg base (n + 4) "lies" (uD (n + 1)) []:=by
 refine bT F hm Nk (qN fun _ _ _ _ _ _ _ _=>rfl) (aE (dW (cP j6 (aN (uv 0) aS) kS)
 (aJ (bP v5))
 cT)
 (aE (dW (cP PX (aN (uv 0) aS) (bI (aA kS (aA kS aB))))
 (aJ (bP (aU j4 (aA (uv 0) (aA (uv 1) aB)))))
 cT)
 (aE (dW (cP sO (aN (uv 0) aS) (aN (uv 1) aS))
 (aJ (bP v5))
 cT)
 (aJ (bP (kM Qx vH (aA (kB false ["inner","part"] 2 [] (Om vK (aA (aU b9 (aA (uv 0) aB)) (aA (aU u7 (aA (uv 1) aB)) aB))) (dU (n:=2) (aT (aO (k:=2) 0 (by dsimp only [bM];decide +kernel)) (aT (aO (k:=2) 1 (by dsimp only [bM];decide +kernel)) cW))) g9 (aU CD (aA (uv 0) (aA (uv 1) aB)))) aB))))))) ?_
 rintro us M Q ⟨p,t,rfl,hd,q⟩
 refine ⟨rfl,?_⟩
 have fl:∀ z:Str,kD (.str z)=true:=fun _=>rfl
 have fl2:[U.str (Str.ofString "any"),U.str (Str.ofString "from")].all kD=true:=rfl
 cases p with
 | hole c =>
  dsimp! only [Pt.toU,eC,jA,jF,jC,jD,jE,jB,jH] at q ⊢
  exact aZ q
 | any =>
  dsimp! only [Pt.toU,jA,jF,jC,jD,jE,jB,jH,uX,fl,fl2,Bool.true_or,Bool.or_true]
  exact ⟨.any,t,rfl,.inl rfl,aZ q⟩
 | fr l h =>
  dsimp! only [Pt.toU,jA,jF,jC,jD,jE,jB,jH,uX,fl,fl2,Bool.true_or,Bool.or_true]
  exact ⟨.fr l h,t,rfl,.inr ⟨l,h,rfl⟩,aZ q⟩
 | turn a =>
  have hda:a.dep<=n:=by simp only [Pt.dep] at hd;omega
  cases t with
  | turn b =>
   dsimp! only [Pt.toU,Tr.toU,eC,jA,jF,jC,jD,jE,jB,jH,uX,fl,fl2,Bool.or_false] at q ⊢
   refine eM (S:=⟨none,fG [a.toU] [b.toU]⟩) (M1:=M) [.bl (eC a b)] (fun R r=>?_) rfl (show 1<=sizeLine by decide) (fun a e=>by cases e) ?_ ?_
   ·dsimp! only [true_and]
    refine ⟨_,_,true,rfl,nU,by simp,⟨_,_,true,rfl,nU,by simp,?_⟩⟩
    dsimp! only [true_and]
    exact r
   ·intro j x y hx hy M' _ R r'
    match j,hx,hy with
    | 0,hx,hy =>
     cases hx;cases hy
     dsimp! only [true_and]
     exact ⟨a,b,rfl,hda,r'⟩
    | j + 1,hx,hy=>cases hy
   ·dsimp! only [wD,Option.map_some,List.all_cons,List.all_nil,Bool.and_true]
    exact aZ q
  | _=>dsimp! only [Pt.toU,Tr.toU,eC,jA,jF,jC,jD,jE,jB,jH,uX,fl,fl2,Bool.or_false] at q ⊢;exact aZ q
 | two o a c =>
  have hda:a.dep<=n/\c.dep<=n:=by simp only [Pt.dep] at hd;omega
  cases t with
  | two o' b e =>
   dsimp! only [Pt.toU,Tr.toU,eC,jA,jF,jC,jD,jE,jB,jH,uX,fl,fl2,Bool.or_false,Op.word_inj] at q ⊢
   by_cases ho:o=o'
   ·subst ho
    dsimp! only [Bool.true_and] at q ⊢
    refine eM (S:=⟨none,fG [a.toU,c.toU] [b.toU,e.toU]⟩) (M1:=M) [.bl (eC a b),.bl (eC c e)] (fun R r=>?_) rfl (show 2<=sizeLine by decide) (fun a e=>by cases e) ?_ ?_
    ·dsimp! only [true_and]
     refine ⟨_,_,true,rfl,oW o,by simp,⟨_,_,true,rfl,oW o,by simp,?_⟩⟩
     dsimp! only [true_and]
     exact r
    ·intro j x y hx hy M' _ R r'
     match j,hx,hy with
     | 0,hx,hy =>
      cases hx;cases hy
      dsimp! only [true_and]
      exact ⟨a,b,rfl,hda.1,r'⟩
     | 1,hx,hy =>
      cases hx;cases hy
      dsimp! only [true_and]
      exact ⟨c,e,rfl,hda.2,r'⟩
     | j + 2,hx,hy=>cases hy
    ·dsimp! only [wD,Option.map_some,List.all_cons,List.all_nil,Bool.and_true]
     exact aZ q
   ·dsimp! only [ho,Bool.false_and] at q ⊢
    exact aZ q
  | _=>dsimp! only [Pt.toU,Tr.toU,eC,jA,jF,jC,jD,jE,jB,jH,uX,fl,fl2,Bool.or_false] at q ⊢;exact aZ q
theorem Dn:∀ p:Pt,1<=p.dep
 | .hole _=>Nat.le_refl _
 | .any=>Nat.le_refl _
 | .fr _ _=>Nat.le_refl _
 | .turn a=>by simp only [Pt.dep];omega
 | .two o a b=>by simp only [Pt.dep];omega
theorem J2:∀ p:Tr,1<=p.dep
 | .num _=>Nat.le_refl _
 | .name _=>Nat.le_refl _
 | .turn a=>by simp only [Tr.dep];omega
 | .two o a b=>by simp only [Tr.dep];omega
theorem CO (F:dE K "lies" "lies" yE f fd) (hm:mg "lies"=some (.ref f)) (vH:mg "all"=none) (vK:mg "zip"=none) (j4:Callee P w K mg base 1 "lies_on_leaf" xA []) (b9:Callee P w K mg base 1 "parts_of" fC []) (u7:Callee P w K mg base 2 "parts" fC []):∀ n,Callee P w K mg base (n + 3) "lies" (uD n) []
 | 0=>by
  have no:∀ us M Q,¬ uD 0 us M Q:=fun us M Q h=>by
   obtain ⟨p,t,_,h,_⟩:=h
   have:=Dn p
   omega
  refine ⟨f,fd,["pattern","tree"],[],[],⟨fun vs H Q E h=>?_,fun A outer s H args us vs Q E _ _ _ _ h=>?_⟩,hm,F.kp,F.binds (qN fun _ _ _ _ _ _ _ _=>rfl),.nil,fun H M=>.nil⟩
  ·obtain ⟨us,M,Q',_,_,h,_⟩:=h;exact absurd h (no us M Q')
  ·obtain ⟨us,M,Q',_,_,h,_⟩:=h;exact absurd h (no us M Q')
 | n + 1=>NC F hm vH vK j4 b9 u7 (CO F hm vH vK j4 b9 u7 n)
theorem mulL {i j:Int} (h1:-(2 ^ 64) < i) (h2:i < 2 ^ 64):nO i j:=.inl (.inl ⟨h1,h2⟩)
def qF (l:List Str):U:=.tup (l.map .str)
def lX:Pt->PyData
 | .hole c=>.tuple [.str "at",.str c]
 | .any=>.tuple [.str "any"]
 | .fr l h=>.tuple [.str "from",.int l,.int h]
 | .turn a=>.tuple [.str "turn",lX a]
 | .two o a b=>.tuple [.str o.word,lX a,lX b]
theorem Gs:∀ p:Pt,toD p.toU=some (lX p)
 | .hole c=>by simp [Pt.toU,toD,fA,lX]
 | .any=>by simp [Pt.toU,toD,fA,lX]
 | .fr l h=>by simp [Pt.toU,toD,fA,lX]
 | .turn a=>by simp [Pt.toU,toD,fA,lX,Gs a]
 | .two o a b=>by simp [Pt.toU,toD,fA,lX,Gs a,Gs b]
theorem KD:∀ p:Pt,p.ok->(lX p).canLay0=true
 | .hole c,h=>by
  have h':PyData.strOk c=true:=h
  simp only [lX,PyData.canLay0,PyData.canLayAll0,h'];decide +kernel
 | .any,_=>by decide +kernel
 | .fr l h,_=>by simp only [lX,PyData.canLay0,PyData.canLayAll0];decide +kernel
 | .turn a,h=>by simp only [lX,PyData.canLay0,PyData.canLayAll0,KD a h];decide +kernel
 | .two o a b,h=>by
  have:PyData.strOk o.word=true:=by cases o <;> decide +kernel
  simp only [lX,PyData.canLay0,PyData.canLayAll0,KD a h.1,KD b h.2,this];decide +kernel
def mB:Tr->PyData
 | .num n=>.tuple [.str "num",.int n]
 | .name x=>.tuple [.str "name",.str x]
 | .turn a=>.tuple [.str "turn",mB a]
 | .two o a b=>.tuple [.str o.word,mB a,mB b]
theorem F5:∀ p:Tr,toD p.toU=some (mB p)
 | .num c=>by simp [Tr.toU,toD,fA,mB]
 | .name c=>by simp [Tr.toU,toD,fA,mB]
 | .turn a=>by simp [Tr.toU,toD,fA,mB,F5 a]
 | .two o a b=>by simp [Tr.toU,toD,fA,mB,F5 a,F5 b]
theorem KN:∀ p:Tr,p.ok->(mB p).canLay0=true
 | .num c,h=>by simp only [mB,PyData.canLay0,PyData.canLayAll0];decide +kernel
 | .name c,h=>by
  have h':PyData.strOk c=true:=h.1
  simp only [mB,PyData.canLay0,PyData.canLayAll0,h'];decide +kernel
 | .turn a,h=>by simp only [mB,PyData.canLay0,PyData.canLayAll0,KN a h];decide +kernel
 | .two o a b,h=>by
  have:PyData.strOk o.word=true:=by cases o <;> decide +kernel
  simp only [mB,PyData.canLay0,PyData.canLayAll0,KN a h.1,KN b h.2,this];decide +kernel
def RO (p:Pt):U:=.tup [p.toU,.int (p.dep:Nat)]
def AK:List Pt->Nat
 | []=>0
 | p :: r=>p.holes + AK r
theorem J6:∀ l r:List Pt,AK (l++r)=AK l + AK r
 | [],_=>by simp [AK]
 | t :: l,r=>by simp [AK,J6 l r];omega
def RX (n:Int):Op:=if n % 3=0 then .sum else if n % 3=1 then .less else .by_
theorem aI {u v:US} {D:pE} {τ:SU} {M:aD} (h:∀ V:SU->aD->Prop,V=v D->u { D with nx:=V } τ M):tW u v D τ M:=h _ rfl
theorem fD {c:UT} {t u:US} {D:pE} {τ:SU} {M:aD} (h:∀ A B:aD->Prop,A=t D τ->B=u D τ->c τ M fun b M1=>if b=true then A M1 else B M1):qC c t u D τ M:=h _ _ rfl rfl
def aQ (p:List Nat):U:=.tup (p.map fun (n:Nat)=>.int (n:Int))
def fI (x:List Nat × Pt):U:=.tup [aQ x.1,x.2.toU]
def uY:Pt->List Nat->List (List Nat × Pt)
 | .turn a,pl=>uY a (pl++[0])
 | .two _ a b,pl=>uY a (pl++[0])++uY b (pl++[1])
 | p,pl=>[(pl,p)]
theorem rK:∀ (p:Pt) (pl:List Nat),(uY p pl).map (·.2)=p.ends
 | .turn a,pl=>by simp only [uY,Pt.ends,rK a]
 | .two _ a b,pl=>by simp only [uY,Pt.ends,List.map_append,rK a,rK b]
 | .hole _,pl=>rfl
 | .any,pl=>rfl
 | .fr _ _,pl=>rfl
def FD:Pt->Tr->List U
 | .any,.name x=>[.str x]
 | .fr _ _,.num n=>[.int n]
 | .turn p,.turn a=>FD p a
 | .two _ p q,.two _ a b=>FD p a++FD q b
 | _,_=>[]
theorem MZ (l:List Int) (k:Nat) (h:k < l.length):eR (l.map U.int) (k:Int)=some (.int l[k]):=eX (by rw [List.getElem?_map,List.getElem?_eq_getElem h];rfl)
theorem uO {ns:List Int} {M:aD} {Q:UK} (q:Q (.bl ns.isEmpty) M):tT false (.lst (ns.map .int)) (.lst []) M Q:=by
 have hd:∀ l:List Int,fA (l.map U.int)=some (l.map PyData.int)/\PyData.canLayAll0 (l.map PyData.int)=true:=by
  intro l
  induction l with
  | nil=>simp [fA,PyData.canLayAll0]
  | cons a l ih=>simp [fA,toD,ih,PyData.canLayAll0,PyData.canLay0]
 obtain ⟨h1,h2⟩:=hd ns
 have e1:p9 M (.lst (ns.map .int))=some (.list (ns.map .int)):=by simp only [p9,toD,h1,Option.map_some]
 have e2:p9 M (.lst [])=some (.list []):=by simp [p9,toD,fA]
 show Kh false _ _ M Q
 refine ⟨_,_,e1,e2,by simp only [PyData.canLay0];exact h2,by decide +kernel,by simp [PyData.depth,PyData.depthAll],?_⟩
 have e3:PyData.eqv (.list (ns.map .int)) (.list [])=ns.isEmpty:=by
  rw [PyData.eqv]
  cases ns with
  | nil=>rfl
  | cons a l=>rfl
 simp only [e3,Bool.false_eq_true,if_false]
 exact q
def lB:dQ:=fun x y M Q=>match x,y with
 | .bl i,.bl j=>Q (.bl (decide (i=j))) M
 | _,_=>False
def Pt.parts:Pt->List Pt
 | .turn a=>[a]
 | .two _ a b=>[a,b]
 | _=>[]
def b8:Pt->List Nat->List (List Nat × Pt)
 | .turn a,pl=>(pl,.turn a) :: b8 a (pl++[0])
 | .two o a b,pl=>(pl,.two o a b) :: (b8 a (pl++[0])++b8 b (pl++[1]))
 | p,pl=>[(pl,p)]
def Pt.places:Pt->List (List Nat)
 | .turn a=>[] :: a.places.map (0 :: ·)
 | .two _ a b=>[] :: (a.places.map (0 :: ·)++b.places.map (1 :: ·))
 | _=>[[]]
theorem i5:∀ (p:Pt) (pl:List Nat),(b8 p pl).map (·.1)=p.places.map (pl++·)
 | .turn a,pl=>by simp [b8,Pt.places,i5 a]
 | .two o a b,pl=>by
  simp only [b8,Pt.places,List.map_cons,List.map_append,i5 a,i5 b,List.map_map,List.append_nil]
  simp [Function.comp_def]
 | .hole _,pl=>by simp [b8,Pt.places]
 | .any,pl=>by simp [b8,Pt.places]
 | .fr _ _,pl=>by simp [b8,Pt.places]
theorem places_len:∀ p:Pt,p.places.length < 2 ^ p.dep
 | .turn a=>by have:=places_len a;simp only [Pt.places,Pt.dep,List.length_cons,List.length_map,Nat.pow_succ];omega
 | .two _ a b=>by
  have h1:=places_len a
  have h2:=places_len b
  have h3:2 ^ a.dep<=2 ^ max a.dep b.dep:=Nat.pow_le_pow_right (by decide) (Nat.le_max_left _ _)
  have h4:2 ^ b.dep<=2 ^ max a.dep b.dep:=Nat.pow_le_pow_right (by decide) (Nat.le_max_right _ _)
  simp only [Pt.places,Pt.dep,Nat.pow_succ,List.length_cons,List.length_append,List.length_map];omega
 | .hole _=>by simp [Pt.places,Pt.dep]
 | .any=>by simp [Pt.places,Pt.dep]
 | .fr _ _=>by simp [Pt.places,Pt.dep]
theorem kQ:∀ (p:Pt) (pl:List Nat),pl∈p.places->pl.length < p.dep
 | .turn a,pl,h=>by
  simp only [Pt.places,List.mem_cons,List.mem_map] at h
  rcases h with rfl | ⟨q,hq,rfl⟩
  ·simp [Pt.dep]
  ·have:=kQ a q hq;simp only [Pt.dep,List.length_cons];omega
 | .two o a b,pl,h=>by
  simp only [Pt.places,List.mem_cons,List.mem_append,List.mem_map] at h
  rcases h with rfl | ⟨q,hq,rfl⟩ | ⟨q,hq,rfl⟩
  ·simp [Pt.dep]
  ·have:=kQ a q hq;simp only [Pt.dep,List.length_cons];omega
  ·have:=kQ b q hq;simp only [Pt.dep,List.length_cons];omega
 | .hole _,pl,h=>by simp [Pt.places] at h;subst h;simp [Pt.dep]
 | .any,pl,h=>by simp [Pt.places] at h;subst h;simp [Pt.dep]
 | .fr _ _,pl,h=>by simp [Pt.places] at h;subst h;simp [Pt.dep]
def oY (n:Nat):cV:=fun us M Q=>∃ p:Pt,us=[p.toU]/\p.dep<=n/\n<=10/\Q (.lst (p.places.map aQ)) M
theorem Rv:(dS gG (Str.ofString "at")).isSome=false:=by decide +kernel
theorem LZ:(dS gG (Str.ofString "any")).isSome=false:=by decide +kernel
theorem IJ:(dS gG (Str.ofString "from")).isSome=false:=by decide +kernel
theorem Iw (p:Pt):∃ z r,p.toU=.tup (.str z :: r)/\(dS gG z).isSome=!p.leafy/\(p.leafy=false->r=p.parts.map Pt.toU)/\r.length<=3:=by
 cases p with
 | hole c=>exact ⟨_,_,rfl,Rv,(fun h=>by cases h),by simp⟩
 | any=>exact ⟨_,_,rfl,LZ,(fun h=>by cases h),by simp⟩
 | fr l h=>exact ⟨_,_,rfl,IJ,(fun h=>by cases h),by simp⟩
 | turn a=>exact ⟨_,_,rfl,nU,fun _=>rfl,by simp⟩
 | two o a b=>exact ⟨_,_,rfl,oW o,fun _=>rfl,by simp⟩
theorem FX {p:Pt} (h:p.leafy=true):p.parts=[]:=by cases p <;> first | rfl | cases h
def eU:Nat->List Pt->List (List Nat)
 | _,[]=>[]
 | k,a :: r=>a.places.map (k :: ·)++eU (k + 1) r
theorem places_eq (p:Pt):p.places=[] :: eU 0 p.parts:=by cases p <;> simp [Pt.places,Pt.parts,eU]
theorem FE (l:List Pt) (a:Pt):∀ k,eU k (l++[a])=eU k l++a.places.map ((k + l.length) :: ·):=by
 induction l with
 | nil=>intro k;simp [eU]
 | cons b l ih=>intro k;simp only [List.cons_append,eU,ih,List.length_cons,List.append_assoc];rw [show k + 1 + l.length=k + (l.length + 1) by omega]
theorem JZ (p:Pt) (i:Nat):(eU 0 (p.parts.take i)).length + 1<=p.places.length:=by
 have:∀ (l:List Pt) (k j:Nat),(eU k (l.take j)).length<=(eU k l).length:=by
  intro l
  induction l with
  | nil=>intro k j;simp [eU]
  | cons a l ih =>
   intro k j
   cases j with
   | zero=>simp [eU]
   | succ j=>simp only [List.take_succ_cons,eU,List.length_append];have:=ih (k + 1) j;omega
 have h1:=this p.parts 0 i
 rw [places_eq p,List.length_cons]
 omega
theorem JS {p a:Pt} {i:Nat} (h:p.parts[i]?=some a):a.dep < p.dep:=by
 have hm:=List.mem_of_getElem? h
 cases p with
 | turn b =>
  have:a=b:=by simpa [Pt.parts] using hm
  subst this;simp only [Pt.dep];omega
 | two o b c =>
  have:a=b\/a=c:=by simpa [Pt.parts] using hm
  simp only [Pt.dep]
  rcases this with rfl | rfl <;> omega
 | _=>cases hm
theorem Ce {n:Nat} (F:dE K "places_of" "places_of" i3 f fd) (hm:mg "places_of"=some (.ref f)) (bH:mg "enumerate"=none)
  (b9:Callee P w K mg base 1 "parts_of" fC []) (gI:Callee P w K mg base (n + 1) "places_of" (oY n) []):Callee P w K mg base (n + 2) "places_of" (oY (n + 1)) []:=by
 refine bT F hm eV (tO fun _ _ _ _ _ _ _=>rfl) (aE (aY 1 eV.nd (hZ (own:=true) (aA (bI aB) aB)))
 (aE (eG (lU bH (aA (aU b9 (aA (uv 0) aB)) aB)) (dU (n:=2) (aT (aO (k:=1000) 2 eV.nd) (aT (aO (k:=1000) 3 eV.nd) cW)))
 (aJ (eA (uK (uv 1) (aA (kB false ["place","number"] 1 [2] (dD (aU gI (aA (uv 3) aB))) (aO (k:=1) 0 (by dsimp only [bM];decide +kernel)) g9 (cX (own:=false) (bI (aA (uv 1) aB)) (uv 0))) aB)))))
 (aJ (bP (uv 1))))) ?_
 rintro us M Q ⟨t,rfl,hd,hz,q⟩
 refine ⟨rfl,?_⟩
 have hbig:∀ a:Pt,a.dep<=10->a.places.length<=1024:=fun a ha=>by
  have h1:=places_len a
  have h2:2 ^ a.dep<=2 ^ 10:=Nat.pow_le_pow_right (by decide) ha
  omega
 dsimp! only [bG,lB]
 refine fun p hp=>?_
 refine eT (S:=⟨none,numbered (t.parts.map Pt.toU)⟩) (M1:=mup M p (.lst [.tup []])) (fun R r=>?_)
  (fun i τ Mi=>∃ b c,τ=[some t.toU,some (.ref p),b,c]/\Mi=mup M p (.lst (([] :: eU 0 (t.parts.take i)).map aQ))) ⟨none,none,rfl,rfl⟩ nk ?_ ?_
 ·obtain ⟨z,rr,e,e1,e2,e3⟩:=Iw t
  refine ⟨z,rr,!t.leafy,by rw [<- e];rfl,e1,by omega,?_⟩
  cases hl:t.leafy with
  | true=>simp only [hl,Bool.not_true,Bool.false_eq_true,if_false];rw [FX hl] at r;exact r
  | false=>simp only [hl,Bool.not_false,if_true];rw [e2 hl];exact r
 ·rintro i x τ Mi e ⟨b,c,rfl,rfl⟩
  obtain ⟨u,hu,rfl⟩:=gY e
  rw [List.getElem?_map] at hu
  cases hp':t.parts[i]? with
  | none=>rw [hp'] at hu;cases hu
  | some a =>
   rw [hp'] at hu
   cases hu
   have ha:=JS hp'
   have hin:eU 0 (t.parts.take (i + 1))=eU 0 (t.parts.take i)++a.places.map (i :: ·):=by
    have hlt:=(List.getElem?_eq_some_iff.mp hp').1
    rw [List.take_add_one,hp']
    have:=FE (t.parts.take i) a 0
    rw [List.length_take,Nat.min_eq_left (Nat.le_of_lt hlt),Nat.zero_add] at this
    exact this
   have hb1:=hbig a (by omega)
   dsimp! only [bG,lB]
   refine ⟨qL,eM (S:=⟨none,a.places.map aQ⟩) (M1:=mup M p (MO.lst (aQ [] :: List.map aQ (eU 0 (List.take i t.parts))))) (a.places.map fun pl=>aQ (i :: pl)) (fun R r'=>⟨a,rfl,by omega,by omega,r'⟩) (by simp) ?_ (fun a e=>by cases e) ?_ ?_⟩
   ·show (a.places.map aQ).length<=sizeLine
    rw [List.length_map]
    exact small (by omega)
   ·intro j x y hx hy M' _ R r'
    have hx':(a.places.map aQ)[j]?=some x:=hx
    rw [List.getElem?_map] at hx' hy
    cases hpl:a.places[j]? with
    | none=>rw [hpl] at hx';cases hx'
    | some pl =>
     rw [hpl] at hx' hy
     cases hx'
     cases hy
     have h1:=kQ a pl (List.mem_of_getElem? hpl)
     dsimp! only [aQ,bG,lB]
     refine ⟨small ?_,?_⟩
     ·simp only [List.length_cons,List.length_nil,List.length_map];omega
     ·simpa [aQ] using r'
   ·have h1:=JZ t i
    have h2:=hbig t (by omega)
    dsimp! only [bG,lB]
    refine ⟨small ?_,_,_,rfl,?_⟩
    ·simp only [List.length_map];omega
    ·rw [hin,List.map_append,List.map_map];rfl
 ·rintro τ Mi ⟨b,c,rfl,rfl⟩
  rw [jZ,List.length_map,List.take_length,<- places_eq]
  dsimp! only [bG,lB]
  exact ⟨_,M,(Sub.refl M).mup hp,.inr ⟨p,_,rfl,aF,hp,rfl⟩,q⟩
theorem x9 (F:dE K "places_of" "places_of" i3 f fd) (hm:mg "places_of"=some (.ref f)) (bH:mg "enumerate"=none) (b9:Callee P w K mg base 1 "parts_of" fC []):∀ n,Callee P w K mg base (n + 1) "places_of" (oY n) []
 | 0=>by
  have no:∀ us M Q,¬ oY 0 us M Q:=fun us M Q h=>by
   obtain ⟨p,_,h,_⟩:=h
   have:=Dn p
   omega
  refine ⟨f,fd,["shape"],[],[],⟨fun vs H Q E h=>?_,fun A outer s H args us vs Q E _ _ _ _ h=>?_⟩,hm,F.kp,F.binds (tO fun _ _ _ _ _ _ _=>rfl),.nil,fun H M=>.nil⟩
  ·obtain ⟨us,M,Q',_,_,h,_⟩:=h;exact absurd h (no us M Q')
  ·obtain ⟨us,M,Q',_,_,h,_⟩:=h;exact absurd h (no us M Q')
 | n + 1=>Ce F hm bH b9 (x9 F hm bH b9 n)
def iD:U->Nat->Option U
 | .tup (.str z :: r),k=>if (dS gG z).isSome then (if r.length<=1000 then r[k]? else none) else none
 | _,_=>none
def iN:U->List Nat->Option U
 | u,[]=>some u
 | u,k :: pl=>(iD u k).bind fun v=>iN v pl
theorem Kq {h w:U} {k:Nat} (e:iD h k=some w):∃ z r,h=.tup (.str z :: r)/\(dS gG z).isSome=true/\r.length<=1000/\r[k]?=some w:=by
 match h,e with
 | .tup (.str z :: r),e =>
  simp only [iD] at e
  split at e
  ·rename_i h1
   split at e
   ·rename_i h2
    exact ⟨z,r,rfl,h1,h2,e⟩
   ·cases e
  ·cases e
 | .tup [],e=>cases e
 | .tup (.non :: _),e=>cases e
 | .tup (.bl _ :: _),e=>cases e
 | .tup (.int _ :: _),e=>cases e
 | .tup (.ty _ :: _),e=>cases e
 | .tup (.ref _ :: _),e=>cases e
 | .tup (.tup _ :: _),e=>cases e
 | .tup (.lst _ :: _),e=>cases e
 | .non,e=>cases e
 | .bl _,e=>cases e
 | .int _,e=>cases e
 | .str _,e=>cases e
 | .ty _,e=>cases e
 | .ref _,e=>cases e
 | .lst _,e=>cases e
theorem Dp:∀ (l:List Nat) (u:U) (k:Nat),iN u (l++[k])=(iN u l).bind fun v=>iD v k
 | [],u,k=>by simp only [List.nil_append,iN,Option.bind_some];cases iD u k <;> rfl
 | j :: l,u,k=>by
  simp only [List.cons_append,iN]
  cases iD u j with
  | none=>rfl
  | some v=>exact Dp l v k
theorem CP:∀ (l r:List Nat) (u:U),iN u l=none->iN u (l++r)=none
 | [],r,u,z=>by cases z
 | j :: l,r,u,z=>by
  simp only [List.cons_append,iN] at z ⊢
  cases hj:iD u j with
  | none=>rfl
  | some v=>rw [hj] at z;exact CP l r v z
def yX:cV:=fun us M Q=>∃ (u v:U) (pl:List Nat),us=[u,aQ pl]/\iN u pl=some v/\Q v M
theorem DI (F:dE K "shape_at" "shape_at" tE f fd) (hm:mg "shape_at"=some (.ref f)) (b9:Callee P w K mg base 1 "parts_of" fC []):Callee P w K mg base 2 "shape_at" yX []:=by
 refine bT F hm mZ (qN fun _ _ _ _ _ _ _ _=>rfl) (aE (aY 2 mZ.nd (uv 0))
 (aE (eG (dD (uv 1)) (aO (k:=1000) 3 mZ.nd)
 (aJ (aY 2 mZ.nd (aN (aU b9 (aA (uv 2) aB)) (uv 3)))))
 (aJ (bP (uv 2))))) ?_
 rintro us M Q ⟨u,v,pl,rfl,hpl,q⟩
 refine ⟨rfl,?_⟩
 dsimp! only [bG,lB]
 refine eT (S:=⟨none,pl.map fun (n:Nat)=>U.int (n:Int)⟩) (M1:=M) (fun R r=>r)
  (fun i τ Mi=>∃ (h:U) (c:Option U),τ=[some u,some (aQ pl),some h,c]/\Mi=M/\iN u (pl.take i)=some h) ⟨u,none,rfl,rfl,rfl⟩ nk ?_ ?_
 ·rintro i x τ Mi e ⟨h,c,rfl,rfl,hh⟩
  have e':(pl.map fun (n:Nat)=>U.int (n:Int))[i]?=some x:=e
  rw [List.getElem?_map] at e'
  cases hk:pl[i]? with
  | none=>rw [hk] at e';cases e'
  | some k =>
   rw [hk] at e'
   cases e'
   have hnx:iN u (pl.take (i + 1))=iD h k:=by
    rw [List.take_add_one,hk]
    show iN u (pl.take i++[k])=_
    rw [Dp,hh];rfl
   cases hs:iD h k with
   | none =>
    rw [hs] at hnx
    have:=CP (pl.take (i + 1)) (pl.drop (i + 1)) u hnx
    rw [List.take_append_drop,hpl] at this
    cases this
   | some w' =>
    rw [hs] at hnx
    obtain ⟨z,r,rfl,hz,hr,hs'⟩:=Kq hs
    dsimp! only [bG,lB]
    refine ⟨z,r,true,rfl,hz,hr,?_⟩
    dsimp! only [bG,lB]
    exact ⟨w',eX hs',w',_,rfl,hnx⟩
 ·rintro τ Mi ⟨h,c,rfl,rfl,hh⟩
  simp only [List.length_map,List.take_length] at hh
  rw [hpl] at hh
  cases hh
  dsimp! only [bG,lB]
  exact aZ q
theorem FU (F:dE K "tree_at" "tree_at" tQ f fd) (hm:mg "tree_at"=some (.ref f)) (sY:Callee P w K mg base 2 "shape_at" yX []):Callee P w K mg base 3 "tree_at" yX []:=by
 refine bT F hm Gb (qN fun _ _ _ _ _ _ _ _=>rfl) (aJ (bP (aU sY (aA (uv 0) (aA (uv 1) aB))))) ?_
 rintro us M Q ⟨u,v,pl,rfl,hpl,q⟩
 refine ⟨rfl,?_⟩
 dsimp! only [bG,lB]
 exact ⟨u,v,pl,rfl,hpl,aZ q⟩
theorem zU (a:U):iD (.tup [.str (Str.ofString "turn"),a]) 0=some a:=by
 simp only [iD];rw [if_pos nU,if_pos (by simp)];rfl
theorem AD (o:Op) (a b:U):iD (.tup [.str o.word,a,b]) 0=some a:=by
 simp only [iD];rw [if_pos (oW o),if_pos (by simp)];rfl
theorem zV (o:Op) (a b:U):iD (.tup [.str o.word,a,b]) 1=some b:=by
 simp only [iD];rw [if_pos (oW o),if_pos (by simp)];rfl
theorem vC:∀ (p:Pt) (pre:List Nat) (e:List Nat × Pt),e∈b8 p pre->∃ s,e.1=pre++s/\iN p.toU s=some e.2.toU
 | .turn a,pre,e,h=>by
  simp only [b8] at h
  rcases List.mem_cons.mp h with rfl | h
  ·exact ⟨[],by simp,rfl⟩
  ·obtain ⟨s,h1,h2⟩:=vC a _ e h
   refine ⟨0 :: s,by rw [h1];simp,?_⟩
   simp only [iN,Pt.toU,zU,Option.bind_some,h2]
 | .two o a b,pre,e,h=>by
  simp only [b8] at h
  rcases List.mem_cons.mp h with rfl | h
  ·exact ⟨[],by simp,rfl⟩
  ·rcases List.mem_append.mp h with h | h
   ·obtain ⟨s,h1,h2⟩:=vC a _ e h
    refine ⟨0 :: s,by rw [h1];simp,?_⟩
    simp only [iN,Pt.toU,AD,Option.bind_some,h2]
   ·obtain ⟨s,h1,h2⟩:=vC b _ e h
    refine ⟨1 :: s,by rw [h1];simp,?_⟩
    simp only [iN,Pt.toU,zV,Option.bind_some,h2]
 | .hole _,pre,e,h=>by cases List.mem_singleton.mp h;exact ⟨[],by simp,rfl⟩
 | .any,pre,e,h=>by cases List.mem_singleton.mp h;exact ⟨[],by simp,rfl⟩
 | .fr _ _,pre,e,h=>by cases List.mem_singleton.mp h;exact ⟨[],by simp,rfl⟩
def yC (e:List Nat × Pt):Bool:=decide (e.2.holes=0)
def fU:U->Option U
 | .tup [a,.tup (.str z :: r)]=>if (!decide (z=Str.ofString "at")) && !(dS gG z).isSome then some (.tup [a,.tup (.str z :: r)]) else none
 | _=>none
theorem RL (e:List Nat × Pt):fU (fI e)=if e.2.leafy && yC e then some (fI e) else none:=by
 obtain ⟨pl,q⟩:=e
 have e1:decide (Str.ofString "at"=Str.ofString "at")=true:=by simp
 cases q with
 | hole c=>simp only [fI,Pt.toU,fU,e1,Pt.leafy,yC,Pt.holes];rfl
 | any=>simp only [fI,Pt.toU,fU,jA,jF,jC,jD,jE,jB,jH,LZ,Pt.leafy,yC,Pt.holes];rfl
 | fr l h=>simp only [fI,Pt.toU,fU,jA,jF,jC,jD,jE,jB,jH,IJ,Pt.leafy,yC,Pt.holes];rfl
 | turn a=>simp only [fI,Pt.toU,fU,jA,jF,jC,jD,jE,jB,jH,nU,Pt.leafy];rfl
 | two o a b=>simp only [fI,Pt.toU,fU,jA,jF,jC,jD,jE,jB,jH,oW,Pt.leafy];rfl
theorem sJ {M:aD} {p:Addr} {o:MO} (h:M p=some o):mup M p o=M:=by
 funext x
 by_cases e:x=p
 ·subst e;rw [aF,h]
 ·rw [aM e]
def fK (ns:List Int) (a b c:Int):List U:=[.lst (ns.map .int),.int a,.int b,.int c]
def HK:cV:=fun us M Q=>∃ (t:Addr) (ns:List Int) (a b c m:Int),us=[.ref t,.int m]/\0 < m/\m < 2 ^ 64/\M t=some (.lst (fK ns a b c))/\0<=a/\a<=1000000/\∀ n a' b' c':Int,0<=n->n < m->a<=a'->a'<=a + 1->Q (.int n) (mup M t (.lst (fK ns a' b' c')))
local macro_rules | `(tactic| simp! only [$xs,*] $[$l]?) => `(tactic| simp only [$xs,*, Bool.false_eq_true, Bool.not_false, Bool.not_true, List.append_nil, List.cons_append, List.getElem?_cons_succ, List.getElem?_cons_zero, List.length_cons, List.length_nil, List.map_cons, List.map_nil, List.nil_append, List.replicate, List.set_cons_succ, List.set_cons_zero, Nat.add_sub_cancel, Nat.reduceAdd, Nat.reduceLeDiff, Nat.reduceSub, Nat.sub_self, Option.getD_some, Option.some.injEq, and_true, Hz, G2, at2, Ik, wC, Df, zD, yQ, yJ, tR, pN, CF, wJ, m8, Ek, Ep, D8, Jb, cU, decide_false, decide_true, lK, q9, exists_eq_left', if_false, if_true, BO, u5, gA, fH, fF, fR, fE, fQ, eO, iH, iS, jP, iQ, jL, hJ, iU, iT, jR, iG, jS, hW, jX, jM, kW, jI, kT, iR, iI, iJ, j3, iW, jJ, hX, j0, j1, kX, jU, kZ, iO, gX, gW, iM, gZ, iP, gF, items, xY, lI, uE, lM, uG, uM, iL, bV, aF, reduceCtorEq, hG, Hk, true_and, Ay, uQ, o6, wZ, rN, xP, w9, uC, Bn, sG, qX, oE, r9, sP, oH, Cj, uI, q8, C1, xO, tX, pB, AY, cQ, wW, wK, t9, Dr, wH, mD, w6, pJ, zI, lP, B9, BV, rX, iE, sU, zB, cY, wI, o8, wU, xI, CY, pW, xH, m5, uL, qU, tP, qP, tV, t8] $[$l]?)
theorem Nr (F:dE K "_law_draw" "_law_draw" tD f fd) (hm:mg "_law_draw"=some (.ref f)) (gM:mg "len"=none):Callee P w K mg base 1 "_law_draw" HK []:=by
 refine bT F hm gL (qN fun _ _ _ _ _ _ _ _=>rfl) (aE (dW (cP j6 (aN (uv 0) aS) aS)
 (aE (aY 2 gL.nd (aN (uv 0) aS))
 (aE (qJ (cX (own:=false) (uv 2) aS) (uv 0) aS)
 (aE (aY 3 gL.nd aS)
 (aE (dW (cP PY (kM m4 gM (aA (aN (uv 0) aS) aB)) aS)
 (aJ (aY 3 gL.nd (aN (aN (uv 0) aS) (kR (uv 2) (kM m4 gM (aA (aN (uv 0) aS) aB))))))
 cT)
 (aE (dW (l5.pt (pM (cP Rw (uv 2) (kM m4 gM (aA (aN (uv 0) aS) aB))) (oN (cP BF (uv 3) (Jh aS aS)))))
 (aE (aY 4 gL.nd (cX (own:=false) (cX (own:=false) (kR (j7 (own:=false) (uv 2) (uv 2)) aS) (j7 (own:=false) aS (uv 2))) aS))
 (aE (aY 4 gL.nd (kR (j7 (own:=false) (cX (own:=false) (kR (uv 3) aS) aS) (uv 4)) aS))
 (aJ (bP (kR (kR (cX (own:=false) (Fb (kR (j7 (own:=false) (uv 4) (uv 4)) aS) aS) (j7 (own:=false) aS (uv 2))) aS) (uv 1))))))
 cT)
 (aE (qJ (Du (uv 3) (Jh aS aS)) (uv 0) aS)
 (aJ (qJ aS (uv 0) aS))))))))
 cT)
 (aE (qJ (Du (aN (uv 0) aS) aS) (uv 0) aS)
 (aE (aY 5 gL.nd (aN (uv 0) aS))
 (aE (qJ (Fb (uv 5) (uv 1)) (uv 0) aS)
 (aJ (bP (kR (uv 5) (uv 1)))))))) ?_
 rintro us M Q ⟨t,ns,a,b,c,m,rfl,hm0,hm1,hM,ha0,ha1,q⟩
 refine ⟨rfl,?_⟩
 have pw:K0 10 18:=⟨by decide,by decide,by decide⟩
 have hMM:=sJ hM
 rw [<- hMM]
 refine aI fun V hV=>?_
 have tail:∀ (a' b' c':Int) (x2 x3 x4 x5:Option U),a<=a'->a'<=a + 1->V [some (.ref t),some (.int m),x2,x3,x4,x5] (mup M t (.lst (fK ns a' b' c'))):=by
  intro a' b' c' x2 x3 x4 x5 h1 h2
  subst hV
  refine aI fun V1 hV1=>?_
  simp! only [aG,fK,bG,bK,cI]
  refine ⟨3,by decide,?_⟩
  simp only [bV,List.set_cons_succ,List.set_cons_zero]
  subst hV1
  refine aI fun V1 hV1=>?_
  simp! only [bR,hName,bG,bK,cI]
  subst hV1
  refine aI fun V1 hV1=>?_
  simp! only [aG,bG,bK,cI]
  refine ⟨⟨hm0,hm1⟩,2,by decide,?_⟩
  simp only [bV,List.set_cons_succ,List.set_cons_zero]
  subst hV1
  simp! only [gH,bG,bK,cI]
  exact ⟨hm0,aZ (q _ a' _ _ (Int.emod_nonneg _ (by omega)) (Int.emod_lt_of_pos _ hm0) h1 h2)⟩
 refine fD fun A B hA hB=>?_
 have hb:B (mup M t (.lst (fK ns a b c))):=by
  subst hB
  exact tail a b c none none none none (by omega) (by omega)
 simp! only [fK,bG,bK,cI]
 refine oU (fun hc=>?_) (fun _=>hb)
 subst hA
 refine aI fun V1 hV1=>?_
 simp! only [bR,hName,bG,bK,cI]
 subst hV1
 refine aI fun V1 hV1=>?_
 simp! only [aG,bG,bK,cI]
 refine ⟨1,by decide,?_⟩
 simp only [bV,List.set_cons_succ,List.set_cons_zero]
 subst hV1
 refine aI fun V1 hV1=>?_
 simp! only [bR,hName,bG,bK,cI]
 subst hV1
 refine aI fun V1 hV1=>?_
 have go:∀ cell:Int,V1 [some (.ref t),some (.int m),some (.int a),some (.int cell),none,none] (mup M t (.lst [.lst (ns.map .int),.int (a + 1),.int b,.int c])):=by
  intro cell
  subst hV1
  refine aI fun V2 hV2=>?_
  refine fD fun A2 B2 hA2 hB2=>?_
  have hA2':A2 (mup M t (.lst [.lst (ns.map .int),.int (a + 1),.int b,.int c])):=by
   subst hA2
   refine aI fun V3 hV3=>?_
   simp! only [bR,hName,bG,bK,cI]
   refine ⟨mulL (by omega) (by omega),by decide,mulL (by decide) (by decide),?_⟩
   subst hV3
   refine aI fun V3 hV3=>?_
   simp! only [bR,hName,bG,bK,cI]
   have i0:=Int.emod_nonneg cell (show (999983:Int)≠0 by decide)
   have i1:=Int.emod_lt_of_pos cell (show (0:Int) < 999983 by decide)
   refine ⟨by decide,mulL (by omega) (by omega),by decide,?_⟩
   subst hV3
   simp! only [gH,bG,bK,cI]
   generalize hx:(cell % 999983 + 3) * (a * a % 10007 + 61 * a + 7) % 1000003=x
   have x0:0<=x:=by rw [<- hx];exact Int.emod_nonneg _ (by decide)
   have x1:x < 1000003:=by rw [<- hx];exact Int.emod_lt_of_pos _ (by decide)
   refine ⟨mulL (by omega) (by omega),by decide,⟨by decide,by decide⟩,mulL (by decide) (by decide),by decide,hm0,aZ (q _ (a + 1) _ _ (Int.emod_nonneg _ (by omega)) (Int.emod_lt_of_pos _ hm0) (by omega) (by omega))⟩
  have hB2':B2 (mup M t (.lst [.lst (ns.map .int),.int (a + 1),.int b,.int c])):=by
   subst hB2
   simp only [fJ]
   subst hV2
   refine aI fun V3 hV3=>?_
   simp! only [aG,bG,bK,cI]
   refine ⟨pw,2,by decide,?_⟩
   simp only [bV,List.set_cons_succ,List.set_cons_zero]
   subst hV3
   simp! only [aG,bG,bK,cI]
   refine ⟨3,by decide,?_⟩
   simp only [bV,List.set_cons_succ,List.set_cons_zero]
   exact tail (a + 1) _ _ _ _ _ _ (by omega) (by omega)
  simp! only [List.length_map,bG,bK,cI]
  exact oU (fun _=>hA2') (fun _=>⟨pw,oU (fun _=>hA2') (fun _=>hB2')⟩)
 simp! only [qC,List.length_map,bG,bK,cI]
 refine oU (fun hl=>?_) (fun _=>?_)
 ·have hl':0 < (ns.length:Int):=by simpa using hl
  obtain ⟨cell,hcell⟩:=OD ns (a % (ns.length:Int)) (Int.emod_nonneg _ (by omega)) (Int.emod_lt_of_pos _ hl')
  have hc2:eR (ns.map U.int) (a % (ns.length:Int))=some (.int cell):=by
   have e:(((a % (ns.length:Int)).toNat:Nat):Int)=a % (ns.length:Int):=Int.toNat_of_nonneg (Int.emod_nonneg _ (by omega))
   have h3:=Int.emod_lt_of_pos a hl'
   have a1:=MZ ns (a % (ns.length:Int)).toNat (by omega)
   rw [e] at a1
   have b1:=eX (xs:=ns) (j:=(a % (ns.length:Int)).toNat) (v:=ns[(a % (ns.length:Int)).toNat]'(by omega)) (by simp)
   rw [e,hcell] at b1
   rw [a1,Option.some.inj b1]
  simp! only [bR,hName,List.length_map,hc2,bG,bK,cI]
  exact ⟨hl',go cell⟩
 ·simp! only [fJ,bG,bK,cI]
  exact go 0
def dH (M:aD) (t r:Addr) (T R:List U):aD:=mup (mup M t (.lst T)) r (.lst R)
theorem sI {M:aD} {t r:Addr} {T R:List U} (h:t≠r):dH M t r T R t=some (.lst T):=by unfold dH;rw [aM h,aF]
theorem vE {M:aD} {t r:Addr} {T R:List U}:dH M t r T R r=some (.lst R):=aF
theorem mJ {M:aD} {t r:Addr} {T R T':List U} (h:t≠r):mup (dH M t r T R) t (.lst T')=dH M t r T' R:=by
 funext x
 unfold dH
 by_cases e1:x=t
 ·subst e1;rw [aF,aM h,aF]
 ·rw [aM e1]
  by_cases e2:x=r
  ·subst e2;rw [aF,aF]
  ·rw [aM e2,aM e2,aM e1,aM e1]
theorem wL {M:aD} {t r:Addr} {T R R':List U}:mup (dH M t r T R) r (.lst R')=dH M t r T R':=by unfold dH;rw [bV]
structure Tk where
 cls:Str
 pt:Pt
 cost:Int
def Tk.good (cs:List Str) (k:Tk):Prop:=k.pt.ok/\k.pt.dep<=4/\k.cls∈cs/\0<=k.cost/\k.cost<=1000
structure PK (cs:List Str):Prop where
 ne:cs≠[]
 len:cs.length<=6
 ok:∀ s∈cs,PyData.strOk s=true
def hF (e:List Nat × Pt):Option (List Nat × Str):=match e.2 with
 | .hole c=>some (e.1,c)
 | _=>none
def dY (e:List Nat × Str):U:=.tup [aQ e.1,.str e.2]
def d5 (p:Pt):List (List Nat × Str):=(b8 p []).filterMap hF
def hU:U->Option U
 | .tup [a,.tup (.str z :: r)]=>if decide (z=Str.ofString "at") then (r.head?).map fun c=>.tup [a,c] else none
 | _=>none
theorem Hg (e:List Nat × Pt):hU (fI e)=(hF e).map dY:=by
 obtain ⟨pl,q⟩:=e
 have e1:decide (Str.ofString "at"=Str.ofString "at")=true:=by simp
 cases q with
 | hole c=>simp only [fI,Pt.toU,hU,e1,hF,dY];rfl
 | any=>simp only [fI,Pt.toU,hU,jA,jF,jC,jD,jE,jB,jH,hF];rfl
 | fr l h=>simp only [fI,Pt.toU,hU,jA,jF,jC,jD,jE,jB,jH,hF];rfl
 | turn a=>simp only [fI,Pt.toU,hU,jA,jF,jC,jD,jE,jB,jH,hF];rfl
 | two o a b=>simp only [fI,Pt.toU,hU,jA,jF,jC,jD,jE,jB,jH,hF];rfl
theorem Pj (l:List (List Nat × Pt)):(l.map fI).filterMap hU=(l.filterMap hF).map dY:=by
 induction l with
 | nil=>rfl
 | cons e l ih =>
  rw [List.map_cons,List.filterMap_cons,List.filterMap_cons,Hg,ih]
  cases hF e <;> rfl
def Et:cV:=fun us M Q=>∃ p:Pt,us=[p.toU]/\p.dep<=6/\Q (.lst ((d5 p).map dY)) M
theorem JF (F:dE K "holes" "holes" zZ f fd) (hm:mg "holes"=some (.ref f)) (gI:Callee P w K mg base 7 "places_of" (oY 6) []) (sY:Callee P w K mg base 2 "shape_at" yX []):Callee P w K mg base 8 "holes" Et []:=by
 refine bT F hm Di (tO fun _ _ _ _ _ _ _=>rfl) (aE (qT 1 Di.nd false ["place","pattern"] 1 [0] (dD (aU gI (aA (uv 0) aB))) (aO (k:=1) 0 (by dsimp only [bM];decide +kernel)) g9 (bI (aA (uv 0) (aA (aU sY (aA (uv 1) (aA (uv 0) aB))) aB))))
 (aJ (bP (kB false ["place","piece"] 2 [] (dD (uv 1)) (dU (n:=2) (aT (aO (k:=2) 0 (by dsimp only [bM];decide +kernel)) (aT (aO (k:=2) 1 (by dsimp only [bM];decide +kernel)) cW))) (Ax (cP j6 (aN (uv 1) aS) kS)) (bI (aA (uv 0) (aA (aN (uv 1) aS) aB))))))) ?_
 rintro us M Q ⟨p,rfl,hd,q⟩
 refine ⟨rfl,?_⟩
 have hsp:(b8 p []).map (·.1)=p.places:=by rw [i5];simp
 have hpl:p.places.length<=64:=by
  have h1:=places_len p
  have h2:2 ^ p.dep<=2 ^ 6:=Nat.pow_le_pow_right (by decide) hd
  omega
 have hsl:(b8 p []).length=p.places.length:=by rw [<- hsp,List.length_map]
 dsimp! only [bG,cQ,iE,cY,bK,mE,cI]
 refine eM (S:=⟨none,p.places.map aQ⟩) (M1:=M) ((b8 p []).map fI) (fun R r=>⟨p,rfl,hd,by decide,r⟩) (by simp [hsl]) (small (by show (p.places.map aQ).length<=_;rw [List.length_map];omega)) (fun a e=>by cases e) ?_ ?_
 ·intro j x y hx hy M' _ R r'
  have hx':(p.places.map aQ)[j]?=some x:=hx
  rw [<- hsp,List.map_map,List.getElem?_map] at hx'
  rw [List.getElem?_map] at hy
  cases hj:(b8 p [])[j]? with
  | none=>rw [hj] at hy;cases hy
  | some e =>
   rw [hj] at hx' hy
   cases hx'
   cases hy
   obtain ⟨s,h1,h2⟩:=vC p [] e (List.mem_of_getElem? hj)
   rw [List.nil_append] at h1
   dsimp! only [bG,cQ,iE,cY,bK,mE,cI]
   refine ⟨p.toU,e.2.toU,e.1,rfl,by rw [h1];exact h2,?_⟩
   dsimp! only [bG,cQ,iE,cY,bK,mE,cI]
   exact r'
 ·dsimp! only [bG,cQ,iE,cY,bK,mE,cI]
  refine Gn (S:=⟨none,(b8 p []).map fI⟩) (M1:=M) hU (fun R r=>r) (small (by show ((b8 p []).map fI).length<=_;rw [List.length_map];omega)) (fun a e=>by cases e) ?_ ?_
  ·intro x hx M' _ R r
   obtain ⟨e,he,rfl⟩:=List.mem_map.mp hx
   rw [Hg] at r
   obtain ⟨pl,pt⟩:=e
   cases pt with
   | hole c=>dsimp! only [fI,hF,dY,Pt.toU,jA,jF,jC,jD,jE,jB,jH,Option.map_some,bG,cQ,iE,cY,bK,mE,cI] at r ⊢;exact r
   | any=>dsimp! only [fI,hF,dY,Pt.toU,jA,jF,jC,jD,jE,jB,jH,Option.map_none,bG,cQ,iE,cY,bK,mE,cI] at r ⊢;exact r
   | fr l h=>dsimp! only [fI,hF,dY,Pt.toU,jA,jF,jC,jD,jE,jB,jH,Option.map_none,bG,cQ,iE,cY,bK,mE,cI] at r ⊢;exact r
   | turn a=>dsimp! only [fI,hF,dY,Pt.toU,jA,jF,jC,jD,jE,jB,jH,Option.map_none,bG,cQ,iE,cY,bK,mE,cI] at r ⊢;exact r
   | two o a b=>dsimp! only [fI,hF,dY,Pt.toU,jA,jF,jC,jD,jE,jB,jH,Option.map_none,bG,cQ,iE,cY,bK,mE,cI] at r ⊢;exact r
  ·rw [show (Src.mk none ((b8 p []).map fI)).xs=(b8 p []).map fI from rfl,Pj]
   simp only [iL]
   exact aZ q
def gU:Pt->Tr->List (Tr × Str)
 | .hole c,t=>[(t,c)]
 | .turn p,.turn a=>gU p a
 | .two _ p q,.two _ a b=>gU p a++gU q b
 | _,_=>[]
theorem nW:∀ (p:Pt) (t:Tr) (pre:List Nat),eC p t=true->((b8 p pre).filterMap hF).length=(gU p t).length/\∀ (i:Nat) (e:List Nat × Str),((b8 p pre).filterMap hF)[i]?=some e->∃ s t',e.1=pre++s/\iN t.toU s=some t'.toU/\(gU p t)[i]?=some (t',e.2)
 | .hole c,t,pre,_=>⟨by cases t <;> rfl,fun i e h=>by
   match i,h with
   | 0,h=>cases h;exact ⟨[],t,by simp,rfl,by cases t <;> rfl⟩
   | i + 1,h=>cases h⟩
 | .any,.name x,pre,_=>⟨rfl,fun i e h=>by cases h⟩
 | .fr l h,.num n,pre,_=>⟨rfl,fun i e h=>by cases h⟩
 | .turn p,.turn a,pre,hl=>by
  obtain ⟨h1,h2⟩:=nW p a (pre++[0]) hl
  refine ⟨by simp only [b8,List.filterMap_cons,hF,gU];exact h1,fun i e he=>?_⟩
  simp only [b8,List.filterMap_cons,hF] at he
  obtain ⟨s,t',e1,e2,e3⟩:=h2 i e he
  refine ⟨0 :: s,t',by rw [e1];simp,?_,e3⟩
  simp only [iN,Tr.toU,zU,Option.bind_some,e2]
 | .two o p q,.two o' a b,pre,hl=>by
  simp only [eC,Bool.and_eq_true] at hl
  obtain ⟨ho,hl1,hl2⟩:=hl
  obtain ⟨h1,h2⟩:=nW p a (pre++[0]) hl1
  obtain ⟨k1,k2⟩:=nW q b (pre++[1]) hl2
  simp only [b8,List.filterMap_cons,hF,List.filterMap_append,gU,List.length_append]
  refine ⟨by omega,fun i e he=>?_⟩
  rw [List.getElem?_append] at he
  split at he
  ·rename_i hi
   obtain ⟨s,t',e1,e2,e3⟩:=h2 i e he
   refine ⟨0 :: s,t',by rw [e1];simp,?_,by rw [List.getElem?_append_left (by omega)];exact e3⟩
   simp only [iN,Tr.toU,AD,Option.bind_some,e2]
  ·rename_i hi
   obtain ⟨s,t',e1,e2,e3⟩:=k2 _ e he
   refine ⟨1 :: s,t',by rw [e1];simp,?_,by rw [List.getElem?_append_right (by omega),<- h1];exact e3⟩
   simp only [iN,Tr.toU,zV,Option.bind_some,e2]
 | .any,.num _,_,h=>by cases h
 | .any,.turn _,_,h=>by cases h
 | .any,.two _ _ _,_,h=>by cases h
 | .fr _ _,.name _,_,h=>by cases h
 | .fr _ _,.turn _,_,h=>by cases h
 | .fr _ _,.two _ _ _,_,h=>by cases h
 | .turn _,.num _,_,h=>by cases h
 | .turn _,.name _,_,h=>by cases h
 | .turn _,.two _ _ _,_,h=>by cases h
 | .two _ _ _,.num _,_,h=>by cases h
 | .two _ _ _,.name _,_,h=>by cases h
 | .two _ _ _,.turn _,_,h=>by cases h
structure Tl where
 name:Str
 cls:Str
 pt:Pt
 cost:Int
def Tl.toU (t:Tl):U:=.tup [.str t.name,.str t.cls,t.pt.toU,.int t.cost]
def Tl.pass (t:Tl):Bool:=match t.pt with
 | .hole _=>true
 | _=>false
structure Wt where
 t:Tr
 c:Str
 ps:List Str
def yN (tl:Tl) (w:Wt):List Str:=if tl.pass then w.ps++[tl.cls] else []
def below (tl:Tl) (w:Wt):List Wt:=(gU tl.pt w.t).map fun x=>⟨x.1,x.2,yN tl w⟩
def Dg:cV:=fun us M Q=>∃ tl:Tl,us=[tl.toU]/\Q (.bl tl.pass) M
theorem FW (F:dE K "is_pass" "is_pass" uT f fd) (hm:mg "is_pass"=some (.ref f)):Callee P w K mg base 1 "is_pass" Dg []:=by
 refine bT F hm Gw (tO fun _ _ _ _ _ _ _=>rfl) (aJ (bP (KY j6 (aN (aN (uv 0) aS) aS) kS))) ?_
 rintro us M Q ⟨tl,rfl,q⟩
 refine ⟨rfl,?_⟩
 obtain ⟨nm,cl,pt,co⟩:=tl
 cases pt <;> (dsimp! only [Tl.toU,Tl.pass,Pt.toU,jA,jF,jC,jD,jE,jB,jH,bG,cQ,iE,cY,bK,mE,cI] at q ⊢;exact aZ q)
theorem AG (p:Pt) (h:p.dep<=6):(d5 p).length<=64:=by
 have h1:=places_len p
 have h2:2 ^ p.dep<=2 ^ 6:=Nat.pow_le_pow_right (by decide) h
 have h3:(b8 p []).length=p.places.length:=by rw [<- List.length_map (f:=(·.1)),i5];simp
 have h4:(d5 p).length<=(b8 p []).length:=List.length_filterMap_le _ _
 omega
def vB (tiles:List Tl) (n:Int):List Wt->Option (List Wt)
 | []=>none
 | w :: st=>if 0<=n/\n < tiles.length then
   match tiles[n.toNat]? with
   | some tl=>if tl.cls=w.c/\tl.cls ∉ w.ps/\eC tl.pt w.t=true then some (below tl w++st) else none
   | none=>none
  else none
def Fp (tiles:List Tl):List U->List Wt->Bool
 | [],st=>st.isEmpty
 | .int n :: r,st=>match vB tiles n st with
  | some st'=>Fp tiles r st'
  | none=>false
 | _ :: _,_=>false
theorem EV (ss:List Str) (z:Str):((ss.map U.str).any fun u=>tK u (.str z))=decide (z∈ss):=by
 induction ss with
 | nil=>rfl
 | cons a r ih =>
  rw [List.map_cons,List.any_cons,ih]
  have:tK (.str a) (.str z)=decide (z=a):=by
   show (a == z)=_
   by_cases h:z=a
   ·subst h;simp
   ·have k:¬ a=z:=fun k=>h k.symm
    simp [h,k]
  rw [this]
  by_cases h:z=a
  ·subst h;simp
  ·simp [h]
theorem A4 (ss:List Str):(ss.map U.str).all kD=true:=by
 induction ss with
 | nil=>rfl
 | cons a r ih=>rw [List.map_cons,List.all_cons,ih];rfl
theorem zM {M:aD} {t:Tl}:view M t.toU=.tup [.str t.name,.str t.cls,t.pt.toU,.int t.cost]:=rfl
def eD (cs:List Str) (tiles:List Tl):U:=.tup [qF cs,.tup (tiles.map Tl.toU)]
theorem m7 {M:aD} {cs:List Str} {tiles:List Tl}:view M (eD cs tiles)=.tup [qF cs,.tup (tiles.map Tl.toU)]:=rfl
theorem Cr (B:Nat):∀ ns:List Int,(∀ n∈ns,0<=n/\n<=B)->0<=ns.sum/\ns.sum<=B * ns.length
 | [],_=>by simp
 | n :: ns,h=>by
  obtain ⟨h1,h2⟩:=h n List.mem_cons_self
  obtain ⟨h3,h4⟩:=Cr B ns fun x hx=>h x (List.mem_cons_of_mem _ hx)
  rw [List.sum_cons,List.length_cons]
  have e:(B:Int) * ((ns.length + 1:Nat):Int)=B * ns.length + B:=by
   rw [Int.natCast_add,Int.mul_add];simp
  rw [e]
  exact ⟨by omega,by omega⟩
theorem fits_of {ns:List Int} (h:∀ n∈ns,0<=n/\n<=1000000) (hl:ns.length<=2000):PySem.SumFits ns:=by
 intro j hj
 have hm:ns.getD j 0∈ns:=by
  rw [List.getD_eq_getElem?_getD,List.getElem?_eq_getElem hj];exact List.getElem_mem hj
 obtain ⟨h1,h2⟩:=h _ hm
 obtain ⟨h3,h4⟩:=Cr 1000000 (ns.take (j + 1)) fun x hx=>h x (List.mem_of_mem_take hx)
 have h5:(ns.take (j + 1)).length<=2000:=by rw [List.length_take];omega
 have h6:((1000000:Nat):Int) * ((ns.take (j + 1)).length:Int)<=2000000000:=by omega
 constructor <;> (unfold InLong;constructor <;> omega)
theorem rZ (ns:List Int):intsOf (ns.map U.int)=some ns:=by
 induction ns with
 | nil=>rfl
 | cons a r ih=>simp only [List.map_cons,intsOf,ih,Option.map_some]
def gB (tiles:List Tl) (k:Int):Int:=match eR tiles k with
 | some tl=>tl.cost
 | none=>0
def yB (tiles:List Tl) (ks:List Int):Prop:=∀ k∈ks,0<=k/\k < tiles.length
theorem E8 {tiles:List Tl} {k:Int} (h0:0<=k) (h1:k < tiles.length):∃ tl,tl∈tiles/\eR tiles k=some tl/\eR (tiles.map Tl.toU) k=some tl.toU/\tiles[k.toNat]?=some tl:=by
 have hlt:k.toNat < tiles.length:=by omega
 have e:((k.toNat:Nat):Int)=k:=by omega
 have e1:tiles[k.toNat]?=some tiles[k.toNat]:=List.getElem?_eq_getElem hlt
 have a1:=eX (xs:=tiles) (j:=k.toNat) e1
 have a2:=eX (xs:=tiles.map Tl.toU) (j:=k.toNat) (v:=tiles[k.toNat].toU) (by rw [List.getElem?_map,e1];rfl)
 rw [e] at a1 a2
 exact ⟨tiles[k.toNat],List.getElem_mem hlt,a1,a2,e1⟩
theorem ID {tiles:List Tl} {ks:List Int} (hc:∀ tl∈tiles,0<=tl.cost/\tl.cost<=1000) (hk:yB tiles ks) (hl:ks.length<=1300):intsOf ((ks.map (gB tiles)).map U.int)=some (ks.map (gB tiles))/\PySem.SumFits (ks.map (gB tiles)):=by
 refine ⟨rZ _,fits_of (fun n hn=>?_) (by rw [List.length_map];omega)⟩
 obtain ⟨k,hkm,rfl⟩:=List.mem_map.mp hn
 obtain ⟨h0,h1⟩:=hk k hkm
 obtain ⟨tl,hm,e1,_⟩:=E8 h0 h1
 have:=hc tl hm
 unfold gB;rw [e1];dsimp only;omega
def E7:cV:=fun us M Q=>∃ (cs:List Str) (tiles:List Tl) (aw:Addr) (ks:List Int),us=[eD cs tiles,.ref aw]/\M aw=some (.lst (ks.map U.int))/\(∀ tl∈tiles,0<=tl.cost/\tl.cost<=1000)/\yB tiles ks/\ks.length<=1300/\Q (.int (ks.map (gB tiles)).sum) M
theorem KO (F:dE K "price" "price" Av f fd) (hm:mg "price"=some (.ref f)) (vJ:mg "sum"=none):Callee P w K mg base 1 "price" E7 []:=by
 refine bT F hm Kl (qN fun _ _ _ _ _ _ _ _=>rfl) (aJ (bP (kM LC vJ (aA (kB false ["number","table"] 1 [0] (dD (uv 1)) (aO (k:=1) 0 (by dsimp only [bM];decide +kernel)) g9 (aN (aN (aN (uv 1) aS) (uv 0)) aS)) aB)))) ?_
 rintro us M Q ⟨cs,tiles,aw,ks,rfl,hMa,hc,hk,hl,q⟩
 refine ⟨rfl,?_⟩
 obtain ⟨e1,e2⟩:=ID hc hk hl
 dsimp! only [bG,cQ,iE,cY,bK,mE,cI]
 refine eM (S:=⟨some aw,ks.map U.int⟩) (M1:=M) ((ks.map (gB tiles)).map U.int) (fun R r=>by simp only [pB,pW,List.getElem?_cons_succ,List.getElem?_cons_zero];rw [hMa];exact r) (by simp) (small (by show (ks.map U.int).length<=_;rw [List.length_map];omega)) (fun a e=>by cases e;exact hMa) ?_ ?_
 ·intro j x y hx hy M' _ R r'
  have hx':(ks.map U.int)[j]?=some x:=hx
  rw [List.getElem?_map] at hx'
  rw [List.getElem?_map,List.getElem?_map] at hy
  cases hj:ks[j]? with
  | none=>rw [hj] at hx';cases hx'
  | some k =>
   rw [hj] at hx' hy
   cases hx';cases hy
   obtain ⟨h0,h1⟩:=hk k (List.mem_of_getElem? hj)
   obtain ⟨tl,hm,a1,a2,_⟩:=E8 h0 h1
   have r2:R (.int tl.cost) M':=by
    have r3:R (.int (gB tiles k)) M':=r'
    unfold gB at r3;rw [a1] at r3;exact r3
   dsimp! only [m7,zM,a2,bG,cQ,iE,cY,bK,mE,cI]
   exact r2
 ·dsimp! only [bG,cQ,iE,cY,bK,mE,cI]
  exact ⟨_,e1,e2,aZ q⟩
def Tl.k (t:Tl):Tk:=⟨t.cls,t.pt,t.cost⟩
structure Tab (cs:List Str) (tls:List Tl):Prop where
 cls:PK cs
 good:∀ t∈tls,t.k.good cs
 len:tls.length<=39
theorem Ab {α β:Type} (g:α->β) (l:List α) (a b:Option Int):fP (l.map g) a b=(fP l a b).map g:=by
 unfold fP
 rw [List.length_map,List.map_take,List.map_drop]
def Tr.leafy:Tr->Bool
 | .num _=>true
 | .name _=>true
 | _=>false
def Tr.parts:Tr->List Tr
 | .turn a=>[a]
 | .two _ a b=>[a,b]
 | _=>[]
def Tr.places:Tr->List (List Nat)
 | .turn a=>[] :: a.places.map (0 :: ·)
 | .two _ a b=>[] :: (a.places.map (0 :: ·)++b.places.map (1 :: ·))
 | _=>[[]]
def Tr.size:Tr->Nat
 | .turn a=>a.size + 1
 | .two _ a b=>a.size + b.size + 1
 | _=>1
theorem gJ:∀ t:Tr,t.places.length=t.size
 | .turn a=>by simp only [Tr.places,Tr.size,List.length_cons,List.length_map,gJ a]
 | .two _ a b=>by simp only [Tr.places,Tr.size,List.length_cons,List.length_append,List.length_map,gJ a,gJ b]
 | .num _=>rfl
 | .name _=>rfl
theorem gR:∀ (p:Tr) (pl:List Nat),pl∈p.places->pl.length < p.size
 | .turn a,pl,h=>by
  simp only [Tr.places,List.mem_cons,List.mem_map] at h
  rcases h with rfl | ⟨q,hq,rfl⟩
  ·simp [Tr.size]
  ·have:=gR a q hq;simp only [Tr.size,List.length_cons];omega
 | .two o a b,pl,h=>by
  simp only [Tr.places,List.mem_cons,List.mem_append,List.mem_map] at h
  rcases h with rfl | ⟨q,hq,rfl⟩ | ⟨q,hq,rfl⟩
  ·simp [Tr.size]
  ·have:=gR a q hq;simp only [Tr.size,List.length_cons];omega
  ·have:=gR b q hq;simp only [Tr.size,List.length_cons];omega
 | .num _,pl,h=>by simp [Tr.places] at h;subst h;simp [Tr.size]
 | .name _,pl,h=>by simp [Tr.places] at h;subst h;simp [Tr.size]
def fZ (n:Nat):cV:=fun us M Q=>∃ p:Tr,us=[p.toU]/\p.dep<=n/\p.size<=1000/\Q (.lst (p.places.map aQ)) M
theorem s_num:(dS gG (Str.ofString "num")).isSome=false:=by decide +kernel
theorem O9:(dS gG (Str.ofString "name")).isSome=false:=by decide +kernel
theorem Fh (p:Tr):∃ z r,p.toU=.tup (.str z :: r)/\(dS gG z).isSome=!p.leafy/\(p.leafy=false->r=p.parts.map Tr.toU)/\r.length<=3:=by
 cases p with
 | num c=>exact ⟨_,_,rfl,s_num,(fun h=>by cases h),by simp⟩
 | name c=>exact ⟨_,_,rfl,O9,(fun h=>by cases h),by simp⟩
 | turn a=>exact ⟨_,_,rfl,nU,fun _=>rfl,by simp⟩
 | two o a b=>exact ⟨_,_,rfl,oW o,fun _=>rfl,by simp⟩
theorem DQ {p:Tr} (h:p.leafy=true):p.parts=[]:=by cases p <;> first | rfl | cases h
def eQ:Nat->List Tr->List (List Nat)
 | _,[]=>[]
 | k,a :: r=>a.places.map (k :: ·)++eQ (k + 1) r
theorem size_pos (t:Tr):1<=t.size:=by cases t <;> simp [Tr.size]
theorem yH (p:Tr):p.places=[] :: eQ 0 p.parts:=by cases p <;> simp [Tr.places,Tr.parts,eQ]
theorem DM (l:List Tr) (a:Tr):∀ k,eQ k (l++[a])=eQ k l++a.places.map ((k + l.length) :: ·):=by
 induction l with
 | nil=>intro k;simp [eQ]
 | cons b l ih=>intro k;simp only [List.cons_append,eQ,ih,List.length_cons,List.append_assoc];rw [show k + 1 + l.length=k + (l.length + 1) by omega]
theorem Jk (p:Tr) (i:Nat):(eQ 0 (p.parts.take i)).length + 1<=p.places.length:=by
 have:∀ (l:List Tr) (k j:Nat),(eQ k (l.take j)).length<=(eQ k l).length:=by
  intro l
  induction l with
  | nil=>intro k j;simp [eQ]
  | cons a l ih =>
   intro k j
   cases j with
   | zero=>simp [eQ]
   | succ j=>simp only [List.take_succ_cons,eQ,List.length_append];have:=ih (k + 1) j;omega
 have h1:=this p.parts 0 i
 rw [yH p,List.length_cons]
 omega
theorem Hn {p a:Tr} {i:Nat} (h:p.parts[i]?=some a):a.dep < p.dep:=by
 have hm:=List.mem_of_getElem? h
 cases p with
 | turn b =>
  have:a=b:=by simpa [Tr.parts] using hm
  subst this;simp only [Tr.dep];omega
 | two o b c =>
  have:a=b\/a=c:=by simpa [Tr.parts] using hm
  simp only [Tr.dep]
  rcases this with rfl | rfl <;> omega
 | _=>cases hm
theorem FF {p a:Tr} {i:Nat} (h:p.parts[i]?=some a):a.size < p.size:=by
 have hm:=List.mem_of_getElem? h
 cases p with
 | turn b =>
  have:a=b:=by simpa [Tr.parts] using hm
  subst this;simp only [Tr.size];omega
 | two o b c =>
  have:a=b\/a=c:=by simpa [Tr.parts] using hm
  simp only [Tr.size]
  rcases this with rfl | rfl <;> omega
 | _=>cases hm
theorem BE {n:Nat} (F:dE K "places_of" "places_of" i3 f fd) (hm:mg "places_of"=some (.ref f)) (bH:mg "enumerate"=none)
  (b9:Callee P w K mg base 1 "parts_of" fC []) (gI:Callee P w K mg base (n + 1) "places_of" (fZ n) []):Callee P w K mg base (n + 2) "places_of" (fZ (n + 1)) []:=by
 refine bT F hm eV (tO fun _ _ _ _ _ _ _=>rfl) (aE (aY 1 eV.nd (hZ (own:=true) (aA (bI aB) aB)))
 (aE (eG (lU bH (aA (aU b9 (aA (uv 0) aB)) aB)) (dU (n:=2) (aT (aO (k:=1000) 2 eV.nd) (aT (aO (k:=1000) 3 eV.nd) cW)))
 (aJ (eA (uK (uv 1) (aA (kB false ["place","number"] 1 [2] (dD (aU gI (aA (uv 3) aB))) (aO (k:=1) 0 (by dsimp only [bM];decide +kernel)) g9 (cX (own:=false) (bI (aA (uv 1) aB)) (uv 0))) aB)))))
 (aJ (bP (uv 1))))) ?_
 rintro us M Q ⟨t,rfl,hd,hz,q⟩
 refine ⟨rfl,?_⟩
 have hbig:∀ a:Tr,a.size<=1000->a.places.length<=1000:=fun a ha=>by rw [gJ];exact ha
 dsimp! only [bG,lB]
 refine fun p hp=>?_
 refine eT (S:=⟨none,numbered (t.parts.map Tr.toU)⟩) (M1:=mup M p (.lst [.tup []])) (fun R r=>?_)
  (fun i τ Mi=>∃ b c,τ=[some t.toU,some (.ref p),b,c]/\Mi=mup M p (.lst (([] :: eQ 0 (t.parts.take i)).map aQ))) ⟨none,none,rfl,rfl⟩ nk ?_ ?_
 ·obtain ⟨z,rr,e,e1,e2,e3⟩:=Fh t
  refine ⟨z,rr,!t.leafy,by rw [<- e];rfl,e1,by omega,?_⟩
  cases hl:t.leafy with
  | true=>simp only [hl,Bool.not_true,Bool.false_eq_true,if_false];rw [DQ hl] at r;exact r
  | false=>simp only [hl,Bool.not_false,if_true];rw [e2 hl];exact r
 ·rintro i x τ Mi e ⟨b,c,rfl,rfl⟩
  obtain ⟨u,hu,rfl⟩:=gY e
  rw [List.getElem?_map] at hu
  cases hp':t.parts[i]? with
  | none=>rw [hp'] at hu;cases hu
  | some a =>
   rw [hp'] at hu
   cases hu
   have ha:=Hn hp'
   have hin:eQ 0 (t.parts.take (i + 1))=eQ 0 (t.parts.take i)++a.places.map (i :: ·):=by
    have hlt:=(List.getElem?_eq_some_iff.mp hp').1
    rw [List.take_add_one,hp']
    have:=DM (t.parts.take i) a 0
    rw [List.length_take,Nat.min_eq_left (Nat.le_of_lt hlt),Nat.zero_add] at this
    exact this
   have hsz:=FF hp'
   have hb1:=hbig a (by omega)
   dsimp! only [bG,lB]
   refine ⟨qL,eM (S:=⟨none,a.places.map aQ⟩) (M1:=mup M p (MO.lst (aQ [] :: List.map aQ (eQ 0 (List.take i t.parts))))) (a.places.map fun pl=>aQ (i :: pl)) (fun R r'=>⟨a,rfl,by omega,by omega,r'⟩) (by simp) ?_ (fun a e=>by cases e) ?_ ?_⟩
   ·show (a.places.map aQ).length<=sizeLine
    rw [List.length_map]
    exact small (by omega)
   ·intro j x y hx hy M' _ R r'
    have hx':(a.places.map aQ)[j]?=some x:=hx
    rw [List.getElem?_map] at hx' hy
    cases hpl:a.places[j]? with
    | none=>rw [hpl] at hx';cases hx'
    | some pl =>
     rw [hpl] at hx' hy
     cases hx'
     cases hy
     have h1:=gR a pl (List.mem_of_getElem? hpl)
     dsimp! only [aQ,bG,lB]
     refine ⟨small ?_,?_⟩
     ·simp only [List.length_cons,List.length_nil,List.length_map];omega
     ·simpa [aQ] using r'
   ·have h1:=Jk t i
    have h2:=hbig t (by omega)
    dsimp! only [bG,lB]
    refine ⟨small ?_,_,_,rfl,?_⟩
    ·simp only [List.length_map];omega
    ·rw [hin,List.map_append,List.map_map];rfl
 ·rintro τ Mi ⟨b,c,rfl,rfl⟩
  rw [jZ,List.length_map,List.take_length,<- yH]
  dsimp! only [bG,lB]
  exact ⟨_,M,(Sub.refl M).mup hp,.inr ⟨p,_,rfl,aF,hp,rfl⟩,q⟩
theorem vZ (F:dE K "places_of" "places_of" i3 f fd) (hm:mg "places_of"=some (.ref f)) (bH:mg "enumerate"=none) (b9:Callee P w K mg base 1 "parts_of" fC []):∀ n,Callee P w K mg base (n + 1) "places_of" (fZ n) []
 | 0=>by
  have no:∀ us M Q,¬ fZ 0 us M Q:=fun us M Q h=>by
   obtain ⟨p,_,h,_⟩:=h
   have:=J2 p
   omega
  refine ⟨f,fd,["shape"],[],[],⟨fun vs H Q E h=>?_,fun A outer s H args us vs Q E _ _ _ _ h=>?_⟩,hm,F.kp,F.binds (tO fun _ _ _ _ _ _ _=>rfl),.nil,fun H M=>.nil⟩
  ·obtain ⟨us,M,Q',_,_,h,_⟩:=h;exact absurd h (no us M Q')
  ·obtain ⟨us,M,Q',_,_,h,_⟩:=h;exact absurd h (no us M Q')
 | n + 1=>BE F hm bH b9 (vZ F hm bH b9 n)
theorem HY (F:dE K "places" "places" wX f fd) (hm:mg "places"=some (.ref f)) (gI:Callee P w K mg base 13 "places_of" (fZ 12) []):Callee P w K mg base 14 "places" (fZ 12) []:=by
 refine bT F hm G8 (tO fun _ _ _ _ _ _ _=>rfl) (aJ (bP (aU gI (aA (uv 0) aB)))) ?_
 rintro us M Q ⟨p,rfl,hd,hs,q⟩
 refine ⟨rfl,?_⟩
 simp! only [gH,bG,bK,cI]
 exact ⟨p,rfl,hd,hs,aZ q⟩
end
end K33
namespace K33
open PySem L2 U2
section
variable {α β:Type} [DecidableEq α]
def asc (l:List (α × β)) (a:α):Option β:=(l.find? fun e=>decide (e.1=a)).map (·.2)
def dM (l:List (α × β)) (a:α) (b:β):List (α × β):=if (l.any fun e=>decide (e.1=a))=true then l.map (fun e=>if e.1=a then (e.1,b) else e) else l++[(a,b)]
theorem eJ {p:α × β} {r:List (α × β)} {a:α} (e:p.1=a):asc (p :: r) a=some p.2:=by simp [asc,List.find?_cons,e]
theorem eL {p:α × β} {r:List (α × β)} {a:α} (e:¬ p.1=a):asc (p :: r) a=asc r a:=by simp [asc,List.find?_cons,e]
theorem n4 (a:α):∀ l:List (α × β),(l.any fun e=>decide (e.1=a))=(asc l a).isSome
 | []=>rfl
 | p :: r=>by
  rw [List.any_cons]
  by_cases e:p.1=a
  ·simp only [eJ e,decide_eq_true e,Bool.true_or,Option.isSome_some]
  ·rw [eL e,decide_eq_false e,Bool.false_or];exact n4 a r
theorem vL {a:α}:∀ {l:List (α × β)} {b:β},asc l a=some b->(a,b)∈l
 | [],_,h=>by cases h
 | p :: r,b,h=>by
  by_cases e:p.1=a
  ·rw [eJ e] at h;cases h;subst e;exact List.mem_cons_self
  ·rw [eL e] at h;exact List.mem_cons_of_mem _ (vL h)
theorem eI {a:α} {l:List (α × β)}:(asc l a).isSome=true ↔ a∈l.map (·.1):=by
 rw [<- n4,List.any_eq_true]
 constructor
 ·rintro ⟨e,he,h⟩;exact List.mem_map.mpr ⟨e,he,of_decide_eq_true h⟩
 ·intro h;obtain ⟨e,he,h⟩:=List.mem_map.mp h;exact ⟨e,he,decide_eq_true h⟩
theorem C7 {a:α} {l:List (α × β)}:asc l a=none ↔ a ∉ l.map (·.1):=by
 rw [<- eI];cases asc l a <;> simp
theorem EK (a:α) (b:β) (x:α):∀ l:List (α × β),asc (l.map fun e=>if e.1=a then (e.1,b) else e) x=(asc l x).map fun y=>if x=a then b else y
 | []=>rfl
 | p :: r=>by
  have ih:=EK a b x r
  rw [List.map_cons]
  by_cases h:p.1=a
  ·rw [if_pos h]
   by_cases e:p.1=x
   ·rw [eJ (p:=(p.1,b)) e,eJ e,Option.map_some,if_pos (e.symm.trans h)]
   ·rw [eL (p:=(p.1,b)) e,eL e,ih]
  ·rw [if_neg h]
   by_cases e:p.1=x
   ·rw [eJ (p:=p) e,eJ e,Option.map_some,if_neg (fun z=>h (e.trans z))]
   ·rw [eL (p:=p) e,eL e,ih]
theorem mO (x:α):∀ l r:List (α × β),asc (l++r) x=match asc l x with | some b=>some b | none=>asc r x
 | [],r=>rfl
 | p :: l,r=>by
  rw [List.cons_append]
  by_cases e:p.1=x
  ·rw [eJ e,eJ e]
  ·rw [eL e,eL e];exact mO x l r
theorem iY (l:List (α × β)) (a x:α) (b:β):asc (dM l a b) x=if x=a then some b else asc l x:=by
 unfold dM
 by_cases h:(l.any fun e=>decide (e.1=a))=true
 ·rw [if_pos h,EK]
  rw [n4] at h
  by_cases e:x=a
  ·obtain ⟨y,hy⟩:=Option.isSome_iff_exists.mp h
   rw [if_pos e,e,hy,Option.map_some,if_pos rfl]
  ·rw [if_neg e]
   cases asc l x with
   | none=>rfl
   | some y=>rw [Option.map_some,if_neg e]
 ·rw [if_neg h,mO]
  rw [n4] at h
  by_cases e:x=a
  ·subst e
   cases q:asc l x with
   | none=>rw [if_pos rfl];exact eJ (p:=(x,b)) rfl
   | some y=>rw [q] at h;exact absurd rfl h
  ·rw [if_neg e]
   cases q:asc l x with
   | some y=>rfl
   | none=>exact eL (p:=(a,b)) (fun z=>e z.symm)
theorem jY (l:List (α × β)) (a:α) (b:β):(dM l a b).map (·.1)=if (asc l a).isSome then l.map (·.1) else l.map (·.1)++[a]:=by
 unfold dM
 rw [n4]
 cases (asc l a).isSome with
 | true =>
  simp only [if_true,List.map_map]
  refine List.map_congr_left fun e _=>?_
  dsimp only [Function.comp]
  split <;> rfl
 | false=>simp
theorem En (l:List (α × β)) (a:α) (b:β):(dM l a b).length=if (asc l a).isSome then l.length else l.length + 1:=by
 have:=congrArg List.length (jY l a b)
 rw [List.length_map] at this
 rw [this]
 cases (asc l a).isSome <;> simp
end
section
variable {σ:Type}
def cO (f:σ->Option Int):List σ->Option Int
 | []=>some 0
 | s :: r=>match f s,cO f r with
  | some a,some b=>some (a + b)
  | _,_=>none
theorem fM {f:σ->Option Int} {s:σ} {r:List σ} {w:Int} (h:cO f (s :: r)=some w):∃ a b,f s=some a/\cO f r=some b/\w=a + b:=by
 simp only [cO] at h
 split at h
 ·rename_i a b h1 h2;cases h;exact ⟨a,b,h1,h2,rfl⟩
 ·cases h
theorem pI {f:σ->Option Int} {s:σ} {r:List σ} {a b:Int} (h1:f s=some a) (h2:cO f r=some b):cO f (s :: r)=some (a + b):=by
 simp only [cO,h1,h2]
theorem sR {f g:σ->Option Int}:∀ {l:List σ},(∀ s∈l,f s=g s)->cO f l=cO g l
 | [],_=>rfl
 | s :: r,h=>by simp only [cO];rw [h s List.mem_cons_self,sR fun x hx=>h x (List.mem_cons_of_mem _ hx)]
theorem tB {f:σ->Option Int}:∀ {l:List σ} {w:Int},cO f l=some w->∀ s∈l,∃ a,f s=some a
 | [],_,_,s,hs=>by cases hs
 | x :: r,w,h,s,hs=>by
  obtain ⟨a,b,h1,h2,rfl⟩:=fM h
  rcases List.mem_cons.mp hs with rfl | hs
  ·exact ⟨a,h1⟩
  ·exact tB h2 s hs
theorem qB {f:σ->Option Int} (hf:∀ s a,f s=some a->0<=a):∀ {l:List σ} {w:Int},cO f l=some w->0<=w
 | [],w,h=>by cases h;omega
 | x :: r,w,h=>by
  obtain ⟨a,b,h1,h2,rfl⟩:=fM h
  have:=hf x a h1
  have:=qB hf h2
  omega
theorem Ei {f:σ->Option Int} (hf:∀ s a,f s=some a->0<=a):∀ {l:List σ} {w:Int},cO f l=some w->∀ s∈l,∀ a,f s=some a->a<=w
 | [],w,h,s,hs,a,ha=>by cases hs
 | x :: r,w,h,s,hs,a,ha=>by
  obtain ⟨a1,b,h1,h2,rfl⟩:=fM h
  have p1:=hf x a1 h1
  have p2:=qB hf h2
  rcases List.mem_cons.mp hs with rfl | hs
  ·rw [ha] at h1;cases h1;omega
  ·have:=Ei hf h2 s hs a ha;omega
theorem o5 {f g:σ->Option Int} {s0:σ} (h:∀ s a,f s=some a->∃ a',g s=some a'/\a'<=a/\(s=s0->a' < a)):∀ {l:List σ} {w:Int},cO f l=some w->∃ w',cO g l=some w'/\w'<=w/\(s0∈l->w' < w)
 | [],w,e=>by cases e;exact ⟨0,rfl,by omega,fun h=>by cases h⟩
 | x :: r,w,e=>by
  obtain ⟨a,b,h1,h2,rfl⟩:=fM e
  obtain ⟨a',g1,g2,g3⟩:=h x a h1
  obtain ⟨b',k1,k2,k3⟩:=o5 h h2
  refine ⟨a' + b',pI g1 k1,by omega,fun hm=>?_⟩
  rcases List.mem_cons.mp hm with rfl | hm
  ·have:=g3 rfl;omega
  ·have:=k3 hm;omega
end
structure Ld where
 n:Nat
 cls:Str
 price:Int
 spots:List (List Nat × Str)
abbrev VM:=List (Str × Int)
abbrev CM:=List (Str × Ld)
abbrev VS:=List (List Nat × VM)
abbrev CS:=List (List Nat × CM)
def bY (vs:VS) (s:List Nat × Str):Option Int:=(asc vs s.1).bind fun m=>asc m s.2
def cur (vs:VS) (p:List Nat) (m:VM) (s:List Nat × Str):Option Int:=if s.1=p then asc m s.2 else bY vs s
theorem fY {vs:VS} {p:List Nat} {m:VM} (h:asc vs p=none) (s:List Nat × Str):cur vs p m s=bY (vs++[(p,m)]) s:=by
 unfold cur bY
 rw [mO]
 by_cases e:s.1=p
 ·rw [if_pos e,e,h]
  show _=(asc [(p,m)] p).bind _
  rw [eJ (p:=(p,m)) rfl];rfl
 ·rw [if_neg e]
  cases q:asc vs s.1 with
  | some b=>rfl
  | none =>
   show _=(asc [(p,m)] s.1).bind _
   rw [eL (p:=(p,m)) (fun z=>e z.symm)];rfl
structure Ci (cs:List Str) (vs:VS) (p:List Nat) (sz:Nat) (l:Ld):Prop where
 p0:0<=l.price
 p1:l.price<=1000
 cls:l.cls∈cs
 len:l.spots.length<=64
 there:∀ s∈l.spots,s.1=p\/(asc vs s.1).isSome=true
 way:(∃ c2,l.spots=[(p,c2)])\/((∀ s∈l.spots,s.1≠p)/\∀ w,cO (bY vs) l.spots=some w->w<=6000 * ((sz:Int) - 1))
def EA (vs:VS):Prop:=∀ s v,bY vs s=some v->0<=v/\v<=100000000
structure J (cs:List Str) (vs:VS) (p:List Nat) (sz:Nat) (ls:List Ld) (m:VM) (ch:CM):Prop where
 keys:m.map (·.1)=ch.map (·.1)
 nd:(m.map (·.1)).Nodup
 sub:∀ c∈m.map (·.1),c∈cs
 just:∀ c v,asc m c=some v->0<=v/\v<=1000 * (6 * ((sz:Int) - 1) + m.length)/\∃ l,asc ch c=some l/\l∈ls/\l.cls=c/\∃ w,cO (cur vs p m) l.spots=some w/\l.price + w<=v
 rk:∃ (rk:Str->Nat) (T:Nat),(∀ c,rk c < T)/\∀ c v l w,asc m c=some v->asc ch c=some l->cO (cur vs p m) l.spots=some w->l.price + w < v\/∀ s∈l.spots,s.1=p->rk s.2 < rk c
def Fix (vs:VS) (p:List Nat) (ls:List Ld) (m:VM):Prop:=∀ l∈ls,∀ w,cO (cur vs p m) l.spots=some w->∃ v,asc m l.cls=some v/\v<=l.price + w
section
variable {cs:List Str} {vs:VS} {p:List Nat} {sz:Nat} {ls:List Ld} {m:VM} {ch:CM}
theorem J.nil:J cs vs p sz ls [] []:=⟨rfl,List.nodup_nil,(fun c h=>by cases h),(fun c v h=>by cases h),fun _=>0,1,(fun _=>Nat.zero_lt_one),fun c v l w h=>by cases h⟩
theorem J.cur0 (j:J cs vs p sz ls m ch) (hv:EA vs):∀ s a,cur vs p m s=some a->0<=a:=fun s a h=>by
 unfold cur at h
 split at h
 ·exact (j.just _ _ h).1
 ·exact (hv _ _ h).1
theorem J.len6 (j:J cs vs p sz ls m ch) (h6:cs.length<=6):m.length<=6:=by
 have:∀ (l k:List Str),l.Nodup->(∀ s∈l,s∈k)->l.length<=k.length:=by
  intro l
  induction l with
  | nil=>intro k _ _;simp
  | cons a l ih =>
   intro k hn hs
   obtain ⟨h1,h2⟩:=List.nodup_cons.mp hn
   have ha:=hs a List.mem_cons_self
   have:=ih (k.erase a) h2 fun s hsl=>by
    refine (List.mem_erase_of_ne fun z=>?_).mpr (hs s (List.mem_cons_of_mem _ hsl))
    subst z;exact h1 hsl
   rw [List.length_erase_of_mem ha] at this
   have hp:0 < k.length:=List.length_pos_of_mem ha
   simp only [List.length_cons];omega
 have h:=this _ _ j.nd j.sub
 rw [List.length_map] at h
 omega
theorem J.step {l:Ld} {w:Int} (hv:EA vs) (hl:l∈ls) (ok:Ci cs vs p sz l) (j:J cs vs p sz ls m ch) (hw:cO (cur vs p m) l.spots=some w) (hlow:∀ v,asc m l.cls=some v->l.price + w < v) :
  J cs vs p sz ls (dM m l.cls (l.price + w)) (dM ch l.cls l):=by
 have h0:=j.cur0 hv
 have hw0:=qB h0 hw
 have hsz:(1:Int)<=sz\/(sz:Int)=0:=by omega
 have hc':∀ s,cur vs p (dM m l.cls (l.price + w)) s=if s=(p,l.cls) then some (l.price + w) else cur vs p m s:=by
  rintro ⟨q,c⟩
  unfold cur
  dsimp only
  by_cases e:q=p
  ·subst e
   rw [if_pos rfl,if_pos rfl,iY]
   by_cases e2:c=l.cls
   ·subst e2;rw [if_pos rfl,if_pos rfl]
   ·rw [if_neg e2,if_neg (fun z=>e2 (Prod.mk.inj z).2)]
  ·rw [if_neg e,if_neg e,if_neg (fun z=>e (Prod.mk.inj z).1)]
 have hstep:∀ s a,cur vs p m s=some a->∃ a',cur vs p (dM m l.cls (l.price + w)) s=some a'/\a'<=a/\(s=(p,l.cls)->a' < a):=fun s a h=>by
  rw [hc']
  by_cases e:s=(p,l.cls)
  ·subst e
   have h':asc m l.cls=some a:=by unfold cur at h;rw [if_pos rfl] at h;exact h
   have:=hlow a h'
   rw [if_pos rfl]
   exact ⟨_,rfl,by omega,fun _=>this⟩
  ·rw [if_neg e]
   exact ⟨a,h,by omega,fun z=>absurd z e⟩
 have hlen:m.length<=(dM m l.cls (l.price + w)).length:=by rw [En];split <;> omega
 have hch:(asc ch l.cls).isSome=(asc m l.cls).isSome:=by
  have e1:=@eI _ _ _ l.cls ch
  have e2:=@eI _ _ _ l.cls m
  rw [j.keys] at e2
  cases h1:(asc ch l.cls).isSome <;> cases h2:(asc m l.cls).isSome <;> first | rfl | (exfalso;rw [h1] at e1;rw [h2] at e2;first | exact absurd (e2.mpr (e1.mp rfl)) (by decide) | exact absurd (e1.mpr (e2.mp rfl)) (by decide))
 refine ⟨?_,?_,?_,?_,?_⟩
 ·rw [jY,jY,hch,j.keys]
 ·rw [jY]
  cases h:(asc m l.cls).isSome with
  | true=>simp only [if_true];exact j.nd
  | false =>
   simp only [Bool.false_eq_true,if_false]
   have:l.cls ∉ m.map (·.1):=fun z=>by rw [eI.mpr z] at h;cases h
   exact List.nodup_append.mpr ⟨j.nd,by simp,fun a ha b hb=>by
    cases List.mem_singleton.mp hb
    intro z;subst z;exact this ha⟩
 ·intro c hc
  rw [jY] at hc
  cases h:(asc m l.cls).isSome with
  | true=>rw [h] at hc;simp only [if_true] at hc;exact j.sub c hc
  | false =>
   rw [h] at hc
   simp only [Bool.false_eq_true,if_false,List.mem_append,List.mem_singleton] at hc
   rcases hc with hc | rfl
   ·exact j.sub c hc
   ·exact ok.cls
 ·intro c v h
  rw [iY] at h
  by_cases e:c=l.cls
  ·subst e
   rw [if_pos rfl] at h
   cases h
   obtain ⟨w',g1,g2,_⟩:=o5 hstep hw
   have p0:=ok.p0
   have p1:=ok.p1
   refine ⟨by omega,?_,l,by rw [iY,if_pos rfl],hl,rfl,w',g1,by omega⟩
   rw [En]
   cases hm:asc m l.cls with
   | some old =>
    have:=hlow old hm
    have:=(j.just _ _ hm).2.1
    simp only [Option.isSome_some,if_true]
    omega
   | none =>
    simp only [Option.isSome_none,Bool.false_eq_true,if_false]
    rcases ok.way with ⟨c2,hs⟩ | ⟨hs,hb⟩
    ·rw [hs] at hw
     obtain ⟨a,b,k1,k2,rfl⟩:=fM hw
     cases k2
     have k1':asc m c2=some a:=by unfold cur at k1;rw [if_pos rfl] at k1;exact k1
     have:=(j.just _ _ k1').2.1
     omega
    ·have:=hb w (by rw [<- hw];exact sR fun s hs'=>by unfold cur;rw [if_neg (hs s hs')])
     omega
  ·rw [if_neg e] at h
   obtain ⟨v0,v1,l1,a1,a2,a3,w1,a4,a5⟩:=j.just c v h
   obtain ⟨w',g1,g2,_⟩:=o5 hstep a4
   exact ⟨v0,by omega,l1,by rw [iY,if_neg e];exact a1,a2,a3,w',g1,by omega⟩
 ·obtain ⟨rk,T,hT,hr⟩:=j.rk
  refine ⟨fun c=>if c=l.cls then T else rk c,T + 1,fun c=>by
   show (if c=l.cls then T else rk c) < T + 1
   by_cases z:c=l.cls
   ·rw [if_pos z];omega
   ·rw [if_neg z];have:=hT c;omega,fun c v l1 w1 h1 h2 h3=>?_⟩
  rw [iY] at h1 h2
  by_cases e:c=l.cls
  ·subst e
   rw [if_pos rfl] at h1 h2
   cases h1;cases h2
   refine .inr fun s hs hsp=>?_
   dsimp only
   rw [if_pos rfl]
   by_cases e2:s.2=l.cls
   ·exfalso
    obtain ⟨a,ha⟩:=tB hw s hs
    have:=Ei h0 hw s hs a ha
    have ha':asc m l.cls=some a:=by unfold cur at ha;rw [if_pos hsp,e2] at ha;exact ha
    have:=hlow a ha'
    have:=ok.p0
    omega
   ·rw [if_neg e2];exact hT _
  ·rw [if_neg e] at h1 h2
   obtain ⟨v0,v1,l2,a1,a2,a3,w2,a4,a5⟩:=j.just c v h1
   rw [h2] at a1;cases a1
   obtain ⟨w',g1,g2,g3⟩:=o5 hstep a4
   rw [h3] at g1;cases g1
   by_cases hin:(p,l.cls)∈l1.spots
   ·have:=g3 hin;exact .inl (by omega)
   ·rcases hr c v l1 w2 h1 h2 a4 with hlt | hall
    ·exact .inl (by omega)
    ·refine .inr fun s hs hsp=>?_
     dsimp only
     rw [if_neg e,if_neg (fun z=>hin (by obtain ⟨s1,s2⟩:=s;dsimp only at hsp z;subst hsp z;exact hs))]
     exact hall s hs hsp
def mv (B:Nat):Option Int->Nat
 | some v=>v.toNat
 | none=>B
def mu (B:Nat) (cs:List Str) (m:VM):Nat:=(cs.map fun c=>mv B (asc m c)).sum
theorem Mf {B:Nat} {c0:Str} {v0:Int} {m:VM} (hv0:0<=v0) (hB:v0.toNat < B) (hlow:∀ v,asc m c0=some v->v0 < v):∀ cs:List Str,mu B cs (dM m c0 v0)<=mu B cs m/\(c0∈cs->mu B cs (dM m c0 v0) < mu B cs m)
 | []=>⟨Nat.le_refl _,fun h=>by cases h⟩
 | c :: cs=>by
  obtain ⟨h1,h2⟩:=Mf hv0 hB hlow cs
  have e1:∀ m:VM,mu B (c :: cs) m=mv B (asc m c) + mu B cs m:=fun m=>by simp only [mu,List.map_cons,List.sum_cons]
  rw [e1,e1,iY]
  by_cases e:c=c0
  ·subst e
   rw [if_pos rfl]
   have:v0.toNat < mv B (asc m c):=by
    cases hm:asc m c with
    | none=>exact hB
    | some v=>have:=hlow v hm;show v0.toNat < v.toNat;omega
   exact ⟨by show v0.toNat + _<=_;omega,fun _=>by show v0.toNat + _ < _;omega⟩
  ·rw [if_neg e]
   refine ⟨by omega,fun hm=>?_⟩
   rcases List.mem_cons.mp hm with rfl | hm
   ·exact absurd rfl e
   ·have:=h2 hm;omega
theorem J.low {l:Ld} {w:Int} (hv:EA vs) (hl:l∈ls) (ok:Ci cs vs p sz l) (h6:cs.length<=6) (hs1:1<=sz) (j:J cs vs p sz ls m ch) (hw:cO (cur vs p m) l.spots=some w) (hlow:∀ v,asc m l.cls=some v->l.price + w < v) :
  mu (6000 * sz + 1) cs (dM m l.cls (l.price + w)) < mu (6000 * sz + 1) cs m:=by
 have j':=j.step hv hl ok hw hlow
 have h6':=j'.len6 h6
 obtain ⟨v0,v1,_⟩:=j'.just l.cls (l.price + w) (by rw [iY,if_pos rfl])
 exact (Mf v0 (by omega) hlow cs).2 ok.cls
structure rV (cs:List Str) (vs:VS) (p:List Nat) (sz:Nat) (ls:List Ld) (m:VM) (ch:CM):Prop where
 keys:m.map (·.1)=ch.map (·.1)
 nd:(m.map (·.1)).Nodup
 sub:∀ c∈m.map (·.1),c∈cs
 just:∀ c v,asc m c=some v->0<=v/\v<=6000 * sz/\∃ l,asc ch c=some l/\l∈ls/\l.cls=c/\∃ w,cO (cur vs p m) l.spots=some w/\v=l.price + w
 rk:∃ rk:Str->Nat,∀ c l,asc ch c=some l->∀ s∈l.spots,s.1=p->rk s.2 < rk c
 fix:Fix vs p ls m
theorem J.fill (h6:cs.length<=6) (j:J cs vs p sz ls m ch) (hf:Fix vs p ls m):rV cs vs p sz ls m ch:=by
 have eq:∀ c v l w,asc m c=some v->asc ch c=some l->cO (cur vs p m) l.spots=some w->v=l.price + w/\l∈ls/\l.cls=c:=fun c v l w h1 h2 h3=>by
  obtain ⟨v0,v1,l1,a1,a2,a3,w1,a4,a5⟩:=j.just c v h1
  rw [h2] at a1;cases a1
  rw [h3] at a4;cases a4
  obtain ⟨v',b1,b2⟩:=hf l a2 w h3
  rw [a3,h1] at b1;cases b1
  exact ⟨by omega,a2,a3⟩
 refine ⟨j.keys,j.nd,j.sub,fun c v h=>?_,?_,hf⟩
 ·obtain ⟨v0,v1,l1,a1,a2,a3,w1,a4,a5⟩:=j.just c v h
  have:=j.len6 h6
  exact ⟨v0,by omega,l1,a1,a2,a3,w1,a4,(eq c v l1 w1 h a1 a4).1⟩
 ·obtain ⟨rk,T,hT,hr⟩:=j.rk
  refine ⟨rk,fun c l h s hs hsp=>?_⟩
  have:(asc m c).isSome=true:=by
   rw [eI,j.keys,<- eI,h];rfl
  obtain ⟨v,hv⟩:=Option.isSome_iff_exists.mp this
  obtain ⟨v0,v1,l1,a1,a2,a3,w1,a4,a5⟩:=j.just c v hv
  rw [h] at a1;cases a1
  rcases hr c v l w1 hv h a4 with hlt | hall
  ·have:=(eq c v l w1 hv h a4).1;omega
  ·exact hall s hs hsp
def pk (p:List Nat):List Key:=p.map fun (n:Nat)=>Sum.inl (n:Int)
theorem zK {p q:List Nat} (h:pk p=pk q):p=q:=by
 induction p generalizing q with
 | nil=>cases q with
  | nil=>rfl
  | cons a r=>cases h
 | cons a r ih=>cases q with
  | nil=>cases h
  | cons b s =>
   simp only [pk,List.map_cons,List.cons.injEq,Sum.inl.injEq] at h
   have h1:a=b:=by omega
   rw [h1,ih h.2]
theorem qQ (p:List Nat):eE (p.map fun (n:Nat)=>U.int (n:Int))=some (pk p):=by
 induction p with
 | nil=>rfl
 | cons a r ih=>simp only [List.map_cons,eE,kP,ih];rfl
def Ld.toU (l:Ld):U:=.tup [.int l.n,.str l.cls,.int l.price,.lst (l.spots.map dY)]
def qH (l:Ld):U:=.tup [.int l.n,.lst (l.spots.map dY)]
def lY (m:VM):List (Key × U):=m.map fun e=>(Sum.inr e.1,.int e.2)
def rD (ch:CM):List (Key × U):=ch.map fun e=>(Sum.inr e.1,qH e.2)
def mS (m:VM):U:=.dic (m.map fun e=>[Sum.inr e.1]) false (m.map fun e=>.int e.2)
def l8 (ch:CM):U:=.dic (ch.map fun e=>[Sum.inr e.1]) false (ch.map fun e=>qH e.2)
def jV (vs:VS):List (List Key × U):=vs.map fun e=>(pk e.1,mS e.2)
def jK (cs:CS):List (List Key × U):=cs.map fun e=>(pk e.1,l8 e.2)
section
variable {α β κ:Type} [DecidableEq α] [DecidableEq κ]
theorem iF (k:α->κ) (hk:∀ a b,k a=k b->a=b) (g:β->U) (a:α):∀ l:List (α × β),cH (l.map fun e=>(k e.1,g e.2)) (k a)=(asc l a).map g
 | []=>rfl
 | p :: r=>by
  rw [List.map_cons]
  by_cases e:p.1=a
  ·rw [jQ (p:=(k p.1,g p.2)) (by rw [e]),eJ e];rfl
  ·rw [jT (p:=(k p.1,g p.2)) (fun z=>e (hk _ _ z)),eL e];exact iF k hk g a r
theorem rB (k:α->κ) (hk:∀ a b,k a=k b->a=b) (g:β->U) (a:α) (b:β) (l:List (α × β)):eP (l.map fun e=>(k e.1,g e.2)) (k a) (g b)=(dM l a b).map fun e=>(k e.1,g e.2):=by
 unfold eP dM
 rw [wG,iF k hk,n4,Option.isSome_map]
 cases (asc l a).isSome with
 | true =>
  simp only [if_true,List.map_map]
  refine List.map_congr_left fun e _=>?_
  dsimp only [Function.comp]
  by_cases h:e.1=a
  ·rw [if_pos (by rw [h]),if_pos h]
  ·rw [if_neg (fun z=>h (hk _ _ z)),if_neg h]
 | false=>simp
theorem oG (k:κ):∀ l r:List (κ × U),cH (l++r) k=match cH l k with | some u=>some u | none=>cH r k
 | [],r=>rfl
 | p :: l,r=>by
  rw [List.cons_append]
  by_cases e:p.1=k
  ·rw [jQ e,jQ e]
  ·rw [jT e,jT e];exact oG k l r
end
theorem mU:∀ a b:Str,(Sum.inr a:Key)=Sum.inr b->a=b:=fun a b h=>Sum.inr.inj h
theorem yG (m:VM) (c:Str):cH (lY m) (.inr c)=(asc m c).map U.int:=iF (fun c:Str=>(Sum.inr c:Key)) mU U.int c m
theorem Hd (m:CM) (c:Str):cH (rD m) (.inr c)=(asc m c).map qH:=iF (fun c:Str=>(Sum.inr c:Key)) mU qH c m
theorem M7 (m:VM) (c:Str) (v:Int):eP (lY m) (.inr c) (.int v)=lY (dM m c v):=rB (fun c:Str=>(Sum.inr c:Key)) mU U.int c v m
theorem N0 (m:CM) (c:Str) (l:Ld):eP (rD m) (.inr c) (qH l)=rD (dM m c l):=rB (fun c:Str=>(Sum.inr c:Key)) mU qH c l m
theorem Gx (vs:VS) (p:List Nat):cH (jV vs) (pk p)=(asc vs p).map mS:=iF pk (fun _ _=>zK) mS p vs
theorem Fm (vs:CS) (p:List Nat):cH (jK vs) (pk p)=(asc vs p).map l8:=iF pk (fun _ _=>zK) l8 p vs
theorem DA {γ:Type} (g:γ->U) (k:Str->Key):∀ m:List (Str × γ),((m.map fun e=>[k e.1]).map pT).zip (m.map fun e=>g e.2)=m.map fun e=>(k e.1,g e.2)
 | []=>rfl
 | e :: m=>by simp only [List.map_cons,List.zip_cons_cons,pT];rw [DA g k m]
theorem Dl {M:aD} (m:VM):d7 M (mS m)=some (.dK (lY m)):=by
 simp only [mS,d7];rw [DA U.int Sum.inr m];rfl
theorem Hw {M:aD} (m:CM):d7 M (l8 m)=some (.dK (rD m)):=by
 simp only [l8,d7];rw [DA qH Sum.inr m];rfl
theorem Cc {M:aD} {v:Addr} {kvs:List (List Key × U)} (p:List Nat) (h:M v=some (.dT kvs)):cR true M (.ref v) (aQ p)=some (cH kvs (pk p)):=by
 simp only [cR,d7,h,aQ,qQ,Option.map_some]
theorem lW {M:aD} {x:U} {kvs:List (Key × U)} (c:Str) (h:d7 M x=some (.dK kvs)):cR false M x (.str c)=some (cH kvs (.inr c)):=by
 simp only [cR,h,kP]
theorem F2 {M:aD} {x:U} {kvs:List (Key × U)} (h:d7 M x=some (.dK kvs)):uB M x=true:=by simp only [uB,h]
theorem Mk {M M':aD} {x:U} {mo:MO} (s:Sub M M') (h:d7 M x=some mo):d7 M' x=some mo:=by
 cases x with
 | ref a=>exact s a _ h
 | dic ks tk us=>cases tk <;> exact h
 | _=>cases h
def l0:Option Int->U
 | some a=>.int a
 | none=>.non
def F0 (pr:Int):Option Int->U
 | some w=>.int (pr + w)
 | none=>.non
theorem CQ (f:List Nat × Str->Option Int):∀ spots:List (List Nat × Str),(∃ ns:List Int,spots.map (fun s=>l0 (f s))=ns.map U.int/\cO f spots=some ns.sum/\(∀ n∈ns,∃ s∈spots,f s=some n)/\ns.length=spots.length)\/((spots.map (fun s=>l0 (f s))).any (fun u=>tK u .non)=true/\cO f spots=none)
 | []=>.inl ⟨[],rfl,rfl,(fun n h=>by cases h),rfl⟩
 | s :: r=>by
  cases h:f s with
  | none=>exact .inr ⟨by simp [h,l0,tK],by simp only [cO,h]⟩
  | some a =>
   rcases CQ f r with ⟨ns,h1,h2,h3,h4⟩ | ⟨h1,h2⟩
   ·refine .inl ⟨a :: ns,by rw [List.map_cons,List.map_cons,h1,h];rfl,by rw [pI h h2,List.sum_cons],fun n hn=>?_,by simp [h4]⟩
    rcases List.mem_cons.mp hn with rfl | hn
    ·exact ⟨s,List.mem_cons_self,h⟩
    ·obtain ⟨s',h5,h6⟩:=h3 n hn;exact ⟨s',List.mem_cons_of_mem _ h5,h6⟩
   ·exact .inr ⟨by simp only [List.map_cons,List.any_cons,h1,Bool.or_true],by simp only [cO,h,h2]⟩
theorem Lb (f:List Nat × Str->Option Int) (spots:List (List Nat × Str)):(spots.map (fun s=>l0 (f s))).all kD=true:=by
 induction spots with
 | nil=>rfl
 | cons s r ih =>
  rw [List.map_cons,List.all_cons,ih]
  cases f s <;> rfl
theorem MW (ns:List Int):((ns.map U.int).any fun u=>tK u .non)=false:=by
 induction ns with
 | nil=>rfl
 | cons a r ih=>rw [List.map_cons,List.any_cons,ih];rfl
theorem Q5 {ns:List Int} (h:∀ n∈ns,0<=n/\n<=100000000) (hl:ns.length<=64):PySem.SumFits ns:=by
 intro j hj
 have hm:ns.getD j 0∈ns:=by
  rw [List.getD_eq_getElem?_getD,List.getElem?_eq_getElem hj];exact List.getElem_mem hj
 obtain ⟨h1,h2⟩:=h _ hm
 obtain ⟨h3,h4⟩:=Cr 100000000 (ns.take (j + 1)) fun x hx=>h x (List.mem_of_mem_take hx)
 have h5:(ns.take (j + 1)).length<=64:=by rw [List.length_take];omega
 have h6:((100000000:Nat):Int) * ((ns.take (j + 1)).length:Int)<=6400000000:=by omega
 constructor <;> (unfold InLong;constructor <;> omega)
def KQ:cV:=fun us M Q=>∃ (pr:Int) (ns:List Int),us=[.int pr,.lst (ns.map .int)]/\(∀ n∈ns,0<=n/\n<=100000000)/\ns.length<=64/\Q (.int (pr + ns.sum)) M
local macro_rules | `(tactic| simp_all! only [$xs,*]) => `(tactic| simp only [$xs,*, Bool.false_eq_true, Bool.not_false, Bool.not_true, List.append_nil, List.cons_append, List.getElem?_cons_succ, List.getElem?_cons_zero, List.length_cons, List.length_nil, List.map_cons, List.map_nil, List.nil_append, List.replicate, List.set_cons_succ, List.set_cons_zero, Nat.add_sub_cancel, Nat.reduceAdd, Nat.reduceLeDiff, Nat.reduceSub, Nat.sub_self, Option.getD_some, Option.some.injEq, and_true, Hz, G2, at2, Ik, wC, Df, zD, yQ, yJ, tR, pN, CF, bK, wJ, m8, Ek, Ep, D8, Jb, cU, decide_false, decide_true, lK, q9, exists_eq_left', if_false, if_true, BO, u5, gA, fH, fF, fR, fE, fQ, eO, iH, iS, jP, iQ, jL, hJ, iU, iT, jR, iG, jS, hW, jX, jM, kW, jI, kT, iR, iI, iJ, j3, iW, jJ, hX, j0, j1, kX, jU, kZ, iO, gX, gW, iM, gZ, iP, gF, items, xY, lI, uE, lM, uG, uM, iL, bV, aF, reduceCtorEq, hG, Hk, true_and, Ay, uQ, o6, wZ, rN, xP, w9, uC, Bn, sG, qX, oE, r9, nQ, t6, tY, pU, sP, oH, Cj, uI, q8, C1, xO, L3, tX, pB, AY, cQ, wW, wK, t9, Dr, wH, mD, w6, L6, pJ, zI, lP, B9, BV, rX, cI, iE, sU, zB, cY, wI, o8, wU, xI, CY, pW, xH, bG, m5, uL, qU, tP, qP, tV, t8])
theorem yS (F:dE K "joined_price" "joined_price" mI f fd) (vJ:mg "sum"=none):sN P w K mg base 1 f KQ:=by
 refine ⟨fd,["price","prices"],EU F yT (fun us M Q h=>by obtain ⟨_,_,rfl,_⟩:=h;rfl) (aJ (bP (cX (own:=false) (uv 0) (kM LC vJ (aA (uv 1) aB))))) ?_,F.kp,F.binds (qN fun _ _ _ _ _ _ _ _=>rfl)⟩
 rintro us M Q ⟨pr,ns,rfl,hb,hl,q⟩
 simp_all! only [gH,rZ]
 exact ⟨Q5 hb hl,aZ q⟩
def vA (M:aD) (v:Addr) (g:List Nat × Str->Option Int) (s:List Nat × Str):Prop:=∃ kvs x kv2,M v=some (.dT kvs)/\cH kvs (pk s.1)=some x/\d7 M x=some (.dK kv2)/\cH kv2 (.inr s.2)=(g s).map U.int
def HQ (fj:Addr):cV:=fun us M Q=>∃ (pr:Int) (spots:List (List Nat × Str)) (v:Addr) (g:List Nat × Str->Option Int),us=[.int pr,.lst (spots.map dY),.ref v,.ref fj]/\spots.length<=64/\(∀ s∈spots,vA M v g s)/\(∀ s∈spots,∀ a,g s=some a->0<=a/\a<=100000000)/\Q (F0 pr (cO g spots)) M
theorem Bq {fj:Addr} (F:dE K "join_spots" "join_spots" oS f fd) (hm:mg "join_spots"=some (.ref f)) (hNK:iC K) (A_joined:sN P w K mg base 1 fj KQ):Callee P w K mg base 2 "join_spots" (HQ fj) []:=by
 refine bT F hm tH (I0 fun _ _ _ _ _ _ _ _ _ _=>rfl) (aE (qT 4 tH.nd false ["place","cls","values"] 2 [2] (dD (uv 1)) (dU (n:=2) (aT (aO (k:=2) 0 (by dsimp only [bM];decide +kernel)) (aT (aO (k:=2) 1 (by dsimp only [bM];decide +kernel)) cW))) g9 (oX false i8 (dA true (fun _=>hNK) (uv 2) (uv 0)) (uv 1)))
 (aJ (bP (BG (cP PX zP (uv 4)) zP (Jo 3 A_joined (aA (uv 0) (aA (uv 4) aB))))))) ?_
 rintro us M Q ⟨pr,spots,v,g,rfl,hl,hat,hb,q⟩
 refine ⟨rfl,?_⟩
 refine aI fun V hV=>?_
 refine eM (S:=⟨none,spots.map dY⟩) (M1:=M) (spots.map fun s=>l0 (g s)) (fun R r=>r) (by simp) (small (by show (spots.map dY).length<=_;rw [List.length_map];omega)) (fun a e=>by cases e) ?_ ?_
 ·intro j x y hx hy M' hS R r'
  have hx':(spots.map dY)[j]?=some x:=hx
  rw [List.getElem?_map] at hx' hy
  cases hj:spots[j]? with
  | none=>rw [hj] at hx';cases hx'
  | some s =>
   rw [hj] at hx' hy
   cases hx';cases hy
   obtain ⟨kvs,xx,kv2,e1,e2,e3,e4⟩:=hat s (List.mem_of_getElem? hj)
   have l1:=Cc s.1 (hS v _ e1)
   have e3':=Mk hS e3
   have l2:=lW s.2 e3'
   have l3:=F2 e3'
   simp_all! only [dY,i9,gN,kI,hName,l1,e2,l2,l3,e4]
   have r2:R (l0 (g s)) M':=r'
   cases hg:g s with
   | none=>rw [hg] at r2;exact r2
   | some a=>rw [hg] at r2;exact r2
 ·simp_all! only [hName]
  subst hV
  simp_all! only [gH,Lb,show kD .non=true from rfl]
  rcases CQ g spots with ⟨ns,h1,h2,h3,h4⟩ | ⟨h1,h2⟩
  ·rw [h1,MW]
   simp_all! only [true_and]
   refine ⟨pr,ns,rfl,fun n hn=>?_,by omega,aZ (by rw [h2] at q;exact q)⟩
   obtain ⟨s,hs,e⟩:=h3 n hn
   exact hb s hs n e
  ·rw [h1]
   simp_all! only [true_and]
   exact aZ (by rw [h2] at q;exact q)
def bN (t:Tr) (p:List Nat):Nat->List Tl->List Ld
 | _,[]=>[]
 | k,tl :: r=>(if eC tl.pt t then [⟨k,tl.cls,tl.cost,(d5 tl.pt).map fun e=>(p++e.1,e.2)⟩] else [])++bN t p (k + 1) r
theorem Bj (t:Tr) (p:List Nat) (tl:Tl):∀ (l:List Tl) (k:Nat),bN t p k (l++[tl])=bN t p k l++(if eC tl.pt t then [⟨k + l.length,tl.cls,tl.cost,(d5 tl.pt).map fun e=>(p++e.1,e.2)⟩] else [])
 | [],k=>by simp [bN]
 | a :: l,k=>by
  rw [List.cons_append]
  simp only [bN]
  rw [Bj t p tl l (k + 1),List.append_assoc,List.length_cons,show k + 1 + l.length=k + (l.length + 1) by omega]
theorem oM (t:Tr) (p:List Nat):∀ (l:List Tl) (k:Nat),(bN t p k l).length<=l.length
 | [],k=>by simp [bN]
 | a :: l,k=>by
  have:=oM t p l (k + 1)
  simp only [bN,List.length_append,List.length_cons]
  split <;> simp <;> omega
def t7:cV:=fun us M Q=>∃ (cs:List Str) (tls:List Tl) (t t':Tr) (p:List Nat),us=[eD cs tls,t.toU,aQ p]/\iN t.toU p=some t'.toU/\(∀ tl∈tls,tl.pt.dep<=6)/\tls.length<=39/\p.length<=1000/\Q (.lst ((bN t' p 0 tls).map Ld.toU)) M
theorem DS (F:dE K "tiles_at" "tiles_at" rQ f fd) (hm:mg "tiles_at"=some (.ref f)) (bH:mg "enumerate"=none) (Ih:Callee P w K mg base 3 "tree_at" yX []) (CD:Callee P w K mg base 9 "lies" (uD 6) []) (NM:Callee P w K mg base 8 "holes" Et []):Callee P w K mg base 10 "tiles_at" t7 []:=by
 refine bT F hm iZ (HR fun _ _ _ _ _ _ _ _ _=>rfl) (aE (aY 3 iZ.nd (aU Ih (aA (uv 1) (aA (uv 2) aB))))
 (aE (aY 4 iZ.nd (hZ (own:=true) aB))
 (aE (eG (lU bH (aA (aN (uv 0) aS) aB)) (dU (n:=2) (aT (aO (k:=1000) 5 iZ.nd) (aT (aO (k:=1000) 6 iZ.nd) cW)))
 (aJ (dW (qD (aU CD (aA (aN (uv 6) aS) (aA (uv 3) aB))))
 (aE (qT 7 iZ.nd false ["below","cls","place"] 2 [2] (dD (aU NM (aA (aN (uv 6) aS) aB))) (dU (n:=2) (aT (aO (k:=2) 0 (by dsimp only [bM];decide +kernel)) (aT (aO (k:=2) 1 (by dsimp only [bM];decide +kernel)) cW))) g9 (bI (aA (cX (own:=false) (uv 2) (uv 0)) (aA (uv 1) aB))))
 (aJ (eA (lG (uv 4) (aA (bI (aA (uv 5) (aA (aN (uv 6) aS) (aA (aN (uv 6) aS) (aA (uv 7) aB))))) aB)))))
 cT)))
 (aJ (bP (uv 4)))))) ?_
 rintro us M Q ⟨cs,tls,t,t',p,rfl,hat,hdep,hlen,hpl,q⟩
 refine ⟨rfl,?_⟩
 refine aI fun V hV=>?_
 simp_all! only [bR,hName]
 refine ⟨t.toU,t'.toU,p,rfl,hat,?_⟩
 subst hV
 refine aI fun V hV=>?_
 simp_all! only [bR,hName]
 intro r hr
 subst hV
 refine aI fun V hV=>?_
 refine eT (S:=⟨none,numbered (tls.map Tl.toU)⟩) (M1:=mup M r (.lst [])) (fun R r'=>by simp_all! only [m7];exact r')
  (fun i τ Mi=>∃ z5 z6 z7:Option U,τ=[some (eD cs tls),some t.toU,some (aQ p),some t'.toU,some (.ref r),z5,z6,z7]/\Mi=mup M r (.lst ((bN t' p 0 (tls.take i)).map Ld.toU))) ⟨none,none,none,rfl,rfl⟩ nk ?_ ?_
 ·rintro i x τ Mi e ⟨z5,z6,z7,rfl,rfl⟩
  obtain ⟨u,hu,rfl⟩:=gY e
  rw [List.getElem?_map] at hu
  cases hj:tls[i]? with
  | none=>rw [hj] at hu;cases hu
  | some tl =>
   rw [hj] at hu
   cases hu
   have hi:=(List.getElem?_eq_some_iff.mp hj).1
   have hd:=hdep tl (List.mem_of_getElem? hj)
   have hh:=AG tl.pt hd
   have hnext:bN t' p 0 (tls.take (i + 1))=bN t' p 0 (tls.take i)++(if eC tl.pt t' then [⟨i,tl.cls,tl.cost,(d5 tl.pt).map fun e=>(p++e.1,e.2)⟩] else []):=by
    rw [List.take_add_one,hj]
    have:=Bj t' p tl (tls.take i) 0
    rw [List.length_take,Nat.min_eq_left (Nat.le_of_lt hi),Nat.zero_add] at this
    exact this
   refine ⟨rfl,?_⟩
   simp_all! only [i9,gN,kI,hName]
   refine fD fun A B hA hB=>?_
   simp_all! only [zM]
   refine ⟨tl.pt,t',rfl,hd,?_⟩
   cases hl:eC tl.pt t' with
   | false =>
    rw [hl] at hnext
    simp only [Bool.false_eq_true,if_false,List.append_nil] at hnext
    simp only [m5,Bool.false_eq_true,if_false]
    subst hB
    simp only [fJ]
    exact ⟨_,_,_,rfl,by rw [hnext]⟩
   | true =>
    rw [hl] at hnext
    simp only [if_true] at hnext
    simp only [m5,if_true]
    subst hA
    refine aI fun V1 hV1=>?_
    refine eM (S:=⟨none,(d5 tl.pt).map dY⟩) (M1:=mup M r (.lst ((bN t' p 0 (tls.take i)).map Ld.toU))) (((d5 tl.pt).map fun e=>(p++e.1,e.2)).map dY) (fun R r'=>by simp_all! only [zM];exact ⟨tl.pt,rfl,hd,r'⟩) (by simp) (small (by show ((d5 tl.pt).map dY).length<=_;rw [List.length_map];omega)) (fun a e=>by cases e) ?_ ?_
    ·intro j x y hx hy M' hS R r'
     have hx':((d5 tl.pt).map dY)[j]?=some x:=hx
     rw [List.getElem?_map] at hx' hy
     rw [List.getElem?_map] at hy
     cases hj':(d5 tl.pt)[j]? with
     | none=>rw [hj'] at hx';cases hx'
     | some e' =>
      rw [hj'] at hx' hy
      cases hx';cases hy
      have hsh:e'.1.length<=1000:=by
       have h1:=(List.mem_of_getElem? hj')
       have h2:e'.1∈tl.pt.places:=by
        obtain ⟨y,hy1,hy2⟩:=List.mem_filterMap.mp h1
        have h3:y.1∈(b8 tl.pt []).map (·.1):=List.mem_map.mpr ⟨y,hy1,rfl⟩
        rw [i5] at h3
        have h4:y.1=e'.1:=by
         obtain ⟨y1,y2⟩:=y
         cases y2 <;> simp [hF] at hy2
         rw [<- hy2]
        rw [h4] at h3
        simpa using h3
       have:=kQ tl.pt e'.1 h2
       omega
      simp_all! only [dY,aQ,i9,gN,kI,hName]
      refine ⟨small (by rw [List.length_map,List.length_map];omega),?_⟩
      rw [<- List.map_append]
      exact r'
    ·simp_all! only [hName]
     subst hV1
     simp_all! only [gC,zM]
     have hll:=oM t' p (tls.take i) 0
     rw [List.length_take] at hll
     refine ⟨qL,big (by rw [List.length_map];omega),_,_,_,rfl,?_⟩
     rw [hnext,List.map_append]
     rfl
 ·rintro τ Mi ⟨z5,z6,z7,rfl,rfl⟩
  rw [jZ,List.length_map,List.take_length]
  subst hV
  simp_all! only [gH]
  exact ⟨_,M,(Sub.refl M).mup hr,.inr ⟨r,_,rfl,aF,hr,rfl⟩,q⟩
theorem lD {M:aD} {a b:Addr} {x y:MO} (h:a≠b):mup (mup M a x) b y=mup (mup M b y) a x:=by
 funext z
 by_cases e1:z=a
 ·subst e1;rw [aM h,aF,aF]
 ·by_cases e2:z=b
  ·subst e2;rw [aF,aM e1,aF]
  ·rw [aM e2,aM e1,aM e1,aM e2]
structure Ap (v c p1 p2:Addr):Prop where
 vc:v≠c
 v1:v≠p1
 v2:v≠p2
 c1:c≠p1
 c2:c≠p2
 p12:p1≠p2
def fW (M:aD) (v c p1 p2:Addr) (KV KC:List (List Key × U)) (m:VM) (ch:CM):aD:=mup (mup (mup (mup M v (.dT KV)) c (.dT KC)) p1 (.dK (lY m))) p2 (.dK (rD ch))
section
variable {M:aD} {v c p1 p2:Addr} {KV KC:List (List Key × U)} {m:VM} {ch:CM}
theorem BJ (h:Ap v c p1 p2):fW M v c p1 p2 KV KC m ch v=some (.dT KV):=by unfold fW;rw [aM h.v2,aM h.v1,aM h.vc,aF]
theorem LL (h:Ap v c p1 p2):fW M v c p1 p2 KV KC m ch c=some (.dT KC):=by unfold fW;rw [aM h.c2,aM h.c1,aF]
theorem zA (h:Ap v c p1 p2):fW M v c p1 p2 KV KC m ch p1=some (.dK (lY m)):=by unfold fW;rw [aM h.p12,aF]
theorem LV:fW M v c p1 p2 KV KC m ch p2=some (.dK (rD ch)):=aF
theorem KU (h:Ap v c p1 p2) {m':VM}:mup (fW M v c p1 p2 KV KC m ch) p1 (.dK (lY m'))=fW M v c p1 p2 KV KC m' ch:=by
 unfold fW;rw [<- lD h.p12,bV]
theorem JV {ch':CM}:mup (fW M v c p1 p2 KV KC m ch) p2 (.dK (rD ch'))=fW M v c p1 p2 KV KC m ch':=by unfold fW;rw [bV]
end
def Jm (kvs:List (Key × U)):VM:=kvs.filterMap fun e=>match e with
 | (.inr c,.int v)=>some (c,v)
 | _=>none
theorem Lr (m:VM):Jm (lY m)=m:=by
 induction m with
 | nil=>rfl
 | cons e m ih=>simp only [lY,Jm,List.map_cons,List.filterMap_cons] at ih ⊢;rw [ih]
def Oh (B:Nat) (cs:List Str) (p1:Addr) (τ:SU) (M:aD):Nat:=2 * (match M p1 with | some (.dK kvs)=>mu B cs (Jm kvs) | _=>0) + (match τ[5]? with | some (some (.bl true))=>1 | _=>0)
def E6 (fj:Addr):cV:=fun us M Q=>∃ (ls:List Ld) (p:List Nat) (v c:Addr) (vs:VS) (chs:CS) (cs:List Str) (sz:Nat),us=[.lst (ls.map Ld.toU),aQ p,.ref v,.ref c,.ref fj]/\v≠c/\M v=some (.dT (jV vs))/\M c=some (.dT (jK chs))/\asc vs p=none/\asc chs p=none/\vs.length<=1000/\chs.length<=1000/\ls.length<=1000/\EA vs/\cs.length<=6/\1<=sz/\sz<=1000/\(∀ l∈ls,Ci cs vs p sz l) /\
 ∀ (p1 p2:Addr) (m:VM) (ch:CM),M p1=none->M p2=none->p1≠p2->rV cs vs p sz ls m ch->Q .non (fW M v c p1 p2 (jV vs++[(pk p,.ref p1)]) (jK chs++[(pk p,.ref p2)]) m ch)
theorem Lm {fj:Addr} (F:dE K "fill_least" "fill_least" oD f fd) (hm:mg "fill_least"=some (.ref f)) (hNK:iC K) (CZ:Callee P w K mg base 2 "join_spots" (HQ fj) []):Callee P w K mg base 3 "fill_least" (E6 fj) []:=by
 refine bT F hm dP (RJ fun _ _ _ _ _ _ _ _ _ _ _=>rfl) (aE (i4 true (fun _=>hNK) (iX false) (uv 2) (uv 1))
 (aE (i4 true (fun _=>hNK) (iX false) (uv 3) (uv 1))
 (aE (aY 5 dP.nd v5)
 (aJ (wV (qD (uv 5))
 (aE (aY 5 dP.nd v5)
 (aJ (eG (dD (uv 0)) (dU (n:=4) (aT (aO (k:=1000) 6 dP.nd) (aT (aO (k:=1000) 7 dP.nd) (aT (aO (k:=1000) 8 dP.nd) (aT (aO (k:=1000) 9 dP.nd) cW)))))
 (aE (aY 10 dP.nd (aU CZ (aA (uv 8) (aA (uv 9) (aA (uv 2) (aA (uv 4) aB))))))
 (aJ (dW (l5.pt (Co (cP CH (uv 10) zP) (AB (l5.pt (pM (cP (JQ false i8) (uv 7) (dA true (fun _=>hNK) (uv 2) (uv 1))) (oN (cP BF (uv 10) (dA false i8 (dA true (fun _=>hNK) (uv 2) (uv 1)) (uv 7)))))))))
 (aE (i4 false i8 (uv 10) (dA true (fun _=>hNK) (uv 2) (uv 1)) (uv 7))
 (aE (i4 false i8 (bI (aA (uv 6) (aA (uv 9) aB))) (dA true (fun _=>hNK) (uv 3) (uv 1)) (uv 7))
 (aJ (aY 5 dP.nd v5))))
 cT))))))))))) ?_
 rintro us M Q ⟨ls,p,v,c,vs,chs,cs,sz,rfl,hvc,hMv,hMc,hvp,hcp,hvl,hcl,hll,hlow,h6,hs1,hs2,hok,q⟩
 refine ⟨rfl,?_⟩
 have vs0:cH (jV vs) (pk p)=none:=by rw [Gx,hvp];rfl
 have cs0:cH (jK chs) (pk p)=none:=by rw [Fm,hcp];rfl
 refine aI fun V hV=>?_
 simp_all! only [kC]
 intro p1 hp1
 have hv1:v≠p1:=fun z=>by subst z;rw [hMv] at hp1;cases hp1
 have hc1:c≠p1:=fun z=>by subst z;rw [hMc] at hp1;cases hp1
 simp only [v9,aM hv1,hMv,aQ,qQ,Bool.false_eq_true,if_false]
 refine ⟨big (by rw [jV,List.length_map];omega),?_⟩
 rw [sA vs0]
 subst hV
 refine aI fun V hV=>?_
 simp_all! only [kC]
 intro p2 hp2
 have hp21:p2≠p1:=fun z=>by subst z;rw [aM (fun e=>hv1 e.symm),aF] at hp2;cases hp2
 have hp2v:p2≠v:=fun z=>by subst z;rw [aF] at hp2;cases hp2
 rw [aM hp2v,aM hp21] at hp2
 have hp2c:p2≠c:=fun z=>by subst z;rw [hMc] at hp2;cases hp2
 simp only [v9,aM (fun e=>hp2c e.symm:c≠p2),aM (fun e=>hvc e.symm:c≠v),aM hc1,hMc,aQ,qQ,Bool.false_eq_true,if_false]
 refine ⟨big (by rw [jK,List.length_map];omega),?_⟩
 rw [sA cs0]
 have ap:Ap v c p1 p2:=⟨hvc,hv1,fun e=>hp2v e.symm,hc1,fun e=>hp2c e.symm,fun e=>hp21 e.symm⟩
 have e0:mup (mup (mup (mup M p1 (.dK [])) v (.dT (jV vs++[(pk p,.ref p1)]))) p2 (.dK [])) c (.dT (jK chs++[(pk p,.ref p2)]))=fW M v c p1 p2 (jV vs++[(pk p,.ref p1)]) (jK chs++[(pk p,.ref p2)]) [] []:=by
  unfold fW
  show _=mup (mup (mup (mup M v _) c _) p1 (.dK [])) p2 (.dK [])
  rw [lD (a:=p2) (b:=c) (fun e=>ap.c2 e.symm),lD (a:=p1) (b:=v) (fun e=>ap.v1 e.symm),lD (a:=p1) (b:=c) (fun e=>ap.c1 e.symm)]
 rw [e0]
 have q2:=fun m ch=>q p1 p2 m ch hp1 hp2 ap.p12
 generalize hKV:jV vs++[(pk p,U.ref p1)]=KV at *
 generalize hKC:jK chs++[(pk p,U.ref p2)]=KC at *
 have hKVp:cH KV (pk p)=some (.ref p1):=by
  rw [<- hKV,oG,vs0];exact jQ (p:=(pk p,U.ref p1)) rfl
 have hKCp:cH KC (pk p)=some (.ref p2):=by
  rw [<- hKC,oG,cs0];exact jQ (p:=(pk p,U.ref p2)) rfl
 have vals:∀ (m:VM) (ch:CM) (s:List Nat × Str),(s.1=p\/(asc vs s.1).isSome=true)->vA (fW M v c p1 p2 KV KC m ch) v (cur vs p m) s:=by
  intro m ch s hs
  by_cases e:s.1=p
  ·refine ⟨KV,.ref p1,lY m,BJ ap,by rw [e];exact hKVp,zA ap,?_⟩
   unfold cur;rw [if_pos e];exact yG m s.2
  ·have h2:=hs.resolve_left e
   obtain ⟨m2,hm2⟩:=Option.isSome_iff_exists.mp h2
   refine ⟨KV,mS m2,lY m2,BJ ap,?_,Dl m2,?_⟩
   ·rw [<- hKV,oG,Gx,hm2];rfl
   ·unfold cur bY;rw [if_neg e,hm2];exact yG m2 s.2
 subst hV
 refine aI fun V hV=>?_
 simp_all! only [bR,hName]
 subst hV
 refine wF (fun τ Mi=>∃ (m:VM) (ch:CM) (low:Bool) (z6 z7 z8 z9 z10:Option U),τ=[some (.lst (ls.map Ld.toU)),some (aQ p),some (.ref v),some (.ref c),some (.ref fj),some (.bl low),z6,z7,z8,z9,z10]/\Mi=fW M v c p1 p2 KV KC m ch/\J cs vs p sz ls m ch/\(low=false->Fix vs p ls m)) (Oh (6000 * sz + 1) cs p1)
  ⟨[],[],true,none,none,none,none,none,rfl,rfl,J.nil,fun h=>by cases h⟩ ?_
 rintro τ Mi ⟨m,ch,low,z6,z7,z8,z9,z10,rfl,rfl,j,hfix⟩
 have hmea:∀ (m':VM) (ch':CM) (b:Bool) (y6 y7 y8 y9 y10:Option U),Oh (6000 * sz + 1) cs p1 [some (.lst (ls.map Ld.toU)),some (aQ p),some (.ref v),some (.ref c),some (.ref fj),some (.bl b),y6,y7,y8,y9,y10] (fW M v c p1 p2 KV KC m' ch')=2 * mu (6000 * sz + 1) cs m' + (if b then 1 else 0):=by
  intro m' ch' b y6 y7 y8 y9 y10
  unfold Oh
  rw [zA ap]
  simp only [Lr]
  cases b <;> rfl
 simp_all! only [true_and]
 cases low with
 | false =>
  simp only [Bool.false_eq_true,if_false]
  exact aZ (q2 m ch (j.fill h6 (hfix rfl)))
 | true =>
  simp only [if_true]
  refine aI fun V hV=>?_
  simp_all! only [bR,hName]
  subst hV
  refine eT (S:=⟨none,ls.map Ld.toU⟩) (M1:=fW M v c p1 p2 KV KC m ch) (fun R r=>by simp_all! only [true_and];exact r)
   (fun i τ Mi=>∃ (m':VM) (ch':CM) (low:Bool) (z6 z7 z8 z9 z10:Option U),τ=[some (.lst (ls.map Ld.toU)),some (aQ p),some (.ref v),some (.ref c),some (.ref fj),some (.bl low),z6,z7,z8,z9,z10]/\Mi=fW M v c p1 p2 KV KC m' ch'/\J cs vs p sz ls m' ch'/\(low=false->m'=m/\∀ (k:Nat) (l:Ld),k < i->ls[k]?=some l->∀ w,cO (cur vs p m') l.spots=some w->∃ v,asc m' l.cls=some v/\v<=l.price + w)/\(low=true->mu (6000 * sz + 1) cs m' < mu (6000 * sz + 1) cs m))
   ⟨m,ch,false,z6,z7,z8,z9,z10,rfl,rfl,j,(fun _=>⟨rfl,fun k l h=>by omega⟩),fun h=>by cases h⟩ nk ?_ ?_
  ·rintro i x τ Mi e ⟨m',ch',low,y6,y7,y8,y9,y10,rfl,rfl,j',hf,ht⟩
   have e':(ls.map Ld.toU)[i]?=some x:=e
   rw [List.getElem?_map] at e'
   cases hj:ls[i]? with
   | none=>rw [hj] at e';cases e'
   | some l =>
    rw [hj] at e'
    cases e'
    have hl:=List.mem_of_getElem? hj
    have ok:=hok l hl
    have h0:=j'.cur0 hlow
    have hb:∀ s a,cur vs p m' s=some a->0<=a/\a<=100000000:=fun s a h=>by
     have h2:=h
     unfold cur at h2
     split at h2
     ·have h3:=j'.just _ _ h2
      have h4:=j'.len6 h6
      exact ⟨h3.1,by have:=h3.2.1;omega⟩
     ·exact hlow _ _ h2
    generalize hPP:(fun (τ:SU) (Mi:aD)=>∃ (m':VM) (ch':CM) (low:Bool) (z6 z7 z8 z9 z10:Option U),τ=[some (.lst (ls.map Ld.toU)),some (aQ p),some (.ref v),some (.ref c),some (.ref fj),some (.bl low),z6,z7,z8,z9,z10]/\Mi=fW M v c p1 p2 KV KC m' ch'/\J cs vs p sz ls m' ch'/\(low=false->m'=m/\∀ (k:Nat) (l:Ld),k < i + 1->ls[k]?=some l->∀ w,cO (cur vs p m') l.spots=some w->∃ v,asc m' l.cls=some v/\v<=l.price + w)/\(low=true->mu (6000 * sz + 1) cs m' < mu (6000 * sz + 1) cs m))=PP
    have stay:∀ z:Option U,(∀ w,cO (cur vs p m') l.spots=some w->∃ v,asc m' l.cls=some v/\v<=l.price + w)->PP [some (.lst (ls.map Ld.toU)),some (aQ p),some (.ref v),some (.ref c),some (.ref fj),some (.bl low),some (.int l.n),some (.str l.cls),some (.int l.price),some (.lst (l.spots.map dY)),z] (fW M v c p1 p2 KV KC m' ch'):=by
     intro z hz
     rw [<- hPP]
     refine ⟨m',ch',low,_,_,_,_,_,rfl,rfl,j',fun h=>⟨(hf h).1,fun k l' hk hk2=>?_⟩,ht⟩
     by_cases hki:k=i
     ·subst hki;rw [hj] at hk2;cases hk2;exact hz
     ·exact (hf h).2 k l' (by omega) hk2
    refine ⟨rfl,?_⟩
    simp_all! only [i9,gN,kI,hName]
    refine aI fun V1 hV1=>?_
    simp_all! only [bR,hName]
    refine ⟨l.price,l.spots,v,cur vs p m',rfl,ok.len,fun s hs=>vals m' ch' s (ok.there s hs),fun s _ a ha=>hb s a ha,?_⟩
    subst hV1
    refine fD fun A B hA hB=>?_
    cases hw:cO (cur vs p m') l.spots with
    | none =>
     simp_all! only [F0]
     subst hB
     simp only [fJ]
     exact stay _ fun w h=>by rw [hw] at h;cases h
    | some wv =>
     have lk1:cR true (fW M v c p1 p2 KV KC m' ch') (.ref v) (aQ p)=some (some (.ref p1)):=by rw [Cc p (BJ ap),hKVp]
     have lk2:cR false (fW M v c p1 p2 KV KC m' ch') (.ref p1) (.str l.cls)=some ((asc m' l.cls).map U.int):=by have hd:d7 (fW M v c p1 p2 KV KC m' ch') (.ref p1)=some (.dK (lY m')):=zA ap;rw [lW l.cls hd,yG]
     have yes:(∀ v,asc m' l.cls=some v->l.price + wv < v)->A (fW M v c p1 p2 KV KC m' ch'):=by
      intro hlt
      have j2:=j'.step hlow hl ok hw hlt
      have jl:=j'.low hlow hl ok h6 hs1 hw hlt
      have jl6:=j'.len6 h6
      have jc6:ch'.length=m'.length:=by have:=congrArg List.length j'.keys;simpa using this.symm
      subst hA
      refine aI fun V2 hV2=>?_
      simp_all! only [kC,hw,F0,lk1,kP,zA ap]
      refine ⟨big (by rw [lY,List.length_map];omega),?_⟩
      rw [M7,KU ap]
      subst hV2
      refine aI fun V2 hV2=>?_
      have lk3:cR true (fW M v c p1 p2 KV KC (dM m' l.cls (l.price + wv)) ch') (.ref c) (aQ p)=some (some (.ref p2)):=by rw [Cc p (LL ap),hKCp]
      simp_all! only [kC,lk3,kP,LV]
      refine ⟨big (by rw [rD,List.length_map];omega),?_⟩
      have ec:U.tup [U.int l.n,U.lst (l.spots.map dY)]=qH l:=rfl
      rw [ec,N0,JV]
      subst hV2
      simp_all! only [bR,hName]
      rw [<- hPP]
      refine ⟨_,_,true,_,_,_,_,_,rfl,rfl,j2,(fun h=>by cases h),fun _=>?_⟩
      cases low with
      | true=>have:=ht rfl;omega
      | false=>have:=(hf rfl).1;subst this;exact jl
     simp_all! only [F0,lk1,lk2]
     cases hm':asc m' l.cls with
     | none =>
      simp_all! only [Option.map_none,Option.isSome_none]
      exact yes fun v h=>by rw [hm'] at h;cases h
     | some old =>
      simp_all! only [Option.map_some,Option.isSome_some,lk1,lk2,hm']
      refine oU (fun hlt=>?_) (fun hge=>?_)
      ·exact yes fun v h=>by rw [hm'] at h;cases h;simpa using hlt
      ·subst hB
       simp only [fJ]
       refine stay _ fun w h=>?_
       rw [hw] at h;cases h
       have:¬ l.price + wv < old:=by simpa using hge
       exact ⟨old,hm',by omega⟩
  ·rintro τ Mi ⟨m',ch',low,y6,y7,y8,y9,y10,rfl,rfl,j',hf,ht⟩
   have hlen:(Src.mk none (ls.map Ld.toU)).xs.length=ls.length:=by show (ls.map Ld.toU).length=_;rw [List.length_map]
   rw [hlen] at hf
   refine ⟨⟨m',ch',low,_,_,_,_,_,rfl,rfl,j',fun h l hl w hw=>?_⟩,?_⟩
   ·obtain ⟨k,hk⟩:=List.getElem?_of_mem hl
    exact (hf h).2 k l (List.getElem?_eq_some_iff.mp hk).1 hk w hw
   ·rw [hmea,hmea]
    cases low with
    | true=>have:=ht rfl;simp only [if_true];omega
    | false=>have:=(hf rfl).1;subst this;simp only [if_true,Bool.false_eq_true,if_false];omega
def Tr.at:Tr->List Nat->Option Tr
 | t,[]=>some t
 | .turn a,0 :: r=>a.at r
 | .two _ a _,0 :: r=>a.at r
 | .two _ _ b,1 :: r=>b.at r
 | _,_=>none
theorem lQ (t:Tr):t.at []=some t:=by cases t <;> rfl
theorem oQ:∀ (t:Tr) (p:List Nat),p∈t.places->∃ t',t.at p=some t'
 | .turn a,p,h=>by
  simp only [Tr.places,List.mem_cons,List.mem_map] at h
  rcases h with rfl | ⟨q,hq,rfl⟩
  ·exact ⟨_,rfl⟩
  ·exact oQ a q hq
 | .two o a b,p,h=>by
  simp only [Tr.places,List.mem_cons,List.mem_append,List.mem_map] at h
  rcases h with rfl | ⟨q,hq,rfl⟩ | ⟨q,hq,rfl⟩
  ·exact ⟨_,rfl⟩
  ·exact oQ a q hq
  ·exact oQ b q hq
 | .num _,p,h=>by simp [Tr.places] at h;subst h;exact ⟨_,rfl⟩
 | .name _,p,h=>by simp [Tr.places] at h;subst h;exact ⟨_,rfl⟩
theorem oV:∀ (t:Tr) (p:List Nat) (t':Tr),t.at p=some t'->p∈t.places
 | .turn a,[],_,_=>by simp [Tr.places]
 | .two _ a b,[],_,_=>by simp [Tr.places]
 | .num _,[],_,_=>by simp [Tr.places]
 | .name _,[],_,_=>by simp [Tr.places]
 | .turn a,0 :: r,t',h=>by
  have:=oV a r t' h
  simp only [Tr.places,List.mem_cons,List.mem_map]
  exact .inr ⟨r,this,rfl⟩
 | .two _ a b,0 :: r,t',h=>by
  have:=oV a r t' h
  simp only [Tr.places,List.mem_cons,List.mem_append,List.mem_map]
  exact .inr (.inl ⟨r,this,rfl⟩)
 | .two _ a b,1 :: r,t',h=>by
  have:=oV b r t' h
  simp only [Tr.places,List.mem_cons,List.mem_append,List.mem_map]
  exact .inr (.inr ⟨r,this,rfl⟩)
 | .turn _,(n + 1) :: r,_,h=>by simp [Tr.at] at h
 | .two _ _ _,(n + 2) :: r,_,h=>by simp [Tr.at] at h
 | .num _,n :: r,_,h=>by simp [Tr.at] at h
 | .name _,n :: r,_,h=>by simp [Tr.at] at h
theorem t5:∀ (t:Tr) (p:List Nat) (t':Tr),t.at p=some t'->iN t.toU p=some t'.toU
 | t,[],t',h=>by rw [lQ] at h;cases h;rfl
 | .turn a,0 :: r,t',h=>by simp only [iN,Tr.toU,zU,Option.bind_some];exact t5 a r t' h
 | .two _ a b,0 :: r,t',h=>by simp only [iN,Tr.toU,AD,Option.bind_some];exact t5 a r t' h
 | .two _ a b,1 :: r,t',h=>by simp only [iN,Tr.toU,zV,Option.bind_some];exact t5 b r t' h
 | .turn _,(n + 1) :: r,_,h=>by simp [Tr.at] at h
 | .two _ _ _,(n + 2) :: r,_,h=>by simp [Tr.at] at h
 | .num _,n :: r,_,h=>by simp [Tr.at] at h
 | .name _,n :: r,_,h=>by simp [Tr.at] at h
theorem oO:∀ (t:Tr) (p e:List Nat) (t':Tr),t.at p=some t'->t.at (p++e)=t'.at e
 | t,[],e,t',h=>by rw [lQ] at h;cases h;rfl
 | .turn a,0 :: r,e,t',h=>oO a r e t' h
 | .two _ a b,0 :: r,e,t',h=>oO a r e t' h
 | .two _ a b,1 :: r,e,t',h=>oO b r e t' h
 | .turn _,(n + 1) :: r,_,_,h=>by simp [Tr.at] at h
 | .two _ _ _,(n + 2) :: r,_,_,h=>by simp [Tr.at] at h
 | .num _,n :: r,_,_,h=>by simp [Tr.at] at h
 | .name _,n :: r,_,_,h=>by simp [Tr.at] at h
theorem qG:∀ (t:Tr) (p:List Nat) (t':Tr),t.at p=some t'->t'.size<=t.size
 | t,[],t',h=>by rw [lQ] at h;cases h;omega
 | .turn a,0 :: r,t',h=>by have:=qG a r t' h;simp only [Tr.size];omega
 | .two _ a b,0 :: r,t',h=>by have:=qG a r t' h;simp only [Tr.size];omega
 | .two _ a b,1 :: r,t',h=>by have:=qG b r t' h;simp only [Tr.size];omega
 | .turn _,(n + 1) :: r,_,h=>by simp [Tr.at] at h
 | .two _ _ _,(n + 2) :: r,_,h=>by simp [Tr.at] at h
 | .num _,n :: r,_,h=>by simp [Tr.at] at h
 | .name _,n :: r,_,h=>by simp [Tr.at] at h
theorem kA:∀ t:Tr,t.places.Pairwise fun x y=>¬ y <+: x
 | .turn a=>by
  simp only [Tr.places]
  refine List.pairwise_cons.mpr ⟨fun y hy=>?_,?_⟩
  ·obtain ⟨q,_,rfl⟩:=List.mem_map.mp hy;simp
  ·rw [List.pairwise_map]
   refine (kA a).imp fun {x y} h h2=>h ?_
   simpa using h2
 | .two o a b=>by
  simp only [Tr.places]
  refine List.pairwise_cons.mpr ⟨fun y hy=>?_,?_⟩
  ·rcases List.mem_append.mp hy with hy | hy
   ·obtain ⟨q,_,rfl⟩:=List.mem_map.mp hy;simp
   ·obtain ⟨q,_,rfl⟩:=List.mem_map.mp hy;simp
  ·refine List.pairwise_append.mpr ⟨?_,?_,fun x hx y hy=>?_⟩
   ·rw [List.pairwise_map]
    refine (kA a).imp fun {x y} h h2=>h ?_
    simpa using h2
   ·rw [List.pairwise_map]
    refine (kA b).imp fun {x y} h h2=>h ?_
    simpa using h2
   ·obtain ⟨q,_,rfl⟩:=List.mem_map.mp hx
    obtain ⟨q',_,rfl⟩:=List.mem_map.mp hy
    simp
 | .num _=>by simp [Tr.places]
 | .name _=>by simp [Tr.places]
def lS:Pt->Nat
 | .hole _=>0
 | .any=>1
 | .fr _ _=>1
 | .turn a=>1 + lS a
 | .two _ a b=>1 + (lS a + lS b)
theorem oK:∀ (pt:Pt) (t:Tr) (pre:List Nat),eC pt t=true->∃ bs:List Nat,bs.length=((b8 pt pre).filterMap hF).length/\bs.sum + lS pt=t.size/\∀ (i:Nat) (e:List Nat × Str) (b:Nat),((b8 pt pre).filterMap hF)[i]?=some e->bs[i]?=some b->∃ s t',e.1=pre++s/\t.at s=some t'/\t'.size=b/\(s=[]->∃ c,pt=.hole c)/\(gU pt t)[i]?=some (t',e.2)
 | .hole c,t,pre,_=>⟨[t.size],rfl,by simp [lS],fun i e b h1 h2=>by
   match i,h1,h2 with
   | 0,h1,h2=>cases h1;cases h2;exact ⟨[],t,by simp,lQ t,rfl,fun _=>⟨c,rfl⟩,by cases t <;> rfl⟩
   | i + 1,h1,h2=>cases h1⟩
 | .any,.name x,pre,_=>⟨[],rfl,rfl,fun i e b h1 h2=>by cases h1⟩
 | .fr l h,.num n,pre,_=>⟨[],rfl,rfl,fun i e b h1 h2=>by cases h1⟩
 | .turn p,.turn a,pre,hl=>by
  obtain ⟨bs,h1,h2,h3⟩:=oK p a (pre++[0]) hl
  refine ⟨bs,by simp only [b8,List.filterMap_cons,hF];exact h1,by simp only [lS,Tr.size];omega,fun i e b he hb=>?_⟩
  simp only [b8,List.filterMap_cons,hF] at he
  obtain ⟨s,t',e1,e2,e3,_,e5⟩:=h3 i e b he hb
  exact ⟨0 :: s,t',by rw [e1];simp,e2,e3,(fun z=>by cases z),e5⟩
 | .two o p q,.two o' a b,pre,hl=>by
  simp only [eC,Bool.and_eq_true] at hl
  obtain ⟨ho,hl1,hl2⟩:=hl
  obtain ⟨bs,h1,h2,h3⟩:=oK p a (pre++[0]) hl1
  obtain ⟨cs,k1,k2,k3⟩:=oK q b (pre++[1]) hl2
  refine ⟨bs++cs,by simp only [b8,List.filterMap_cons,hF,List.filterMap_append,List.length_append,h1,k1],by simp only [List.sum_append,lS,Tr.size];omega,fun i e bb he hb=>?_⟩
  simp only [b8,List.filterMap_cons,hF,List.filterMap_append] at he
  rw [List.getElem?_append] at he hb
  split at he
  ·rename_i hi
   rw [if_pos (by omega)] at hb
   obtain ⟨s,t',e1,e2,e3,_,e5⟩:=h3 i e bb he hb
   have hl1':=(nW p a (pre++[0]) hl1).1
   exact ⟨0 :: s,t',by rw [e1];simp,e2,e3,(fun z=>by cases z),by simp only [gU];rw [List.getElem?_append_left (by omega)];exact e5⟩
  ·rename_i hi
   rw [if_neg (by omega),h1] at hb
   obtain ⟨s,t',e1,e2,e3,_,e5⟩:=k3 _ e bb he hb
   have hl1':=(nW p a (pre++[0]) hl1).1
   exact ⟨1 :: s,t',by rw [e1];simp,e2,e3,(fun z=>by cases z),by simp only [gU];rw [List.getElem?_append_right (by omega),<- hl1'];exact e5⟩
 | .any,.num _,_,h=>by cases h
 | .any,.turn _,_,h=>by cases h
 | .any,.two _ _ _,_,h=>by cases h
 | .fr _ _,.name _,_,h=>by cases h
 | .fr _ _,.turn _,_,h=>by cases h
 | .fr _ _,.two _ _ _,_,h=>by cases h
 | .turn _,.num _,_,h=>by cases h
 | .turn _,.name _,_,h=>by cases h
 | .turn _,.two _ _ _,_,h=>by cases h
 | .two _ _ _,.num _,_,h=>by cases h
 | .two _ _ _,.name _,_,h=>by cases h
 | .two _ _ _,.turn _,_,h=>by cases h
theorem EW {σ:Type} {g:σ->Option Int}:∀ {l:List σ} {bs:List Nat} {w:Int},bs.length=l.length->(∀ (i:Nat) s b,l[i]?=some s->bs[i]?=some b->∀ a,g s=some a->a<=6000 * (b:Int))->cO g l=some w->w<=6000 * (bs.sum:Int)
 | [],[],w,_,_,h=>by cases h;simp
 | [],_ :: _,_,h,_,_=>by cases h
 | _ :: _,[],_,h,_,_=>by cases h
 | s :: l,b :: bs,w,hl,hb,h=>by
  obtain ⟨a,c,h1,h2,rfl⟩:=fM h
  have k1:=hb 0 s b rfl rfl a h1
  have k2:=EW (l:=l) (bs:=bs) (by simpa using hl) (fun i s b h1 h2=>hb (i + 1) s b h1 h2) h2
  rw [List.sum_cons]
  push_cast
  omega
inductive Bd (t:Tr) (tls:List Tl) (cs:List Str):List (List Nat)->VS->CS->Prop
 | nil:Bd t tls cs [] [] []
 | snoc {ps:List (List Nat)} {vs:VS} {chs:CS} {p:List Nat} {t':Tr} {m:VM} {ch:CM} (b:Bd t tls cs ps vs chs) (hp:p ∉ ps) (ht:t.at p=some t') (hf:rV cs vs p t'.size (bN t' p 0 tls) m ch):Bd t tls cs (ps++[p]) (vs++[(p,m)]) (chs++[(p,ch)])
section
variable {t:Tr} {tls:List Tl} {cs:List Str} {ps:List (List Nat)} {vs:VS} {chs:CS}
theorem Bd.keysV (b:Bd t tls cs ps vs chs):vs.map (·.1)=ps:=by
 induction b with
 | nil=>rfl
 | snoc b hp ht hf ih=>rw [List.map_append,ih];rfl
theorem Bd.keysC (b:Bd t tls cs ps vs chs):chs.map (·.1)=ps:=by
 induction b with
 | nil=>rfl
 | snoc b hp ht hf ih=>rw [List.map_append,ih];rfl
theorem Bd.lenV (b:Bd t tls cs ps vs chs):vs.length=ps.length:=by rw [<- b.keysV,List.length_map]
theorem Bd.lenC (b:Bd t tls cs ps vs chs):chs.length=ps.length:=by rw [<- b.keysC,List.length_map]
theorem Bd.noV (b:Bd t tls cs ps vs chs) {p:List Nat} (h:p ∉ ps):asc vs p=none:=by rw [C7,b.keysV];exact h
theorem Bd.noC (b:Bd t tls cs ps vs chs) {p:List Nat} (h:p ∉ ps):asc chs p=none:=by rw [C7,b.keysC];exact h
theorem Bd.val (b:Bd t tls cs ps vs chs):∀ s v,bY vs s=some v->∃ t',t.at s.1=some t'/\0<=v/\v<=6000 * t'.size:=by
 induction b with
 | nil=>intro s v h;cases h
 | @snoc ps vs chs p t' m ch b hp ht hf ih =>
  intro s v h
  rw [<- fY (b.noV hp)] at h
  unfold cur at h
  split at h
  ·rename_i e
   obtain ⟨h1,h2,_⟩:=hf.just _ _ h
   exact ⟨t',by rw [e];exact ht,h1,h2⟩
  ·exact ih s v h
theorem Bd.low (b:Bd t tls cs ps vs chs) (hs:t.size<=1000):EA vs:=fun s v h=>by
 obtain ⟨t',h1,h2,h3⟩:=b.val s v h
 have:=qG t s.1 t' h1
 exact ⟨h2,by omega⟩
theorem oZ {t:Tr} {p:List Nat}:∀ {tls:List Tl} {k:Nat} {l:Ld},l∈bN t p k tls->∃ (i:Nat) (tl:Tl),tls[i]?=some tl/\eC tl.pt t=true/\l=⟨k + i,tl.cls,tl.cost,(d5 tl.pt).map fun e=>(p++e.1,e.2)⟩
 | [],k,l,h=>by cases h
 | a :: r,k,l,h=>by
  simp only [bN,List.mem_append] at h
  rcases h with h | h
  ·split at h
   ·rename_i hl
    cases List.mem_singleton.mp h
    exact ⟨0,a,rfl,hl,rfl⟩
   ·cases h
  ·obtain ⟨i,tl,h1,h2,h3⟩:=oZ h
   exact ⟨i + 1,tl,h1,h2,by rw [h3,show k + 1 + i=k + (i + 1) by omega]⟩
theorem Bd.ld {A B:List (List Nat)} {p:List Nat} {t':Tr} (hT:Tab cs tls) (hpl:t.places=A++p :: B) (ht:t.at p=some t') (b:Bd t tls cs B.reverse vs chs):∀ l∈bN t' p 0 tls,Ci cs vs p t'.size l:=by
 intro l hl
 obtain ⟨i,tl,h1,h2,rfl⟩:=oZ hl
 have hg:=hT.good tl (List.mem_of_getElem? h1)
 have hg1:tl.pt.ok:=hg.1
 have hg2:tl.pt.dep<=4:=hg.2.1
 have hg3:tl.cls∈cs:=hg.2.2.1
 have hg4:0<=tl.cost:=hg.2.2.2.1
 have hg5:tl.cost<=1000:=hg.2.2.2.2
 obtain ⟨bs,g1,g2,g3⟩:=oK tl.pt t' [] h2
 have hh:=AG tl.pt (by omega)
 have hpre:=kA t
 rw [hpl] at hpre
 have below:∀ (s:List Nat) (t2:Tr),t'.at s=some t2->s≠[]->(p++s)∈B.reverse:=fun s t2 hs hne=>by
  have hin:p++s∈t.places:=oV t _ t2 (by rw [oO t p s t' ht];exact hs)
  rw [hpl] at hin
  rcases List.mem_append.mp hin with hin | hin
  ·have:=(List.pairwise_append.mp hpre).2.2 _ hin p List.mem_cons_self
   exact absurd (List.prefix_append p s) this
  ·rcases List.mem_cons.mp hin with hin | hin
   ·exact absurd (List.append_right_eq_self.mp hin) hne
   ·exact List.mem_reverse.mpr hin
 have each:∀ (j:Nat) (e:List Nat × Str),(d5 tl.pt)[j]?=some e->∃ s t2 bb,bs[j]?=some bb/\e.1=s/\t'.at s=some t2/\t2.size=bb/\(s=[]->∃ c,tl.pt=.hole c):=fun j e he=>by
  have hj:=(List.getElem?_eq_some_iff.mp he).1
  have hb:bs[j]?=some (bs[j]'(by rw [g1];exact hj)):=List.getElem?_eq_getElem _
  obtain ⟨s,t2,e1,e2,e3,e4,_⟩:=g3 j e _ he hb
  exact ⟨s,t2,_,hb,by simpa using e1,e2,e3,e4⟩
 refine ⟨hg4,hg5,hg3,by rw [List.length_map];exact hh,fun s hs=>?_,?_⟩
 ·obtain ⟨e,he,rfl⟩:=List.mem_map.mp hs
  obtain ⟨j,hj⟩:=List.getElem?_of_mem he
  obtain ⟨s,t2,bb,_,e1,e2,_⟩:=each j e hj
  rw [e1]
  by_cases hn:s=[]
  ·left;rw [hn];simp
  ·right
   rw [eI,b.keysV]
   exact below s t2 e2 hn
 ·cases hpt:tl.pt with
  | hole c=>left;exact ⟨c,by simp [d5,b8,hF]⟩
  | _ =>
   right
   have hnh:∀ c,tl.pt≠.hole c:=fun c z=>by rw [hpt] at z;cases z
   have hbk:1<=lS tl.pt:=by rw [hpt];simp [lS]
   rw [<- hpt]
   refine ⟨fun s hs=>?_,fun w hw=>?_⟩
   ·obtain ⟨e,he,rfl⟩:=List.mem_map.mp hs
    obtain ⟨j,hj⟩:=List.getElem?_of_mem he
    obtain ⟨s,t2,bb,_,e1,e2,_,e4⟩:=each j e hj
    intro z
    have z':p++e.1=p:=z
    rw [List.append_right_eq_self,e1] at z'
    obtain ⟨c,hc⟩:=e4 z'
    exact hnh c hc
   ·have:=EW (bs:=bs) (by rw [g1,List.length_map];rfl) (fun i s bb hs hb a ha=>?_) hw
    ·omega
    ·rw [List.getElem?_map] at hs
     cases hj:(d5 tl.pt)[i]? with
     | none=>rw [hj] at hs;cases hs
     | some e =>
      rw [hj] at hs
      cases hs
      obtain ⟨s,t2,bb',hb',e1,e2,e3,_⟩:=each i e hj
      rw [hb] at hb';cases hb'
      obtain ⟨t3,k1,k2,k3⟩:=b.val _ _ ha
      dsimp only at k1
      rw [e1,oO t p s t' ht,e2] at k1
      cases k1
      rw [<- e3];exact k3
end
section
variable {κ γ:Type} {H:Hp} {M1 M':aD}
theorem zW (st:aP H M1 H M') {k:κ} {u u':U} (hu:∀ x,aK K H M1 u x->aK K H M' u' x):∀ {xs:List (κ × U)} {ws:List (κ × V)},cD K H M1 (xs++[(k,u)]) ws->cD K H M' (xs++[(k,u')]) ws
 | [],ws,r=>by
  cases r with
  | cons h t=>cases t;exact .cons ⟨h.1,hu _ h.2⟩ .nil
 | x :: xs,ws,r=>by
  cases r with
  | cons h t=>exact .cons ⟨h.1,h.2.stp st⟩ (zW st hu t)
theorem xG {α:Type} (k:α->κ) (g:γ->U) {M:aD}:∀ {l:List (α × γ)} {ws:List (κ × V)},cD K H M (l.map fun e=>(k e.1,g e.2)) ws->l.map (fun e=>k e.1)=ws.map (·.1)/\aH K H M (l.map fun e=>g e.2) (ws.map (·.2))
 | [],ws,r=>by cases r;exact ⟨rfl,.nil⟩
 | e :: l,ws,r=>by
  rw [List.map_cons] at r
  cases r with
  | cons h t =>
   obtain ⟨h1,h2⟩:=xG k g t
   refine ⟨?_,.cons h.2 h2⟩
   rw [List.map_cons,List.map_cons,h1]
   exact congrArg (· :: _) h.1
end
theorem BW {H:Hp} {M1 M':aD} {γ:Type} (g:γ->U) {l:List (Str × γ)} {a:Addr} (rm:RelM K H M1) (h:M1 a=some (.dK (l.map fun e=>(Sum.inr e.1,g e.2)))) (hn:M' a=none) (st:aP H M1 H M'):aK K H M' (.dic (l.map fun e=>[Sum.inr e.1]) false (l.map fun e=>g e.2)) (.ref a):=by
 obtain ⟨ws,h1,r⟩:=rm a _ h
 obtain ⟨h2,h3⟩:=xG (fun c:Str=>(Sum.inr c:Key)) g r
 simp only [aK]
 refine ⟨a,ws.map (·.2),rfl,hn,⟨ws,.inl h1,?_,rfl⟩,h3.stp st⟩
 have:=congrArg (List.map fun k:Key=>[k]) h2
 rw [List.map_map,List.map_map] at this
 exact this
theorem Dd {H:Hp} {M1 M':aD} {γ:Type} (g:γ->U) {l:List (List Nat × γ)} {a:Addr} (rm:RelM K H M1) (h:M1 a=some (.dT (l.map fun e=>(pk e.1,g e.2)))) (hn:M' a=none) (st:aP H M1 H M'):aK K H M' (.dic (l.map fun e=>pk e.1) true (l.map fun e=>g e.2)) (.ref a):=by
 obtain ⟨ws,h1,r⟩:=rm a _ h
 obtain ⟨h2,h3⟩:=xG pk g r
 simp only [aK]
 exact ⟨a,ws.map (·.2),rfl,hn,⟨ws,.inl h1,h2,rfl⟩,h3.stp st⟩
def Ii (fj:Addr):cV:=fun us M Q=>∃ (ls:List Ld) (p:List Nat) (v c:Addr) (vs:VS) (chs:CS) (cs:List Str) (sz:Nat),us=[.lst (ls.map Ld.toU),aQ p,.ref v,.ref c,.ref fj]/\v≠c/\M v=some (.dT (jV vs))/\M c=some (.dT (jK chs))/\asc vs p=none/\asc chs p=none/\vs.length<=1000/\chs.length<=1000/\ls.length<=1000/\EA vs/\cs.length<=6/\1<=sz/\sz<=1000/\(∀ l∈ls,Ci cs vs p sz l) /\
 ∀ (m:VM) (ch:CM),rV cs vs p sz ls m ch->Q .non (mup (mup M v (.dT (jV (vs++[(p,m)])))) c (.dT (jK (chs++[(p,ch)]))))
theorem MH {fj:Addr} (C:Callee P w K mg base 3 "fill_least" (E6 fj) []):Callee P w K mg base 3 "fill_least" (Ii fj) []:=by
 refine Callee.conv C fun us M Q h=>?_
 obtain ⟨ls,p,v,c,vs,chs,cs,sz,rfl,hvc,hMv,hMc,h1,h2,h3,h4,h5,h6,h7,h8,h9,h10,q⟩:=h
 refine ⟨ls,p,v,c,vs,chs,cs,sz,rfl,hvc,hMv,hMc,h1,h2,h3,h4,h5,h6,h7,h8,h9,h10,fun p1 p2 m ch hp1 hp2 hp12 hf=>?_⟩
 have hv1:v≠p1:=fun z=>by subst z;rw [hMv] at hp1;cases hp1
 have hc1:c≠p1:=fun z=>by subst z;rw [hMc] at hp1;cases hp1
 have hv2:v≠p2:=fun z=>by subst z;rw [hMv] at hp2;cases hp2
 have hc2:c≠p2:=fun z=>by subst z;rw [hMc] at hp2;cases hp2
 have ap:Ap v c p1 p2:=⟨hvc,hv1,hv2,hc1,hc2,hp12⟩
 refine ⟨.non,_,fun K H x rm ru=>?_,q m ch hf⟩
 generalize hM1:fW M v c p1 p2 (jV vs++[(pk p,.ref p1)]) (jK chs++[(pk p,.ref p2)]) m ch=M1 at *
 generalize hM':mup (mup M v (.dT (jV (vs++[(p,m)])))) c (.dT (jK (chs++[(p,ch)])))=M' at *
 have a1:M1 p1=some (.dK (lY m)):=by rw [<- hM1];exact zA ap
 have a2:M1 p2=some (.dK (rD ch)):=by rw [<- hM1];exact LV
 have av:M1 v=some (.dT (jV vs++[(pk p,.ref p1)])):=by rw [<- hM1];exact BJ ap
 have ac:M1 c=some (.dT (jK chs++[(pk p,.ref p2)])):=by rw [<- hM1];exact LL ap
 have n1:M' p1=none:=by rw [<- hM',aM (fun e=>hc1 e.symm),aM (fun e=>hv1 e.symm)];exact hp1
 have n2:M' p2=none:=by rw [<- hM',aM (fun e=>hc2 e.symm),aM (fun e=>hv2 e.symm)];exact hp2
 have oth:∀ b,b≠v->b≠c->b≠p1->b≠p2->M1 b=M b/\M' b=M b:=fun b b1 b2 b3 b4=>by
  rw [<- hM1,<- hM'];unfold fW
  rw [aM b4,aM b3,aM b2,aM b1,aM b2,aM b1];exact ⟨rfl,rfl⟩
 have st:aP H M1 H M':=aP.less fun b hb=>by
  have b1:b≠v:=fun z=>by subst z;rw [av] at hb;cases hb
  have b2:b≠c:=fun z=>by subst z;rw [ac] at hb;cases hb
  have b3:b≠p1:=fun z=>by subst z;rw [a1] at hb;cases hb
  have b4:b≠p2:=fun z=>by subst z;rw [a2] at hb;cases hb
  obtain ⟨o1,o2⟩:=oth b b1 b2 b3 b4
  rw [o2,<- o1];exact hb
 refine ⟨st,fun a mo e=>?_,ru.stp st⟩
 by_cases e2:a=c
 ·subst e2
  rw [<- hM',aF] at e
  cases e
  obtain ⟨ws,g1,r⟩:=rm a _ ac
  refine ⟨ws,g1,?_⟩
  have ec:jK (chs++[(p,ch)])=jK chs++[(pk p,l8 ch)]:=by simp [jK]
  rw [ec]
  exact zW st (fun x rx=>by rw [rx.ref];exact BW qH rm a2 n2 st) r
 ·by_cases e1:a=v
  ·subst e1
   rw [<- hM',aM e2,aF] at e
   cases e
   obtain ⟨ws,g1,r⟩:=rm a _ av
   refine ⟨ws,g1,?_⟩
   have ec:jV (vs++[(p,m)])=jV vs++[(pk p,mS m)]:=by simp [jV]
   rw [ec]
   exact zW st (fun x rx=>by rw [rx.ref];exact BW U.int rm a1 n1 st) r
  ·have e3:a≠p1:=fun z=>by subst z;rw [n1] at e;cases e
   have e4:a≠p2:=fun z=>by subst z;rw [n2] at e;cases e
   obtain ⟨o1,o2⟩:=oth a e1 e2 e3 e4
   rw [o2,<- o1] at e
   refine (rm a mo e).stp (fun b q hb=>?_) st rfl
   by_cases b2:b=c
   ·subst b2;rw [<- hM',aF] at hb;cases hb
   ·by_cases b1:b=v
    ·subst b1;rw [<- hM',aM b2,aF] at hb;cases hb
    ·have b3:b≠p1:=fun z=>by subst z;rw [n1] at hb;cases hb
     have b4:b≠p2:=fun z=>by subst z;rw [n2] at hb;cases hb
     obtain ⟨o1,o2⟩:=oth b b1 b2 b3 b4
     rw [o1,<- o2];exact hb
def D6 (vs:VS):U:=.dic (vs.map fun e=>pk e.1) true (vs.map fun e=>mS e.2)
def A3 (cs:CS):U:=.dic (cs.map fun e=>pk e.1) true (cs.map fun e=>l8 e.2)
theorem Gd {γ:Type} (g:γ->U):∀ m:List (List Nat × γ),(m.map fun e=>pk e.1).zip (m.map fun e=>g e.2)=m.map fun e=>(pk e.1,g e.2)
 | []=>rfl
 | e :: m=>by simp only [List.map_cons,List.zip_cons_cons];rw [Gd g m]
theorem QX {M:aD} (m:VS):d7 M (D6 m)=some (.dT (jV m)):=by simp only [D6,d7];rw [Gd mS m];rfl
theorem LN {M:aD} (m:CS):d7 M (A3 m)=some (.dT (jK m)):=by simp only [A3,d7];rw [Gd l8 m];rfl
theorem Mz {M:aD} {v c:Addr} {a b a' b':MO} (h:v≠c):mup (mup (mup (mup M v a) c b) v a') c b'=mup (mup M v a') c b':=by
 funext z
 by_cases e1:z=c
 ·subst e1;rw [aF,aF]
 ·rw [aM e1,aM e1]
  by_cases e2:z=v
  ·subst e2;rw [aF,aF]
  ·rw [aM e2,aM e1,aM e2,aM e2]
def B0 (fj:Addr):cV:=fun us M Q=>∃ (cs:List Str) (tls:List Tl) (t:Tr),us=[eD cs tls,t.toU,.ref fj]/\Tab cs tls/\t.dep<=12/\t.size<=1000/\∀ (v c:Addr) (vs:VS) (chs:CS),M v=none->M c=none->v≠c->Bd t tls cs t.places.reverse vs chs->Q (.tup [.ref v,.ref c]) (mup (mup M v (.dT (jV vs))) c (.dT (jK chs)))
theorem Ha {fj:Addr} (F:dE K "least_of_all" "least_of_all" mP f fd) (hm:mg "least_of_all"=some (.ref f)) (fL:mg "reversed"=none) (oC:Callee P w K mg base 14 "places" (fZ 12) []) (sL:Callee P w K mg base 10 "tiles_at" t7 []) (B6:Callee P w K mg base 3 "fill_least" (Ii fj) []):Callee P w K mg base 15 "least_of_all" (B0 fj) []:=by
 refine bT F hm jG (HR fun _ _ _ _ _ _ _ _ _=>rfl) (aE (aY 3 jG.nd (iX true))
 (aE (aY 4 jG.nd (iX true))
 (aE (eG (vY fL (aA (aU oC (aA (uv 1) aB)) aB)) (aO (k:=1000) 5 jG.nd)
 (aJ (eA (aU B6 (aA (aU sL (aA (uv 0) (aA (uv 1) (aA (uv 5) aB)))) (aA (uv 5) (aA (uv 3) (aA (uv 4) (aA (uv 2) aB)))))))))
 (aJ (bP (bI (aA (uv 3) (aA (uv 4) aB)))))))) ?_
 rintro us M Q ⟨cs,tls,t,rfl,hT,hd,hs,q⟩
 refine ⟨rfl,?_⟩
 have hpl:=gJ t
 have hnd:t.places.Nodup:=(kA t).imp fun {x y} h z=>h (by rw [z];exact List.prefix_refl _)
 refine aI fun V hV=>?_
 simp_all! only [bR,hName]
 intro v hv
 subst hV
 refine aI fun V hV=>?_
 simp_all! only [bR,hName]
 intro c hc
 have hvc:v≠c:=fun z=>by subst z;rw [aF] at hc;cases hc
 rw [aM (fun e=>hvc e.symm)] at hc
 have e0:mup (mup M v (v9 true)) c (v9 true)=mup (mup M v (.dT (jV []))) c (.dT (jK [])):=rfl
 rw [e0]
 subst hV
 refine aI fun V hV=>?_
 refine eT (S:=⟨none,(t.places.map aQ).reverse⟩) (M1:=mup (mup M v (.dT (jV []))) c (.dT (jK []))) (fun R r=>by
   simp_all! only [true_and]
   exact ⟨t,rfl,hd,hs,r⟩)
  (fun i τ Mi=>∃ (vs:VS) (chs:CS) (z5:Option U),τ=[some (eD cs tls),some t.toU,some (.ref fj),some (.ref v),some (.ref c),z5]/\Mi=mup (mup M v (.dT (jV vs))) c (.dT (jK chs))/\Bd t tls cs (t.places.reverse.take i) vs chs) ⟨[],[],none,rfl,rfl,.nil⟩ nk ?_ ?_
 ·rintro i x τ Mi e ⟨vs,chs,z5,rfl,rfl,b⟩
  have e':(t.places.map aQ).reverse[i]?=some x:=e
  rw [<- List.map_reverse,List.getElem?_map] at e'
  cases hj:t.places.reverse[i]? with
  | none=>rw [hj] at e';cases e'
  | some p =>
   rw [hj] at e'
   cases e'
   have hi:=(List.getElem?_eq_some_iff.mp hj).1
   have hsplit:t.places.reverse=t.places.reverse.take i++p :: t.places.reverse.drop (i + 1):=by
    have:=List.getElem_cons_drop hi
    rw [(List.getElem?_eq_some_iff.mp hj).2] at this
    rw [this,List.take_append_drop]
   have hpl2:t.places=(t.places.reverse.drop (i + 1)).reverse++p :: (t.places.reverse.take i).reverse:=by
    have:=congrArg List.reverse hsplit
    rw [List.reverse_reverse,List.reverse_append,List.reverse_cons,List.append_assoc] at this
    exact this
   have hmem:p∈t.places:=List.mem_reverse.mp (List.mem_of_getElem? hj)
   obtain ⟨t',ht⟩:=oQ t p hmem
   have hnew:p ∉ t.places.reverse.take i:=by
    have h2:t.places.reverse.Nodup:=List.pairwise_reverse.mpr (hnd.imp fun {a b} h=>Ne.symm h)
    rw [hsplit] at h2
    exact fun z=>(List.nodup_append.mp h2).2.2 p z p List.mem_cons_self rfl
   have hok:=Bd.ld (vs:=vs) (chs:=chs) (B:=(t.places.reverse.take i).reverse) hT hpl2 ht (by rw [List.reverse_reverse];exact b)
   have hsz:=qG t p t' ht
   have hll:=oM t' p tls 0
   have htl:=hT.len
   have hlv:=b.lenV
   have hlc:=b.lenC
   rw [List.length_take,List.length_reverse] at hlv hlc
   have hps:=gR t p hmem
   simp_all! only [gC,hName]
   refine ⟨cs,tls,t,t',p,rfl,t5 t p t' ht,fun tl h=>by have h2:tl.pt.dep<=4:=(hT.good tl h).2.1;omega,by omega,by omega,?_⟩
   refine ⟨bN t' p 0 tls,p,v,c,vs,chs,cs,t'.size,rfl,hvc,by rw [aM hvc,aF],aF,b.noV hnew,b.noC hnew,by omega,by omega,by omega,b.low hs,hT.cls.len,size_pos t',by omega,hok,fun m ch hf=>?_⟩
   refine ⟨vs++[(p,m)],chs++[(p,ch)],_,rfl,Mz hvc,?_⟩
   ·have hb:=Bd.snoc b hnew ht hf
    rw [List.take_add_one,hj]
    exact hb
 ·rintro τ Mi ⟨vs,chs,z5,rfl,rfl,b⟩
  have hlen:(Src.mk none (t.places.map aQ).reverse).xs.length=t.places.reverse.length:=by show ((t.places.map aQ).reverse).length=_;simp
  rw [hlen,List.take_length] at b
  subst hV
  simp_all! only [gH]
  exact aZ (q v c vs chs hv hc hvc b)
def AO (fj:Addr):cV:=fun us M Q=>∃ (cs:List Str) (tls:List Tl) (t:Tr),us=[eD cs tls,t.toU,.ref fj]/\Tab cs tls/\t.dep<=12/\t.size<=1000/\∀ (vs:VS) (chs:CS),Bd t tls cs t.places.reverse vs chs->Q (.tup [D6 vs,A3 chs]) M
theorem yP {fj:Addr} (C:Callee P w K mg base 15 "least_of_all" (B0 fj) []):Callee P w K mg base 15 "least_of_all" (AO fj) []:=by
 refine Callee.conv C fun us M Q h=>?_
 obtain ⟨cs,tls,t,rfl,hT,hd,hs,q⟩:=h
 refine ⟨cs,tls,t,rfl,hT,hd,hs,fun v c vs chs hv hc hvc b=>?_⟩
 refine ⟨.tup [D6 vs,A3 chs],M,fun K H x rm ru=>?_,q vs chs b⟩
 generalize hM1:mup (mup M v (.dT (jV vs))) c (.dT (jK chs))=M1 at *
 have av:M1 v=some (.dT (jV vs)):=by rw [<- hM1,aM hvc,aF]
 have ac:M1 c=some (.dT (jK chs)):=by rw [<- hM1,aF]
 have oth:∀ b,b≠v->b≠c->M1 b=M b:=fun b b1 b2=>by rw [<- hM1,aM b2,aM b1]
 have st:aP H M1 H M:=aP.less fun b hb=>by
  have b1:b≠v:=fun z=>by subst z;rw [av] at hb;cases hb
  have b2:b≠c:=fun z=>by subst z;rw [ac] at hb;cases hb
  rw [<- oth b b1 b2];exact hb
 refine ⟨st,fun a mo e=>?_,?_⟩
 ·have b1:a≠v:=fun z=>by subst z;rw [hv] at e;cases e
  have b2:a≠c:=fun z=>by subst z;rw [hc] at e;cases e
  rw [<- oth a b1 b2] at e
  exact (rm a mo e).stp (fun b q hb=>by rw [oth b (fun z=>by subst z;rw [hv] at hb;cases hb) (fun z=>by subst z;rw [hc] at hb;cases hb)];exact hb) st rfl
 ·simp only [aK] at ru ⊢
  obtain ⟨a,xs,rfl,h1,h2⟩:=ru
  obtain ⟨x1,r1,rfl,k1,k2⟩:=h2.inv_cons
  obtain ⟨x2,rfl,k3⟩:=k2.one
  rw [k1.ref,k3.ref] at h1
  refine ⟨a,_,rfl,?_,.cons (Dd mS rm av hv st) (.cons (Dd l8 rm ac hc st) .nil)⟩
  obtain ⟨m1,h1⟩:=h1
  exact ⟨(st a _ h1 m1).2,h1⟩
end
end K33
namespace K33
open PySem L2 U2
theorem rV.le {cs cs2:List Str} {vs1 vs2:VS} {p:List Nat} {sz sz2:Nat} {ls ls2:List Ld} {m1 m2:VM} {ch1 ch2:CM} (f1:rV cs vs1 p sz ls m1 ch1) (f2:rV cs2 vs2 p sz2 ls2 m2 ch2)
  (d5:∀ l∈ls,∃ l2∈ls2,l2.cls=l.cls/\l2.spots=l.spots/\l2.price<=l.price) (hvs:∀ s v,bY vs1 s=some v->∃ v2,bY vs2 s=some v2/\v2<=v):∀ c v1,asc m1 c=some v1->∃ v2,asc m2 c=some v2/\v2<=v1:=by
 obtain ⟨rk,hrk⟩:=f1.rk
 have main:∀ n c v1,rk c < n->asc m1 c=some v1->∃ v2,asc m2 c=some v2/\v2<=v1:=by
  intro n
  induction n with
  | zero=>intro c v1 h;omega
  | succ n ih =>
   intro c v1 hn h
   obtain ⟨h0,h1,l,a1,a2,a3,w,a4,a5⟩:=f1.just c v1 h
   obtain ⟨l2,b1,b2,b3,b4⟩:=d5 l a2
   have each:∀ s∈l.spots,∀ a,cur vs1 p m1 s=some a->∃ a',cur vs2 p m2 s=some a'/\a'<=a:=fun s hs a ha=>by
    unfold cur at ha ⊢
    by_cases e:s.1=p
    ·rw [if_pos e] at ha ⊢
     exact ih s.2 a (by have:=hrk c l a1 s hs e;omega) ha
    ·rw [if_neg e] at ha ⊢
     exact hvs s a ha
   have sm:∀ (l:List (List Nat × Str)) (w:Int),(∀ s∈l,∀ a,cur vs1 p m1 s=some a->∃ a',cur vs2 p m2 s=some a'/\a'<=a)->cO (cur vs1 p m1) l=some w->∃ w',cO (cur vs2 p m2) l=some w'/\w'<=w:=by
    intro l
    induction l with
    | nil=>intro w _ h;cases h;exact ⟨0,rfl,by omega⟩
    | cons s r ihr =>
     intro w hh h
     obtain ⟨a,b,k1,k2,rfl⟩:=fM h
     obtain ⟨a',g1,g2⟩:=hh s List.mem_cons_self a k1
     obtain ⟨b',g3,g4⟩:=ihr b (fun x hx=>hh x (List.mem_cons_of_mem _ hx)) k2
     exact ⟨a' + b',pI g1 g3,by omega⟩
   obtain ⟨w',g1,g2⟩:=sm l.spots w each a4
   obtain ⟨v2,k1,k2⟩:=f2.fix l2 b1 w' (by rw [b3];exact g1)
   rw [b2,a3] at k1
   exact ⟨v2,k1,by omega⟩
 exact fun c v1 h=>main (rk c + 1) c v1 (by omega) h
theorem DC {α:Type} {a b:List α} {x y:α} (h:a++[x]=b++[y]):a=b/\x=y:=by
 have:=List.append_inj' h rfl
 exact ⟨this.1,by simpa using this.2⟩
theorem Bd.le {t:Tr} {tls tls2:List Tl} {cs cs2:List Str} {ps:List (List Nat)} {vs1 vs2:VS} {ch1 ch2:CS} (d5:∀ (t':Tr) (p:List Nat),∀ l∈bN t' p 0 tls,∃ l2∈bN t' p 0 tls2,l2.cls=l.cls/\l2.spots=l.spots/\l2.price<=l.price)
  (b1:Bd t tls cs ps vs1 ch1) (b2:Bd t tls2 cs2 ps vs2 ch2):∀ s v,bY vs1 s=some v->∃ v2,bY vs2 s=some v2/\v2<=v:=by
 induction b1 generalizing vs2 ch2 with
 | nil=>intro s v h;cases h
 | @snoc ps vs chs p t' m ch b hp ht hf ih =>
  generalize hq:ps++[p]=qs at b2
  cases b2 with
  | nil=>exact absurd hq (by simp)
  | @snoc ps2 vs2 chs2 p2 t2 m2 ch2 b2 hp2 ht2 hf2 =>
   obtain ⟨rfl,rfl⟩:=DC hq
   rw [ht] at ht2;cases ht2
   have ih':=ih b2
   intro s v h
   rw [<- fY (b.noV hp)] at h
   rw [<- fY (b2.noV hp)]
   unfold cur at h ⊢
   by_cases e:s.1=p
   ·rw [if_pos e] at h ⊢
    exact hf.le hf2 (d5 t' p) ih' _ _ h
   ·rw [if_neg e] at h ⊢
    exact ih' s v h
theorem Bd.uniq {t:Tr} {tls:List Tl} {cs cs2:List Str} {ps:List (List Nat)} {vs1 vs2:VS} {ch1 ch2:CS} (b1:Bd t tls cs ps vs1 ch1) (b2:Bd t tls cs2 ps vs2 ch2) (s:List Nat × Str):bY vs1 s=bY vs2 s:=by
 have d5:∀ (t':Tr) (p:List Nat),∀ l∈bN t' p 0 tls,∃ l2∈bN t' p 0 tls,l2.cls=l.cls/\l2.spots=l.spots/\l2.price<=l.price:=fun t' p l hl=>⟨l,hl,rfl,rfl,by omega⟩
 have h1:=b1.le d5 b2 s
 have h2:=b2.le d5 b1 s
 cases e1:bY vs1 s with
 | none =>
  cases e2:bY vs2 s with
  | none=>rfl
  | some v=>obtain ⟨v2,k,_⟩:=h2 v e2;rw [e1] at k;cases k
 | some v =>
  obtain ⟨v2,k1,k2⟩:=h1 v e1
  obtain ⟨v3,k3,k4⟩:=h2 v2 k1
  rw [e1] at k3;cases k3
  rw [k1,show v2=v by omega]
def eF (chs:CS) (s:List Nat × Str):Option Ld:=(asc chs s.1).bind fun m=>asc m s.2
inductive Wd (look:List Nat × Str->Option Ld):List Nat × Str->List Int->Prop
 | mk {s:List Nat × Str} {l:Ld} {wss:List (List Int)} (h:look s=some l) (hl:wss.length=l.spots.length) (hw:∀ (i:Nat) s' w,l.spots[i]?=some s'->wss[i]?=some w->Wd look s' w):Wd look s ((l.n:Int) :: wss.flatten)
theorem Wd.mono {look look':List Nat × Str->Option Ld} (hm:∀ s l,look s=some l->look' s=some l) {s:List Nat × Str} {w:List Int} (h:Wd look s w):Wd look' s w:=by
 induction h with
 | mk h hl hw ih=>exact .mk (hm _ _ h) hl ih
def nE (tiles:List Tl):List Int->List Wt->Option (List Wt)
 | [],st=>some st
 | n :: r,st=>(vB tiles n st).bind (nE tiles r)
theorem Dy (tiles:List Tl):∀ (a b:List Int) (st:List Wt),nE tiles (a++b) st=(nE tiles a st).bind (nE tiles b)
 | [],b,st=>rfl
 | n :: a,b,st=>by
  simp only [List.cons_append,nE]
  cases vB tiles n st with
  | none=>rfl
  | some st'=>exact Dy tiles a b st'
theorem HM (tiles:List Tl):∀ (ws:List Int) (st st':List Wt),nE tiles ws st=some st'->Fp tiles (ws.map U.int) st=st'.isEmpty
 | [],st,st',h=>by cases h;rfl
 | n :: r,st,st',h=>by
  simp only [nE] at h
  simp only [List.map_cons,Fp]
  cases e:vB tiles n st with
  | none=>rw [e] at h;cases h
  | some s2=>rw [e] at h;exact HM tiles r s2 st' h
theorem Dm (tiles:List Tl) (st:List Wt):∀ (wts:List Wt) (wss:List (List Int)),wss.length=wts.length->(∀ (i:Nat) wt w,wts[i]?=some wt->wss[i]?=some w->∀ st,nE tiles w (wt :: st)=some st)->nE tiles wss.flatten (wts++st)=some st
 | [],[],_,_=>rfl
 | [],_ :: _,h,_=>by cases h
 | _ :: _,[],h,_=>by cases h
 | a :: wts,b :: wss,h,hr=>by
  rw [List.flatten_cons,Dy,List.cons_append,hr 0 a b rfl rfl]
  exact Dm tiles st wts wss (by simpa using h) fun i wt w h1 h2=>hr (i + 1) wt w h1 h2
structure Cv (t:Tr) (tls:List Tl) (cs:List Str) (vs:VS) (chs:CS) (rk:Str->Nat) (s:List Nat × Str) (word:List Int) (seen:List Str):Prop where
 wd:Wd (eF chs) s word
 run:∀ t',t.at s.1=some t'->∀ ps st,(∀ x∈seen,x ∉ ps)->nE tls word (⟨t',s.2,ps⟩ :: st)=some st
 ok:yB tls word
 cost:∀ v,bY vs s=some v->(word.map (gB tls)).sum=v
 rank:∀ x∈seen,rk x<=rk s.2
 sub:∀ x∈seen,x∈cs
 nd:seen.Nodup
 len:∀ t',t.at s.1=some t'->(word.length:Int) + 6<=6 * (t'.size:Int) + seen.length
theorem mG:∀ (l m:List Str),l.Nodup->(∀ s∈l,s∈m)->l.length<=m.length
 | [],m,_,_=>by simp
 | a :: l,m,hn,hs=>by
  obtain ⟨h1,h2⟩:=List.nodup_cons.mp hn
  have ha:=hs a List.mem_cons_self
  have:=mG l (m.erase a) h2 fun s hsl=>by
   refine (List.mem_erase_of_ne fun z=>?_).mpr (hs s (List.mem_cons_of_mem _ hsl))
   subst z;exact h1 hsl
  rw [List.length_erase_of_mem ha] at this
  have hp:0 < m.length:=List.length_pos_of_mem ha
  simp only [List.length_cons];omega
theorem v7 {α β:Type} {R:α->β->Prop}:∀ l:List α,(∀ a∈l,∃ b,R a b)->∃ bs:List β,bs.length=l.length/\∀ (i:Nat) a b,l[i]?=some a->bs[i]?=some b->R a b
 | [],_=>⟨[],rfl,fun i a b h=>by cases h⟩
 | a :: l,h=>by
  obtain ⟨b,hb⟩:=h a List.mem_cons_self
  obtain ⟨bs,h1,h2⟩:=v7 l fun x hx=>h x (List.mem_cons_of_mem _ hx)
  refine ⟨b :: bs,by simp [h1],fun i x y hx hy=>?_⟩
  cases i with
  | zero=>cases hx;cases hy;exact hb
  | succ i=>exact h2 i x y hx hy
theorem yW (tls:List Tl) (g:List Nat × Str->Option Int):∀ (l:List (List Nat × Str)) (wss:List (List Int)) (w:Int),wss.length=l.length->(∀ (i:Nat) s ws,l[i]?=some s->wss[i]?=some ws->∀ v,g s=some v->(ws.map (gB tls)).sum=v)->cO g l=some w->(wss.flatten.map (gB tls)).sum=w
 | [],[],w,_,_,h=>by cases h;rfl
 | [],_ :: _,_,h,_,_=>by cases h
 | _ :: _,[],_,h,_,_=>by cases h
 | s :: l,ws :: wss,w,hl,hc,h=>by
  obtain ⟨a,b,h1,h2,rfl⟩:=fM h
  rw [List.flatten_cons,List.map_append,List.sum_append,hc 0 s ws rfl rfl a h1,yW tls g l wss b (by simpa using hl) (fun i s w h1 h2=>hc (i + 1) s w h1 h2) h2]
theorem Bb:∀ (wss:List (List Int)) (bs:List Nat),wss.length=bs.length->(∀ (i:Nat) ws b,wss[i]?=some ws->bs[i]?=some b->(ws.length:Int)<=6 * (b:Int))->(wss.flatten.length:Int)<=6 * (bs.sum:Int)
 | [],[],_,_=>by simp
 | [],_ :: _,h,_=>by cases h
 | _ :: _,[],h,_=>by cases h
 | ws :: wss,b :: bs,h,hb=>by
  have h1:=hb 0 ws b rfl rfl
  have h2:=Bb wss bs (by simpa using h) fun i w b h1 h2=>hb (i + 1) w b h1 h2
  rw [List.flatten_cons,List.length_append,List.sum_cons]
  push_cast
  omega
section
variable {t:Tr} {tls:List Tl} {cs:List Str} {ps:List (List Nat)} {vs:VS} {chs:CS}
theorem A8 {chs:CS} {p:List Nat} {ch:CM} {s:List Nat × Str} {l:Ld} (h:eF chs s=some l):eF (chs++[(p,ch)]) s=some l:=by
 unfold eF at h ⊢
 rw [mO]
 cases e:asc chs s.1 with
 | none=>rw [e] at h;cases h
 | some m=>rw [e] at h;exact h
theorem t4 {chs:CS} {p:List Nat} {ch:CM} {c:Str} (h:asc chs p=none):eF (chs++[(p,ch)]) (p,c)=asc ch c:=by
 unfold eF
 rw [mO,h]
 show (asc [(p,ch)] p).bind _=_
 rw [eJ (p:=(p,ch)) rfl];rfl
theorem Bd.cover (hT:Tab cs tls) (b:Bd t tls cs ps vs chs):∀ s v,bY vs s=some v->∃ rk word seen,Cv t tls cs vs chs rk s word seen:=by
 induction b with
 | nil=>intro s v h;cases h
 | @snoc ps vs chs p t' m ch b hp ht hf ih =>
  have old:∀ s v,s.1≠p->bY (vs++[(p,m)]) s=some v->bY vs s=some v:=fun s v hne h=>by
   rw [<- fY (b.noV hp)] at h
   unfold cur at h
   rw [if_neg hne] at h;exact h
  have keep:∀ s v,s.1≠p->bY vs s=some v->bY (vs++[(p,m)]) s=some v:=fun s v hne h=>by
   rw [<- fY (b.noV hp)]
   unfold cur
   rw [if_neg hne];exact h
  have lift:∀ s v,s.1≠p->bY vs s=some v->∃ rk word seen,Cv t tls cs (vs++[(p,m)]) (chs++[(p,ch)]) rk s word seen:=fun s v hne h=>by
   obtain ⟨rk,word,seen,cv⟩:=ih s v h
   exact ⟨rk,word,seen,⟨cv.wd.mono fun s l h=>A8 h,cv.run,cv.ok,fun v2 hv2=>cv.cost v2 (old s v2 hne hv2),cv.rank,cv.sub,cv.nd,cv.len⟩⟩
  obtain ⟨rk,hrk⟩:=hf.rk
  have main:∀ n c v,rk c < n->asc m c=some v->∃ word seen,Cv t tls cs (vs++[(p,m)]) (chs++[(p,ch)]) rk (p,c) word seen:=by
   intro n
   induction n with
   | zero=>intro c v h;omega
   | succ n ihn =>
    intro c v hn h
    obtain ⟨h0,h1,l,a1,a2,a3,w,a4,a5⟩:=hf.just c v h
    have lkv:bY (vs++[(p,m)]) (p,c)=some v:=by
     rw [<- fY (b.noV hp)];unfold cur;rw [if_pos rfl];exact h
    have lkc:eF (chs++[(p,ch)]) (p,c)=some l:=by rw [t4 (b.noC hp)];exact a1
    have a4':cO (bY (vs++[(p,m)])) l.spots=some w:=by rw [<- a4];exact sR fun s _=>(fY (b.noV hp) s).symm
    obtain ⟨i,tl,e1,e2,rfl⟩:=oZ a2
    have hi:i < tls.length:=(List.getElem?_eq_some_iff.mp e1).1
    have htm:=List.mem_of_getElem? e1
    have hg:=hT.good tl htm
    have hcls:tl.cls=c:=a3
    have hcost:gB tls ((0 + i:Nat):Int)=tl.cost:=by
     unfold gB
     rw [Nat.zero_add,eX (xs:=tls) (j:=i) e1]
    have hok0:0<=((0 + i:Nat):Int)/\((0 + i:Nat):Int) < tls.length:=⟨by omega,by omega⟩
    have hstep:∀ ps st,c ∉ ps->vB tls ((0 + i:Nat):Int) (⟨t',c,ps⟩ :: st)=some (K33.below tl ⟨t',c,ps⟩++st):=fun ps st hc=>by
     have e3:tls[(((0 + i:Nat):Int)).toNat]?=some tl:=by rw [Int.toNat_natCast,Nat.zero_add];exact e1
     simp only [vB,hok0,e3,hcls,e2,hc,and_self,if_true,not_false_eq_true]
    obtain ⟨bs,g1,g2,g3⟩:=oK tl.pt t' [] e2
    have g0:=(nW tl.pt t' [] e2).1
    have each:∀ (j:Nat) (e:List Nat × Str),(d5 tl.pt)[j]?=some e->∃ t2 bb,bs[j]?=some bb/\t'.at e.1=some t2/\t2.size=bb/\(e.1=[]->∃ c,tl.pt=.hole c)/\(gU tl.pt t')[j]?=some (t2,e.2):=fun j e he=>by
     have hj:=(List.getElem?_eq_some_iff.mp he).1
     have hb:bs[j]?=some (bs[j]'(by rw [g1];exact hj)):=List.getElem?_eq_getElem _
     obtain ⟨s,t2,e1,e2,e3,e4,e5⟩:=g3 j e _ he hb
     have e1':e.1=s:=by simpa using e1
     subst e1'
     exact ⟨t2,_,hb,e2,e3,e4,e5⟩
    cases hps:tl.pass with
    | true =>
     obtain ⟨c2,hpt⟩:∃ c2,tl.pt=.hole c2:=by
      unfold Tl.pass at hps
      cases hh:tl.pt with
      | hole c2=>exact ⟨c2,rfl⟩
      | _=>rw [hh] at hps;cases hps
     have hspots:((d5 tl.pt).map fun e=>(p++e.1,e.2))=[(p,c2)]:=by rw [hpt];simp [d5,b8,hF]
     dsimp only at a4' a4 a1 lkc
     rw [hspots] at a4 a4'
     obtain ⟨x,y,k1,k2,rfl⟩:=fM a4
     cases k2
     have k1':asc m c2=some x:=by unfold cur at k1;rw [if_pos rfl] at k1;exact k1
     have hlt:rk c2 < rk c:=hrk c _ a1 (p,c2) (by rw [hspots];exact List.mem_cons_self) rfl
     obtain ⟨word,seen,cv⟩:=ihn c2 x (by omega) k1'
     have hcn:c ∉ seen:=fun z=>by have:=cv.rank c z;dsimp only at this;omega
     refine ⟨((0 + i:Nat):Int) :: word,c :: seen,?_,?_,?_,?_,?_,?_,?_,?_⟩
     ·have:=Wd.mk (look:=eF (chs++[(p,ch)])) (s:=(p,c)) (wss:=[word]) lkc (by rw [hspots];rfl) (fun j s' w h1 h2=>by
       dsimp only at h1
       rw [hspots] at h1
       match j,h1,h2 with
       | 0,h1,h2=>cases h1;cases h2;exact cv.wd
       | j + 1,h1,h2=>cases h1)
      simpa using this
     ·intro t2 ht2 ps st hps2
      dsimp only at ht2 ⊢
      rw [ht] at ht2;cases ht2
      have hcp:c ∉ ps:=hps2 c List.mem_cons_self
      simp only [nE,hstep ps st hcp,Option.bind_some]
      have hb:K33.below tl ⟨t',c,ps⟩=[⟨t',c2,ps++[c]⟩]:=by
       unfold K33.below yN
       rw [hps,hpt,hcls]
       cases t' <;> rfl
      rw [hb]
      refine cv.run t' ht (ps++[c]) st fun x hx=>?_
      simp only [List.mem_append,List.mem_singleton,not_or]
      exact ⟨hps2 x (List.mem_cons_of_mem _ hx),fun z=>by subst z;exact hcn hx⟩
     ·intro k hk
      rcases List.mem_cons.mp hk with rfl | hk
      ·exact hok0
      ·exact cv.ok k hk
     ·intro v2 hv2
      rw [lkv] at hv2;cases hv2
      rw [List.map_cons,List.sum_cons,hcost,cv.cost x (by rw [<- fY (b.noV hp)];unfold cur;rw [if_pos rfl];exact k1')]
      have a5':v=tl.cost + (x + 0):=a5
      omega
     ·intro x hx
      rcases List.mem_cons.mp hx with rfl | hx
      ·exact Nat.le_refl _
      ·have:=cv.rank x hx;dsimp only at this ⊢;omega
     ·intro x hx
      rcases List.mem_cons.mp hx with rfl | hx
      ·have:tl.cls∈cs:=hg.2.2.1
       rw [<- hcls];exact this
      ·exact cv.sub x hx
     ·exact List.nodup_cons.mpr ⟨hcn,cv.nd⟩
     ·intro t2 ht2
      have:=cv.len t2 ht2
      simp only [List.length_cons];push_cast;omega
    | false =>
     have hnh:∀ c2,tl.pt≠.hole c2:=fun c2 z=>by unfold Tl.pass at hps;rw [z] at hps;cases hps
     have hbk:1<=lS tl.pt:=by
      cases hh:tl.pt with
      | hole c2=>exact absurd hh (hnh c2)
      | _=>simp [lS]
     have hall:∀ s∈(d5 tl.pt).map (fun e=>(p++e.1,e.2)),∃ ws:List Int,(∃ rk seen,Cv t tls cs (vs++[(p,m)]) (chs++[(p,ch)]) rk s ws seen):=fun s hs=>by
      obtain ⟨e,he,rfl⟩:=List.mem_map.mp hs
      obtain ⟨j,hj⟩:=List.getElem?_of_mem he
      obtain ⟨t2,bb,q1,q2,q3,q4,q5⟩:=each j e hj
      have hne:p++e.1≠p:=fun z=>by
       rw [List.append_right_eq_self] at z
       obtain ⟨c2,hc2⟩:=q4 z
       exact hnh c2 hc2
      obtain ⟨a,ha⟩:=tB a4' (p++e.1,e.2) (List.mem_map.mpr ⟨e,he,rfl⟩)
      obtain ⟨rk2,word,seen,cv⟩:=lift (p++e.1,e.2) a hne (old _ _ hne ha)
      exact ⟨word,rk2,seen,cv⟩
     obtain ⟨wss,w1,w2⟩:=v7 _ hall
     rw [List.length_map] at w1
     refine ⟨((0 + i:Nat):Int) :: wss.flatten,[c],?_,?_,?_,?_,?_,?_,?_,?_⟩
     ·exact Wd.mk (look:=eF (chs++[(p,ch)])) (s:=(p,c)) (wss:=wss) lkc (by dsimp only;rw [List.length_map];exact w1) (fun j s' w h1 h2=>by
       obtain ⟨rk2,seen,cv⟩:=w2 j s' w h1 h2
       exact cv.wd)
     ·intro t2 ht2 ps st hps2
      dsimp only at ht2 ⊢
      rw [ht] at ht2;cases ht2
      have hcp:c ∉ ps:=hps2 c List.mem_cons_self
      simp only [nE,hstep ps st hcp,Option.bind_some]
      have hpd:yN tl ⟨t',c,ps⟩=[]:=by unfold yN;rw [hps];rfl
      refine Dm tls st _ wss (by rw [K33.below,List.length_map,<- g0];exact w1) fun j wt w h1 h2 st'=>?_
      rw [K33.below,hpd,List.getElem?_map] at h1
      cases hj:(gU tl.pt t')[j]? with
      | none=>rw [hj] at h1;cases h1
      | some x =>
       rw [hj] at h1
       cases h1
       have hjl:j < (d5 tl.pt).length:=by
        have:=(List.getElem?_eq_some_iff.mp hj).1
        rw [<- g0] at this;exact this
       obtain ⟨e,he⟩:∃ e,(d5 tl.pt)[j]?=some e:=⟨_,List.getElem?_eq_getElem hjl⟩
       obtain ⟨t2,bb,q1,q2,q3,q4,q5⟩:=each j e he
       rw [hj] at q5;cases q5
       obtain ⟨rk2,seen,cv⟩:=w2 j (p++e.1,e.2) w (by rw [List.getElem?_map,he];rfl) h2
       exact cv.run t2 (by dsimp only;rw [oO t p e.1 t' ht];exact q2) [] st' fun x hx=>by simp
     ·intro k hk
      rcases List.mem_cons.mp hk with rfl | hk
      ·exact hok0
      ·obtain ⟨ws,hws,hk⟩:=List.mem_flatten.mp hk
       obtain ⟨j,hj⟩:=List.getElem?_of_mem hws
       have hjl:j < (d5 tl.pt).length:=by rw [<- w1];exact (List.getElem?_eq_some_iff.mp hj).1
       obtain ⟨e,he⟩:∃ e,(d5 tl.pt)[j]?=some e:=⟨_,List.getElem?_eq_getElem hjl⟩
       obtain ⟨rk2,seen,cv⟩:=w2 j (p++e.1,e.2) ws (by rw [List.getElem?_map,he];rfl) hj
       exact cv.ok k hk
     ·intro v2 hv2
      rw [lkv] at hv2;cases hv2
      rw [List.map_cons,List.sum_cons,hcost,yW tls (bY (vs++[(p,m)])) _ wss w (by rw [List.length_map];exact w1) (fun j s ws h1 h2 v hv=>by
       obtain ⟨rk2,seen,cv⟩:=w2 j s ws h1 h2
       exact cv.cost v hv) a4',a5]
     ·intro x hx;cases List.mem_singleton.mp hx;exact Nat.le_refl _
     ·intro x hx
      cases List.mem_singleton.mp hx
      have:tl.cls∈cs:=hg.2.2.1
      rw [<- hcls];exact this
     ·simp
     ·intro t2 ht2
      dsimp only at ht2
      rw [ht] at ht2;cases ht2
      have hlen:=Bb wss bs (by rw [w1,g1];rfl) fun j ws bb h1 h2=>by
       have hjl:j < (d5 tl.pt).length:=by rw [<- w1];exact (List.getElem?_eq_some_iff.mp h1).1
       obtain ⟨e,he⟩:∃ e,(d5 tl.pt)[j]?=some e:=⟨_,List.getElem?_eq_getElem hjl⟩
       obtain ⟨t2,bb',q1,q2,q3,q4,q5⟩:=each j e he
       rw [h2] at q1;cases q1
       obtain ⟨rk2,seen,cv⟩:=w2 j (p++e.1,e.2) ws (by rw [List.getElem?_map,he];rfl) h1
       have k1:=cv.len t2 (by dsimp only;rw [oO t p e.1 t' ht];exact q2)
       have k2:=mG seen cs cv.nd cv.sub
       have k3:=hT.cls.len
       rw [q3] at k1
       omega
      simp only [List.length_cons,List.length_nil]
      push_cast
      omega
  intro s v h
  by_cases e:s.1=p
  ·obtain ⟨s1,s2⟩:=s
   dsimp only at e
   subst e
   rw [<- fY (b.noV hp)] at h
   unfold cur at h
   rw [if_pos rfl] at h
   obtain ⟨word,seen,cv⟩:=main (rk s2 + 1) s2 v (by omega) h
   exact ⟨rk,word,seen,cv⟩
  ·exact lift s v e (old s v e h)
theorem Bd.both (b:Bd t tls cs ps vs chs) (s:List Nat × Str):(eF chs s).isSome=(bY vs s).isSome:=by
 induction b with
 | nil=>rfl
 | @snoc ps vs chs p t' m ch b hp ht hf ih =>
  by_cases e:s.1=p
  ·obtain ⟨s1,s2⟩:=s
   dsimp only at e
   subst e
   rw [t4 (b.noC hp),<- fY (b.noV hp)]
   unfold cur
   rw [if_pos rfl]
   have k1:=@eI _ _ _ s2 m
   have k2:=@eI _ _ _ s2 ch
   rw [hf.keys] at k1
   exact Bool.eq_iff_iff.mpr (k2.trans k1.symm)
  ·rw [<- fY (b.noV hp)]
   unfold cur
   rw [if_neg e,<- ih]
   unfold eF
   rw [mO]
   cases q:asc chs s.1 with
   | some m=>rfl
   | none =>
    show ((asc [(p,ch)] s.1).bind _).isSome=_
    rw [eL (p:=(p,ch)) (fun z=>e z.symm)];rfl
theorem Bd.spots (hT:Tab cs tls) (b:Bd t tls cs ps vs chs):∀ s l,eF chs s=some l->l.spots.length<=64/\∀ s'∈l.spots,∃ l',eF chs s'=some l':=by
 induction b with
 | nil=>intro s l h;cases h
 | @snoc ps vs chs p t' m ch b hp ht hf ih =>
  have hb:=Bd.snoc b hp ht hf
  intro s l h
  by_cases e:s.1=p
  ·obtain ⟨s1,s2⟩:=s
   dsimp only at e
   subst e
   rw [t4 (b.noC hp)] at h
   have hm:(asc m s2).isSome=true:=by rw [eI,hf.keys,<- eI,h];rfl
   obtain ⟨v,hv⟩:=Option.isSome_iff_exists.mp hm
   obtain ⟨h0,h1,l1,a1,a2,a3,w,a4,a5⟩:=hf.just s2 v hv
   rw [h] at a1;cases a1
   refine ⟨?_,fun s' hs'=>?_⟩
   ·obtain ⟨i,tl,e1,e2,rfl⟩:=oZ a2
    have hg:=hT.good tl (List.mem_of_getElem? e1)
    have:tl.pt.dep<=4:=hg.2.1
    rw [List.length_map];exact AG tl.pt (by omega)
   ·obtain ⟨a,ha⟩:=tB a4 s' hs'
    rw [fY (b.noV hp)] at ha
    have:(eF (chs++[(s1,ch)]) s').isSome=true:=by rw [hb.both,ha];rfl
    exact Option.isSome_iff_exists.mp this
  ·have h':eF chs s=some l:=by
    unfold eF at h ⊢
    rw [mO] at h
    cases q:asc chs s.1 with
    | some m=>rw [q] at h;exact h
    | none =>
     rw [q] at h
     have h:(asc [(p,ch)] s.1).bind _=some l:=h
     rw [eL (p:=(p,ch)) (fun z=>e z.symm)] at h;cases h
   obtain ⟨k1,k2⟩:=ih s l h'
   exact ⟨k1,fun s' hs'=>let ⟨l',hl'⟩:=k2 s' hs';⟨l',A8 hl'⟩⟩
theorem u9 {M:aD} {x:U} {kvs:List (List Key × U)} (p:List Nat) (h:d7 M x=some (.dT kvs)):cR true M x (aQ p)=some (cH kvs (pk p)):=by
 simp only [cR,h,aQ,qQ,Option.map_some]
inductive qZ (look:List Nat × Str->Option Ld):List (List Nat × Str)->List (List Int)->Prop
 | nil:qZ look [] []
 | cons {s:List Nat × Str} {w:List Int} {st:List (List Nat × Str)} {ws:List (List Int)} (h:Wd look s w) (t:qZ look st ws):qZ look (s :: st) (w :: ws)
theorem qZ.app {look:List Nat × Str->Option Ld}:∀ {a:List (List Nat × Str)} {x:List (List Int)} {b:List (List Nat × Str)} {y:List (List Int)},qZ look a x->qZ look b y->qZ look (a++b) (x++y)
 | _,_,_,_,.nil,h=>h
 | _,_,_,_,.cons h t,k=>.cons h (qZ.app t k)
theorem qZ.of {look:List Nat × Str->Option Ld}:∀ {l:List (List Nat × Str)} {wss:List (List Int)},wss.length=l.length->(∀ (i:Nat) s w,l[i]?=some s->wss[i]?=some w->Wd look s w)->qZ look l wss
 | [],[],_,_=>.nil
 | [],_ :: _,h,_=>by cases h
 | _ :: _,[],h,_=>by cases h
 | s :: l,w :: wss,h,hw=>.cons (hw 0 s w rfl rfl) (qZ.of (by simpa using h) fun i s w h1 h2=>hw (i + 1) s w h1 h2)
def Fv (r:Addr) (M:aD):Nat:=match M r with
 | some (.lst us)=>us.length
 | _=>0
def Dq:cV:=fun us M Q=>∃ (chs:CS) (c:Str) (word:List Int),us=[A3 chs,.str c]/\(∀ s l,eF chs s=some l->l.spots.length<=64)/\Wd (eF chs) ([],c) word/\word.length<=1300/\∀ r,M r=none->Q (.ref r) (mup M r (.lst (word.map U.int)))
local macro_rules | `(tactic| simp_all! only [$xs,*]) => `(tactic| simp only [$xs,*, Bool.false_eq_true, Bool.not_false, Bool.not_true, List.append_nil, List.cons_append, List.getElem?_cons_succ, List.getElem?_cons_zero, List.length_cons, List.length_nil, List.map_cons, List.map_nil, List.nil_append, List.replicate, List.set_cons_succ, List.set_cons_zero, Nat.add_sub_cancel, Nat.reduceAdd, Nat.reduceLeDiff, Nat.reduceSub, Nat.sub_self, Option.getD_some, Option.some.injEq, and_true, Hz, G2, at2, Ik, wC, Df, zD, yQ, yJ, tR, pN, CF, bK, wJ, m8, Ek, Ep, D8, Jb, cU, decide_false, decide_true, lK, q9, exists_eq_left', if_false, if_true, BO, u5, gA, fH, fF, fR, fE, fQ, eO, iH, iS, jP, iQ, jL, hJ, iU, iT, jR, iG, jS, hW, jX, jM, kW, jI, kT, iR, iI, iJ, j3, iW, jJ, hX, j0, j1, kX, jU, kZ, iO, gX, gW, iM, gZ, iP, gF, items, xY, lI, uE, lM, uG, uM, iL, bV, aF, reduceCtorEq, hG, Hk, true_and, Ay, uQ, o6, wZ, rN, xP, w9, uC, Bn, sG, qX, oE, r9, nQ, t6, tY, pU, sP, oH, Cj, uI, q8, C1, xO, L3, tX, pB, AY, cQ, wW, wK, t9, Dr, wH, mD, w6, L6, pJ, zI, lP, B9, BV, rX, cI, iE, sU, zB, cY, wI, o8, wU, xI, CY, pW, xH, bG, m5, uL, qU, tP, qP, tV, t8])
theorem G6 (F:dE K "chosen_cover" "chosen_cover" mV f fd) (hm:mg "chosen_cover"=some (.ref f)) (hNK:iC K) (lO:mg "list"=none) (fL:mg "reversed"=none):Callee P w K mg base 1 "chosen_cover" Dq []:=by
 refine bT F hm gD (qN fun _ _ _ _ _ _ _ _=>rfl) (aE (aY 2 gD.nd (hZ (own:=true) aB))
 (aE (aY 3 gD.nd (hZ (own:=true) (aA (bI (aA (bI aB) (aA (uv 1) aB))) aB)))
 (aE (wV (qD (uv 3))
 (aE (aY 4 gD.nd (Hx (uv 3)))
 (aE (aY 5 gD.nd (dA false i8 (dA true (fun _=>hNK) (uv 0) (aN (uv 4) aS)) (aN (uv 4) aS)))
 (aE (eA (lG (uv 2) (aA (aN (uv 5) aS) aB)))
 (aJ (eA (uK (uv 3) (aA (GL (own:=false) lO fL (aA (aN (uv 5) aS) aB)) aB))))))))
 (aJ (bP (uv 2)))))) ?_
 rintro us M Q ⟨chs,c,word,rfl,h64,hwd,hwl,q⟩
 refine ⟨rfl,?_⟩
 refine aI fun V hV=>?_
 simp_all! only [bR,hName]
 intro r hr
 subst hV
 refine aI fun V hV=>?_
 simp_all! only [bR,hName]
 intro g hg
 have hrg:r≠g:=fun z=>by subst z;rw [aF] at hg;cases hg
 have hMg:M g=none:=by rw [aM (fun z=>hrg z.symm)] at hg;exact hg
 have e0:mup (mup M r (.lst [])) g (.lst [.tup [.tup [],.str c]])=dH M r g (([]:List Int).map U.int) (([([],c)]:List (List Nat × Str)).reverse.map dY):=rfl
 rw [e0]
 subst hV
 refine aI fun V hV=>?_
 refine wF (fun τ Mi=>∃ (st:List (List Nat × Str)) (ws:List (List Int)) (dn:List Int) (z4 z5:Option U),τ=[some (A3 chs),some (.str c),some (.ref r),some (.ref g),z4,z5]/\Mi=dH M r g (dn.map U.int) (st.reverse.map dY)/\qZ (eF chs) st ws/\dn++ws.flatten=word/\st.length<=1 + 64 * dn.length) (fun _ M'=>word.length - Fv r M')
  ⟨[([],c)],[word],[],none,none,rfl,rfl,.cons hwd .nil,by simp,by simp⟩ ?_
 rintro τ Mi ⟨st,ws,dn,z4,z5,rfl,rfl,hws,hdn,hsl⟩
 have vg:∀ T R,view (dH M r g T R) (.ref g)=.lst R:=fun T R=>mR vE
 have vr:∀ T R,view (dH M r g T R) (.ref r)=.lst T:=fun T R=>mR (sI hrg)
 have lm:∀ (d:List Int) R,Fv r (dH M r g (d.map U.int) R)=d.length:=fun d R=>by unfold Fv;rw [sI hrg];simp
 cases hws with
 | nil =>
  simp_all! only [vg,List.reverse_nil,List.isEmpty_nil]
  have hd:dn=word:=by simpa using hdn
  subst hd
  subst hV
  simp_all! only [gH]
  refine ⟨.ref r,mup M r (.lst (dn.map U.int)),fun z o hz=>?_,.inl rfl,q r hr⟩
  have hzg:z≠g:=fun e=>by subst e;rw [aM (fun e=>hrg e.symm),hMg] at hz;cases hz
  show mup (mup M r _) g _ z=_
  rw [aM hzg];exact hz
 | @cons s w st ws h tl =>
  have hie:(st.reverse.map dY++[dY s]).isEmpty=false:=by simp
  simp_all! only [vg,List.reverse_cons,List.map_append,hie]
  obtain ⟨hlk,hl,hw⟩:=h
  rename_i l wss
  have hlen:dn.length < word.length:=by rw [<- hdn];simp
  have h5:=h64 s l hlk
  have hch:∃ ch,asc chs s.1=some ch/\asc ch s.2=some l:=by
   unfold eF at hlk
   cases e:asc chs s.1 with
   | none=>rw [e] at hlk;cases hlk
   | some ch=>rw [e] at hlk;exact ⟨ch,rfl,hlk⟩
  obtain ⟨ch,hc1,hc2⟩:=hch
  refine aI fun V1 hV1=>?_
  simp_all! only [bR,hName,vE,Qe,Qo,wL,vg]
  refine ⟨⟨_,vg _ _⟩,?_⟩
  subst hV1
  refine aI fun V1 hV1=>?_
  have l1:∀ Mx:aD,cR true Mx (A3 chs) (aQ s.1)=some (some (l8 ch)):=fun Mx=>by rw [u9 s.1 (LN chs),Fm,hc1];rfl
  have l2:∀ Mx:aD,cR false Mx (l8 ch) (.str s.2)=some (some (qH l)):=fun Mx=>by rw [lW s.2 (Hw ch),Hd,hc2];rfl
  simp_all! only [bR,hName,dY,l1,l2]
  subst hV1
  refine aI fun V1 hV1=>?_
  simp_all! only [gC,qH,sI hrg,mJ hrg]
  refine ⟨⟨_,vr _ _⟩,big (by rw [List.length_map];omega),?_⟩
  subst hV1
  simp_all! only [gC,qH,vE,wL]
  refine ⟨⟨_,vg _ _⟩,small (by rw [List.length_map,List.length_reverse,List.length_reverse,List.length_map];simp only [List.length_cons] at hsl;omega),?_⟩
  refine ⟨⟨l.spots++st,wss++ws,dn++[(l.n:Int)],_,_,rfl,?_,(qZ.of hl hw).app tl,?_,?_⟩,?_⟩
  ·rw [List.reverse_append,List.map_append,List.map_append,List.map_reverse (l:=l.spots)];rfl
  ·rw [<- hdn];simp
  ·simp only [List.length_append,List.length_cons,List.length_nil] at hsl ⊢;omega
  ·have e1:dn.map U.int++[U.int l.n]=(dn++[(l.n:Int)]).map U.int:=by simp
   rw [e1,lm]
   have e2:Fv r (dH M r g (dn.map U.int) (st.reverse.map dY++[dY s]))=dn.length:=lm dn _
   first | rw [e2] | skip
   simp only [List.length_append,List.length_cons,List.length_nil]
   omega
def uR (cs:List Str) (vs:VS) (p:List Nat):U:=.tup [aQ p,.tup (cs.map fun c=>l0 (bY vs (p,c)))]
def Ea:cV:=fun us M Q=>∃ (cs:List Str) (tls:List Tl) (t:Tr) (vs:VS),us=[eD cs tls,t.toU,D6 vs]/\t.dep<=12/\t.size<=1000/\cs.length<=6/\(∀ p∈t.places,∃ m,asc vs p=some m)/\Q (.lst (t.places.map (uR cs vs))) M
theorem DD (F:dE K "as_paper" "as_paper" rR f fd) (hm:mg "as_paper"=some (.ref f)) (hNK:iC K) (nZ:mg "tuple"=none) (oC:Callee P w K mg base 14 "places" (fZ 12) []):Callee P w K mg base 15 "as_paper" Ea []:=by
 refine bT F hm DH (HR fun _ _ _ _ _ _ _ _ _=>rfl) (aJ (bP (K1 false ["place","table","values"] [0,2] (dD (aU oC (aA (uv 1) aB))) (bI (aA (uv 0) (aA (Dw ED nZ (aA (kB false ["cls","values","place"] 1 [2,0] (dD (aN (uv 1) aS)) (aO (k:=1) 0 (by dsimp only [bM];decide +kernel)) g9 (oX false i8 (dA true (fun _=>hNK) (uv 1) (uv 2)) (uv 0))) aB)) aB)))))) ?_
 rintro us M Q ⟨cs,tls,t,vs,rfl,hd,hs,h6,hat,q⟩
 refine ⟨rfl,?_⟩
 have hpl:=gJ t
 simp_all! only [gH]
 refine eM (S:=⟨none,t.places.map aQ⟩) (M1:=M) (t.places.map (uR cs vs)) (fun R r=>⟨t,rfl,hd,hs,r⟩) (by simp) (small (by show (t.places.map aQ).length<=_;rw [List.length_map];omega)) (fun a e=>by cases e) ?_ (aZ q)
 intro j x y hx hy M' hS R r'
 have hx':(t.places.map aQ)[j]?=some x:=hx
 rw [List.getElem?_map] at hx' hy
 cases hj:t.places[j]? with
 | none=>rw [hj] at hx';cases hx'
 | some p =>
  rw [hj] at hx' hy
  cases hx';cases hy
  obtain ⟨m,hm'⟩:=hat p (List.mem_of_getElem? hj)
  simp_all! only [hName]
  refine eM (S:=⟨none,cs.map U.str⟩) (M1:=M') (cs.map fun c=>l0 (bY vs (p,c))) (fun R r=>by simp_all! only [m7,qF];exact r) (by simp) (small (by show (cs.map U.str).length<=_;rw [List.length_map];omega)) (fun a e=>by cases e) ?_ ?_
  ·intro j x y hx hy M2 hS R r'
   have hx':(cs.map U.str)[j]?=some x:=hx
   rw [List.getElem?_map] at hx' hy
   cases hj:cs[j]? with
   | none=>rw [hj] at hx';cases hx'
   | some c =>
    rw [hj] at hx' hy
    cases hx';cases hy
    have l1:cR true M2 (D6 vs) (aQ p)=some (some (mS m)):=by rw [u9 p (QX vs),Gx,hm'];rfl
    have l2:cR false M2 (mS m) (.str c)=some ((asc m c).map U.int):=by rw [lW c (Dl m),yG]
    have l3:uB M2 (mS m)=true:=F2 (Dl m)
    simp_all! only [hName,l1,l2,l3]
    have r2:R (l0 (bY vs (p,c))) M2:=r'
    unfold bY at r2
    dsimp only at r2
    rw [hm'] at r2
    have r3:R (l0 (asc m c)) M2:=r2
    cases hc:asc m c with
    | none=>rw [hc] at r3;exact r3
    | some a=>rw [hc] at r3;exact r3
  ·simp_all! only [true_and]
   exact r'
def DB:cV:=fun us M Q=>∃ (cs:List Str) (tls:List Tl) (t:Tr),us=[eD cs tls,t.toU]/\Tab cs tls/\t.dep<=12/\t.size<=1000/\∀ (vs:VS) (chs:CS),Bd t tls cs t.places.reverse vs chs->Q (.lst (t.places.map (uR cs vs))) M
theorem HF {fj:Addr} (F:dE K "labels" "labels" xB f fd) (hm:mg "labels"=some (.ref f)) (dC:mg "joined_price"=some (.ref fj)) (FT:Callee P w K mg base 15 "as_paper" Ea []) (mC:Callee P w K mg base 15 "least_of_all" (AO fj) []):Callee P w K mg base 16 "labels" DB []:=by
 refine bT F hm Jg (qN fun _ _ _ _ _ _ _ _=>rfl) (aJ (bP (aU FT (aA (uv 0) (aA (uv 1) (aA (aN (aU mC (aA (uv 0) (aA (uv 1) (aA (CW dC) aB)))) aS) aB)))))) ?_
 rintro us M Q ⟨cs,tls,t,rfl,hT,hd,hs,q⟩
 refine ⟨rfl,?_⟩
 simp_all! only [gH]
 refine ⟨cs,tls,t,rfl,hT,hd,hs,fun vs chs b=>?_⟩
 simp_all! only [true_and]
 refine ⟨cs,tls,t,vs,rfl,hd,hs,hT.cls.len,fun p hp=>?_,aZ (q vs chs b)⟩
 have:(asc vs p).isSome=true:=by rw [eI,b.keysV];exact List.mem_reverse.mpr hp
 exact Option.isSome_iff_exists.mp this
def BP:cV:=fun us M Q=>∃ (cs:List Str) (tls:List Tl) (t:Tr) (c:Str),us=[eD cs tls,t.toU,.str c]/\Tab cs tls/\t.dep<=12/\t.size<=200/\∀ (vs:VS) (chs:CS),Bd t tls cs t.places.reverse vs chs->match bY vs ([],c) with
 | none=>Q .non M
 | some v=>∀ (word:List Int) (r:Addr),M r=none->Fp tls (word.map U.int) [⟨t,c,[]⟩]=true->yB tls word->(word.map (gB tls)).sum=v->word.length<=1300->Q (.ref r) (mup M r (.lst (word.map U.int)))
theorem MS (t:Tr):([]:List Nat)∈t.places:=oV t [] t (lQ t)
theorem KH {fj:Addr} (F:dE K "least" "least" AE f fd) (hm:mg "least"=some (.ref f)) (hNK:iC K) (dC:mg "joined_price"=some (.ref fj)) (mC:Callee P w K mg base 15 "least_of_all" (AO fj) []) (Ah:Callee P w K mg base 1 "chosen_cover" Dq []):Callee P w K mg base 16 "least" BP []:=by
 refine bT F hm BX (HR fun _ _ _ _ _ _ _ _ _=>rfl) (aE (aY 3 BX.nd (aN (aU mC (aA (uv 0) (aA (uv 1) (aA (CW dC) aB)))) aS))
 (aJ (bP (BG (cP (Fy false i8) (uv 2) (dA true (fun _=>hNK) (uv 3) (bI aB))) (aU Ah (aA (uv 3) (aA (uv 2) aB))) zP)))) ?_
 rintro us M Q ⟨cs,tls,t,c,rfl,hT,hd,hs,q⟩
 refine ⟨rfl,?_⟩
 refine aI fun V hV=>?_
 simp_all! only [bR,hName]
 refine ⟨cs,tls,t,rfl,hT,hd,by omega,fun vs chs b=>?_⟩
 simp_all! only [true_and]
 have q2:=q vs chs b
 have hin:∃ ch,asc chs []=some ch:=by
  have:(asc chs []).isSome=true:=by rw [eI,b.keysC];exact List.mem_reverse.mpr (MS t)
  exact Option.isSome_iff_exists.mp this
 obtain ⟨ch,hch⟩:=hin
 have hlk:eF chs ([],c)=asc ch c:=by unfold eF;rw [hch];rfl
 have l1:cR true M (A3 chs) (.tup [])=some (some (l8 ch)):=by
  have:=u9 (M:=M) [] (LN chs)
  rw [Fm,hch] at this
  exact this
 have l2:cR false M (l8 ch) (.str c)=some ((asc ch c).map qH):=by rw [lW c (Hw ch),Hd]
 have hboth:=b.both ([],c)
 rw [hlk] at hboth
 subst hV
 simp_all! only [gH,l1,l2]
 cases hv:bY vs ([],c) with
 | none =>
  rw [hv] at q2 hboth
  cases hc:asc ch c with
  | some l=>rw [hc] at hboth;cases hboth
  | none =>
   simp_all! only [Option.map_none,Option.isSome_none]
   exact aZ q2
 | some v =>
  rw [hv] at q2 hboth
  cases hc:asc ch c with
  | none=>rw [hc] at hboth;cases hboth
  | some l =>
   simp_all! only [Option.map_some,Option.isSome_some]
   obtain ⟨rk,word,seen,cv⟩:=b.cover hT ([],c) v hv
   have k1:=cv.len t (lQ t)
   have k2:=mG seen cs cv.nd cv.sub
   have k3:=hT.cls.len
   refine ⟨chs,c,word,rfl,fun s l h=>(b.spots hT s l h).1,cv.wd,by omega,fun r hr=>?_⟩
   have hrun:=cv.run t (lQ t) [] [] fun x hx=>by simp
   exact aZ (q2 word r hr (HM tls word _ _ hrun) cv.ok (cv.cost v hv) (by omega))
end
end K33
namespace K33
open PySem L2 U2
abbrev Bs:=Option (Int × Int)
def bQ:Bs->Bs->Bs
 | none,b=>b
 | a,none=>a
 | some (p,n),some (q,m)=>if p < q then some (p,n) else if q < p then some (q,m) else some (p,n + m)
def bO:Bs->Bs->Bs
 | some (p,n),some (q,m)=>some (p + q,n * m)
 | _,_=>none
theorem eB (a:Bs):bQ a none=a:=by cases a <;> rfl
theorem gT (a:Bs):bQ none a=a:=rfl
theorem bS (a:Bs):bO a none=none:=by cases a <;> rfl
theorem nV (a b:Bs):bQ a b=bQ b a:=by
 rcases a with _ | ⟨p,n⟩ <;> rcases b with _ | ⟨q,m⟩ <;> simp only [bQ]
 by_cases h1:p < q
 ·rw [if_pos h1,if_neg (by omega),if_pos h1]
 ·by_cases h2:q < p
  ·rw [if_neg h1,if_pos h2,if_pos h2]
  ·rw [if_neg h1,if_neg h2,if_neg h2,if_neg h1]
   have:p=q:=by omega
   subst this;rw [Int.add_comm]
theorem d9 (a b c:Bs):bQ (bQ a b) c=bQ a (bQ b c):=by
 rcases a with _ | ⟨p,n⟩
 ·rfl
 rcases b with _ | ⟨q,m⟩
 ·rfl
 rcases c with _ | ⟨r,k⟩
 ·rw [eB,eB]
 simp only [bQ]
 by_cases h1:p < q
 ·rw [if_pos h1]
  by_cases h2:q < r
  ·rw [if_pos h2];simp only [bQ];rw [if_pos (by omega),if_pos h1]
  ·by_cases h3:r < q
   ·rw [if_neg h2,if_pos h3]
   ·rw [if_neg h2,if_neg h3];simp only [bQ];rw [if_pos (by omega),if_pos h1]
 ·by_cases h2:q < p
  ·rw [if_neg h1,if_pos h2]
   by_cases h3:q < r
   ·rw [if_pos h3];simp only [bQ];rw [if_pos h3,if_neg h1,if_pos h2]
   ·by_cases h4:r < q
    ·rw [if_neg h3,if_pos h4];simp only [bQ];rw [if_neg h3,if_pos h4,if_neg (by omega),if_pos (by omega)]
    ·rw [if_neg h3,if_neg h4];simp only [bQ];rw [if_neg h3,if_neg h4,if_neg h1,if_pos h2]
  ·have e:p=q:=by omega
   subst e
   rw [if_neg h1,if_neg h2]
   by_cases h3:p < r
   ·rw [if_pos h3];simp only [bQ];rw [if_pos h3,if_neg h1,if_neg h2]
   ·by_cases h4:r < p
    ·rw [if_neg h3,if_pos h4];simp only [bQ];rw [if_neg h3,if_pos h4,if_neg h3,if_pos h4]
    ·rw [if_neg h3,if_neg h4];simp only [bQ];rw [if_neg h3,if_neg h4,if_neg h1,if_neg h1]
     have:p=r:=by omega
     subst this;rw [Int.add_assoc]
theorem nT (a b:Bs):bO a b=bO b a:=by
 rcases a with _ | ⟨p,n⟩ <;> rcases b with _ | ⟨q,m⟩ <;> simp only [bO]
 rw [Int.add_comm,Int.mul_comm]
theorem l7 (a b c:Bs):bO (bO a b) c=bO a (bO b c):=by
 rcases a with _ | ⟨p,n⟩ <;> rcases b with _ | ⟨q,m⟩ <;> rcases c with _ | ⟨r,k⟩ <;> simp only [bO]
 rw [Int.add_assoc,Int.mul_assoc]
theorem pD (a b c:Bs):bO a (bQ b c)=bQ (bO a b) (bO a c):=by
 rcases a with _ | ⟨p,n⟩
 ·rfl
 rcases b with _ | ⟨q,m⟩
 ·rfl
 rcases c with _ | ⟨r,k⟩
 ·rfl
 simp only [bQ,bO]
 by_cases h1:q < r
 ·rw [if_pos h1,if_pos (by omega)]
 ·by_cases h2:r < q
  ·rw [if_neg h1,if_pos h2,if_neg (by omega),if_pos (by omega)]
  ·rw [if_neg h1,if_neg h2,if_neg (by omega),if_neg (by omega)];simp only [Int.mul_add]
def qA:Bs:=some (0,1)
theorem tS (a:Bs):bO a qA=a:=by rcases a with _ | ⟨p,n⟩ <;> simp [bO,qA]
theorem Pz (a:Bs):bO qA a=a:=by rw [nT,tS]
def aV:List Bs->Bs
 | []=>none
 | a :: r=>bQ a (aV r)
theorem mN (a b:List Bs):aV (a++b)=bQ (aV a) (aV b):=by
 induction a with
 | nil=>rfl
 | cons x r ih=>rw [List.cons_append,aV,ih,aV,d9]
theorem u6 {α:Type} (a:Bs) (g:α->Bs) (l:List α):aV (l.map fun x=>bO a (g x))=bO a (aV (l.map g)):=by
 induction l with
 | nil=>rw [List.map_nil,aV,List.map_nil,aV,bS]
 | cons x r ih=>rw [List.map_cons,aV,ih,List.map_cons,aV,pD]
theorem dO {α:Type} {g h:α->Bs} (l:List α) (e:∀ x∈l,g x=h x):aV (l.map g)=aV (l.map h):=by rw [List.map_congr_left e]
theorem lH {α:Type} {g:α->Bs} (l:List α) (e:∀ x∈l,g x=none):aV (l.map g)=none:=by
 induction l with
 | nil=>rfl
 | cons x r ih=>rw [List.map_cons,aV,e x List.mem_cons_self,gT];exact ih fun y hy=>e y (List.mem_cons_of_mem _ hy)
theorem NA (a b c d:Bs):bQ (bQ a b) (bQ c d)=bQ (bQ a c) (bQ b d):=by
 rw [d9,d9,<- d9 b c d,nV b c,d9 c b d]
theorem Aq {α:Type} (g h:α->Bs) (l:List α):aV (l.map fun x=>bQ (g x) (h x))=bQ (aV (l.map g)) (aV (l.map h)):=by
 induction l with
 | nil=>rfl
 | cons x r ih=>rw [List.map_cons,aV,ih,List.map_cons,List.map_cons,aV,aV,NA]
theorem G7 {α β:Type} (g:α->β->Bs) (l:List α) (m:List β):aV (l.map fun x=>aV (m.map fun y=>g x y))=aV (m.map fun y=>aV (l.map fun x=>g x y)):=by
 induction l with
 | nil=>rw [List.map_nil,aV];exact (lH m fun y _=>rfl).symm
 | cons x r ih =>
  rw [List.map_cons,aV,ih,<- Aq]
  exact dO m fun y _=>rfl
theorem GR {l m:List Bs} (p:l.Perm m):aV l=aV m:=by
 induction p with
 | nil=>rfl
 | cons x _ ih=>rw [aV,aV,ih]
 | swap x y l=>rw [aV,aV,aV,aV,<- d9,<- d9,nV x y]
 | trans _ _ h1 h2=>rw [h1,h2]
abbrev Ed:=(Str × Str) × Bs
def bJ (es:List Ed) (f:Str->Bs):Nat->List Str->Str->Bs
 | 0,_,c=>f c
 | n + 1,seen,c=>bQ (f c) (aV (es.map fun e=>bO e.2 (if e.1.1=c/\e.1.2 ∉ seen then bJ es f n (seen++[e.1.2]) e.1.2 else none)))
theorem Cp (es:List Ed) (f:Str->Bs):∀ (n:Nat) (s s':List Str) (c:Str),(∀ x,x∈s ↔ x∈s')->bJ es f n s c=bJ es f n s' c
 | 0,_,_,_,_=>rfl
 | n + 1,s,s',c,h=>by
  rw [bJ,bJ]
  congr 1
  refine dO es fun e _=>?_
  by_cases hc:e.1.1=c/\e.1.2 ∉ s
  ·rw [if_pos hc,if_pos ⟨hc.1,fun z=>hc.2 ((h _).mpr z)⟩]
   rw [Cp es f n (s++[e.1.2]) (s'++[e.1.2]) e.1.2 fun x=>by rw [List.mem_append,List.mem_append,h x]]
  ·rw [if_neg hc,if_neg fun z=>hc ⟨z.1,fun y=>z.2 ((h _).mp y)⟩]
def gP (v:Str):Str->Bs:=fun c=>if c=v then qA else none
theorem rH (es:List Ed) (v:Str):∀ (n:Nat) (s:List Str) (c:Str),v∈s->c≠v->bJ es (gP v) n s c=none
 | 0,_,c,_,hc=>by rw [bJ,gP,if_neg hc]
 | n + 1,s,c,hv,hc=>by
  rw [bJ,gP,if_neg hc,gT]
  refine lH es fun e _=>?_
  by_cases h:e.1.1=c/\e.1.2 ∉ s
  ·rw [if_pos h,rH es v n (s++[e.1.2]) e.1.2 (List.mem_append_left _ hv) (fun z=>h.2 (z ▸ hv)),bS]
  ·rw [if_neg h,bS]
def sV (e:Ed):Ed:=((e.1.2,e.1.1),e.2)
theorem rM (es:List Ed) (n:Nat) (S:List Str) (u:Str):bJ es (gP u) n (S++[u]) u=qA:=by
 cases n with
 | zero=>rw [bJ,gP,if_pos rfl]
 | succ n =>
  rw [bJ,gP,if_pos rfl,lH,eB]
  intro e _
  by_cases h:e.1.1=u/\e.1.2 ∉ S++[u]
  ·have hm:u∈S++[u]:=List.mem_append_right _ (List.mem_singleton.mpr rfl)
   rw [if_pos h,rH es u n ((S++[u])++[e.1.2]) e.1.2 (List.mem_append_left _ hm) (fun z=>h.2 (by rw [z];exact hm)),bS]
  ·rw [if_neg h,bS]
theorem sT (es:List Ed):∀ (n:Nat) (S:List Str) (u v:Str),u ∉ S->v ∉ S->bJ es (gP v) n (S++[u]) u=bJ (es.map sV) (gP u) n (S++[v]) v
 | 0,S,u,v,_,_=>by
  rw [bJ,bJ,gP,gP]
  by_cases h:u=v
  ·rw [if_pos h,if_pos h.symm]
  ·rw [if_neg h,if_neg (Ne.symm h)]
 | 1,S,u,v,hu,hv=>by
  by_cases h:u=v
  ·subst h;rw [rM,rM]
  ·rw [bJ,bJ,gP,gP,if_neg h,if_neg (Ne.symm h),gT,gT,List.map_map]
   refine dO es fun e _=>?_
   show bO e.2 (if e.1.1=u/\e.1.2 ∉ S++[u] then (if e.1.2=v then qA else none) else none)=bO e.2 (if e.1.2=v/\e.1.1 ∉ S++[v] then (if e.1.1=u then qA else none) else none)
   have hmu:∀ x,x ∉ S++[u] ↔ x ∉ S/\x≠u:=fun x=>by simp
   have hmv:∀ x,x ∉ S++[v] ↔ x ∉ S/\x≠v:=fun x=>by simp
   by_cases h1:e.1.1=u
   ·by_cases h2:e.1.2=v
    ·rw [if_pos ⟨h1,(hmu _).mpr ⟨h2 ▸ hv,fun z=>h (z.symm.trans h2)⟩⟩,if_pos h2,if_pos ⟨h2,(hmv _).mpr ⟨h1 ▸ hu,fun z=>h (h1.symm.trans z)⟩⟩,if_pos h1]
    ·have:bO e.2 (if e.1.1=u/\e.1.2 ∉ S++[u] then (if e.1.2=v then qA else none) else none)=none:=by
      rw [if_neg h2];split <;> exact bS _
     rw [this,if_neg fun z=>h2 z.1,bS]
   ·rw [if_neg fun z=>h1 z.1,bS]
    have:bO e.2 (if e.1.2=v/\e.1.1 ∉ S++[v] then (if e.1.1=u then qA else none) else none)=none:=by
     rw [if_neg h1];split <;> exact bS _
    rw [this]
 | n + 2,S,u,v,hu,hv=>by
  by_cases h:u=v
  ·subst h;rw [rM,rM]
  have hmu:∀ x,x ∉ S++[u] ↔ x ∉ S/\x≠u:=fun x=>by simp
  have hmv:∀ x,x ∉ S++[v] ↔ x ∉ S/\x≠v:=fun x=>by simp
  have hvu:v ∉ S++[u]:=(hmu v).mpr ⟨hv,Ne.symm h⟩
  have huv:u ∉ S++[v]:=(hmv u).mpr ⟨hu,h⟩
  let mid:Ed->Ed->Bs:=fun e g=>bO e.2 (bO g.2 (if e.1.1=u/\e.1.2 ∉ S++[u]/\e.1.2≠v/\g.1.2=v/\g.1.1 ∉ S++[v]/\g.1.1≠u then bJ (es.map sV) (gP e.1.2) n (S++[u]++[v]++[g.1.1]) g.1.1 else none))
  let dir:Ed->Bs:=fun e=>if e.1.1=u/\e.1.2=v then e.2 else none
  have L:bJ es (gP v) (n + 2) (S++[u]) u=bQ (aV (es.map dir)) (aV (es.map fun e=>aV (es.map fun g=>mid e g))):=by
   rw [bJ,gP,if_neg h,gT,<- Aq]
   refine dO es fun e _=>?_
   by_cases hc:e.1.1=u/\e.1.2 ∉ S++[u]
   ·rw [if_pos hc,sT es (n + 1) (S++[u]) e.1.2 v hc.2 hvu,bJ,pD]
    congr 1
    ·show _=if e.1.1=u/\e.1.2=v then e.2 else none
     rw [gP]
     by_cases h2:v=e.1.2
     ·rw [if_pos h2,tS,if_pos ⟨hc.1,h2.symm⟩]
     ·rw [if_neg h2,bS,if_neg fun z=>h2 z.2.symm]
    ·rw [<- u6,List.map_map]
     refine dO es fun g _=>?_
     show bO e.2 (bO g.2 (if g.1.2=v/\g.1.1 ∉ S++[u]++[v] then bJ (es.map sV) (gP e.1.2) n (S++[u]++[v]++[g.1.1]) g.1.1 else none))=bO e.2 (bO g.2 _)
     congr 2
     by_cases hg:g.1.2=v/\g.1.1 ∉ S++[u]++[v]
     ·have hg1:g.1.1 ∉ S/\g.1.1≠u/\g.1.1≠v:=by have:=hg.2;simp at this;exact this
      rw [if_pos hg]
      by_cases h2:e.1.2=v
      ·rw [if_neg fun z=>z.2.2.1 h2,h2]
       refine rH _ _ _ _ _ ?_ hg1.2.2
       simp
      ·rw [if_pos ⟨hc.1,hc.2,h2,hg.1,(hmv _).mpr ⟨hg1.1,hg1.2.2⟩,hg1.2.1⟩]
     ·have hn:¬ (e.1.1=u/\e.1.2 ∉ S++[u]/\e.1.2≠v/\g.1.2=v/\g.1.1 ∉ S++[v]/\g.1.1≠u):=fun z=>by
       have:=(hmv _).mp z.2.2.2.2.1
       exact hg ⟨z.2.2.2.1,by simp [this.1,this.2,z.2.2.2.2.2]⟩
      rw [if_neg hg,if_neg hn]
   ·rw [if_neg hc,bS]
    have h1:dir e=none:=if_neg (c:=e.1.1=u/\e.1.2=v) fun z=>hc ⟨z.1,z.2 ▸ hvu⟩
    have h2:aV (es.map fun g=>mid e g)=none:=lH es fun g _=>by
     show bO e.2 (bO g.2 _)=none
     rw [if_neg fun z=>hc ⟨z.1,z.2.1⟩,bS,bS]
    rw [h1,h2];rfl
  have R:bJ (es.map sV) (gP u) (n + 2) (S++[v]) v=bQ (aV (es.map dir)) (aV (es.map fun g=>aV (es.map fun e=>mid e g))):=by
   rw [bJ,gP,if_neg (Ne.symm h),gT,<- Aq,List.map_map]
   refine dO es fun g _=>?_
   show bO g.2 (if g.1.2=v/\g.1.1 ∉ S++[v] then bJ (es.map sV) (gP u) (n + 1) (S++[v]++[g.1.1]) g.1.1 else none)=bQ (dir g) (aV (es.map fun e=>mid e g))
   by_cases hc:g.1.2=v/\g.1.1 ∉ S++[v]
   ·rw [if_pos hc,<- sT es (n + 1) (S++[v]) u g.1.1 huv hc.2,bJ,pD]
    congr 1
    ·show _=if g.1.1=u/\g.1.2=v then g.2 else none
     rw [gP]
     by_cases h2:u=g.1.1
     ·rw [if_pos h2,tS,if_pos ⟨h2.symm,hc.1⟩]
     ·rw [if_neg h2,bS,if_neg fun z=>h2 z.1.symm]
    ·rw [<- u6]
     refine dO es fun e _=>?_
     show _=bO e.2 (bO g.2 _)
     rw [<- l7 e.2,nT e.2 g.2,l7]
     congr 2
     by_cases he:e.1.1=u/\e.1.2 ∉ S++[v]++[u]
     ·have he1:e.1.2 ∉ S/\e.1.2≠v/\e.1.2≠u:=by have:=he.2;simp at this;exact this
      rw [if_pos he]
      by_cases h2:g.1.1=u
      ·rw [if_neg fun z=>z.2.2.2.2.2 h2,h2]
       refine rH _ _ _ _ _ ?_ he1.2.2
       simp
      ·rw [if_pos ⟨he.1,(hmu _).mpr ⟨he1.1,he1.2.2⟩,he1.2.1,hc.1,hc.2,h2⟩]
       rw [sT es n (S++[v]++[u]) e.1.2 g.1.1 he.2 (by have:=(hmv _).mp hc.2;simp [this.1,this.2,h2])]
       exact Cp _ _ _ _ _ _ fun x=>by simp [or_comm,or_left_comm,or_assoc]
     ·have hn:¬ (e.1.1=u/\e.1.2 ∉ S++[u]/\e.1.2≠v/\g.1.2=v/\g.1.1 ∉ S++[v]/\g.1.1≠u):=fun z=>by
       have:=(hmu _).mp z.2.1
       exact he ⟨z.1,by simp [this.1,this.2,z.2.2.1]⟩
      rw [if_neg he,if_neg hn]
   ·rw [if_neg hc,bS]
    have h1:dir g=none:=if_neg (c:=g.1.1=u/\g.1.2=v) fun z=>hc ⟨z.2,z.1 ▸ huv⟩
    have h2:aV (es.map fun e=>mid e g)=none:=lH es fun e _=>by
     show bO e.2 (bO g.2 _)=none
     rw [if_neg fun z=>hc ⟨z.2.2.2.1,z.2.2.2.2.1⟩,bS,bS]
    rw [h1,h2];rfl
  rw [L,R,G7]
end K33
namespace K33
open PySem L2 U2
section
variable {κ:Type} [DecidableEq κ]
def eZ (m:List (κ × (Int × Int))) (k:κ) (p n:Int):List (κ × (Int × Int)):=match asc m k with
 | none=>dM m k (p,n)
 | some b=>if p < b.1 then dM m k (p,n) else if p=b.1 then dM m k (p,b.2 + n) else m
theorem wB (m:List (κ × (Int × Int))) (k x:κ) (p n:Int):asc (eZ m k p n) x=if x=k then bQ (asc m k) (some (p,n)) else asc m x:=by
 unfold eZ
 cases h:asc m k with
 | none=>simp only;rw [iY];rfl
 | some b =>
  obtain ⟨q,c⟩:=b
  simp only [bQ]
  by_cases h1:p < q
  ·have h1':¬ q < p:=by omega
   rw [if_pos h1,iY,if_neg h1',if_pos h1]
  ·rw [if_neg h1]
   by_cases h2:p=q
   ·subst h2
    rw [if_pos rfl,iY,if_neg h1,if_neg h1]
   ·have h2':q < p:=by omega
    rw [if_neg h2,if_pos h2']
    by_cases e:x=k
    ·rw [if_pos e,e,h]
    ·rw [if_neg e]
theorem o7 (m:List (κ × (Int × Int))) (k:κ) (p n:Int):(eZ m k p n).map (·.1)=if (asc m k).isSome then m.map (·.1) else m.map (·.1)++[k]:=by
 unfold eZ
 cases h:asc m k with
 | none=>simp only;rw [jY,h]
 | some b =>
  simp only
  split
  ·rw [jY,h]
  ·split
   ·rw [jY,h]
   ·rfl
theorem rA {m:List (κ × (Int × Int))} {k:κ} {p n:Int} (h:(m.map (·.1)).Nodup):((eZ m k p n).map (·.1)).Nodup:=by
 rw [o7]
 cases hk:(asc m k).isSome with
 | true=>exact h
 | false =>
  have:k ∉ m.map (·.1):=fun z=>by rw [eI.mpr z] at hk;cases hk
  exact List.nodup_append.mpr ⟨h,by simp,fun a ha b hb=>by
   cases List.mem_singleton.mp hb
   intro z;subst z;exact this ha⟩
theorem w4 (m:List (κ × (Int × Int))) (k:κ) (p n:Int):(eZ m k p n).length<=m.length + 1:=by
 have:=congrArg List.length (o7 m k p n)
 rw [List.length_map] at this
 rw [this]
 split <;> simp
theorem BR {r:List (κ × (Int × Int))} {x:κ × (Int × Int)} {b:Int × Int} (h:x.1 ∉ r.map (·.1)):dM (x :: r) x.1 b=(x.1,b) :: r:=by
 unfold dM
 rw [if_pos (by simp),List.map_cons,if_pos rfl]
 congr 1
 conv=>rhs;rw [<- List.map_id r]
 refine List.map_congr_left fun y hy=>?_
 have:¬ y.1=x.1:=fun z=>h (z ▸ List.mem_map.mpr ⟨y,hy,rfl⟩)
 rw [if_neg this];rfl
theorem C0 {r:List (κ × (Int × Int))} {x:κ × (Int × Int)} {k:κ} {b:Int × Int} (h:x.1≠k):dM (x :: r) k b=x :: dM r k b:=by
 unfold dM
 rw [List.any_cons,decide_eq_false h,Bool.false_or]
 split
 ·rw [List.map_cons,if_neg h]
 ·rfl
theorem n5 (g:κ->Bs):∀ (m:List (κ × (Int × Int))) (k:κ) (b b':Int × Int),(m.map (·.1)).Nodup->bQ (match asc m k with | some a=>some a | none=>none) (some b)=some b'->aV ((dM m k b').map fun e=>bO (some e.2) (g e.1))=bQ (aV (m.map fun e=>bO (some e.2) (g e.1))) (bO (some b) (g k))
 | [],k,b,b',_,h=>by
  have:b=b':=by
   have h':bQ none (some b)=some b':=h
   rw [gT] at h';exact Option.some.inj h'
  subst this
  show bQ _ none=bQ none _
  rw [eB,gT]
 | x :: r,k,b,b',hn,h=>by
  rw [List.map_cons,List.nodup_cons] at hn
  by_cases e:x.1=k
  ·subst e
   rw [eJ rfl] at h
   rw [BR hn.1,List.map_cons,List.map_cons,aV,aV]
   show bQ (bO (some b') (g x.1)) _=_
   rw [<- h,nT,pD,nT (g x.1),nT (g x.1),d9,nV (bO (some b) (g x.1)),<- d9]
  ·rw [eL e] at h
   rw [C0 e,List.map_cons,List.map_cons,aV,aV,n5 g r k b b' hn.2 h,d9]
theorem CA (g:κ->Bs) (m:List (κ × (Int × Int))) (k:κ) (p n:Int) (hn:(m.map (·.1)).Nodup):aV ((eZ m k p n).map fun e=>bO (some e.2) (g e.1))=bQ (aV (m.map fun e=>bO (some e.2) (g e.1))) (bO (some (p,n)) (g k)):=by
 unfold eZ
 cases h:asc m k with
 | none=>simp only;exact n5 g m k (p,n) (p,n) hn (by rw [h];rfl)
 | some b =>
  obtain ⟨q,c⟩:=b
  simp only
  by_cases h1:p < q
  ·have h1':¬ q < p:=by omega
   rw [if_pos h1]
   exact n5 g m k (p,n) (p,n) hn (by rw [h];simp only [bQ];rw [if_neg h1',if_pos h1])
  ·rw [if_neg h1]
   by_cases h2:p=q
   ·subst h2
    rw [if_pos rfl]
    exact n5 g m k (p,n) (p,c + n) hn (by rw [h];simp only [bQ];rw [if_neg h1,if_neg h1])
   ·have h2':q < p:=by omega
    rw [if_neg h2]
    have:=n5 g m k (p,n) (q,c) hn (by rw [h];simp only [bQ];rw [if_pos h2'])
    have e:dM m k (q,c)=m:=by
     clear this
     induction m with
     | nil=>cases h
     | cons x r ih =>
      rw [List.map_cons,List.nodup_cons] at hn
      by_cases e:x.1=k
      ·subst e
       rw [eJ rfl] at h
       rw [BR hn.1,<- Option.some.inj h]
      ·rw [eL e] at h
       rw [C0 e,ih hn.2 h]
    rw [e] at this
    exact this
theorem Bi {m:List (κ × (Int × Int))} {k:κ} {p n B:Int} (hB:0<=B) (hn:0<=n) (h:∀ e∈m,0<=e.2.2/\e.2.2<=B):∀ e∈eZ m k p n,0<=e.2.2/\e.2.2<=B + n:=by
 have hput:∀ b:Int × Int,0<=b.2->b.2<=B + n->∀ e∈dM m k b,0<=e.2.2/\e.2.2<=B + n:=fun b h0 h1 e he=>by
  unfold dM at he
  split at he
  ·obtain ⟨x,hx,rfl⟩:=List.mem_map.mp he
   have:=h x hx
   split
   ·exact ⟨h0,h1⟩
   ·exact ⟨this.1,by omega⟩
  ·rcases List.mem_append.mp he with he | he
   ·have:=h e he;exact ⟨this.1,by omega⟩
   ·cases List.mem_singleton.mp he;exact ⟨h0,h1⟩
 intro e he
 unfold eZ at he
 cases hk:asc m k with
 | none =>
  rw [hk] at he
  exact hput (p,n) hn (by show n<=B + n;omega) e he
 | some b =>
  rw [hk] at he
  have hb:=h (k,b) (vL hk)
  simp only at he
  split at he
  ·exact hput (p,n) hn (by show n<=B + n;have:=hb.1;have:=hb.2;simp only at *;omega) e he
  ·split at he
   ·exact hput (p,b.2 + n) (by show 0<=b.2 + n;have:=hb.1;simp only at *;omega) (by show b.2 + n<=B + n;have:=hb.2;simp only at *;omega) e he
   ·have:=h e he;exact ⟨this.1,by omega⟩
end
def aX (tls:List Tl):List ((Str × Str) × Int):=tls.filterMap fun tl=>match tl.pt with
 | .hole h=>some ((tl.cls,h),tl.cost)
 | _=>none
def iK (l:List ((Str × Str) × Int)):List Ed:=l.map fun e=>(e.1,some (e.2,1))
def oR (m:List ((Str × Str) × (Int × Int))):List Ed:=m.map fun e=>(e.1,some e.2)
def aW (l:List ((Str × Str) × Int)):List ((Str × Str) × (Int × Int)):=l.foldl (fun m e=>eZ m e.1 e.2 1) []
theorem vU (l:List ((Str × Str) × Int)) (e:(Str × Str) × Int):aW (l++[e])=eZ (aW l) e.1 e.2 1:=by simp [aW,List.foldl_append]
theorem snoc_ind {α:Type} {P:List α->Prop} (h0:P []) (h1:∀ l v,P l->P (l++[v])) (l:List α):P l:=by
 have:∀ r:List α,P r.reverse:=by
  intro r
  induction r with
  | nil=>exact h0
  | cons a r ih=>rw [List.reverse_cons];exact h1 _ _ ih
 have:=this l.reverse
 rwa [List.reverse_reverse] at this
structure Oy (l:List ((Str × Str) × Int)) (m:List ((Str × Str) × (Int × Int))):Prop where
 nd:(m.map (·.1)).Nodup
 len:m.length<=l.length
 many:∀ e∈m,0<=e.2.2/\e.2.2<=l.length
 key:∀ e∈m,e.1∈l.map (·.1)
 sum:∀ g:Str × Str->Bs,aV (m.map fun e=>bO (some e.2) (g e.1))=aV (l.map fun e=>bO (some (e.2,1)) (g e.1))
theorem pA (l:List ((Str × Str) × Int)):Oy l (aW l):=by
 refine snoc_ind (P:=fun l=>Oy l (aW l)) ⟨by simp [aW],by simp [aW],(fun e he=>by simp [aW] at he),(fun e he=>by simp [aW] at he),fun g=>rfl⟩ (fun l v ih=>?_) l
 rw [vU]
 refine ⟨rA ih.nd,?_,fun e he=>?_,fun e he=>?_,fun g=>?_⟩
 ·have:=w4 (aW l) v.1 v.2 1
  have:=ih.len
  rw [List.length_append];simp;omega
 ·have:=Bi (B:=l.length) (by omega) (by decide) ih.many e he
  rw [List.length_append]
  refine ⟨this.1,?_⟩
  have:=this.2
  simp;omega
 ·have hk:e.1∈(eZ (aW l) v.1 v.2 1).map (·.1):=List.mem_map.mpr ⟨e,he,rfl⟩
  rw [o7] at hk
  rw [List.map_append]
  split at hk
  ·obtain ⟨e',he',h⟩:=List.mem_map.mp hk
   exact List.mem_append_left _ (h ▸ ih.key e' he')
  ·rcases List.mem_append.mp hk with hk | hk
   ·obtain ⟨e',he',h⟩:=List.mem_map.mp hk
    exact List.mem_append_left _ (h ▸ ih.key e' he')
   ·exact List.mem_append_right _ (by simpa using hk)
 ·rw [CA g _ _ _ _ ih.nd,ih.sum g,List.map_append,mN]
  congr 1
  show _=bQ _ none
  rw [eB]
theorem Bh (l:List ((Str × Str) × Int)) (f:Str->Bs):∀ (n:Nat) (s:List Str) (c:Str),bJ (oR (aW l)) f n s c=bJ (iK l) f n s c
 | 0,_,_=>rfl
 | n + 1,s,c=>by
  rw [bJ,bJ]
  congr 1
  have h:=(pA l).sum fun k=>if k.1=c/\k.2 ∉ s then bJ (iK l) f n (s++[k.2]) k.2 else none
  have hr:aV ((iK l).map fun e=>bO e.2 (if e.1.1=c/\e.1.2 ∉ s then bJ (iK l) f n (s++[e.1.2]) e.1.2 else none))=aV (l.map fun e=>bO (some (e.2,1)) (if e.1.1=c/\e.1.2 ∉ s then bJ (iK l) f n (s++[e.1.2]) e.1.2 else none)):=by
   conv=>lhs;arg 1;arg 2;rw [iK]
   rw [List.map_map];rfl
  have hl:aV ((oR (aW l)).map fun e=>bO e.2 (if e.1.1=c/\e.1.2 ∉ s then bJ (oR (aW l)) f n (s++[e.1.2]) e.1.2 else none))=aV ((aW l).map fun e=>bO (some e.2) (if e.1.1=c/\e.1.2 ∉ s then bJ (oR (aW l)) f n (s++[e.1.2]) e.1.2 else none)):=by
   conv=>lhs;arg 1;arg 2;rw [oR]
   rw [List.map_map];rfl
  rw [hr,hl,<- h]
  refine dO _ fun e _=>?_
  rw [Bh l f n]
structure Seen (cs seen:List Str):Prop where
 nd:seen.Nodup
 sub:∀ s∈seen,s∈cs
theorem Seen.len {cs seen:List Str} (h:Seen cs seen):seen.length<=cs.length:=mG seen cs h.nd h.sub
theorem Seen.add {cs seen:List Str} {h:Str} (s:Seen cs seen) (hn:h ∉ seen) (hc:h∈cs):Seen cs (seen++[h]):=⟨by
 refine List.nodup_append.mpr ⟨s.nd,by simp,fun a ha b hb=>?_⟩
 cases List.mem_singleton.mp hb
 exact fun z=>hn (z ▸ ha),fun x hx=>by
 rcases List.mem_append.mp hx with hx | hx
 ·exact s.sub x hx
 ·cases List.mem_singleton.mp hx;exact hc⟩
def Wc (cs:List Str) (es:List Ed) (f:Str->Bs) (seen:List Str) (c:Str):Bs:=bJ es f (cs.length - seen.length) seen c
theorem MU {cs:List Str} {es:List Ed} (he:∀ e∈es,e.1.2∈cs) (f:Str->Bs) {seen:List Str} (c:Str) (hs:Seen cs seen) :
  Wc cs es f seen c=bQ (f c) (aV (es.map fun e=>bO e.2 (if e.1.1=c/\e.1.2 ∉ seen then Wc cs es f (seen++[e.1.2]) e.1.2 else none))):=by
 unfold Wc
 have hl:=hs.len
 cases h:cs.length - seen.length with
 | zero =>
  rw [bJ,lH,eB]
  intro e hm
  have:¬ (e.1.1=c/\e.1.2 ∉ seen):=fun z=>by
   have:=(hs.add z.2 (he e hm)).len
   rw [List.length_append] at this
   simp at this;omega
  rw [if_neg this,bS]
 | succ n =>
  rw [bJ]
  congr 1
  refine dO es fun e _=>?_
  rw [List.length_append,show cs.length - (seen.length + [e.1.2].length)=n by simp;omega]
def nodes (ks:List (Str × Str)):Nat->List Str->Str->Nat
 | 0,_,_=>1
 | n + 1,seen,c=>1 + (ks.map fun k=>if k.1=c/\k.2 ∉ seen then nodes ks n (seen++[k.2]) k.2 else 0).sum
theorem Ag {α:Type} {g:α->Nat} {B:Nat}:∀ (l:List α),(∀ x∈l,g x<=B)->(l.map g).sum<=l.length * B
 | [],_=>by simp
 | a :: l,e=>by
  have h1:=e a List.mem_cons_self
  have h2:=Ag l fun x hx=>e x (List.mem_cons_of_mem _ hx)
  rw [List.map_cons,List.sum_cons,List.length_cons,Nat.add_mul];omega
theorem wR (ks:List (Str × Str)):∀ (n:Nat) (s:List Str) (c:Str),nodes ks n s c<=(ks.length + 1) ^ n
 | 0,_,_=>by simp [nodes]
 | n + 1,s,c=>by
  have h:=Ag (g:=fun k=>if k.1=c/\k.2 ∉ s then nodes ks n (s++[k.2]) k.2 else 0) (B:=(ks.length + 1) ^ n) ks fun k _=>by
   split
   ·exact wR ks n _ _
   ·exact Nat.zero_le _
  have hp:1<=(ks.length + 1) ^ n:=Nat.pow_pos (by omega)
  rw [nodes,Nat.pow_succ,Nat.mul_add,Nat.mul_one,Nat.mul_comm]
  omega
def Nc (cs:List Str) (ks:List (Str × Str)) (seen:List Str) (c:Str):Nat:=nodes ks (cs.length - seen.length) seen c
theorem MM {cs:List Str} {ks:List (Str × Str)} (he:∀ e∈ks,e.2∈cs) {seen:List Str} (c:Str) (hs:Seen cs seen) :
  Nc cs ks seen c=1 + (ks.map fun k=>if k.1=c/\k.2 ∉ seen then Nc cs ks (seen++[k.2]) k.2 else 0).sum:=by
 unfold Nc
 have hl:=hs.len
 cases h:cs.length - seen.length with
 | zero =>
  rw [nodes]
  have:(ks.map fun k=>if k.1=c/\k.2 ∉ seen then nodes ks (cs.length - (seen++[k.2]).length) (seen++[k.2]) k.2 else 0).sum=0:=by
   have:=Ag (g:=fun k=>if k.1=c/\k.2 ∉ seen then nodes ks (cs.length - (seen++[k.2]).length) (seen++[k.2]) k.2 else 0) (B:=0) ks fun k hm=>by
    have:¬ (k.1=c/\k.2 ∉ seen):=fun z=>by
     have:=(hs.add z.2 (he k hm)).len
     rw [List.length_append] at this
     simp at this;omega
    rw [if_neg this];exact Nat.le_refl _
   omega
  rw [this]
 | succ n =>
  rw [nodes]
  congr 2
  refine List.map_congr_left fun k _=>?_
  rw [List.length_append,show cs.length - (seen.length + [k.2].length)=n by simp;omega]
theorem PZ (cs:List Str) (ks:List (Str × Str)) (seen:List Str) (c:Str):1<=Nc cs ks seen c:=by
 unfold Nc
 cases cs.length - seen.length <;> rw [nodes] <;> omega
def ones (l:List Int):Bs:=aV (l.map fun c=>some (c,1))
theorem GW:∀ (ns:List Int) (m:Int),ones (m :: ns)=some (gK m ns,(((m :: ns).countP fun z=>decide (z=gK m ns):Nat):Int))
 | ns,m=>by
  have key:∀ (ns:List Int) (a:Int) (k:Nat) (l:List Int),(∀ x∈l,a<=x)->l.countP (fun z=>decide (z=a))=k->bQ (some (a,(k:Int))) (ones ns)=some (gK a ns,(((l++ns).countP fun z=>decide (z=gK a ns):Nat):Int)):=by
   intro ns
   induction ns with
   | nil=>intro a k l h1 h2;show bQ _ none=_;rw [eB,gK,List.append_nil,h2]
   | cons b r ih =>
    intro a k l h1 h2
    show bQ _ (bQ (some (b,1)) (ones r))=_
    rw [<- d9,gK]
    have hle:∀ a',a'<=a->a'<=b->∀ x∈l++[b],a'<=x:=fun a' h3 h4 x hx=>by
     rcases List.mem_append.mp hx with hx | hx
     ·have:=h1 x hx;omega
     ·cases List.mem_singleton.mp hx;exact h4
    by_cases hb:b < a
    ·have hb':¬ a < b:=by omega
     have e:bQ (some (a,(k:Int))) (some (b,1))=some (b,((1:Nat):Int)):=by simp only [bQ];rw [if_neg hb',if_pos hb];rfl
     have hc:(l++[b]).countP (fun z=>decide (z=b))=1:=by
      rw [List.countP_append]
      have:l.countP (fun z=>decide (z=b))=0:=by
       rw [List.countP_eq_zero]
       intro x hx
       have:=h1 x hx
       simp;omega
      rw [this];simp
     rw [e,if_pos hb,ih b 1 (l++[b]) (hle b (by omega) (by omega)) hc]
     simp
    ·rw [if_neg hb]
     by_cases hab:a < b
     ·have e:bQ (some (a,(k:Int))) (some (b,1))=some (a,(k:Int)):=by simp only [bQ];rw [if_pos hab]
      have hc:(l++[b]).countP (fun z=>decide (z=a))=k:=by
       rw [List.countP_append,h2]
       have:¬ b=a:=by omega
       simp [this]
      rw [e,ih a k (l++[b]) (hle a (by omega) (by omega)) hc]
      simp
     ·have hba:b=a:=by omega
      subst hba
      have e:bQ (some (b,(k:Int))) (some (b,1))=some (b,((k + 1:Nat):Int)):=by simp only [bQ];rw [if_neg hb,if_neg hb];rfl
      have hc:(l++[b]).countP (fun z=>decide (z=b))=k + 1:=by rw [List.countP_append,h2];simp
      rw [e,ih b (k + 1) (l++[b]) (hle b (by omega) (by omega)) hc]
      simp
  have:=key ns m 1 [m] (fun x hx=>by cases List.mem_singleton.mp hx;exact Int.le_refl _) (by simp)
  exact this
end K33
namespace K33
open PySem L2 U2
theorem L5 {a b:Bs} {p k:Int} (h:bQ a b=some (p,k)):(∃ k',a=some (p,k'))\/∃ k',b=some (p,k'):=by
 rcases a with _ | ⟨q,n⟩
 ·exact .inr ⟨k,h⟩
 rcases b with _ | ⟨r,m⟩
 ·exact .inl ⟨k,h⟩
 simp only [bQ] at h
 split at h
 ·cases h;exact .inl ⟨_,rfl⟩
 ·split at h
  ·cases h;exact .inr ⟨_,rfl⟩
  ·cases h;exact .inl ⟨_,rfl⟩
theorem Cb {α:Type} {g:α->Bs} {p k:Int}:∀ {l:List α},aV (l.map g)=some (p,k)->∃ x∈l,∃ k',g x=some (p,k')
 | [],h=>by cases h
 | a :: l,h=>by
  rw [List.map_cons,aV] at h
  rcases L5 h with ⟨k',h⟩ | ⟨k',h⟩
  ·exact ⟨a,List.mem_cons_self,k',h⟩
  ·obtain ⟨x,hx,r⟩:=Cb h
   exact ⟨x,List.mem_cons_of_mem _ hx,r⟩
theorem xZ {a b:Bs} {p k:Int} (h:a=some (p,k)):∃ p' k',bQ a b=some (p',k')/\p'<=p:=by
 subst h
 rcases b with _ | ⟨r,m⟩
 ·exact ⟨p,k,rfl,Int.le_refl _⟩
 simp only [bQ]
 split
 ·exact ⟨_,_,rfl,Int.le_refl _⟩
 ·split
  ·exact ⟨_,_,rfl,by omega⟩
  ·exact ⟨_,_,rfl,Int.le_refl _⟩
theorem Au {α:Type} {g:α->Bs} {p k:Int} {x:α} (hg:g x=some (p,k)):∀ {l:List α},x∈l->∃ p' k',aV (l.map g)=some (p',k')/\p'<=p
 | a :: l,h=>by
  rw [List.map_cons,aV]
  rcases List.mem_cons.mp h with rfl | h
  ·exact xZ hg
  ·obtain ⟨p',k',e,hl⟩:=Au hg h
   obtain ⟨p2,k2,e2,hl2⟩:=xZ (b:=g a) e
   exact ⟨p2,k2,by rw [nV];exact e2,by omega⟩
def nR (tls:List Tl):List (Str × Int):=tls.filterMap fun tl=>match tl.pt with
 | .any=>some (tl.cls,tl.cost)
 | _=>none
def fB (tls:List Tl):Str->Bs:=fun e=>aV ((nR tls).map fun k=>if k.1=e then some (k.2,1) else none)
structure yY (cs:List Str) (tls:List Tl):Prop where
 tab:Tab cs tls
 nd:cs.Nodup
 pt:∀ tl∈tls,tl.pt=.any\/∃ h∈cs,tl.pt=.hole h
theorem yY.edge {cs:List Str} {tls:List Tl} (h:yY cs tls):∀ e∈aX tls,e.1.1∈cs/\e.1.2∈cs:=fun e he=>by
 obtain ⟨tl,h1,h2⟩:=List.mem_filterMap.mp he
 have hc:=(h.tab.good tl h1).2.2.1
 rcases h.pt tl h1 with hp | ⟨s,hs,hp⟩
 ·rw [hp] at h2;cases h2
 ·rw [hp] at h2;cases h2;exact ⟨hc,hs⟩
theorem zY {t:Tr} {p:List Nat}:∀ {tls:List Tl} {k:Nat} {tl:Tl},tl∈tls->eC tl.pt t=true->∃ n,(⟨n,tl.cls,tl.cost,(d5 tl.pt).map fun e=>(p++e.1,e.2)⟩:Ld)∈bN t p k tls
 | a :: r,k,tl,h,hl=>by
  rw [bN]
  rcases List.mem_cons.mp h with rfl | h
  ·exact ⟨k,List.mem_append_left _ (by rw [if_pos hl];exact List.mem_singleton.mpr rfl)⟩
  ·obtain ⟨n,hn⟩:=zY (k:=k + 1) h hl
   exact ⟨n,List.mem_append_right _ hn⟩
section
variable {cs:List Str} {tls:List Tl} {x:Str} {m:VM} {ch:CM}
theorem D7 (c:Str):cur [] [] m (([]:List Nat),c)=asc m c:=by unfold cur;rw [if_pos rfl]
theorem FK (hR:yY cs tls) (hf:rV cs [] [] 1 (bN (.name x) [] 0 tls) m ch):∀ (n:Nat) (seen:List Str) (c:Str) (p k:Int),bJ (iK (aX tls)) (fB tls) n seen c=some (p,k)->∃ v,asc m c=some v/\v<=p:=by
 have leaf:∀ c p k,fB tls c=some (p,k)->∃ v,asc m c=some v/\v<=p:=fun c p k h=>by
  obtain ⟨e,he,k',h1⟩:=Cb h
  split at h1
  ·rename_i hc
   cases h1
   obtain ⟨tl,ht,h2⟩:=List.mem_filterMap.mp he
   have hp:tl.pt=.any:=by
    rcases hR.pt tl ht with hp | ⟨s,_,hp⟩
    ·exact hp
    ·rw [hp] at h2;cases h2
   rw [hp] at h2
   cases h2
   obtain ⟨n,hl⟩:=zY (t:=.name x) (p:=[]) (k:=0) ht (by rw [hp];rfl)
   rw [hp] at hl
   obtain ⟨v,h3,h4⟩:=hf.fix _ hl 0 rfl
   exact ⟨v,hc ▸ h3,by simpa using h4⟩
  ·cases h1
 intro n
 induction n with
 | zero=>intro seen c p k h;exact leaf c p k h
 | succ n ih =>
  intro seen c p k h
  rw [bJ] at h
  rcases L5 h with ⟨k',h⟩ | ⟨k',h⟩
  ·exact leaf c p k' h
  ·obtain ⟨e,he,k2,h1⟩:=Cb h
   split at h1
   ·rename_i hc
    obtain ⟨y,hy,rfl⟩:=List.mem_map.mp he
    cases hw:bJ (iK (aX tls)) (fB tls) n (seen++[y.1.2]) y.1.2 with
    | none=>simp only at h1;rw [hw,bS] at h1;cases h1
    | some b =>
     obtain ⟨p',k3⟩:=b
     simp only at h1
     rw [hw] at h1
     simp only [bO,Option.some.injEq,Prod.mk.injEq] at h1
     obtain ⟨v,h3,h4⟩:=ih _ _ _ _ hw
     obtain ⟨tl,ht,h2⟩:=List.mem_filterMap.mp hy
     rcases hR.pt tl ht with hp | ⟨s,_,hp⟩
     ·rw [hp] at h2;cases h2
     ·rw [hp] at h2
      cases h2
      obtain ⟨n',hl⟩:=zY (t:=.name x) (p:=[]) (k:=0) ht (by rw [hp];rfl)
      rw [hp] at hl
      have hs:cO (cur [] [] m) [(([]:List Nat),s)]=some (v + 0):=pI (by rw [D7];exact h3) rfl
      obtain ⟨v2,h5,h6⟩:=hf.fix _ hl (v + 0) hs
      simp only at h5 h6 hc h4
      exact ⟨v2,hc.1 ▸ h5,by omega⟩
   ·rw [bS] at h1;cases h1
theorem Gg (hR:yY cs tls) (hf:rV cs [] [] 1 (bN (.name x) [] 0 tls) m ch):∃ rk:Str->Nat,∀ (r:Nat) (c:Str) (v:Int) (n:Nat) (seen:List Str),rk c=r->asc m c=some v->Seen cs seen->(∀ s∈seen,rk c<=rk s)->cs.length<=n + seen.length->∃ p k,bJ (iK (aX tls)) (fB tls) n seen c=some (p,k)/\p<=v:=by
 obtain ⟨rk,hrk⟩:=hf.rk
 refine ⟨rk,fun r=>?_⟩
 induction r using Nat.strongRecOn with
 | _ r ih =>
  intro c v n seen hr hv hs hse hn
  obtain ⟨v0,_,l,hl1,hl2,hl3,w,hw,hvw⟩:=hf.just c v hv
  obtain ⟨i,tl,ht,hli,rfl⟩:=oZ hl2
  have htm:tl∈tls:=List.mem_of_getElem? ht
  have leaf:tl.pt=.any->∃ p k,fB tls c=some (p,k)/\p<=v:=fun hp=>by
   have hk:(tl.cls,tl.cost)∈nR tls:=List.mem_filterMap.mpr ⟨tl,htm,by rw [hp]⟩
   obtain ⟨p',k',e,hle⟩:=Au (g:=fun k:Str × Int=>if k.1=c then some (k.2,1) else none) (p:=tl.cost) (k:=1) (x:=(tl.cls,tl.cost)) (by show (if tl.cls=c then _ else _)=_;rw [if_pos hl3]) hk
   refine ⟨p',k',e,?_⟩
   have hw0:w=0:=by
    rw [hp] at hw
    have:cO (cur [] [] m) []=some w:=hw
    cases this;rfl
   simp only at hvw
   omega
  have top:∀ n:Nat,(∃ p k,fB tls c=some (p,k)/\p<=v)->∃ p k,bJ (iK (aX tls)) (fB tls) n seen c=some (p,k)/\p<=v:=fun n h=>by
   obtain ⟨p,k,e,hle⟩:=h
   cases n with
   | zero=>exact ⟨p,k,e,hle⟩
   | succ n =>
    rw [bJ]
    obtain ⟨p',k',e',hle'⟩:=xZ (b:=aV ((iK (aX tls)).map fun e=>bO e.2 (if e.1.1=c/\e.1.2 ∉ seen then bJ (iK (aX tls)) (fB tls) n (seen++[e.1.2]) e.1.2 else none))) e
    exact ⟨p',k',e',by omega⟩
  rcases hR.pt tl htm with hp | ⟨s,hsc,hp⟩
  ·exact top n (leaf hp)
  ·have hsp:((d5 tl.pt).map fun e=>(([]:List Nat)++e.1,e.2))=[(([]:List Nat),s)]:=by rw [hp];rfl
   rw [hsp] at hw
   obtain ⟨a,b,h1,h2,h3⟩:=fM hw
   rw [D7] at h1
   cases h2
   have hlt:rk s < rk c:=hrk c _ hl1 ([],s) (by rw [hsp];exact List.mem_singleton.mpr rfl) rfl
   have hns:s ∉ seen:=fun z=>by have:=hse s z;omega
   have hs2:=hs.add hns hsc
   have hl:=hs2.len
   rw [List.length_append] at hl
   simp at hl
   cases n with
   | zero=>omega
   | succ n =>
    obtain ⟨p,k,e,hle⟩:=ih (rk s) (by omega) s a n (seen++[s]) rfl h1 hs2 (fun y hy=>by
     rcases List.mem_append.mp hy with hy | hy
     ·have:=hse y hy;omega
     ·cases List.mem_singleton.mp hy;exact Nat.le_refl _) (by rw [List.length_append];simp;omega)
    have hk:(((tl.cls,s),some (tl.cost,1)):Ed)∈iK (aX tls):=List.mem_map.mpr ⟨((tl.cls,s),tl.cost),List.mem_filterMap.mpr ⟨tl,htm,by rw [hp]⟩,rfl⟩
    obtain ⟨p',k',e2,hle2⟩:=Au (g:=fun e:Ed=>bO e.2 (if e.1.1=c/\e.1.2 ∉ seen then bJ (iK (aX tls)) (fB tls) n (seen++[e.1.2]) e.1.2 else none)) (p:=tl.cost + p) (k:=1 * k) (by
     show bO (some (tl.cost,1)) (if tl.cls=c/\s ∉ seen then bJ (iK (aX tls)) (fB tls) n (seen++[s]) s else none)=_
     rw [if_pos ⟨hl3,hns⟩,e];rfl) hk
    obtain ⟨p2,k2,e3,hle3⟩:=xZ (b:=fB tls c) e2
    refine ⟨p2,k2,by rw [bJ,nV];exact e3,?_⟩
    simp only at hvw
    omega
theorem Ms {vs:VS} {chs:CS} (hR:yY cs tls) (b:Bd (.name x) tls cs [[]] vs chs) {c:Str} (hc:c∈cs):bY vs ([],c)=(Wc cs (iK (aX tls)) (fB tls) [c] c).map (·.1):=by
 generalize hps:([[]]:List (List Nat))=ps at b
 cases b with
 | nil=>cases hps
 | snoc b hp ht hf =>
  rename_i ps vs chs p t' m ch
  have h2:([]:List (List Nat))++[[]]=ps++[p]:=hps
  obtain ⟨rfl,rfl⟩:=DC h2
  generalize hq:([]:List (List Nat))=q at b
  cases b with
  | snoc=>exact absurd hq (by simp)
  | nil =>
   have ht':t'=.name x:=by rw [lQ] at ht;exact (Option.some.inj ht).symm
   subst ht'
   have hl:bY ([]++[(([]:List Nat),m)]) ([],c)=asc m c:=by
    unfold bY
    rw [List.nil_append,eJ rfl];rfl
   rw [hl]
   obtain ⟨rk,up⟩:=Gg hR hf
   have hs1:Seen cs [c]:=⟨by simp,fun s hs=>by cases List.mem_singleton.mp hs;exact hc⟩
   have hlen:=hs1.len
   cases hw:Wc cs (iK (aX tls)) (fB tls) [c] c with
   | none =>
    cases hv:asc m c with
    | none=>rfl
    | some v =>
     obtain ⟨p,k,e,_⟩:=up (rk c) c v (cs.length - 1) [c] rfl hv hs1 (fun s hs=>by cases List.mem_singleton.mp hs;exact Nat.le_refl _) (by simp at hlen ⊢;omega)
     unfold Wc at hw
     rw [show cs.length - [c].length=cs.length - 1 from rfl,e] at hw
     cases hw
   | some b =>
    obtain ⟨p,k⟩:=b
    obtain ⟨v,hv,hle⟩:=FK hR hf _ _ _ _ _ hw
    obtain ⟨p',k',e,hle'⟩:=up (rk c) c v (cs.length - 1) [c] rfl hv hs1 (fun s hs=>by cases List.mem_singleton.mp hs;exact Nat.le_refl _) (by simp at hlen ⊢;omega)
    unfold Wc at hw
    rw [show cs.length - [c].length=cs.length - 1 from rfl,e] at hw
    cases hw
    rw [hv]
    show some v=some p
    congr 1
    omega
def bU (b:Int × Int):U:=.tup [.int b.1,.int b.2]
def qV (k:Str × Str):List Key:=[Sum.inr k.1,Sum.inr k.2]
theorem ET:∀ a b:Str × Str,qV a=qV b->a=b:=fun a b h=>by
 obtain ⟨a1,a2⟩:=a
 obtain ⟨b1,b2⟩:=b
 simp only [qV,List.cons.injEq,Sum.inr.injEq,and_true] at h
 rw [h.1,h.2]
def cZ (m:List (Str × (Int × Int))):List (Key × U):=m.map fun e=>(Sum.inr e.1,bU e.2)
def kG (m:List ((Str × Str) × (Int × Int))):List (List Key × U):=m.map fun e=>(qV e.1,bU e.2)
theorem Cw (m:List (Str × (Int × Int))) (c:Str):cH (cZ m) (.inr c)=(asc m c).map bU:=iF (fun c:Str=>(Sum.inr c:Key)) mU bU c m
theorem OC (m:List ((Str × Str) × (Int × Int))) (c:Str × Str):cH (kG m) (qV c)=(asc m c).map bU:=iF qV ET bU c m
theorem Ai (m:List (Str × (Int × Int))) (c:Str) (b:Int × Int):eP (cZ m) (.inr c) (bU b)=cZ (dM m c b):=rB (fun c:Str=>(Sum.inr c:Key)) mU bU c b m
theorem Aw (m:List ((Str × Str) × (Int × Int))) (c:Str × Str) (b:Int × Int):eP (kG m) (qV c) (bU b)=kG (dM m c b):=rB qV ET bU c b m
def x6:cV:=fun us M Q=>∃ (d:Addr) (m:List (Str × (Int × Int))) (k:Str) (p n:Int),us=[.ref d,.str k,.int p,.int n]/\M d=some (.dK (cZ m))/\m.length<=1000/\Q .non (mup M d (.dK (cZ (eZ m k p n))))
def Iy:cV:=fun us M Q=>∃ (d:Addr) (m:List ((Str × Str) × (Int × Int))) (k:Str × Str) (p n:Int),us=[.ref d,.tup [.str k.1,.str k.2],.int p,.int n]/\M d=some (.dT (kG m))/\m.length<=1000/\Q .non (mup M d (.dT (kG (eZ m k p n))))
local macro_rules | `(tactic| simp! only [$xs,*] $[$l]?) => `(tactic| simp only [$xs,*, Bool.false_eq_true, Bool.not_false, Bool.not_true, List.append_nil, List.cons_append, List.getElem?_cons_succ, List.getElem?_cons_zero, List.length_cons, List.length_nil, List.map_cons, List.map_nil, List.nil_append, List.replicate, List.set_cons_succ, List.set_cons_zero, Nat.add_sub_cancel, Nat.reduceAdd, Nat.reduceLeDiff, Nat.reduceSub, Nat.sub_self, Option.getD_some, Option.some.injEq, and_true, Hz, G2, at2, Ik, wC, Df, zD, yQ, yJ, tR, pN, CF, wJ, m8, Ek, Ep, D8, Jb, cU, decide_false, decide_true, lK, q9, exists_eq_left', if_false, if_true, BO, u5, gA, fH, fF, fR, fE, fQ, eO, iH, iS, jP, iQ, jL, hJ, iU, iT, jR, iG, jS, hW, jX, jM, kW, jI, kT, iR, iI, iJ, j3, iW, jJ, hX, j0, j1, kX, jU, kZ, iO, gX, gW, iM, gZ, iP, gF, items, xY, lI, uE, lM, uG, uM, iL, bV, aF, reduceCtorEq, hG, Hk, true_and, Ay, uQ, o6, wZ, rN, xP, w9, uC, Bn, sG, qX, oE, r9, sP, oH, Cj, uI, q8, C1, xO, tX, pB, AY, cQ, wW, wK, t9, Dr, wH, mD, w6, pJ, zI, lP, B9, BV, rX, iE, sU, zB, cY, wI, o8, wU, xI, CY, pW, xH, m5, uL, qU, tP, qP, tV, t8] $[$l]?)
theorem NK (F:dE K "put_in" "put_in" rS f fd) (hm:mg "put_in"=some (.ref f)):Callee P w K mg base 1 "put_in" x6 []:=by
 refine bT F hm o9 (I0 fun _ _ _ _ _ _ _ _ _ _=>rfl) (aE (aY 4 o9.nd (oX false i8 (uv 0) (uv 1)))
 (aJ (dW (l5.pt (pM (cP L4 (uv 4) zP) (oN (cP BF (uv 2) (aN (uv 4) aS)))))
 (aJ (i4 false i8 (bI (aA (uv 2) (aA (uv 3) aB))) (uv 0) (uv 1)))
 (aJ (dW (cP j6 (uv 2) (aN (uv 4) aS))
 (aJ (i4 false i8 (bI (aA (uv 2) (aA (cX (own:=false) (aN (uv 4) aS) (uv 3)) aB))) (uv 0) (uv 1)))
 cT))))) ?_
 rintro us M Q ⟨d,m,k,p,n,rfl,hd,hl,q⟩
 refine ⟨rfl,?_⟩
 have hlb:(cZ m).length < sizeLine:=big (by unfold cZ;rw [List.length_map];omega)
 refine aI fun V hV=>?_
 have lk:cR false M (.ref d) (.str k)=_:=lW k (kvs:=cZ m) (show d7 M (.ref d)=some (.dK (cZ m)) from hd)
 have isd:uB M (.ref d)=true:=F2 (show d7 M (.ref d)=some (.dK (cZ m)) from hd)
 simp! only [bR,hName,t6,lk,isd,Cw,aG]
 subst hV
 unfold eZ at q
 cases h:asc m k with
 | none =>
  rw [h] at q
  simp only at q
  simp! only [Option.map_none,Option.getD_none,kC,hd,kP,eE,qC,tW,aG]
  refine ⟨hlb,?_⟩
  have e:eP (cZ m) (.inr k) (bU (p,n))=_:=Ai m k (p,n)
  exact aZ (e ▸ q)
 | some b =>
  obtain ⟨b1,b2⟩:=b
  rw [h] at q
  simp only at q
  simp! only [Option.map_some,bU,qC,tW,aG]
  by_cases h1:p < b1
  ·rw [if_pos h1] at q
   simp! only [h1,kC,hd,kP,eE,aG]
   refine ⟨hlb,?_⟩
   have e:eP (cZ m) (.inr k) (bU (p,n))=_:=Ai m k (p,n)
   exact aZ (e ▸ q)
  ·rw [if_neg h1] at q
   simp! only [h1,aG]
   by_cases h2:p=b1
   ·rw [if_pos h2] at q
    simp! only [h2,kC,hd,kP,eE,aG]
    refine ⟨hlb,?_⟩
    have e:eP (cZ m) (.inr k) (bU (p,b2 + n))=_:=Ai m k (p,b2 + n)
    subst h2
    exact aZ (e ▸ q)
   ·rw [if_neg h2] at q
    simp! only [h2,fJ,aG]
    rw [sJ hd] at q
    exact aZ q
theorem MK (F:dE K "put_in" "put_in" rS f fd) (hm:mg "put_in"=some (.ref f)):Callee P w K mg base 1 "put_in" Iy []:=by
 refine bT F hm o9 (I0 fun _ _ _ _ _ _ _ _ _ _=>rfl) (aE (aY 4 o9.nd (oX true (fun _=>True.intro) (uv 0) (uv 1)))
 (aJ (dW (l5.pt (pM (cP L4 (uv 4) zP) (oN (cP BF (uv 2) (aN (uv 4) aS)))))
 (aJ (i4 true (fun _=>True.intro) (bI (aA (uv 2) (aA (uv 3) aB))) (uv 0) (uv 1)))
 (aJ (dW (cP j6 (uv 2) (aN (uv 4) aS))
 (aJ (i4 true (fun _=>True.intro) (bI (aA (uv 2) (aA (cX (own:=false) (aN (uv 4) aS) (uv 3)) aB))) (uv 0) (uv 1)))
 cT))))) ?_
 rintro us M Q ⟨d,m,k,p,n,rfl,hd,hl,q⟩
 refine ⟨rfl,?_⟩
 have hlb:(kG m).length < sizeLine:=big (by unfold kG;rw [List.length_map];omega)
 refine aI fun V hV=>?_
 have lk:cR true M (.ref d) (.tup [.str k.1,.str k.2])=_:=(by show (match d7 M (.ref d),U.tup [.str k.1,.str k.2] with | some (.dT kvs),.tup ys=>(eE ys).map (cH kvs) | _,_=>none)=some (cH (kG m) (qV k));rw [show d7 M (.ref d)=some (.dT (kG m)) from hd];rfl:cR true M (.ref d) (.tup [.str k.1,.str k.2])=some (cH (kG m) (qV k)))
 have isd:uB M (.ref d)=true:=(by show (match d7 M (.ref d) with | some (.dK _)=>true | some (.dT _)=>true | _=>false)=true;rw [show d7 M (.ref d)=some (.dT (kG m)) from hd])
 simp! only [bR,hName,t6,lk,isd,OC,aG]
 subst hV
 unfold eZ at q
 cases h:asc m k with
 | none =>
  rw [h] at q
  simp only at q
  simp! only [Option.map_none,Option.getD_none,kC,hd,kP,eE,qC,tW,aG]
  refine ⟨hlb,?_⟩
  have e:eP (kG m) (qV k) (bU (p,n))=_:=Aw m k (p,n)
  exact aZ (e ▸ q)
 | some b =>
  obtain ⟨b1,b2⟩:=b
  rw [h] at q
  simp only at q
  simp! only [Option.map_some,bU,qC,tW,aG]
  by_cases h1:p < b1
  ·rw [if_pos h1] at q
   simp! only [h1,kC,hd,kP,eE,aG]
   refine ⟨hlb,?_⟩
   have e:eP (kG m) (qV k) (bU (p,n))=_:=Aw m k (p,n)
   exact aZ (e ▸ q)
  ·rw [if_neg h1] at q
   simp! only [h1,aG]
   by_cases h2:p=b1
   ·rw [if_pos h2] at q
    simp! only [h2,kC,hd,kP,eE,aG]
    refine ⟨hlb,?_⟩
    have e:eP (kG m) (qV k) (bU (p,b2 + n))=_:=Aw m k (p,b2 + n)
    subst h2
    exact aZ (e ▸ q)
   ·rw [if_neg h2] at q
    simp! only [h2,fJ,aG]
    rw [sJ hd] at q
    exact aZ q
theorem F7 (l:List Tl) (tl:Tl):aX (l++[tl])=aX l++(match tl.pt with | .hole h=>[((tl.cls,h),tl.cost)] | _=>[]):=by
 unfold aX
 rw [List.filterMap_append]
 congr 1
 cases h:tl.pt <;> simp [h]
theorem uN (l:List Tl):(aX l).length<=l.length:=List.length_filterMap_le _ _
def Dc:cV:=fun us M Q=>∃ (cs:List Str) (tls:List Tl),us=[eD cs tls]/\tls.length<=39/\∀ d,M d=none->Q (.ref d) (mup M d (.dT (kG (aW (aX tls)))))
def Fc:cV:=fun us M Q=>∃ (cs:List Str) (tls:List Tl),us=[eD cs tls]/\tls.length<=39/\Q (lC (kG (aW (aX tls)))) M
theorem Ja (F:dE K "cheapest_steps" "cheapest_steps" lE f fd) (hm:mg "cheapest_steps"=some (.ref f)) (uA:Callee P w K mg base 1 "is_pass" Dg []) (k9:Callee P w K mg base 1 "put_in" Iy []):Callee P w K mg base 2 "cheapest_steps" Dc []:=by
 refine bT F hm kJ (tO fun _ _ _ _ _ _ _=>rfl) (aE (aY 1 kJ.nd (iX true))
 (aE (eG (dD (aN (uv 0) aS)) (aO (k:=1000) 2 kJ.nd)
 (aJ (dW (qD (aU uA (aA (uv 2) aB)))
 (aJ (eA (aU k9 (aA (uv 1) (aA (bI (aA (aN (uv 2) aS) (aA (aN (aN (uv 2) aS) aS) aB))) (aA (aN (uv 2) aS) (aA aS aB)))))))
 cT)))
 (aJ (bP (uv 1))))) ?_
 rintro us M Q ⟨cs,tls,rfl,hl,q⟩
 refine ⟨rfl,?_⟩
 refine aI fun V hV=>?_
 simp! only [bR,hName,pU,v9,aG]
 intro d hd
 subst hV
 refine aI fun V hV=>?_
 refine eT (S:=⟨none,tls.map Tl.toU⟩) (M1:=mup M d (.dT [])) (fun R r=>by simp! only [m7,aG];exact r)
  (fun i τ Mj=>∃ y:Option U,τ=[some (eD cs tls),some (.ref d),y]/\Mj=mup M d (.dT (kG (aW (aX (tls.take i)))))) ⟨none,rfl,rfl⟩ nk ?_ ?_
 ·rintro i u τ Mj e ⟨y,rfl,rfl⟩
  have e':(tls.map Tl.toU)[i]?=some u:=e
  rw [List.getElem?_map] at e'
  cases hj:tls[i]? with
  | none=>rw [hj] at e';cases e'
  | some tl =>
   rw [hj] at e'
   cases e'
   have tk:tls.take (i + 1)=tls.take i++[tl]:=by rw [List.take_add_one,hj];rfl
   have hk:=F7 (tls.take i) tl
   have hlen:(aW (aX (tls.take i))).length<=39:=by
    have h1:=(pA (aX (tls.take i))).len
    have h2:=uN (tls.take i)
    have h3:(tls.take i).length<=tls.length:=by rw [List.length_take];omega
    omega
   simp! only [hName,aG]
   refine fD fun A B hA hB=>?_
   simp! only [aG]
   refine ⟨tl,rfl,?_⟩
   obtain ⟨nm,cl,pt,co⟩:=tl
   cases pt with
   | hole s =>
    have e1:Tl.pass ⟨nm,cl,.hole s,co⟩=true:=rfl
    simp only [e1,m5,if_true]
    subst hA
    simp! only [gC,zM,Pt.toU,aG]
    refine ⟨d,aW (aX (tls.take i)),(cl,s),co,1,rfl,aF,by omega,_,rfl,?_⟩
    rw [tk,hk,bV]
    simp only
    rw [vU]
   | _ =>
    simp only [Tl.pass,m5,Bool.false_eq_true,if_false]
    subst hB
    simp only [fJ]
    refine ⟨_,rfl,?_⟩
    rw [tk,hk]
    simp
 ·rintro τ Mj ⟨y,rfl,rfl⟩
  show V _ _
  subst hV
  simp! only [gH,aG]
  rw [show tls.take ((⟨none,tls.map Tl.toU⟩:Src).xs.length)=tls from by show tls.take (tls.map Tl.toU).length=tls;rw [List.length_map,List.take_length]]
  exact aZ (q d hd)
theorem KA (C:Callee P w K mg base 2 "cheapest_steps" Dc []):Callee P w K mg base 2 "cheapest_steps" Fc []:=by
 refine Callee.conv C fun us M Q h=>?_
 obtain ⟨cs,tls,rfl,hl,q⟩:=h
 exact ⟨cs,tls,rfl,hl,fun d hd=>EO ((Sub.refl M).mup hd) aF hd q⟩
theorem oU {b:Bool} {A B:Prop} (h1:b=true->A) (h2:¬ b=true->B):if b=true then A else B:=by
 by_cases h:b=true
 ·rw [if_pos h];exact h1 h
 ·rw [if_neg h];exact h2 h
abbrev Cn:=List Str × Int × Int
def lJ (x:Cn):U:=.tup [.tup (x.1.map U.str),.int x.2.1,.int x.2.2]
def bB (l:List Str):Str:=l.getLast?.getD ""
theorem iB (l:List Str) (a:Str):bB (l++[a])=a:=by simp [bB]
def AQ (e:(Str × Str) × (Int × Int)):U:=.tup [.tup [.str e.1.1,.str e.1.2],bU e.2]
theorem DX (l:List ((Str × Str) × (Int × Int))):gS true ((kG l).map (·.1)) ((kG l).map (·.2))=l.map AQ:=by
 unfold gS kG
 rw [List.map_map,List.map_map]
 induction l with
 | nil=>rfl
 | cons a r ih =>
  rw [List.map_cons,List.map_cons,List.zip_cons_cons,List.map_cons,ih]
  rfl
def i7 (x:Cn) (l:List ((Str × Str) × (Int × Int))):List Cn:=l.filterMap fun e=>if e.1.1=bB x.1/\e.1.2 ∉ x.1 then some (x.1++[e.1.2],x.2.1 + e.2.1,x.2.2 * e.2.2) else none
theorem IZ (x:Cn) (l:List ((Str × Str) × (Int × Int))) (e:(Str × Str) × (Int × Int)):i7 x (l++[e])=i7 x l++(if e.1.1=bB x.1/\e.1.2 ∉ x.1 then [(x.1++[e.1.2],x.2.1 + e.2.1,x.2.2 * e.2.2)] else []):=by
 unfold i7
 rw [List.filterMap_append]
 congr 1
 by_cases h:e.1.1=bB x.1/\e.1.2 ∉ x.1
 ·rw [if_pos h];simp [h]
 ·rw [if_neg h];simp [h]
def Ef (cs:List Str) (es:List Ed) (f:Str->Bs) (x:Cn):Bs:=bO (some (x.2.1,x.2.2)) (Wc cs es f x.1 (bB x.1))
def uF (cs:List Str) (ks:List (Str × Str)) (x:Cn):Nat:=Nc cs ks x.1 (bB x.1)
theorem CB (cs:List Str) (es:List Ed) (f:Str->Bs) (x:Cn):∀ l:List ((Str × Str) × (Int × Int)),aV ((i7 x l).map (Ef cs es f))=bO (some (x.2.1,x.2.2)) (aV ((oR l).map fun e=>bO e.2 (if e.1.1=bB x.1/\e.1.2 ∉ x.1 then Wc cs es f (x.1++[e.1.2]) e.1.2 else none)))
 | []=>by rw [show i7 x []=[] from rfl,show oR []=[] from rfl,List.map_nil,List.map_nil,aV,bS]
 | e :: l=>by
  have ih:=CB cs es f x l
  unfold i7 at ih ⊢
  rw [List.filterMap_cons,show oR (e :: l)=(e.1,some e.2) :: oR l from rfl,List.map_cons,aV,pD,<- ih]
  by_cases h:e.1.1=bB x.1/\e.1.2 ∉ x.1
  ·rw [if_pos h]
   simp only
   rw [List.map_cons,aV,if_pos h]
   congr 1
   show bO (some (x.2.1 + e.2.1,x.2.2 * e.2.2)) (Wc cs es f (x.1++[e.1.2]) (bB (x.1++[e.1.2])))=_
   rw [iB,<- l7];rfl
  ·rw [if_neg h]
   simp only
   rw [if_neg h,bS,bS,gT]
theorem zH (cs:List Str) (ks:List (Str × Str)) (x:Cn):∀ l:List ((Str × Str) × (Int × Int)),((i7 x l).map (uF cs ks)).sum=((l.map (·.1)).map fun k=>if k.1=bB x.1/\k.2 ∉ x.1 then Nc cs ks (x.1++[k.2]) k.2 else 0).sum
 | []=>rfl
 | e :: l=>by
  have ih:=zH cs ks x l
  unfold i7 at ih ⊢
  rw [List.filterMap_cons,List.map_cons,List.map_cons,List.sum_cons,<- ih]
  by_cases h:e.1.1=bB x.1/\e.1.2 ∉ x.1
  ·rw [if_pos h,if_pos h]
   simp only
   rw [List.map_cons,List.sum_cons]
   congr 1
   show Nc cs ks (x.1++[e.1.2]) (bB (x.1++[e.1.2]))=_
   rw [iB]
  ·rw [if_neg h,if_neg h]
   simp
def Lz (l:List U):List Str:=l.map fun u=>match u with | .str s=>s | _=>""
theorem Mr (l:List Str):Lz (l.map U.str)=l:=by
 unfold Lz
 rw [List.map_map]
 conv=>rhs;rw [<- List.map_id l]
 exact List.map_congr_left fun x _=>rfl
def JN (cs:List Str) (ks:List (Str × Str)) (wt:Addr) (M:aD):Nat:=match M wt with
 | some (.lst us)=>(us.map fun u=>match u with | .tup [.tup cl,_,_]=>Nc cs ks (Lz cl) (bB (Lz cl)) | _=>0).sum
 | _=>0
theorem EG {cs:List Str} {ks:List (Str × Str)} {wt:Addr} {M:aD} {st:List Cn} (h:M wt=some (.lst (st.map lJ))):JN cs ks wt M=(st.map (uF cs ks)).sum:=by
 unfold JN
 rw [h]
 simp only [List.map_map]
 congr 1
 refine List.map_congr_left fun x _=>?_
 simp only [Function.comp,lJ,uF,Mr]
structure zO (cs:List Str) (l:List ((Str × Str) × Int)) (c:Str) (m:List (Str × (Int × Int))) (st:List Cn):Prop where
 nd:(m.map (·.1)).Nodup
 kc:∀ e∈m,e.1∈cs
 ok:∀ x∈st,Seen cs x.1/\x.1≠[]
 few:(st.map (uF cs ((aW l).map (·.1)))).sum<=100000
 sum:∀ f,bQ (aV (m.map fun e=>bO (some e.2) (f e.1))) (aV (st.map (Ef cs (oR (aW l)) f)))=Wc cs (oR (aW l)) f [c] c
theorem zO.len {cs:List Str} {l:List ((Str × Str) × Int)} {c:Str} {m:List (Str × (Int × Int))} {st:List Cn} (h:zO cs l c m st):st.length<=100000:=by
 have:=h.few
 have h2:∀ st:List Cn,st.length<=(st.map (uF cs ((aW l).map (·.1)))).sum:=fun st=>by
  induction st with
  | nil=>simp
  | cons a r ih =>
   have:=PZ cs ((aW l).map (·.1)) a.1 (bB a.1)
   rw [List.map_cons,List.sum_cons,List.length_cons]
   unfold uF at ih ⊢
   omega
 have:=h2 st
 omega
theorem zO.keys {cs:List Str} {l:List ((Str × Str) × Int)} {c:Str} {m:List (Str × (Int × Int))} {st:List Cn} (h:zO cs l c m st):m.length<=cs.length:=by
 have:=mG _ cs h.nd fun s hs=>by obtain ⟨e,he,rfl⟩:=List.mem_map.mp hs;exact h.kc e he
 rwa [List.length_map] at this
theorem zO.step {cs:List Str} {l:List ((Str × Str) × Int)} {c:Str} {m:List (Str × (Int × Int))} {st:List Cn} {x:Cn} (hE:∀ e∈l,e.1.1∈cs/\e.1.2∈cs) (h:zO cs l c m (st++[x])) :
  zO cs l c (eZ m (bB x.1) x.2.1 x.2.2) (st++i7 x (aW l))/\((st++i7 x (aW l)).map (uF cs ((aW l).map (·.1)))).sum < ((st++[x]).map (uF cs ((aW l).map (·.1)))).sum:=by
 obtain ⟨hs,hn⟩:=h.ok x (by simp)
 have hlast:bB x.1∈cs:=by
  refine hs.sub _ ?_
  obtain ⟨cl,e0,hce⟩:∃ cl e0,x.1=cl++[e0]:=⟨x.1.dropLast,x.1.getLast hn,(List.dropLast_concat_getLast hn).symm⟩
  rw [hce,iB];simp
 have hks:∀ k∈(aW l).map (·.1),k.2∈cs:=fun k hk=>by
  obtain ⟨e,he,rfl⟩:=List.mem_map.mp hk
  obtain ⟨e',he',h⟩:=List.mem_map.mp ((pA l).key e he)
  rw [<- h];exact (hE e' he').2
 have hes:∀ e∈oR (aW l),e.1.2∈cs:=fun e he=>by
  obtain ⟨e',he',rfl⟩:=List.mem_map.mp he
  exact hks _ (List.mem_map.mpr ⟨e',he',rfl⟩)
 have hnode:((st++i7 x (aW l)).map (uF cs ((aW l).map (·.1)))).sum < ((st++[x]).map (uF cs ((aW l).map (·.1)))).sum:=by
  rw [List.map_append,List.sum_append,List.map_append,List.sum_append,zH]
  have:=MM hks (bB x.1) hs
  rw [List.map_cons,List.map_nil,List.sum_cons,List.sum_nil]
  unfold uF
  omega
 refine ⟨⟨rA h.nd,fun e he=>?_,fun y hy=>?_,by have:=h.few;omega,fun f=>?_⟩,hnode⟩
 ·have hk:e.1∈(eZ m (bB x.1) x.2.1 x.2.2).map (·.1):=List.mem_map.mpr ⟨e,he,rfl⟩
  rw [o7] at hk
  have old:∀ k∈m.map (·.1),k∈cs:=fun k hk=>by obtain ⟨e,he,rfl⟩:=List.mem_map.mp hk;exact h.kc e he
  split at hk
  ·exact old _ hk
  ·rcases List.mem_append.mp hk with hk | hk
   ·exact old _ hk
   ·rw [List.mem_singleton.mp hk];exact hlast
 ·rcases List.mem_append.mp hy with hy | hy
  ·exact h.ok y (by simp [hy])
  ·obtain ⟨e,he,h2⟩:=List.mem_filterMap.mp hy
   split at h2
   ·rename_i hc
    cases h2
    exact ⟨hs.add hc.2 (hks _ (List.mem_map.mpr ⟨e,he,rfl⟩)),by simp⟩
   ·cases h2
 ·rw [<- h.sum f,CA f m _ _ _ h.nd,List.map_append,mN,List.map_append,mN,CB]
  have e1:aV (([x]:List Cn).map (Ef cs (oR (aW l)) f))=Ef cs (oR (aW l)) f x:=by show bQ _ none=_;rw [eB]
  rw [e1]
  conv=>rhs;rw [Ef,MU hes f (bB x.1) hs,pD]
  generalize aV (m.map fun e=>bO (some e.2) (f e.1))=A
  generalize bO (some (x.2.1,x.2.2)) (f (bB x.1))=B
  generalize aV (st.map (Ef cs (oR (aW l)) f))=C
  rw [d9,<- d9 B C,nV B C,d9 C B]
structure GG (cs:List Str) (l:List ((Str × Str) × Int)) (c:Str) (m:List (Str × (Int × Int))):Prop where
 nd:(m.map (·.1)).Nodup
 kc:∀ e∈m,e.1∈cs
 sum:∀ f,aV (m.map fun e=>bO (some e.2) (f e.1))=Wc cs (iK l) f [c] c
def EC (cs:List Str) (l:List ((Str × Str) × Int)):Prop:=(cs.length<=4/\l.length<=20)\/(cs.length<=6/\l.length<=9)
theorem EY {cs:List Str} {l:List ((Str × Str) × Int)} (h:EC cs l) {k:Nat} (hk:k<=l.length) {n:Nat} (hn:n + 1<=cs.length):(k + 1) ^ n<=100000:=by
 rcases h with ⟨h1,h2⟩ | ⟨h1,h2⟩
 ·have a:(k + 1) ^ n<=21 ^ n:=Nat.pow_le_pow_left (by omega) n
  have b:21 ^ n<=21 ^ 3:=Nat.pow_le_pow_right (by omega) (by omega)
  have c:(21:Nat) ^ 3<=100000:=by decide
  omega
 ·have a:(k + 1) ^ n<=10 ^ n:=Nat.pow_le_pow_left (by omega) n
  have b:10 ^ n<=10 ^ 5:=Nat.pow_le_pow_right (by omega) (by omega)
  have c:(10:Nat) ^ 5<=100000:=by decide
  omega
def Bo:cV:=fun us M Q=>∃ (cs:List Str) (tls:List Tl) (c:Str),us=[eD cs tls,.str c]/\yY cs tls/\EC cs (aX tls)/\c∈cs/\∀ (d wt:Addr) (m:List (Str × (Int × Int))),M d=none->M wt=none->d≠wt->GG cs (aX tls) c m->Q (.ref d) (mup (mup M d (.dK (cZ m))) wt (.lst []))
def B3:cV:=fun us M Q=>∃ (cs:List Str) (tls:List Tl) (c:Str),us=[eD cs tls,.str c]/\yY cs tls/\EC cs (aX tls)/\c∈cs/\∀ m:List (Str × (Int × Int)),GG cs (aX tls) c m->Q (lA (cZ m)) M
theorem Gk (F:dE K "cheapest_chains" "cheapest_chains" kO f fd) (hm:mg "cheapest_chains"=some (.ref f)) (xF:Callee P w K mg base 2 "cheapest_steps" Fc []) (k9:Callee P w K mg base 1 "put_in" x6 []):Callee P w K mg base 3 "cheapest_chains" Bo []:=by
 refine bT F hm cM (qN fun _ _ _ _ _ _ _ _=>rfl) (aE (aY 2 cM.nd (aU xF (aA (uv 0) aB)))
 (aE (aY 3 cM.nd (iX false))
 (aE (aY 4 cM.nd (hZ (own:=true) (aA (bI (aA (bI (aA (uv 1) aB)) (aA aS (aA aS aB)))) aB)))
 (aE (wV (qD (uv 4))
 (aE (aY 5 cM.nd (Hx (uv 4)))
 (aE (aY 6 cM.nd (aN (uv 5) aS))
 (aE (eA (aU k9 (aA (uv 3) (aA (aN (uv 6) (yU aS)) (aA (aN (uv 5) aS) (aA (aN (uv 5) aS) aB))))))
 (aJ (eG (B4 (uv 2)) (dU (n:=2) (aT (aO (k:=1000) 7 cM.nd) (aT (aO (k:=1000) 8 cM.nd) cW)))
 (aJ (dW (l5.pt (Co (cP j6 (aN (uv 7) aS) (aN (uv 6) (yU aS))) (AB (cP Aa (aN (uv 7) aS) (uv 6)))))
 (aJ (eA (lG (uv 4) (aA (bI (aA (cX (own:=false) (uv 6) (bI (aA (aN (uv 7) aS) aB))) (aA (cX (own:=false) (aN (uv 5) aS) (aN (uv 8) aS)) (aA (j7 (own:=false) (aN (uv 5) aS) (aN (uv 8) aS)) aB)))) aB))))
 cT))))))))
 (aJ (bP (uv 3))))))) ?_
 rintro us M Q ⟨cs,tls,c,rfl,hR,hF,hc,q⟩
 refine ⟨rfl,?_⟩
 have htl:=hR.tab.len
 have hso:=pA (aX tls)
 have hpl:=uN tls
 have hsl:(aW (aX tls)).length<=39:=by have:=hso.len;omega
 have hcs:cs.length<=6:=hR.tab.cls.len
 refine aI fun V hV=>?_
 simp! only [bR,hName,aG]
 refine ⟨cs,tls,rfl,htl,?_⟩
 subst hV
 refine aI fun V hV=>?_
 simp! only [bR,hName,pU,v9,aG]
 intro d hd
 subst hV
 refine aI fun V hV=>?_
 simp! only [bR,hName,aG]
 intro wt hwt
 have hdw:d≠wt:=fun z=>by subst z;rw [aF] at hwt;cases hwt
 rw [aM (Ne.symm hdw)] at hwt
 subst hV
 have hs1:Seen cs [c]:=⟨by simp,fun s hs=>by cases List.mem_singleton.mp hs;exact hc⟩
 have p0:zO cs (aX tls) c [] [([c],0,1)]:=by
  refine ⟨by simp,(fun e he=>by cases he),fun x hx=>?_,?_,fun f=>?_⟩
  ·cases List.mem_singleton.mp hx
   exact ⟨hs1,by simp⟩
  ·show Nc cs _ [c] _<=100000
   have h1:=wR ((aW (aX tls)).map (·.1)) (cs.length - [c].length) [c] (bB [c])
   have h2:1<=cs.length:=hs1.len
   have h3:=EY hF (k:=((aW (aX tls)).map (·.1)).length) (by rw [List.length_map];exact hso.len) (n:=cs.length - [c].length) (by simp;omega)
   exact Nat.le_trans h1 h3
  ·show bQ none (bQ (bO qA _) none)=_
   rw [gT,eB,Pz];rfl
 refine aI fun V hV=>?_
 refine wF (fun τ Mi=>∃ (m:List (Str × (Int × Int))) (st:List Cn) (z5 z6 z7 z8:Option U),τ=[some (eD cs tls),some (.str c),some (lC (kG (aW (aX tls)))),some (.ref d),some (.ref wt),z5,z6,z7,z8]/\zO cs (aX tls) c m st/\Mi=mup (mup M d (.dK (cZ m))) wt (.lst (st.map lJ))) (fun τ Mi=>JN cs ((aW (aX tls)).map (·.1)) wt Mi) ⟨[],[([c],0,1)],none,none,none,none,rfl,p0,rfl⟩ ?_
 rintro τ Mi ⟨m,st,z5,z6,z7,z8,rfl,p,rfl⟩
 have hv:view (mup (mup M d (.dK (cZ m))) wt (.lst (st.map lJ))) (.ref wt)=.lst (st.map lJ):=by simp only [view,aF]
 simp! only [hv,aG]
 rcases List.eq_nil_or_concat st with rfl | ⟨st,x,rfl⟩
 ·simp only [List.map_nil,List.isEmpty_nil,Bool.not_true,Bool.false_eq_true,if_false]
  show V _ _
  subst hV
  simp! only [gH,aG]
  refine aZ (q d wt m hd hwt hdw ⟨p.nd,p.kc,fun f=>?_⟩)
  have:=p.sum f
  rw [List.map_nil,aV,eB] at this
  rw [this]
  unfold Wc
  exact Bh _ _ _ _ _
 ·rw [List.concat_eq_append] at *
  obtain ⟨p2,hdec⟩:=p.step hR.edge
  have hlen2:=p2.len
  have hml:m.length<=6:=by have:=p.keys;omega
  have hne:(List.map lJ (st++[x])).isEmpty=false:=by simp
  obtain ⟨hS,hxn⟩:=p.ok x (by simp)
  have hSl:=hS.len
  obtain ⟨cl,e0,hce⟩:∃ cl e0,x.1=cl++[e0]:=⟨x.1.dropLast,x.1.getLast hxn,(List.dropLast_concat_getLast hxn).symm⟩
  have hlast:bB x.1=e0:=by rw [hce,iB]
  simp only [hne,Bool.not_false,if_true]
  refine aI fun V1 hV1=>?_
  have hm1:(st++[x]).map lJ=st.map lJ++[lJ x]:=by simp
  simp! only [bR,hName,hm1,Qe,Qo,aG]
  refine ⟨⟨_,by rw [<- hm1];exact hv⟩,?_⟩
  subst hV1
  refine aI fun V1 hV1=>?_
  simp! only [bR,hName,lJ,aG]
  subst hV1
  have hat:eR (x.1.map U.str) (-1)=some (.str e0):=by rw [hce];simp only [List.map_append,List.map_cons,List.map_nil,Hs]
  refine aI fun V1 hV1=>?_
  simp! only [gC,hat,aG]
  have hdM:(mup (mup M d (.dK (cZ m))) wt (.lst (st.map lJ))) d=some (.dK (cZ m)):=by rw [aM hdw,aF]
  refine ⟨d,m,e0,x.2.1,x.2.2,rfl,hdM,by omega,?_⟩
  rw [<- hlast]
  have hM2:mup (mup (mup M d (.dK (cZ m))) wt (.lst (st.map lJ))) d (.dK (cZ (eZ m (bB x.1) x.2.1 x.2.2)))=mup (mup M d (.dK (cZ (eZ m (bB x.1) x.2.1 x.2.2)))) wt (.lst (st.map lJ)):=by
   rw [lD (Ne.symm hdw),bV]
  rw [hM2]
  subst hV1
  generalize hM3:mup M d (.dK (cZ (eZ m (bB x.1) x.2.1 x.2.2)))=M3
  refine eT (S:=⟨none,(aW (aX tls)).map AQ⟩) (M1:=mup M3 wt (.lst (st.map lJ))) (fun R r=>by simp! only [yI,lC,DX,aG];exact r)
   (fun i τ Mj=>∃ (y7 y8:Option U),τ=[some (eD cs tls),some (.str c),some (lC (kG (aW (aX tls)))),some (.ref d),some (.ref wt),some (lJ x),some (.tup (x.1.map U.str)),y7,y8]/\Mj=mup M3 wt (.lst ((st++i7 x ((aW (aX tls)).take i)).map lJ))) ⟨z7,z8,rfl,by simp [i7]⟩ nk ?_ ?_
  ·rintro i u τ Mj e ⟨y7,y8,rfl,rfl⟩
   have e':((aW (aX tls)).map AQ)[i]?=some u:=e
   rw [List.getElem?_map] at e'
   cases hj:(aW (aX tls))[i]? with
   | none=>rw [hj] at e';cases e'
   | some pp =>
    rw [hj] at e'
    cases e'
    have tk:(aW (aX tls)).take (i + 1)=(aW (aX tls)).take i++[pp]:=by rw [List.take_add_one,hj];rfl
    have hmem:pp∈aW (aX tls):=List.mem_of_getElem? hj
    have hnext:=IZ x ((aW (aX tls)).take i) pp
    rw [<- tk] at hnext
    have hgl:(i7 x ((aW (aX tls)).take i)).length<=39:=by
     unfold i7
     refine Nat.le_trans (List.length_filterMap_le _ _) ?_
     rw [List.length_take];omega
    have hstl:st.length<=100000:=by rw [List.length_append] at hlen2;omega
    refine ⟨rfl,?_⟩
    simp! only [AQ,i9,gN,kI,hName,aG]
    refine fD fun A B hA hB=>?_
    have hno:(¬ (pp.1.1=bB x.1/\pp.1.2 ∉ x.1))->B (mup M3 wt (.lst ((st++i7 x ((aW (aX tls)).take i)).map lJ))):=fun h=>by
     rw [if_neg h,List.append_nil] at hnext
     subst hB
     simp only [fJ]
     exact ⟨_,_,rfl,by rw [hnext]⟩
    have hyes:(pp.1.1=bB x.1/\pp.1.2 ∉ x.1)->A (mup M3 wt (.lst ((st++i7 x ((aW (aX tls)).take i)).map lJ))):=fun h=>by
     rw [if_pos h] at hnext
     subst hA
     have hlen1:(x.1.map U.str).length + 1<=sizeLine:=small (by rw [List.length_map];omega)
     have hmul:nO x.2.2 pp.2.2:=.inl (.inr (by have:=hso.many pp hmem;constructor <;> omega))
     simp! only [gC,bU,lJ,hmul,hlen1,aG]
     refine ⟨qL,?_,_,_,rfl,by rw [hnext];simp [lJ]⟩
     rw [List.length_map,List.length_append,PySem.sizeLine_eq]
     omega
    simp! only [hat,aG]
    rw [<- hlast]
    refine oU (fun h1=>⟨rfl,A4 _,?_⟩) (fun h1=>hno fun z=>h1 (decide_eq_true z.1))
    rw [EV]
    refine oU (fun h2=>hyes ⟨of_decide_eq_true h1,?_⟩) (fun h2=>hno fun z=>?_)
    ·simpa using h2
    ·simp at h2;exact z.2 h2
  ·rintro τ Mj ⟨y7,y8,rfl,rfl⟩
   have hl3:(Src.mk none ((aW (aX tls)).map AQ)).xs.length=(aW (aX tls)).length:=by show ((aW (aX tls)).map AQ).length=_;simp
   rw [hl3,List.take_length]
   subst hM3
   refine ⟨⟨_,_,_,_,_,_,rfl,p2,rfl⟩,?_⟩
   rw [EG (st:=st++i7 x (aW (aX tls))) aF,EG (st:=st++[x]) aF]
   exact hdec
theorem HN (C:Callee P w K mg base 3 "cheapest_chains" Bo []):Callee P w K mg base 3 "cheapest_chains" B3 []:=by
 refine Callee.conv C fun us M Q h=>?_
 obtain ⟨cs,tls,c,rfl,hR,hF,hc,q⟩:=h
 refine ⟨cs,tls,c,rfl,hR,hF,hc,fun d wt m hd hwt hdw ho=>?_⟩
 exact Jd (((Sub.refl M).mup hd).mup hwt) (by rw [aM hdw,aF]) hd (q m ho)
theorem Hh {κ:Type} [DecidableEq κ] {kvs:List (κ × U)} {k:κ} (h:k ∉ kvs.map (·.1)):cH kvs k=none:=by
 induction kvs with
 | nil=>rfl
 | cons a r ih =>
  rw [List.map_cons,List.mem_cons,not_or] at h
  rw [jT (fun z=>h.1 z.symm)];exact ih h.2
theorem pK {o:Bool} {k:Nat} {ix:List Nat} {wi:UI} {g:UG} {tc:UT} {te:UE} {τ:SU} {M M1:aD} {Q:UK} {S:Src} (zs:List (Option U)) (hw:∀ R:Src->aD->Prop,R S M1->wi τ M R) (hl:zs.length=S.xs.length) (hz:S.xs.length<=sizeLine) (hs:S.ok M1)
  (h:∀ (i:Nat) x z,S.xs[i]?=some x->zs[i]?=some z->∀ M,Sub M1 M->∀ R:Option U->aD->Prop,R z M->g x (cU k ix τ) M fun τ2 M2=>tc τ2 M2 fun ok M3=>if ok=true then te τ2 M3 fun y M4=>R (some y) M4 else R none M3)
  (q:iL o (zs.filterMap id) M1 Q):pQ o k ix wi g tc te τ M Q:=by
 refine hw _ ⟨hz,fun D hD=>⟨fun i ys M=>ys=(zs.take i).filterMap id/\M=mup M1 D (.lst ys)/\i<=S.xs.length,⟨by simp,rfl,Nat.zero_le _⟩,?_,?_,?_⟩⟩
 ·rintro i ys M ⟨rfl,rfl,hi⟩
  refine ⟨fun a e=>?_,aF,?_⟩
  ·have:=hs a e
   rw [aM (fun z=>by subst z;rw [hD] at this;cases this)]
   exact this
  ·refine Nat.le_trans (List.length_filterMap_le _ _) ?_
   rw [List.length_take];omega
 ·rintro i x ys M e ⟨rfl,rfl,hi⟩
  have hlt:i < S.xs.length:=(List.getElem?_eq_some_iff.mp e).1
  have hy:zs[i]?=some zs[i]:=by simp [show i < zs.length by omega]
  have tk:zs.take (i + 1)=zs.take i++[zs[i]]:=by rw [List.take_add_one,hy];rfl
  generalize hzi:zs[i]=z at hy tk
  refine h i x z e hy (mup M1 D (.lst ((zs.take i).filterMap id))) ((Sub.refl M1).mup hD) (fun r M4=>match r with
   | some y=>M4 D=some (.lst ((zs.take i).filterMap id))/\((zs.take i).filterMap id++[y]=(zs.take (i + 1)).filterMap id/\mup M4 D (.lst ((zs.take i).filterMap id++[y]))=mup M1 D (.lst ((zs.take i).filterMap id++[y]))/\i + 1<=S.xs.length)
   | none=>(zs.take i).filterMap id=(zs.take (i + 1)).filterMap id/\M4=mup M1 D (.lst ((zs.take i).filterMap id))/\i + 1<=S.xs.length) ?_
  cases z with
  | some y=>exact ⟨aF,by rw [tk,List.filterMap_append];rfl,bV,hlt⟩
  | none=>exact ⟨by rw [tk,List.filterMap_append];simp,rfl,hlt⟩
 ·rintro ys M ⟨rfl,rfl,hi⟩
  rw [show zs.take S.xs.length=zs by rw [<- hl];exact List.take_length]
  cases o with
  | true=>exact q D hD
  | false=>exact ⟨M1,(Sub.refl M1).mup hD,hD,q⟩
def nM (tls:List Tl) (l:Ld):Bool:=match tls[l.n]? with
 | some tl=>tl.pass
 | none=>false
def u4 (tls:List Tl) (t:Tr) (p:List Nat):List Ld:=match t.at p with
 | some t'=>(bN t' p 0 tls).filter fun l=>!nM tls l
 | none=>[]
def xW (tls:List Tl) (t:Tr) (p:List Nat):U:=.lst ((u4 tls t p).map Ld.toU)
def eS (tls:List Tl) (t:Tr) (ps:List (List Nat)):List (List Key × U):=ps.map fun p=>(pk p,xW tls t p)
theorem IX (t:Tr) (p:List Nat):∀ (l:List Tl) (k:Nat),∀ x∈bN t p k l,k<=x.n/\∃ tl,l[x.n - k]?=some tl/\x.cls=tl.cls/\x.price=tl.cost/\eC tl.pt t=true/\x.spots=(d5 tl.pt).map fun e=>(p++e.1,e.2)
 | [],k,x,h=>by cases h
 | a :: l,k,x,h=>by
  simp only [bN] at h
  rcases List.mem_append.mp h with h | h
  ·split at h
   ·rename_i hl
    cases List.mem_singleton.mp h
    exact ⟨Nat.le_refl _,a,by simp,rfl,rfl,hl,rfl⟩
   ·cases h
  ·obtain ⟨h1,tl,h2,h3⟩:=IX t p l (k + 1) x h
   refine ⟨by omega,tl,?_,h3⟩
   rw [show x.n - k=(x.n - (k + 1)) + 1 by omega]
   simpa using h2
theorem DW {tls:List Tl} {t:Tr} {ps:List (List Nat)} {p:List Nat} (h:p ∉ ps):cH (eS tls t ps) (pk p)=none:=by
 refine Hh fun z=>h ?_
 obtain ⟨x,hx,e⟩:=List.mem_map.mp z
 obtain ⟨q,hq,rfl⟩:=List.mem_map.mp hx
 exact zK e ▸ hq
theorem vW {tls:List Tl} {t:Tr}:∀ {ps:List (List Nat)} {p:List Nat},p∈ps->cH (eS tls t ps) (pk p)=some (xW tls t p)
 | q :: ps,p,h=>by
  by_cases e:q=p
  ·subst e;exact jQ rfl
  ·have:cH (eS tls t (q :: ps)) (pk p)=cH (eS tls t ps) (pk p):=jT (fun z=>e (zK z))
   rw [this]
   exact vW ((List.mem_cons.mp h).resolve_left fun z=>e z.symm)
 | [],_,h=>by cases h
def EX:cV:=fun us M Q=>∃ (cs:List Str) (tls:List Tl) (t:Tr),us=[eD cs tls,t.toU]/\Tab cs tls/\t.dep<=12/\t.size<=40/\∀ d,M d=none->Q (.ref d) (mup M d (.dT (eS tls t t.places)))
def E5:cV:=fun us M Q=>∃ (cs:List Str) (tls:List Tl) (t:Tr),us=[eD cs tls,t.toU]/\Tab cs tls/\t.dep<=12/\t.size<=40/\Q (lC (eS tls t t.places)) M
theorem HW (t:Tr):t.places.Nodup:=(kA t).imp fun {x y} h z=>h (by rw [z];exact List.prefix_refl _)
theorem J5 (F:dE K "laid_tiles" "laid_tiles" oJ f fd) (hm:mg "laid_tiles"=some (.ref f)) (oC:Callee P w K mg base 14 "places" (fZ 12) []) (sL:Callee P w K mg base 10 "tiles_at" t7 []) (uA:Callee P w K mg base 1 "is_pass" Dg []):Callee P w K mg base 15 "laid_tiles" EX []:=by
 refine bT F hm nJ (qN fun _ _ _ _ _ _ _ _=>rfl) (aE (aY 2 nJ.nd (iX true))
 (aE (eG (dD (aU oC (aA (uv 1) aB))) (aO (k:=1000) 3 nJ.nd)
 (aJ (i4 true (fun _=>True.intro) (kB false ["tile","table"] 1 [0] (dD (aU sL (aA (uv 0) (aA (uv 1) (aA (uv 3) aB))))) (aO (k:=1) 0 (by dsimp only [bM];decide +kernel)) (Ax (Ox (qD (aU uA (aA (aN (aN (uv 1) aS) (aN (uv 0) aS)) aB))))) (uv 0)) (uv 2) (uv 3))))
 (aJ (bP (uv 2))))) ?_
 rintro us M Q ⟨cs,tls,t,rfl,hT,hdp,hs,q⟩
 refine ⟨rfl,?_⟩
 have hpl:=gJ t
 have hnd:=HW t
 refine aI fun V hV=>?_
 simp! only [bR,hName,aG]
 intro d hd
 subst hV
 refine aI fun V hV=>?_
 refine eT (S:=⟨none,t.places.map aQ⟩) (M1:=mup M d (.dT (eS tls t []))) (fun R r=>by
   simp! only [aG]
   exact ⟨t,rfl,hdp,by omega,r⟩)
  (fun i τ Mi=>∃ z:Option U,τ=[some (eD cs tls),some t.toU,some (.ref d),z]/\Mi=mup M d (.dT (eS tls t (t.places.take i)))) ⟨none,rfl,rfl⟩ nk ?_ ?_
 ·rintro i x τ Mi e ⟨z,rfl,rfl⟩
  have e':(t.places.map aQ)[i]?=some x:=e
  rw [List.getElem?_map] at e'
  cases hj:t.places[i]? with
  | none=>rw [hj] at e';cases e'
  | some p =>
   rw [hj] at e'
   cases e'
   have hi:=(List.getElem?_eq_some_iff.mp hj).1
   have hmem:=List.mem_of_getElem? hj
   obtain ⟨t',ht⟩:=oQ t p hmem
   have hps:=gR t p hmem
   have hnew:p ∉ t.places.take i:=fun z=>by
    obtain ⟨k,hk,e⟩:=List.getElem_of_mem z
    rw [List.getElem_take] at e
    rw [List.length_take] at hk
    have:=(List.getElem_inj hnd).mp (e.trans (List.getElem?_eq_some_iff.mp hj).2.symm)
    omega
   have hll:=oM t' p tls 0
   have htl:=hT.len
   simp! only [hName,kC,aG]
   refine pK (S:=⟨none,(bN t' p 0 tls).map Ld.toU⟩) (M1:=mup M d (.dT (eS tls t (t.places.take i)))) ((bN t' p 0 tls).map fun l=>if nM tls l then none else some l.toU) (fun R r=>by
     simp! only [aG]
     exact ⟨cs,tls,t,t',p,rfl,t5 t p t' ht,fun tl h=>by have:=(hT.good tl h).2.1;simp only [Tl.k] at this;omega,by omega,by omega,r⟩) (by simp) (small (by show ((bN t' p 0 tls).map Ld.toU).length<=_;rw [List.length_map];omega)) (fun a e=>by cases e) ?_ ?_
   ·intro k x z' hx hz M' hS R r'
    have hx':((bN t' p 0 tls).map Ld.toU)[k]?=some x:=hx
    rw [List.getElem?_map] at hx' hz
    cases hk:(bN t' p 0 tls)[k]? with
    | none=>rw [hk] at hx';cases hx'
    | some l =>
     rw [hk] at hx' hz
     cases hx';cases hz
     obtain ⟨_,tl,h2,_⟩:=IX t' p tls 0 l (List.mem_of_getElem? hk)
     rw [Nat.sub_zero] at h2
     have hat:eR (tls.map Tl.toU) (l.n:Int)=some tl.toU:=by
      have:(tls.map Tl.toU)[l.n]?=some tl.toU:=by rw [List.getElem?_map,h2];rfl
      exact eX this
     have hp:nM tls l=tl.pass:=by unfold nM;rw [h2]
     have r':R (if nM tls l=true then none else some l.toU) M':=r'
     rw [hp] at r'
     simp! only [hName,Ld.toU,m7,hat,aG]
     refine ⟨tl,rfl,?_⟩
     cases htp:tl.pass with
     | true=>rw [htp] at r';simp only [m5,Bool.not_true,Bool.false_eq_true,if_false];exact r'
     | false=>rw [htp] at r';simp! only [aG];exact r'
   ·have ef:((bN t' p 0 tls).map fun l=>if nM tls l then none else some l.toU).filterMap id=((bN t' p 0 tls).filter fun l=>!nM tls l).map Ld.toU:=by
     generalize bN t' p 0 tls=L
     induction L with
     | nil=>rfl
     | cons a r ih =>
      rw [List.map_cons,List.filterMap_cons,List.filter_cons]
      cases nM tls a with
      | true=>exact ih
      | false=>simpa using ih
    have elu:U.lst (((bN t' p 0 tls).filter fun l=>!nM tls l).map Ld.toU)=xW tls t p:=by unfold xW u4;rw [ht]
    simp! only [ef,elu,aQ,qQ,aG]
    refine ⟨big (by simp only [eS,List.length_map,List.length_take];omega),_,rfl,?_⟩
    rw [sA (DW hnew),List.take_add_one,hj]
    simp [eS]
 ·rintro τ Mi ⟨z,rfl,rfl⟩
  have hlen:(Src.mk none (t.places.map aQ)).xs.length=t.places.length:=by show (t.places.map aQ).length=_;simp
  rw [hlen,List.take_length]
  subst hV
  simp! only [gH,aG]
  exact aZ (q d hd)
theorem By (C:Callee P w K mg base 15 "laid_tiles" EX []):Callee P w K mg base 15 "laid_tiles" E5 []:=by
 refine Callee.conv C fun us M Q h=>?_
 obtain ⟨cs,tls,t,rfl,hT,hdp,hs,q⟩:=h
 exact ⟨cs,tls,t,rfl,hT,hdp,hs,fun d hd=>EO ((Sub.refl M).mup hd) aF hd q⟩
def dF (ls:List Ld):List (Str × (Int × Int)):=ls.foldl (fun m l=>eZ m l.cls l.price 1) []
theorem vR (ls:List Ld) (l:Ld):dF (ls++[l])=eZ (dF ls) l.cls l.price 1:=by simp [dF,List.foldl_append]
structure PN (ls:List Ld) (m:List (Str × (Int × Int))):Prop where
 nd:(m.map (·.1)).Nodup
 len:m.length<=ls.length
 many:∀ e∈m,0<=e.2.2/\e.2.2<=ls.length
 at_:∀ e,asc m e=aV (ls.map fun l=>if l.cls=e then some (l.price,1) else none)
theorem Bf (ls:List Ld):PN ls (dF ls):=by
 refine snoc_ind (P:=fun ls=>PN ls (dF ls)) ⟨by simp [dF],by simp [dF],(fun e he=>by simp [dF] at he),fun e=>rfl⟩ (fun l v ih=>?_) ls
 rw [vR]
 refine ⟨rA ih.nd,?_,fun e he=>?_,fun e=>?_⟩
 ·have:=w4 (dF l) v.cls v.price 1
  have:=ih.len
  rw [List.length_append];simp;omega
 ·have:=Bi (B:=l.length) (by omega) (by decide) ih.many e he
  rw [List.length_append]
  refine ⟨this.1,?_⟩
  have:=this.2
  simp;omega
 ·rw [wB,List.map_append,mN,<- ih.at_ e]
  show _=bQ _ (bQ (if v.cls=e then some (v.price,1) else none) none)
  rw [eB]
  by_cases h:e=v.cls
  ·rw [if_pos h,if_pos h.symm,h]
  ·rw [if_neg h,if_neg (Ne.symm h),eB]
theorem Callee.ofAt {j:Nat} {x:Str} {sp:cV} (A:sN P w K mg base j f sp) (hm:mg x=some (.ref f)):Callee P w K mg base j x sp [] :=
 let ⟨fd,ps,F,kp,hb⟩:=A.ex;⟨f,fd,ps,[],[],F,hm,kp,hb,.nil,fun H M=>.nil⟩
def Dt:cV:=fun us M Q=>∃ (ls:List Ld) (ct:U),us=[.lst (ls.map Ld.toU),ct]/\ls.length<=39/\(∀ l∈ls,l.spots=[])/\∀ d,M d=none->Q (.ref d) (mup M d (.dK (cZ (dF ls))))
def Eg:cV:=fun us M Q=>∃ (ls:List Ld) (ct:U),us=[.lst (ls.map Ld.toU),ct]/\ls.length<=39/\(∀ l∈ls,l.spots=[])/\Q (lA (cZ (dF ls))) M
theorem Ic (F:dE K "first_tiles" "first_tiles" nI f fd) (hm:mg "first_tiles"=some (.ref f)) (Al:Callee P w K mg base 1 "joined_price" KQ []) (k9:Callee P w K mg base 1 "put_in" x6 []):Callee P w K mg base 2 "first_tiles" Dt []:=by
 refine bT F hm cK (qN fun _ _ _ _ _ _ _ _=>rfl) (aE (aY 2 cK.nd (iX false))
 (aE (eG (dD (uv 0)) (dU (n:=4) (aT (aO (k:=1000) 3 cK.nd) (aT (aO (k:=1000) 4 cK.nd) (aT (aO (k:=1000) 5 cK.nd) (aT (aO (k:=1000) 6 cK.nd) cW)))))
 (aE (qT 7 cK.nd false ["place","kind","below"] 2 [1] (dD (uv 6)) (dU (n:=2) (aT (aO (k:=2) 0 (by dsimp only [bM];decide +kernel)) (aT (aO (k:=2) 1 (by dsimp only [bM];decide +kernel)) cW))) g9 (oX false i8 (dA true (fun _=>True.intro) (uv 2) (uv 0)) (uv 1)))
 (aJ (dW (cP Aa zP (uv 7))
 (aE (aY 8 cK.nd aS)
 (aE (eG (dD (uv 7)) (dU (n:=2) (aT (aO (k:=1000) 9 cK.nd) (aT (aO (k:=1000) 10 cK.nd) cW)))
 (aJ (aY 8 cK.nd (j7 (own:=false) (uv 8) (uv 10)))))
 (aJ (eA (aU k9 (aA (uv 2) (aA (uv 4) (aA (aU Al (aA (uv 5) (aA (kB false ["cost","count"] 2 [] (dD (uv 7)) (dU (n:=2) (aT (aO (k:=2) 0 (by dsimp only [bM];decide +kernel)) (aT (aO (k:=2) 1 (by dsimp only [bM];decide +kernel)) cW))) g9 (uv 0)) aB))) (aA (uv 8) aB)))))))))
 cT))))
 (aJ (bP (uv 2))))) ?_
 rintro us M Q ⟨ls,ct,rfl,hl,hsp,q⟩
 refine ⟨rfl,?_⟩
 refine aI fun V hV=>?_
 simp! only [bR,hName,pU,v9,aG]
 intro d hd
 subst hV
 refine aI fun V hV=>?_
 refine eT (S:=⟨none,ls.map Ld.toU⟩) (M1:=mup M d (.dK [])) (fun R r=>by simp! only [aG];exact r)
  (fun i τ Mj=>∃ y3 y4 y5 y6 y7 y8 y9 y10:Option U,τ=[some (.lst (ls.map Ld.toU)),some ct,some (.ref d),y3,y4,y5,y6,y7,y8,y9,y10]/\Mj=mup M d (.dK (cZ (dF (ls.take i))))) ⟨none,none,none,none,none,none,none,none,rfl,rfl⟩ nk ?_ ?_
 ·rintro i u τ Mj e ⟨y3,y4,y5,y6,y7,y8,y9,y10,rfl,rfl⟩
  have e':(ls.map Ld.toU)[i]?=some u:=e
  rw [List.getElem?_map] at e'
  cases hj:ls[i]? with
  | none=>rw [hj] at e';cases e'
  | some l =>
   rw [hj] at e'
   cases e'
   have tk:ls.take (i + 1)=ls.take i++[l]:=by rw [List.take_add_one,hj];rfl
   have hs0:=hsp l (List.mem_of_getElem? hj)
   have hlen:(dF (ls.take i)).length<=39:=by
    have h1:=(Bf (ls.take i)).len
    have h3:(ls.take i).length<=ls.length:=by rw [List.length_take];omega
    omega
   refine ⟨rfl,?_⟩
   simp! only [Ld.toU,hs0,i9,gN,kI,hName,aG]
   refine aI fun V1 hV1=>?_
   refine pK (S:=⟨none,[]⟩) (M1:=mup M d (.dK (cZ (dF (ls.take i))))) [] (fun R r=>by simp! only [aG];exact r) rfl (Nat.zero_le _) (fun a e=>by cases e) (fun i x z h=>by cases h) ?_
   simp! only [hName,List.filterMap_nil,aG]
   subst hV1
   refine fD fun A B hA hB=>?_
   simp! only [aG]
   refine ⟨rfl,rfl,?_⟩
   rw [if_pos (show (!(([]:List U).any fun u=>tK u U.non))=true from rfl)]
   subst hA
   refine aI fun V1 hV1=>?_
   simp! only [bR,hName,aG]
   subst hV1
   refine aI fun V1 hV1=>?_
   refine eT (S:=⟨none,[]⟩) (M1:=mup M d (.dK (cZ (dF (ls.take i))))) (fun R r=>by simp! only [aG];exact r)
    (fun k τ Mj=>τ=[some (.lst (ls.map Ld.toU)),some ct,some (.ref d),some (.int (l.n:Int)),some (.str l.cls),some (.int l.price),some (.lst []),some (.lst []),some (.int 1),y9,y10]/\Mj=mup M d (.dK (cZ (dF (ls.take i))))) ⟨rfl,rfl⟩ nk (fun k u τ Mj e=>by cases e) ?_
   rintro τ Mj ⟨rfl,rfl⟩
   show V1 _ _
   subst hV1
   simp! only [gC,aG]
   refine pK (S:=⟨none,[]⟩) (M1:=mup M d (.dK (cZ (dF (ls.take i))))) [] (fun R r=>by simp! only [aG];exact r) rfl (Nat.zero_le _) (fun a e=>by cases e) (fun i x z h=>by cases h) ?_
   refine ⟨l.price,[],rfl,(fun n hn=>by cases hn),by decide,d,dF (ls.take i),l.cls,l.price + 0,1,rfl,aF,by omega,_,_,_,_,_,_,_,_,rfl,?_⟩
   rw [tk,vR,bV,Int.add_zero]
 ·rintro τ Mj ⟨y3,y4,y5,y6,y7,y8,y9,y10,rfl,rfl⟩
  show V _ _
  subst hV
  simp! only [gH,aG]
  rw [show ls.take ((⟨none,ls.map Ld.toU⟩:Src).xs.length)=ls from by show ls.take (ls.map Ld.toU).length=ls;rw [List.length_map,List.take_length]]
  exact aZ (q d hd)
theorem KG (C:Callee P w K mg base 2 "first_tiles" Dt []):Callee P w K mg base 2 "first_tiles" Eg []:=by
 refine Callee.conv C fun us M Q h=>?_
 obtain ⟨ls,ct,rfl,hl,hsp,q⟩:=h
 exact ⟨ls,ct,rfl,hl,hsp,fun d hd=>Jd ((Sub.refl M).mup hd) aF hd q⟩
theorem FZ {o:Bool} {k:Nat} {ix:List Nat} {wi:UI} {g:UG} {te:UE} {τ:SU} {M M1:aD} {Q:UK} {S:Src} (Pd:Nat->U->Prop) (hw:∀ R:Src->aD->Prop,R S M1->wi τ M R) (hz:S.xs.length<=sizeLine) (hs:S.ok M1)
  (h:∀ (i:Nat) x,S.xs[i]?=some x->∀ M,Sub M1 M->∀ R:UK,(∀ y,Pd i y->R y M)->g x (cU k ix τ) M fun τ2 M2=>te τ2 M2 R)
  (q:∀ zs:List U,zs.length=S.xs.length->(∀ (i:Nat) z,zs[i]?=some z->Pd i z)->iL o zs M1 Q):pQ o k ix wi g (fun _ M Q=>Q true M) te τ M Q:=by
 refine hw _ ⟨hz,fun D hD=>⟨fun i ys M=>ys.length=i/\(∀ (j:Nat) y,ys[j]?=some y->Pd j y)/\M=mup M1 D (.lst ys)/\i<=S.xs.length,⟨rfl,(fun j y h=>by simp at h),rfl,Nat.zero_le _⟩,?_,?_,?_⟩⟩
 ·rintro i ys M ⟨rfl,hy,rfl,hi⟩
  refine ⟨fun a e=>?_,aF,?_⟩
  ·have:=hs a e
   rw [aM (fun z=>by subst z;rw [hD] at this;cases this)]
   exact this
  ·omega
 ·rintro i x ys M e ⟨rfl,hy,rfl,hi⟩
  have hlt:ys.length < S.xs.length:=(List.getElem?_eq_some_iff.mp e).1
  refine h ys.length x e (mup M1 D (.lst ys)) ((Sub.refl M1).mup hD) (fun y M4=>M4 D=some (.lst ys)/\((ys++[y]).length=ys.length + 1/\(∀ (j:Nat) z,(ys++[y])[j]?=some z->Pd j z)/\mup M4 D (.lst (ys++[y]))=mup M1 D (.lst (ys++[y]))/\ys.length + 1<=S.xs.length)) fun y py=>?_
  refine ⟨aF,by simp,fun j z hz=>?_,bV,hlt⟩
  by_cases hj:j < ys.length
  ·rw [List.getElem?_append_left hj] at hz;exact hy j z hz
  ·rw [List.getElem?_append_right (by omega)] at hz
   have hj2:j - ys.length=0:=by
    have:=(List.getElem?_eq_some_iff.mp hz).1
    simp at this;omega
   have hj3:j=ys.length:=by omega
   rw [hj2] at hz
   cases hz
   rw [hj3];exact py
 ·rintro ys M ⟨hl,hy,rfl,hi⟩
  have:=q ys hl hy
  cases o with
  | true=>exact this D hD
  | false=>exact ⟨M1,(Sub.refl M1).mup hD,hD,this⟩
theorem Ck {β:Type} {R:Str->β->Prop} {h:β->U}:∀ (cs:List Str) (zs:List U),zs.length=cs.length->(∀ (i:Nat) z,zs[i]?=some z->∃ k m,cs[i]?=some k/\z=.tup [.str k,h m]/\R k m) ->
  ∃ L:List (Str × β),L.map (·.1)=cs/\zs=L.map (fun e=>.tup [.str e.1,h e.2])/\∀ e∈L,R e.1 e.2
 | [],[],_,_=>⟨[],rfl,rfl,fun e he=>by cases he⟩
 | c :: cs,z :: zs,hl,H=>by
  obtain ⟨k,m,h1,h2,h3⟩:=H 0 z rfl
  cases h1
  obtain ⟨L,g1,g2,g3⟩:=Ck cs zs (by simpa using hl) fun i z e=>by simpa using H (i + 1) z (by simpa using e)
  refine ⟨(c,m) :: L,by rw [List.map_cons,g1],by rw [List.map_cons,<- g2,h2],fun e he=>?_⟩
  rcases List.mem_cons.mp he with rfl | he
  ·exact h3
  ·exact g3 e he
 | [],_ :: _,hl,_=>by cases hl
 | _ :: _,[],hl,_=>by cases hl
theorem yD:∀ (kvs acc:List (Key × U)),(kvs.map (·.1)).Nodup->(∀ kv∈kvs,cH acc kv.1=none)->oI acc kvs=acc++kvs
 | [],acc,_,_=>by simp [oI]
 | kv :: r,acc,hn,h=>by
  rw [List.map_cons,List.nodup_cons] at hn
  show oI (eP acc kv.1 kv.2) r=_
  rw [sA (h kv List.mem_cons_self),yD r _ hn.2 fun kv' hk=>?_]
  ·simp
  ·rw [oG,h kv' (List.mem_cons_of_mem _ hk)]
   show cH [(kv.1,kv.2)] kv'.1=none
   exact jT (fun z=>hn.1 (by rw [show kv.1=kv'.1 from z];exact List.mem_map.mpr ⟨kv',hk,rfl⟩))
theorem Bm {tls:List Tl} {x:Str}:∀ (r pre:List Tl),tls=pre++r->(∀ tl∈r,tl.pt=.any\/∃ h,tl.pt=.hole h) ->
  (((bN (.name x) [] pre.length r).filter fun l=>!nM tls l).map fun l=>(l.cls,l.price))=nR r/\∀ l∈(bN (.name x) [] pre.length r).filter fun l=>!nM tls l,l.spots=[]
 | [],pre,_,_=>⟨rfl,fun l h=>by cases h⟩
 | a :: r,pre,ht,hp=>by
  obtain ⟨i1,i2⟩:=Bm (tls:=tls) (x:=x) r (pre++[a]) (by rw [ht];simp) fun tl h=>hp tl (List.mem_cons_of_mem _ h)
  rw [List.length_append,show pre.length + [a].length=pre.length + 1 from rfl] at i1 i2
  have hat:tls[pre.length]?=some a:=by rw [ht];simp
  obtain ⟨nm,cl,pt,co⟩:=a
  rcases hp _ List.mem_cons_self with h | ⟨s,h⟩
  ·simp only at h
   subst h
   have e:bN (.name x) [] pre.length (⟨nm,cl,.any,co⟩ :: r)=⟨pre.length,cl,co,[]⟩ :: bN (.name x) [] (pre.length + 1) r:=rfl
   have hi:nM tls ⟨pre.length,cl,co,[]⟩=false:=by unfold nM;rw [hat];rfl
   rw [e,List.filter_cons,hi]
   simp only [Bool.not_false,if_true]
   refine ⟨by rw [List.map_cons,i1];rfl,fun l hl=>?_⟩
   rcases List.mem_cons.mp hl with rfl | hl
   ·rfl
   ·exact i2 l hl
  ·simp only at h
   subst h
   have e:bN (.name x) [] pre.length (⟨nm,cl,.hole s,co⟩ :: r)=⟨pre.length,cl,co,[([],s)]⟩ :: bN (.name x) [] (pre.length + 1) r:=rfl
   have hi:nM tls ⟨pre.length,cl,co,[([],s)]⟩=true:=by unfold nM;rw [hat];rfl
   rw [e,List.filter_cons,hi]
   simp only [Bool.not_true,Bool.false_eq_true,if_false]
   exact ⟨by rw [i1];rfl,i2⟩
def Kp:Bs->Int
 | none=>0
 | some b=>b.2
def pR (L:List (Str × List (Str × (Int × Int)))):List (Key × U):=L.map fun e=>(Sum.inr e.1,lA (cZ e.2))
def LQ:cV:=fun us M Q=>∃ (cs:List Str) (tls:List Tl) (x c:Str),us=[eD cs tls,(Tr.name x).toU,.str c]/\yY cs tls/\EC cs (aX tls)/\c∈cs/\Q (.int (Kp (Wc cs (iK (aX tls)) (fB tls) [c] c))) M
theorem PD (F:dE K "how_many_least" "how_many_least" k0 f fd) (hm:mg "how_many_least"=some (.ref f)) (B8:mg "dict"=none) (lO:mg "list"=none) (fL:mg "reversed"=none) (vP:Callee P w K mg base 3 "cheapest_chains" B3 []) (CC:Callee P w K mg base 15 "laid_tiles" E5 []) (BC:Callee P w K mg base 2 "first_tiles" Eg []) (k9:Callee P w K mg base 1 "put_in" x6 []):Callee P w K mg base 16 "how_many_least" LQ []:=by
 refine bT F hm cJ (HR fun _ _ _ _ _ _ _ _ _=>rfl) (aE (aY 3 cJ.nd (Dw MT B8 (aA (kB false ["kind","table"] 1 [0] (dD (aN (uv 0) aS)) (aO (k:=1) 0 (by dsimp only [bM];decide +kernel)) g9 (bI (aA (uv 0) (aA (aU vP (aA (uv 1) (aA (uv 0) aB))) aB)))) aB)))
 (aE (aY 4 cJ.nd (aU CC (aA (uv 0) (aA (uv 1) aB))))
 (aE (aY 5 cJ.nd (iX true))
 (aE (eG (vY fL (aA (Dw (NJ (own:=false)) lO (aA (uv 4) aB)) aB)) (aO (k:=1000) 6 cJ.nd)
 (aE (aY 7 cJ.nd (aU BC (aA (dA true (fun _=>True.intro) (uv 4) (uv 6)) (aA (uv 5) aB))))
 (aE (i4 true (fun _=>True.intro) (iX false) (uv 5) (uv 6))
 (aJ (eG (dD (aN (uv 0) aS)) (aO (k:=1000) 8 cJ.nd)
 (aJ (eG (B4 (dA false i8 (uv 3) (uv 8))) (dU (n:=2) (aT (aO (k:=1000) 9 cJ.nd) (aT (aO (k:=1000) 10 cJ.nd) cW)))
 (aJ (dW (cP (Fy false i8) (uv 9) (uv 7))
 (aJ (eA (aU k9 (aA (dA true (fun _=>True.intro) (uv 5) (uv 6)) (aA (uv 8) (aA (cX (own:=false) (aN (uv 10) aS) (aN (dA false i8 (uv 7) (uv 9)) aS)) (aA (j7 (own:=false) (aN (uv 10) aS) (aN (dA false i8 (uv 7) (uv 9)) aS)) aB)))))))
 cT)))))))))
 (aJ (bP (BG (cP (Fy false i8) (uv 2) (dA true (fun _=>True.intro) (uv 5) (bI aB))) (aN (dA false i8 (dA true (fun _=>True.intro) (uv 5) (bI aB)) (uv 2)) aS) aS))))))) ?_
 rintro us M Q ⟨cs,tls,x,c,rfl,hR,hF,hc,q⟩
 refine ⟨rfl,?_⟩
 have htl:=hR.tab.len
 have hcs:cs.length<=6:=hR.tab.cls.len
 refine aI fun V hV=>?_
 simp! only [bR,hName,aG]
 refine FZ (S:=⟨none,cs.map U.str⟩) (M1:=M) (fun i y=>∃ k m,cs[i]?=some k/\y=.tup [.str k,lA (cZ m)]/\GG cs (aX tls) k m) (fun R r=>by simp! only [m7,qF,aG];exact r) (small (by show (cs.map U.str).length<=_;rw [List.length_map];omega)) (fun a e=>by cases e) ?_ ?_
 ·intro i u hu M' hS R r
  have hu':(cs.map U.str)[i]?=some u:=hu
  rw [List.getElem?_map] at hu'
  cases hj:cs[i]? with
  | none=>rw [hj] at hu';cases hu'
  | some k =>
   rw [hj] at hu'
   cases hu'
   simp! only [hName,aG]
   refine ⟨cs,tls,k,rfl,hR,hF,List.mem_of_getElem? hj,fun m ho=>?_⟩
   exact r _ ⟨k,m,hj,rfl,ho⟩
 ·intro zs hz hzs
  have hz':zs.length=cs.length:=by rw [hz];show (cs.map U.str).length=_;simp
  obtain ⟨L,hL1,rfl,hL3⟩:=Ck (h:=fun m=>lA (cZ m)) cs zs hz' hzs
  have hnd:((pR L).map (·.1)).Nodup:=by
   have:(pR L).map (·.1)=cs.map Sum.inr:=by unfold pR;rw [List.map_map,<- hL1,List.map_map];rfl
   rw [this]
   exact List.Pairwise.map _ (fun a b h z=>h (Sum.inr.inj z)) hR.nd
  simp only [iL,Dk,qU]
  refine ⟨pR L,by unfold pR;rw [List.map_map];rfl,fun p hp=>?_⟩
  rw [yD (pR L) [] hnd (fun kv _=>rfl),List.nil_append]
  subst hV
  refine aI fun V hV=>?_
  simp! only [bR,hName,aG]
  refine ⟨cs,tls,.name x,rfl,hR.tab,(by show 1<=12;decide),(by show 1<=40;decide),?_⟩
  subst hV
  refine aI fun V hV=>?_
  simp! only [bR,hName,pU,v9,aG]
  intro d1 pT
  have hd1p:d1≠p:=fun z=>by rw [z,aF] at pT;cases pT
  rw [aM hd1p] at pT
  subst hV
  refine aI fun V hV=>?_
  have hat:∀ M':aD,M' p=some (.dK (pR L))->∀ k,cR false M' (.ref p) (.str k)=some ((asc L k).map fun m=>lA (cZ m)):=fun M' h k=>by
   rw [lW k (show d7 M' (.ref p)=some (.dK (pR L)) from h)]
   exact congrArg some (iF (fun c:Str=>(Sum.inr c:Key)) mU (fun m=>lA (cZ m)) k L)
  have d5:=Bm (tls:=tls) (x:=x) tls [] rfl fun tl h=>by
   rcases hR.pt tl h with z | ⟨s,_,z⟩
   ·exact .inl z
   ·exact .inr ⟨s,z⟩
  have hlN:u4 tls (.name x) []=(bN (.name x) [] ([]:List Tl).length tls).filter fun l=>!nM tls l:=by unfold u4;rw [lQ];rfl
  rw [<- hlN] at d5
  have hllen:(u4 tls (.name x) []).length<=39:=by
   have h1:=oM (.name x) [] tls 0
   rw [hlN]
   exact Nat.le_trans (List.length_filter_le _ _) (Nat.le_trans h1 htl)
  generalize hlsE:u4 tls (.name x) []=ls at *
  have hFs:=Bf ls
  have hfB:∀ e,asc (dF ls) e=fB tls e:=fun e=>by
   rw [hFs.at_]
   unfold fB
   rw [<- d5.1,List.map_map];rfl
  have hlaid:∀ M':aD,cR true M' (lC (eS tls (.name x) (Tr.name x).places)) (aQ [])=some (some (.lst (ls.map Ld.toU))):=fun M'=>by
   rw [u9 [] (KZ M' _)]
   show some (cH (eS tls (.name x) [[]]) (pk []))=_
   rw [vW (List.mem_singleton.mpr rfl)]
   unfold xW
   rw [hlsE]
  have hfirst:∀ (M':aD) e,cR false M' (lA (cZ (dF ls))) (.str e)=some ((fB tls e).map bU):=fun M' e=>by
   rw [lW e (K2 M' _),Cw,hfB]
  let ST:Addr->List (Str × (Int × Int))->aD:=fun d2 m2=>mup (mup (mup M p (.dK (pR L))) d1 (.dT [(pk [],.ref d2)])) d2 (.dK (cZ m2))
  refine eT (S:=⟨none,[aQ []]⟩) (M1:=mup (mup M p (.dK (pR L))) d1 (.dT [])) (fun R r=>by simp! only [BS,lC,aG];exact r)
   (fun i τ Mj=>(i=0/\τ=[some (eD cs tls),some ((Tr.name x).toU),some (.str c),some (.ref p),some (lC (eS tls (.name x) (Tr.name x).places)),some (.ref d1),none,none,none,none,none]/\Mj=mup (mup M p (.dK (pR L))) d1 (.dT []))\/(i=1/\∃ (z6 z7 z8 z9 z10:Option U) (d2:Addr) (m2:List (Str × (Int × Int))),τ=[some (eD cs tls),some ((Tr.name x).toU),some (.str c),some (.ref p),some (lC (eS tls (.name x) (Tr.name x).places)),some (.ref d1),z6,z7,z8,z9,z10]/\M d2=none/\d2≠p/\d2≠d1/\Mj=ST d2 m2/\∀ k∈cs,asc m2 k=Wc cs (iK (aX tls)) (fB tls) [k] k)) (.inl ⟨rfl,rfl,rfl⟩) nk ?_ ?_
  ·rintro i u τ Mj e h
   have hi:i=0:=by
    have:=(List.getElem?_eq_some_iff.mp e).1
    have h2:i < 1:=this
    omega
   subst hi
   cases e
   rcases h with ⟨_,rfl,rfl⟩ | ⟨h,_⟩
   ·refine aI fun V1 hV1=>?_
    simp! only [bR,hName,nQ,hlaid,aG]
    refine ⟨ls,_,rfl,hllen,d5.2,?_⟩
    subst hV1
    refine aI fun V1 hV1=>?_
    simp! only [kC,pU,v9,aG]
    intro d2 hd2
    have hd21:d2≠d1:=fun z=>by rw [z,aF] at hd2;cases hd2
    rw [aM hd21] at hd2
    have hd2p:d2≠p:=fun z=>by rw [z,aF] at hd2;cases hd2
    rw [aM hd2p] at hd2
    rw [aM (Ne.symm hd21),aF]
    simp only [aQ,List.map_nil,eE]
    refine ⟨by decide,?_⟩
    have hM2:mup (mup (mup (mup M p (.dK (pR L))) d1 (.dT [])) d2 (.dK [])) d1 (.dT (eP [] [] (.ref d2)))=ST d2 []:=by
     show _=mup (mup (mup M p (.dK (pR L))) d1 (.dT [(pk [],.ref d2)])) d2 (.dK (cZ []))
     rw [lD hd21,bV];rfl
    rw [hM2]
    subst hV1
    have hSp:∀ m2,ST d2 m2 p=some (.dK (pR L)):=fun m2=>by show mup (mup (mup M p _) d1 _) d2 _ p=_;rw [aM (Ne.symm hd2p),aM (Ne.symm hd1p),aF]
    have hS1:∀ m2,ST d2 m2 d1=some (.dT [(pk [],.ref d2)]):=fun m2=>by show mup (mup (mup M p _) d1 _) d2 _ d1=_;rw [aM (Ne.symm hd21),aF]
    have hS2:∀ m2,ST d2 m2 d2=some (.dK (cZ m2)):=fun m2=>aF
    refine eT (S:=⟨none,cs.map U.str⟩) (M1:=ST d2 []) (fun R r=>by simp! only [m7,qF,aG];exact r)
     (fun i τ Mj=>∃ (z8 z9 z10:Option U) (m2:List (Str × (Int × Int))),τ=[some (eD cs tls),some ((Tr.name x).toU),some (.str c),some (.ref p),some (lC (eS tls (.name x) (Tr.name x).places)),some (.ref d1),some (aQ []),some (lA (cZ (dF ls))),z8,z9,z10]/\Mj=ST d2 m2/\m2.length<=6 * i/\(∀ k,k ∉ cs.take i->asc m2 k=none)/\∀ k∈cs.take i,asc m2 k=Wc cs (iK (aX tls)) (fB tls) [k] k) ⟨none,none,none,[],rfl,rfl,by simp,(fun k _=>rfl),fun k h=>by simp at h⟩ nk ?_ ?_
    ·rintro i u τ Mj e ⟨z8,z9,z10,m2,rfl,rfl,hml,hno,hyes⟩
     have e':(cs.map U.str)[i]?=some u:=e
     rw [List.getElem?_map] at e'
     cases hj:cs[i]? with
     | none=>rw [hj] at e';cases e'
     | some kd =>
      rw [hj] at e'
      cases e'
      have hi6:i < 6:=by have:=(List.getElem?_eq_some_iff.mp hj).1;omega
      have tk:cs.take (i + 1)=cs.take i++[kd]:=by rw [List.take_add_one,hj];rfl
      have hkn:kd ∉ cs.take i:=fun z=>by
       obtain ⟨k,hk,e⟩:=List.getElem_of_mem z
       rw [List.getElem_take] at e
       rw [List.length_take] at hk
       have:=(List.getElem_inj hR.nd).mp (e.trans (List.getElem?_eq_some_iff.mp hj).2.symm)
       omega
      obtain ⟨mk,hmk⟩:∃ mk,asc L kd=some mk:=by
       have:kd∈L.map (·.1):=by rw [hL1];exact List.mem_of_getElem? hj
       exact Option.isSome_iff_exists.mp (eI.mpr this)
      have hok:GG cs (aX tls) kd mk:=hL3 _ (vL hmk)
      have hmkl:mk.length<=6:=by
       have:=mG _ cs hok.nd fun s hs=>by obtain ⟨e,he,rfl⟩:=List.mem_map.mp hs;exact hok.kc e he
       rw [List.length_map] at this;omega
      have hpairs:gS false ((cZ mk).map fun e=>[e.1]) ((cZ mk).map (·.2))=mk.map fun e=>.tup [.str e.1,bU e.2]:=by
       unfold gS cZ
       rw [List.map_map,List.map_map]
       clear hok hmk hmkl
       induction mk with
       | nil=>rfl
       | cons a r ih =>
        rw [List.map_cons,List.map_cons,List.zip_cons_cons,List.map_cons,ih];rfl
      simp! only [hName,aG]
      refine eT (S:=⟨none,mk.map fun e=>.tup [.str e.1,bU e.2]⟩) (M1:=ST d2 m2) (fun R r=>by simp! only [yI,nQ,hat _ (hSp m2),hmk,Option.map_some,lA,hpairs,aG];exact r)
       (fun j τ Mj=>∃ (z9 z10:Option U) (m3:List (Str × (Int × Int))),τ=[some (eD cs tls),some ((Tr.name x).toU),some (.str c),some (.ref p),some (lC (eS tls (.name x) (Tr.name x).places)),some (.ref d1),some (aQ []),some (lA (cZ (dF ls))),some (.str kd),z9,z10]/\Mj=ST d2 m3/\m3.length<=m2.length + j/\(∀ k,k≠kd->asc m3 k=asc m2 k)/\asc m3 kd=aV ((mk.take j).map fun e=>bO (some e.2) (fB tls e.1))) ⟨z9,z10,m2,rfl,rfl,by omega,(fun k _=>rfl),by rw [hno kd hkn];rfl⟩ nk ?_ ?_
      ·rintro j u τ Mj e ⟨z9,z10,m3,rfl,rfl,hm3,ho3,hk3⟩
       have e':(mk.map fun e=>U.tup [.str e.1,bU e.2])[j]?=some u:=e
       rw [List.getElem?_map] at e'
       cases hjj:mk[j]? with
       | none=>rw [hjj] at e';cases e'
       | some en =>
        rw [hjj] at e'
        cases e'
        have hjl:=(List.getElem?_eq_some_iff.mp hjj).1
        have tk3:mk.take (j + 1)=mk.take j++[en]:=by rw [List.take_add_one,hjj];rfl
        refine ⟨rfl,?_⟩
        simp! only [i9,gN,kI,hName,bU,aG]
        refine fD fun A B hA hB=>?_
        simp! only [tY,hfirst,aG]
        have hsum:aV ((mk.take (j + 1)).map fun e=>bO (some e.2) (fB tls e.1))=bQ (asc m3 kd) (bO (some en.2) (fB tls en.1)):=by
         rw [tk3,List.map_append,mN,<- hk3]
         show bQ _ (bQ (bO (some en.2) (fB tls en.1)) none)=_
         rw [eB]
        cases hfe:fB tls en.1 with
        | none =>
         simp only [Option.map_none,Option.isSome_none,Bool.false_eq_true,if_false]
         subst hB
         simp only [fJ]
         exact ⟨_,_,m3,rfl,rfl,by omega,ho3,by rw [hsum,hfe,bS,eB]⟩
        | some b =>
         obtain ⟨b1,b2⟩:=b
         simp only [Option.map_some,Option.isSome_some,if_true]
         subst hA
         have l1:cR true (ST d2 m3) (.ref d1) (aQ [])=some (some (.ref d2)):=by
          show (match d7 (ST d2 m3) (.ref d1),U.tup [] with | some (.dT kvs),.tup ys=>(eE ys).map (cH kvs) | _,_=>none)=_
          rw [show d7 (ST d2 m3) (.ref d1)=some (.dT [(pk [],.ref d2)]) from hS1 m3];rfl
         have hmul:nO en.2.2 b2:=.inl (.inr (by
          have:=hFs.many (en.1,(b1,b2)) (vL (by rw [hfB,hfe]))
          simp only at this
          constructor <;> omega))
         simp! only [gC,nQ,l1,hfirst,hfe,hmul,bU,Option.map_some,aG]
         refine ⟨d2,m3,kd,en.2.1 + b1,en.2.2 * b2,rfl,hS2 m3,by omega,_,_,eZ m3 kd (en.2.1 + b1) (en.2.2 * b2),rfl,bV,?_,fun k hk=>?_,?_⟩
         ·have:=w4 m3 kd (en.2.1 + b1) (en.2.2 * b2)
          omega
         ·rw [wB,if_neg hk];exact ho3 k hk
         ·rw [wB,if_pos rfl,hsum,hfe];rfl
      ·rintro τ Mj ⟨z9,z10,m3,rfl,rfl,hm3,ho3,hk3⟩
       have hl3:(Src.mk none (mk.map fun e=>U.tup [.str e.1,bU e.2])).xs.length=mk.length:=by show (mk.map fun e=>U.tup [.str e.1,bU e.2]).length=_;simp
       rw [hl3] at hm3 hk3
       rw [List.take_length] at hk3
       refine ⟨_,_,_,m3,rfl,rfl,by omega,fun k hk=>?_,fun k hk=>?_⟩
       ·rw [tk] at hk
        have h1:k≠kd:=fun z=>hk (by rw [z];simp)
        rw [ho3 k h1]
        exact hno k fun z=>hk (List.mem_append_left _ z)
       ·rw [tk] at hk
        rcases List.mem_append.mp hk with hk | hk
        ·rw [ho3 k fun z=>hkn (z ▸ hk)];exact hyes k hk
        ·cases List.mem_singleton.mp hk
         rw [hk3];exact hok.sum _
    ·rintro τ Mj ⟨z8,z9,z10,m2,rfl,rfl,hml,hno,hyes⟩
     refine .inr ⟨rfl,_,_,_,_,_,d2,m2,rfl,hd2,hd2p,hd21,rfl,fun k hk=>hyes k ?_⟩
     rw [show (Src.mk none (cs.map U.str)).xs.length=cs.length from by show (cs.map U.str).length=_;simp,List.take_length]
     exact hk
   ·cases h
  ·rintro τ Mj h
   rcases h with ⟨h,_⟩ | ⟨_,z6,z7,z8,z9,z10,d2,m2,rfl,hd2,hd2p,hd21,rfl,hfin⟩
   ·cases h
   ·show V _ _
    subst hV
    have hS1:ST d2 m2 d1=some (.dT [(pk [],.ref d2)]):=by show mup (mup (mup M p _) d1 _) d2 _ d1=_;rw [aM (Ne.symm hd21),aF]
    have hS2:ST d2 m2 d2=some (.dK (cZ m2)):=aF
    have l1:cR true (ST d2 m2) (.ref d1) (.tup [])=some (some (.ref d2)):=by
     show (match d7 (ST d2 m2) (.ref d1),U.tup [] with | some (.dT kvs),.tup ys=>(eE ys).map (cH kvs) | _,_=>none)=_
     rw [show d7 (ST d2 m2) (.ref d1)=some (.dT [(pk [],.ref d2)]) from hS1];rfl
    have l2:cR false (ST d2 m2) (.ref d2) (.str c)=some ((asc m2 c).map bU):=by
     rw [lW c (show d7 (ST d2 m2) (.ref d2)=some (.dK (cZ m2)) from hS2),Cw]
    have hsub:Sub M (ST d2 m2):=(((Sub.refl M).mup hp).mup pT).mup hd2
    rw [<- hfin c hc] at q
    simp! only [gH,tY,nQ,l1,l2,aG]
    cases ha:asc m2 c with
    | none =>
     rw [ha] at q
     simp! only [Option.map_none,Option.isSome_none,aG]
     exact ⟨_,M,hsub,.inl rfl,q⟩
    | some b =>
     rw [ha] at q
     simp! only [Option.map_some,Option.isSome_some,l1,l2,ha,bU,aG]
     exact ⟨_,M,hsub,.inl rfl,q⟩
theorem EN {τ:SU} {M:aD} {p:Addr} {us:List U} {j:Nat} (hp:M p=none) (hj:τ[j]?=some (some (.ref p))):U2.Cv τ (mup M p (.lst us)) (τ.set j (some (.lst us))) M:=by
 intro K H σ rm rs
 have hs:Sub M (mup M p (.lst us)):=(Sub.refl M).mup hp
 have st:aP H (mup M p (.lst us)) H M:=hs.less
 refine ⟨st,rm.sub hs,?_⟩
 have rs2:=rs.stp st
 refine ⟨by rw [List.length_set];exact rs2.1,fun i u e=>?_⟩
 rw [List.getElem?_set] at e
 by_cases hij:j=i
 ·subst hij
  have hlt:j < τ.length:=(List.getElem?_eq_some_iff.mp hj).1
  simp only [if_true,hlt,Option.some.injEq] at e
  subst e
  obtain ⟨v,h1,h2⟩:=rs.2 j _ hj
  refine ⟨v,h1,?_⟩
  rw [h2.ref];exact Mo rm aF hp st
 ·rw [if_neg hij] at e;exact rs2.2 i u e
abbrev Ps:=Str × Str × Int
def kE (p:Ps):U:=.tup [.str p.1,.str p.2.1,.int p.2.2]
def LY (p:Ps):(Str × Str) × Int:=((p.2.1,p.1),p.2.2)
def nN:List Str:=["r","mem","x","addr","con","zz"]
theorem Nl:∀ s∈nN,PyData.strOk s=true:=by decide +kernel
theorem Mp:nN.Nodup:=by decide +kernel
theorem La {n:Int} (h0:0<=n) (h1:n < 5):fP (nN.map U.str) none (some (2 + n))=(nN.take (2 + n).toNat).map U.str:=by
 have e:n=0\/n=1\/n=2\/n=3\/n=4:=by omega
 rcases e with rfl | rfl | rfl | rfl | rfl <;> rfl
def BK (b:Str):Tl:=⟨"name",b,.any,7⟩
structure Fj (cs:List Str) (tls:List Tl) (b:Str) (lp:List Ps):Prop where
 rng:yY cs tls
 few:EC cs (aX tls)
 lpl:lp.length=(aX tls).length
 bc:b∈cs
 leaf:nR tls=[(b,7)]
 perm:(aX tls).Perm (lp.map LY)
 mem:∀ p∈lp,p.1∈cs/\p.2.1∈cs
def Kg (nm:Str) (p:Ps):Tl:=⟨nm,p.2.1,.hole p.1,p.2.2⟩
theorem GV (a b:List Tl):aX (a++b)=aX a++aX b:=List.filterMap_append
theorem Ht (a b:List Tl):nR (a++b)=nR a++nR b:=List.filterMap_append
structure Lay (b:Str) (lp:List Ps) (T:List Tl):Prop where
 pk:aX T=lp.map LY
 lf:nR T=[(b,7)]
 ea:∀ tl∈T,tl=BK b\/∃ nm,∃ p∈lp,tl=Kg nm p
 len:T.length=lp.length + 1
theorem Lay.nil (b:Str):Lay b [] [BK b]:=⟨rfl,rfl,fun tl h=>.inl (List.mem_singleton.mp h),rfl⟩
theorem Lay.snoc {b:Str} {lp:List Ps} {T:List Tl} (h:Lay b lp T) (nm:Str) (p:Ps):Lay b (lp++[p]) (T++[Kg nm p]):=by
 refine ⟨?_,?_,fun tl hm=>?_,by rw [List.length_append,List.length_append,h.len];rfl⟩
 ·rw [GV,h.pk,List.map_append];rfl
 ·rw [Ht,h.lf];rfl
 ·rcases List.mem_append.mp hm with hm | hm
  ·rcases h.ea tl hm with e | ⟨n,q,hq,e⟩
   ·exact .inl e
   ·exact .inr ⟨n,q,List.mem_append_left _ hq,e⟩
  ·exact .inr ⟨nm,p,List.mem_append_right _ (List.mem_singleton.mpr rfl),List.mem_singleton.mp hm⟩
theorem JA {α:Type} (l:List α) (k:Nat):(l.drop k++l.take k).Perm l:=by
 have:(l.drop k++l.take k).Perm (l.take k++l.drop k):=List.perm_append_comm
 rwa [List.take_append_drop] at this
theorem Lay.tab {cs:List Str} {b:Str} {lp:List Ps} {T:List Tl} (h:Lay b lp T) (hC:PK cs) (hn:cs.Nodup) (hb:b∈cs) (hm:∀ p∈lp,(p.1∈cs/\p.2.1∈cs)/\0<=p.2.2/\p.2.2<=1000) (hf:(cs.length<=4/\lp.length<=20)\/(cs.length<=6/\lp.length<=9)) (k:Nat):Fj cs (T.drop k++T.take k) b lp:=by
 have hp:=JA T k
 have hmem:∀ tl∈T.drop k++T.take k,tl∈T:=fun tl h=>hp.mem_iff.mp h
 have hpk:(aX (T.drop k++T.take k)).Perm (lp.map LY):=by rw [<- h.pk];exact hp.filterMap _
 have hlen:lp.length=(aX (T.drop k++T.take k)).length:=by rw [hpk.length_eq,List.length_map]
 refine ⟨⟨⟨hC,fun tl ht=>?_,?_⟩,hn,fun tl ht=>?_⟩,?_,hlen,hb,?_,hpk,fun p hp=>(hm p hp).1⟩
 ·rcases h.ea tl (hmem tl ht) with rfl | ⟨nm,p,hp,rfl⟩
  ·exact ⟨trivial,(by show 1<=4;decide),hb,(by show (0:Int)<=7;decide),(by show (7:Int)<=1000;decide)⟩
  ·obtain ⟨⟨h1,h2⟩,h3,h4⟩:=hm p hp
   exact ⟨hC.ok _ h1,by show 1<=4;decide,h2,h3,h4⟩
 ·rw [hp.length_eq,h.len];omega
 ·rcases h.ea tl (hmem tl ht) with rfl | ⟨nm,p,hp,rfl⟩
  ·exact .inl rfl
  ·exact .inr ⟨p.1,(hm p hp).1.1,rfl⟩
 ·unfold EC
  rw [<- hlen];exact hf
 ·have:(nR (T.drop k++T.take k)).Perm [(b,7)]:=by rw [<- h.lf];exact hp.filterMap _
  exact List.perm_singleton.mp this
def LA:cV:=fun us M Q=>∃ (t:Addr) (ns:List Int) (b c:Int),us=[.ref t]/\M t=some (.lst (fK ns 0 b c))/\∀ (cs:List Str) (tls:List Tl) (bg:Str) (lp:List Ps) (a' b' c':Int),Fj cs tls bg lp->Q (.tup [eD cs tls,.str bg,.lst (lp.map kE)]) (mup M t (.lst (fK ns a' b' c')))
theorem Lh (F:dE K "_law_table" "_law_table" p5 f fd) (hm:mg "_law_table"=some (.ref f)) (nZ:mg "tuple"=none) (Ad:mg "range"=none) (gM:mg "len"=none) (bH:mg "enumerate"=none) (iA:Callee P w K mg base 1 "_law_draw" HK []):Callee P w K mg base 2 "_law_table" LA []:=by
 refine bT F hm bZ (tO fun _ _ _ _ _ _ _=>rfl) (aE (aY 1 bZ.nd (qY (own:=false) (bI (aA kS (aA kS (aA kS (aA kS (aA kS (aA kS aB))))))) n0 (nY (cX (own:=false) aS (aU iA (aA (uv 0) (aA aS aB)))))))
 (aE (aY 2 bZ.nd (aN (uv 1) (aU iA (aA (uv 0) (aA (kM m4 gM (aA (uv 1) aB)) aB)))))
 (aE (aY 3 bZ.nd (hZ (own:=true) aB))
 (aE (eG (Ml Ad (aA (cX (own:=false) aS (aU iA (aA (uv 0) (aA aS aB)))) aB)) (aO (k:=1000) 4 bZ.nd)
 (aE (aY 5 bZ.nd (aU iA (aA (uv 0) (aA (kM m4 gM (aA (uv 1) aB)) aB))))
 (aE (aY 6 bZ.nd (kR (cX (own:=false) (cX (own:=false) (uv 5) aS) (aU iA (aA (uv 0) (aA (Du (kM m4 gM (aA (uv 1) aB)) aS) aB)))) (kM m4 gM (aA (uv 1) aB))))
 (aJ (eA (lG (uv 3) (aA (bI (aA (aN (uv 1) (uv 5)) (aA (aN (uv 1) (uv 6)) (aA (aU iA (aA (uv 0) (aA aS aB))) aB)))) aB)))))))
 (aE (QV (dW (cP PY (kM m4 gM (aA (uv 1) aB)) aS)
 (aJ (aY 3 bZ.nd (qY (own:=true) (uv 3) n0 (nY aS))))
 cT))
 (aE (aY 7 bZ.nd (hZ (own:=true) (aA (bI (aA kS (aA (uv 2) (aA (bI (aA kS aB)) (aA aS aB))))) aB)))
 (aE (eG (BA bH (aA (uv 3) aB)) (dU (n:=2) (aT (aO (k:=1000) 4 bZ.nd) (aT (dU (n:=3) (aT (aO (k:=1000) 8 bZ.nd) (aT (aO (k:=1000) 6 bZ.nd) (aT (aO (k:=1000) 9 bZ.nd) cW)))) cW)))
 (aE (aY 10 bZ.nd (cX (own:=false) kS (j7 (own:=false) (aN kS (uv 4)) (cX (own:=false) aS (kR (uv 4) aS)))))
 (aJ (eA (lG (uv 7) (aA (bI (aA (uv 10) (aA (uv 6) (aA (bI (aA kS (aA (uv 8) aB))) (aA (uv 9) aB))))) aB))))))
 (aE (aY 5 bZ.nd (aU iA (aA (uv 0) (aA (kM m4 gM (aA (uv 7) aB)) aB))))
 (aJ (bP (bI (aA (bI (aA (uv 1) (aA (Dw ED nZ (aA (cX (own:=false) (qY (own:=false) (uv 7) (nY (uv 5)) n0) (qY (own:=false) (uv 7) n0 (nY (uv 5)))) aB)) aB))) (aA (uv 2) (aA (uv 3) aB)))))))))))))) ?_
 rintro us M Q ⟨t,ns,b,c,rfl,hM,q⟩
 refine ⟨rfl,?_⟩
 rw [<- sJ hM]
 refine aI fun V hV=>?_
 simp! only [bR,hName,aG]
 have ep:[U.str (Str.ofString "r"),U.str (Str.ofString "mem"),U.str (Str.ofString "x"),U.str (Str.ofString "addr"),U.str (Str.ofString "con"),U.str (Str.ofString "zz")]=nN.map U.str:=rfl
 rw [ep]
 refine ⟨t,ns,0,b,c,5,rfl,by decide,by decide,aF,by decide,by decide,fun w a1 b1 c1 w0 w1 g1 g2=>?_⟩
 rw [bV]
 simp! only [aG,La w0 w1]
 have hcl:PK (nN.take (2 + w).toNat):=by
  have e:w=0\/w=1\/w=2\/w=3\/w=4:=by omega
  refine ⟨?_,?_,fun s hs=>Nl s (List.mem_of_mem_take hs)⟩
  ·rcases e with rfl | rfl | rfl | rfl | rfl <;> (intro z;cases z)
  ·rcases e with rfl | rfl | rfl | rfl | rfl <;> decide
 have hcn:(nN.take (2 + w).toNat).Nodup:=Mp.sublist (List.take_sublist _ _)
 have hcl2:2<=(nN.take (2 + w).toNat).length:=by
  have e:w=0\/w=1\/w=2\/w=3\/w=4:=by omega
  rcases e with rfl | rfl | rfl | rfl | rfl <;> decide
 generalize nN.take (2 + w).toNat=cs at *
 have hc6:=hcl.len
 subst hV
 refine aI fun V hV=>?_
 simp! only [bR,hName,List.length_map,aG]
 refine ⟨t,ns,a1,b1,c1,(cs.length:Int),rfl,by omega,by omega,aF,by omega,by omega,fun w2 a2 b2 c2 w20 w21 g3 g4=>?_⟩
 rw [bV]
 have atC:∀ n:Int,0<=n->n < cs.length->∃ s∈cs,eR (cs.map U.str) n=some (.str s):=fun n h0 h1=>by
  have hlt:n.toNat < cs.length:=by omega
  refine ⟨cs[n.toNat],List.getElem_mem hlt,?_⟩
  unfold eR tM
  rw [List.length_map,if_pos h0,if_pos h1]
  simp [hlt]
 obtain ⟨bg,hbg,e1⟩:=atC w2 w20 w21
 simp! only [e1,aG]
 subst hV
 refine aI fun V hV=>?_
 simp! only [bR,hName,aG]
 intro p hp
 have hpt:p≠t:=fun z=>by rw [z,aF] at hp;cases hp
 rw [aM hpt] at hp
 subst hV
 refine aI fun V hV=>?_
 simp! only [Fn,aG]
 refine ⟨t,ns,a2,b2,c2,16,rfl,by decide,by decide,by rw [aM (Ne.symm hpt),aF],by omega,by omega,fun w3 a3 b3 c3 w30 w31 g5 g6=>?_⟩
 have e3:mup (mup (mup M t (.lst (fK ns a2 b2 c2))) p (.lst [])) t (.lst (fK ns a3 b3 c3))=dH M t p (fK ns a3 b3 c3) (([]:List Ps).map kE):=by
  show mup (dH M t p _ _) t _=_
  rw [mJ (Ne.symm hpt)];rfl
 rw [e3]
 simp! only [aG]
 have goodP:List Ps->Prop:=fun lp=>∀ q∈lp,(q.1∈cs/\q.2.1∈cs)/\0<=q.2.2/\q.2.2<=1000
 refine ⟨by omega,by omega,fun i τ Mi=>∃ (lp:List Ps) (a' b' c':Int) (z4 z5 z6:Option U),τ=[some (U.ref t),some (U.tup (List.map U.str cs)),some (U.str bg),some (U.ref p),z4,z5,z6,none,none,none,none]/\Mi=dH M t p (fK ns a' b' c') (lp.map kE)/\(∀ q∈lp,(q.1∈cs/\q.2.1∈cs)/\0<=q.2.2/\q.2.2<=1000)/\lp.length=i/\0<=a'/\a'<=100 + 3 * i,⟨[],a3,b3,c3,none,none,none,rfl,rfl,(fun q h=>by cases h),rfl,by omega,by omega⟩,nk,?_,?_⟩
 ·rintro i x τ Mi e ⟨lp,a4,b4,c4,z4,z5,z6,rfl,rfl,hgp,hlp,h0,h1⟩
  obtain ⟨rfl,hi⟩:=Fx e
  simp! only [hName,aG]
  refine aI fun V2 hV2=>?_
  simp! only [bR,hName,List.length_map,aG]
  refine ⟨t,ns,a4,b4,c4,(cs.length:Int),rfl,by omega,by omega,sI (Ne.symm hpt),by omega,by omega,fun u1 a5 b5 c5 u10 u11 k1 k2=>?_⟩
  rw [mJ (Ne.symm hpt)]
  subst hV2
  refine aI fun V2 hV2=>?_
  simp! only [bR,hName,List.length_map,aG]
  refine ⟨t,ns,a5,b5,c5,(cs.length:Int) - 1,rfl,by omega,by omega,sI (Ne.symm hpt),by omega,by omega,fun u2 a6 b6 c6 u20 u21 k3 k4=>?_⟩
  rw [mJ (Ne.symm hpt)]
  simp! only [List.length_map,aG]
  have hr0:=Int.emod_nonneg (u1 + 1 + u2) (show (cs.length:Int)≠0 by omega)
  have hr1:=Int.emod_lt_of_pos (u1 + 1 + u2) (show (0:Int) < (cs.length:Int) by omega)
  refine ⟨by omega,?_⟩
  subst hV2
  obtain ⟨s1,hs1,es1⟩:=atC u1 u10 u11
  obtain ⟨s2,hs2,es2⟩:=atC _ hr0 hr1
  simp! only [gC,es1,es2,aG]
  refine ⟨⟨_,mR vE⟩,t,ns,a6,b6,c6,5,rfl,by decide,by decide,sI (Ne.symm hpt),by omega,by omega,fun u3 a7 b7 c7 u30 u31 k5 k6=>?_⟩
  rw [mJ (Ne.symm hpt)]
  simp! only [vE,wL,aG]
  refine ⟨by rw [List.length_map,PySem.sizeLine_eq];omega,lp++[(s1,s2,u3)],a7,b7,c7,_,_,_,rfl,by simp [kE],fun q hq=>?_,by simp [hlp],by omega,by omega⟩
  rcases List.mem_append.mp hq with hq | hq
  ·exact hgp q hq
  ·cases List.mem_singleton.mp hq
   exact ⟨⟨hs1,hs2⟩,u30,by show u3<=1000;omega⟩
 ·rintro τ Mi ⟨lp,a4,b4,c4,z4,z5,z6,rfl,rfl,hgp,hlp,h0,h1⟩
  rw [F1] at hlp h1
  show V _ _
  have hl20:lp.length<=20:=by omega
  subst hV
  refine aI fun V hV=>?_
  have go:∀ (lp:List Ps) (M3:aD) (y4 y5 y6:Option U),(∀ q∈lp,(q.1∈cs/\q.2.1∈cs)/\0<=q.2.2/\q.2.2<=1000)->((cs.length<=4/\lp.length<=20)\/(cs.length<=6/\lp.length<=9))->M3 t=some (.lst (fK ns a4 b4 c4))->(∀ T',Sub (mup M t (.lst T')) (mup M3 t (.lst T'))) ->
    V [some (U.ref t),some (U.tup (List.map U.str cs)),some (U.str bg),some (.lst (lp.map kE)),y4,y5,y6,none,none,none,none] M3:=by
   intro lp M3 y4 y5 y6 hgp hfew hM3 hsub
   subst hV
   refine aI fun V hV=>?_
   simp! only [bR,hName,aG]
   intro d hd
   have hdt:d≠t:=fun z=>by rw [z,hM3] at hd;cases hd
   subst hV
   refine aI fun V hV=>?_
   have hlp20:lp.length<=20:=by omega
   refine eT (S:=⟨none,numbered (lp.map kE)⟩) (M1:=mup M3 d (.lst ([BK bg].map Tl.toU))) (fun R r=>by simp! only [aG];exact r)
    (fun i τ Mj=>∃ (T:List Tl) (z4 z6 z8 z9 z10:Option U),τ=[some (U.ref t),some (U.tup (List.map U.str cs)),some (U.str bg),some (.lst (lp.map kE)),z4,y5,z6,some (.ref d),z8,z9,z10]/\Mj=mup M3 d (.lst (T.map Tl.toU))/\Lay bg (lp.take i) T) ⟨[BK bg],y4,y6,none,none,none,rfl,rfl,Lay.nil bg⟩ nk ?_ ?_
   ·rintro i u τ Mj e ⟨T,z4,z6,z8,z9,z10,rfl,rfl,hL⟩
    obtain ⟨u0,hu,rfl⟩:=gY e
    rw [List.getElem?_map] at hu
    cases hj:lp[i]? with
    | none=>rw [hj] at hu;cases hu
    | some pp =>
     rw [hj] at hu
     cases hu
     have hi:=(List.getElem?_eq_some_iff.mp hj).1
     have tk:lp.take (i + 1)=lp.take i++[pp]:=by rw [List.take_add_one,hj];rfl
     have hTl:T.length<=21:=by
      have:=hL.len
      rw [List.length_take] at this;omega
     refine ⟨rfl,?_⟩
     simp! only [kE,i9,gN,kI,hName,aG]
     refine aI fun V1 hV1=>?_
     simp! only [bR,hName,aG]
     obtain ⟨ch,hch⟩:∃ ch,eR (Str.ofString "abcdefghijklmnopqrstuvwxy").cps.toList (i:Int)=some ch:=by
      have hl:(Str.ofString "abcdefghijklmnopqrstuvwxy").cps.toList.length=25:=by decide +kernel
      have hlt:i < (Str.ofString "abcdefghijklmnopqrstuvwxy").cps.toList.length:=by omega
      exact ⟨(Str.ofString "abcdefghijklmnopqrstuvwxy").cps.toList[i],eX (by simp [hlt])⟩
     have hm0:=Int.emod_nonneg (i:Int) (show (3:Int)≠0 by decide)
     have hm1:=Int.emod_lt_of_pos (i:Int) (show (0:Int) < 3 by decide)
     have h1:({ cps:=#[ch] }:Str).length=1:=rfl
     have hrep:(uH { cps:=#[ch] } (1 + (i:Int) % 3)).length<=3:=by
      have e:1 + (i:Int) % 3=1\/1 + (i:Int) % 3=2\/1 + (i:Int) % 3=3:=by omega
      rcases e with e | e | e <;> rw [e]
      ·exact (by decide:1<=3)
      ·exact (by decide:2<=3)
      ·exact (by decide:3<=3)
     refine ⟨by decide +kernel,ch,hch,by decide,by omega,by omega,by rw [h1];decide,by rw [h1];omega,small (by have:(Str.ofString "p").length=1:=rfl;omega),?_⟩
     subst hV1
     simp! only [gC,aG]
     refine ⟨qL,by rw [List.length_map,PySem.sizeLine_eq];omega,T++[Kg (Str.ofString "p"++uH { cps:=#[ch] } (1 + (i:Int) % 3)) pp],_,_,_,_,_,rfl,?_,?_⟩
     ·rw [List.map_append];rfl
     ·rw [tk];exact hL.snoc _ _
   ·rintro τ Mj ⟨T,z4,z6,z8,z9,z10,rfl,rfl,hL⟩
    have hln:(Src.mk none (numbered (lp.map kE))).xs.length=lp.length:=by show (numbered (lp.map kE)).length=_;rw [jZ,List.length_map]
    rw [hln,List.take_length] at hL
    show V _ _
    subst hV
    refine aI fun V hV=>?_
    simp! only [bR,hName,List.length_map,aG]
    have hTl:=hL.len
    refine ⟨t,ns,a4,b4,c4,(T.length:Int),rfl,by omega,by omega,by rw [aM (Ne.symm hdt)];exact hM3,by omega,by omega,fun u1 a5 b5 c5 u10 u11 k1 k2=>?_⟩
    rw [lD hdt]
    subst hV
    obtain ⟨j,rfl⟩:∃ j:Nat,u1=(j:Int):=⟨_,(Int.toNat_of_nonneg u10).symm⟩
    have cA:fP T none (some (j:Int))=T.take j:=by
     unfold fP
     have e:HT.bL T.length T.length (some (j:Int))=j:=by
      simp only [HT.bL];rw [if_neg (by omega)];omega
     rw [e];simp [HT.bL]
    have cB:fP T (some (j:Int)) none=T.drop j:=by
     unfold fP
     have e:HT.bL T.length 0 (some (j:Int))=j:=by
      simp only [HT.bL];rw [if_neg (by omega)];omega
     have e2:HT.bL T.length T.length none=T.length:=rfl
     rw [e,e2,List.take_of_length_le (by rw [List.length_drop];omega)]
    simp! only [gH,Ab,cA,cB,aG]
    refine ⟨small (by rw [List.length_map,List.length_map,List.length_drop,List.length_take];omega),?_⟩
    rw [<- List.map_append]
    refine ⟨_,mup M t (.lst (fK ns a5 b5 c5)),?_,.inl rfl,q cs _ bg lp a5 b5 c5 (hL.tab hcl hcn hbg hgp hfew j)⟩
    exact fun b mo hb=>by
     have h2:=hsub (fK ns a5 b5 c5) b mo hb
     rw [aM (fun z=>?_)]
     ·exact h2
     ·subst z
      rw [aM hdt,hd] at h2
      cases h2
  simp only [Rl]
  refine fD fun A B hA hB=>?_
  simp! only [List.length_map,aG]
  have hsubT:∀ T',Sub (mup M t (.lst T')) (mup (dH M t p (fK ns a4 b4 c4) (lp.map kE)) t (.lst T')):=fun T'=>by
   rw [mJ (Ne.symm hpt)]
   exact (Sub.refl _).mup (by rw [aM hpt];exact hp)
  refine oU (fun h4=>?_) (fun h4=>?_)
  ·subst hA
   simp! only [bR,hName,aG]
   rw [mR vE]
   simp only [iL]
   intro p2 hp2
   have hcut:fP (lp.map kE) none (some 9)=(lp.take 9).map kE:=by
    rw [Ab]
    congr 1
    unfold fP
    simp only [HT.bL,Nat.sub_zero,List.drop_zero]
    by_cases h9:9<=lp.length
    ·congr 1
     rw [if_neg (by decide)]
     omega
    ·rw [List.take_of_length_le (by rw [if_neg (by decide)];omega),List.take_of_length_le (by omega)]
   rw [hcut]
   refine ⟨_,_,EN (j:=3) hp2 rfl,?_⟩
   refine go (lp.take 9) _ _ _ _ (fun q hq=>hgp q (List.mem_of_mem_take hq)) (.inr ⟨hc6,by rw [List.length_take];omega⟩) (sI (Ne.symm hpt)) hsubT
  ·subst hB
   simp only [fJ]
   refine ⟨_,_,EN (M:=mup M t (.lst (fK ns a4 b4 c4))) (p:=p) (j:=3) (by rw [aM hpt];exact hp) rfl,?_⟩
   have h4':cs.length<=4:=by
    have:=of_decide_eq_false (Bool.eq_false_iff.mpr h4)
    omega
   exact go lp _ _ _ _ hgp (.inl ⟨h4',hl20⟩) aF (fun T'=>by rw [bV];exact Sub.refl _)
def Ez (lp:List Ps):List (Str × Str):=lp.map fun p=>(p.1,p.2.1)
def CK (lp:List Ps):List Ed:=lp.map fun p=>((p.1,p.2.1),some (p.2.2,1))
def m6 (lp:List Ps):Nat->List Str->Int->List (Str × Int)
 | 0,row,cost=>[(bB row,cost)]
 | n + 1,row,cost=>(bB row,cost) :: lp.flatMap fun p=>if p.1=bB row/\p.2.1 ∉ row then m6 lp n (row++[p.2.1]) (cost + p.2.2) else []
theorem AX (lp:List Ps):∀ (n:Nat) (row:List Str) (cost:Int),(m6 lp n row cost).length=nodes (Ez lp) n row (bB row)
 | 0,_,_=>rfl
 | n + 1,row,cost=>by
  rw [m6,nodes,List.length_cons,List.length_flatMap,Ez,List.map_map,Nat.add_comm]
  congr 2
  refine List.map_congr_left fun p _=>?_
  show _=if p.1=bB row/\p.2.1 ∉ row then nodes (Ez lp) n (row++[p.2.1]) p.2.1 else 0
  by_cases h:p.1=bB row/\p.2.1 ∉ row
  ·rw [if_pos h,if_pos h,AX lp n,iB]
  ·rw [if_neg h,if_neg h];rfl
theorem Hq {α β:Type} (g:β->Bs) (k:α->List β) (l:List α):aV ((l.flatMap k).map g)=aV (l.map fun x=>aV ((k x).map g)):=by
 induction l with
 | nil=>rfl
 | cons a r ih=>rw [List.flatMap_cons,List.map_append,mN,ih,List.map_cons,aV]
theorem IU (lp:List Ps) (c:Str):∀ (n:Nat) (row:List Str) (cost:Int),aV ((m6 lp n row cost).map fun e=>if e.1=c then some (e.2,1) else none)=bO (some (cost,1)) (bJ (CK lp) (gP c) n row (bB row)):=by
 have leaf:∀ (row:List Str) (cost:Int),(if bB row=c then some (cost,1) else none:Bs)=bO (some (cost,1)) (gP c (bB row)):=fun row cost=>by
  unfold gP
  by_cases h:bB row=c
  ·rw [if_pos h,if_pos h,tS]
  ·rw [if_neg h,if_neg h,bS]
 intro n
 induction n with
 | zero =>
  intro row cost
  show bQ (if bB row=c then some (cost,1) else none) none=_
  rw [eB,leaf];rfl
 | succ n ih =>
  intro row cost
  rw [m6,List.map_cons,aV,bJ,pD,Hq]
  congr 1
  ·exact leaf row cost
  ·rw [CK,List.map_map,<- u6]
   refine dO lp fun p _=>?_
   show _=bO (some (cost,1)) (bO (some (p.2.2,1)) (if p.1=bB row/\p.2.1 ∉ row then bJ (CK lp) (gP c) n (row++[p.2.1]) p.2.1 else none))
   by_cases h:p.1=bB row/\p.2.1 ∉ row
   ·rw [if_pos h,if_pos h,ih,iB,<- l7];rfl
   ·rw [if_neg h,if_neg h,bS,bS];rfl
def Rc (cs:List Str) (lp:List Ps) (row:List Str) (cost:Int):List (Str × Int):=m6 lp (cs.length - row.length) row cost
theorem NT {cs:List Str} {lp:List Ps} (he:∀ p∈lp,p.2.1∈cs) {row:List Str} (cost:Int) (hs:Seen cs row) :
  Rc cs lp row cost=(bB row,cost) :: lp.flatMap fun p=>if p.1=bB row/\p.2.1 ∉ row then Rc cs lp (row++[p.2.1]) (cost + p.2.2) else []:=by
 unfold Rc
 have hl:=hs.len
 cases h:cs.length - row.length with
 | zero =>
  rw [m6]
  congr 1
  symm
  rw [List.flatMap_eq_nil_iff]
  intro p hp
  have:¬ (p.1=bB row/\p.2.1 ∉ row):=fun z=>by
   have:=(hs.add z.2 (he p hp)).len
   rw [List.length_append] at this
   simp at this;omega
  rw [if_neg this]
 | succ n =>
  rw [m6]
  congr 1
  have:∀ p:Ps,(if p.1=bB row/\p.2.1 ∉ row then m6 lp n (row++[p.2.1]) (cost + p.2.2) else [])=if p.1=bB row/\p.2.1 ∉ row then m6 lp (cs.length - (row++[p.2.1]).length) (row++[p.2.1]) (cost + p.2.2) else []:=fun p=>by
   rw [List.length_append,show cs.length - (row.length + [p.2.1].length)=n by simp;omega]
  simp only [this]
def pH (e:Str × Int):U:=.tup [.str e.1,.int e.2]
def uV (n:Nat):cV:=fun us M Q=>∃ (cs:List Str) (lp:List Ps) (row:List Str) (cost:Int) (a:Addr) (fl:List (Str × Int)),us=[.lst (lp.map kE),.lst (row.map U.str),.int cost,.ref a]/\M a=some (.lst (fl.map pH))/\Seen cs row/\row≠[]/\cs.length < n + row.length/\(∀ p∈lp,p.2.1∈cs)/\lp.length<=100/\cs.length<=6/\fl.length + (Rc cs lp row cost).length<=100000/\Q .non (mup M a (.lst ((fl++Rc cs lp row cost).map pH)))
theorem Mq {n:Nat} (F:dE K "_law_rows" "_law_rows" nP f fd) (hm:mg "_law_rows"=some (.ref f)) (sM:Callee P w K mg base (n + 1) "_law_rows" (uV n) []):Callee P w K mg base (n + 2) "_law_rows" (uV (n + 1)) []:=by
 refine bT F hm mX (I0 fun _ _ _ _ _ _ _ _ _ _=>rfl) (aE (eA (lG (uv 3) (aA (bI (aA (aN (uv 1) (yU aS)) (aA (uv 2) aB))) aB)))
 (aJ (eG (dD (uv 0)) (dU (n:=3) (aT (aO (k:=1000) 4 mX.nd) (aT (aO (k:=1000) 5 mX.nd) (aT (aO (k:=1000) 6 mX.nd) cW))))
 (aJ (dW (l5.pt (Co (cP j6 (uv 4) (aN (uv 1) (yU aS))) (AB (cP Aa (uv 5) (uv 1)))))
 (aJ (eA (aU sM (aA (uv 0) (aA (cX (own:=false) (uv 1) (hZ (own:=false) (aA (uv 5) aB))) (aA (cX (own:=false) (uv 2) (uv 6)) (aA (uv 3) aB)))))))
 cT))))) ?_
 rintro us M Q ⟨cs,lp,row,cost,a,fl,rfl,hM,hS,hne,hn,he,hlp,hcs,hfl,q⟩
 refine ⟨rfl,?_⟩
 obtain ⟨cl,e0,hce⟩:∃ cl e0,row=cl++[e0]:=⟨row.dropLast,row.getLast hne,(List.dropLast_concat_getLast hne).symm⟩
 have hlast:bB row=e0:=by rw [hce,iB]
 have hat:eR (row.map U.str) (-1)=some (.str e0):=by rw [hce];simp only [List.map_append,List.map_cons,List.map_nil,Hs]
 have hst:=NT he cost hS
 have hrl:=hS.len
 rw [hst] at hfl q
 rw [List.length_cons] at hfl
 refine aI fun V hV=>?_
 simp! only [gC,hat,hM,aG]
 refine ⟨⟨_,mR hM⟩,by rw [List.length_map,PySem.sizeLine_eq];omega,?_⟩
 subst hV
 let gg:Ps->List (Str × Int):=fun p=>if p.1=bB row/\p.2.1 ∉ row then Rc cs lp (row++[p.2.1]) (cost + p.2.2) else []
 have hsplit:∀ i,((lp.take i).flatMap gg).length<=(lp.flatMap gg).length:=fun i=>by
  conv=>rhs;rw [<- List.take_append_drop i lp,List.flatMap_append,List.length_append]
  omega
 refine eT (S:=⟨none,lp.map kE⟩) (M1:=mup M a (.lst (fl.map pH++[.tup [.str e0,.int cost]]))) (fun R r=>by simp! only [aG];exact r)
  (fun i τ Mj=>∃ (z4 z5 z6:Option U),τ=[some (.lst (lp.map kE)),some (.lst (row.map U.str)),some (.int cost),some (.ref a),z4,z5,z6]/\Mj=mup M a (.lst ((fl++(bB row,cost) :: (lp.take i).flatMap gg).map pH))) ⟨none,none,none,rfl,by simp [pH,hlast]⟩ nk ?_ ?_
 ·rintro i u τ Mj e ⟨z4,z5,z6,rfl,rfl⟩
  have e':(lp.map kE)[i]?=some u:=e
  rw [List.getElem?_map] at e'
  cases hj:lp[i]? with
  | none=>rw [hj] at e';cases e'
  | some pp =>
   rw [hj] at e'
   cases e'
   have hmem:=List.mem_of_getElem? hj
   have tk:(lp.take (i + 1)).flatMap gg=(lp.take i).flatMap gg++gg pp:=by rw [List.take_add_one,hj,List.flatMap_append];simp
   refine ⟨rfl,?_⟩
   simp! only [kE,i9,gN,kI,hName,aG]
   refine fD fun A B hA hB=>?_
   have hno:(¬ (pp.1=bB row/\pp.2.1 ∉ row))->B (mup M a (.lst ((fl++(bB row,cost) :: (lp.take i).flatMap gg).map pH))):=fun h=>by
    have hg:gg pp=[]:=if_neg h
    rw [hg,List.append_nil] at tk
    subst hB
    simp only [fJ]
    exact ⟨_,_,_,rfl,by rw [tk]⟩
   have hyes:(pp.1=bB row/\pp.2.1 ∉ row)->A (mup M a (.lst ((fl++(bB row,cost) :: (lp.take i).flatMap gg).map pH))):=fun h=>by
    have hg:gg pp=Rc cs lp (row++[pp.2.1]) (cost + pp.2.2):=if_pos h
    subst hA
    have hlen1:(row.map U.str).length + 1<=sizeLine:=small (by rw [List.length_map];omega)
    have hmap:row.map U.str++[U.str pp.2.1]=(row++[pp.2.1]).map U.str:=by simp
    simp! only [gC,hlen1,hmap,aG]
    have hs2:=hsplit (i + 1)
    rw [tk,List.length_append] at hs2
    refine ⟨cs,lp,row++[pp.2.1],cost + pp.2.2,a,fl++(bB row,cost) :: (lp.take i).flatMap gg,rfl,aF,hS.add h.2 (he pp hmem),by simp,by rw [List.length_append];simp;omega,he,hlp,hcs,?_,_,_,_,rfl,?_⟩
    ·rw [List.length_append,List.length_cons,<- hg]
     have hfl':fl.length + ((lp.flatMap gg).length + 1)<=100000:=hfl
     omega
    ·rw [bV,tk,hg]
     simp
   simp! only [hat,aG]
   rw [<- hlast]
   refine oU (fun h1=>⟨rfl,A4 _,?_⟩) (fun h1=>hno fun z=>h1 (decide_eq_true z.1))
   rw [EV]
   refine oU (fun h2=>hyes ⟨of_decide_eq_true h1,?_⟩) (fun h2=>hno fun z=>?_)
   ·simpa using h2
   ·simp at h2;exact z.2 h2
 ·rintro τ Mj ⟨z4,z5,z6,rfl,rfl⟩
  rw [show lp.take ((⟨none,lp.map kE⟩:Src).xs.length)=lp from by show lp.take (lp.map kE).length=lp;rw [List.length_map,List.take_length]]
  exact aZ q
theorem CU (F:dE K "_law_rows" "_law_rows" nP f fd) (hm:mg "_law_rows"=some (.ref f)):∀ n,Callee P w K mg base (n + 1) "_law_rows" (uV n) []
 | 0=>by
  have no:∀ us M Q,¬ uV 0 us M Q:=fun us M Q h=>by
   obtain ⟨_,_,_,_,_,_,_,_,hS,_,h,_⟩:=h
   have:=hS.len
   omega
  refine ⟨f,fd,["passes","row","cost","found"],[],[],⟨fun vs H Q E h=>?_,fun A outer s H args us vs Q E _ _ _ _ h=>?_⟩,hm,F.kp,F.binds (I0 fun _ _ _ _ _ _ _ _ _ _=>rfl),.nil,fun H M=>.nil⟩
  ·obtain ⟨us,M,Q',_,_,h,_⟩:=h;exact absurd h (no us M Q')
  ·obtain ⟨us,M,Q',_,_,h,_⟩:=h;exact absurd h (no us M Q')
 | n + 1=>Mq F hm (CU F hm n)
theorem CL {es es':List Ed} (p:es.Perm es') (f:Str->Bs):∀ (n:Nat) (s:List Str) (c:Str),bJ es f n s c=bJ es' f n s c
 | 0,_,_=>rfl
 | n + 1,s,c=>by
  rw [bJ,bJ]
  congr 1
  rw [GR (p.map _)]
  refine dO es' fun e _=>?_
  rw [CL p f n]
theorem Bl (es:List Ed) (a:Bs) (f:Str->Bs):∀ (n:Nat) (s:List Str) (c:Str),bJ es (fun e=>bO a (f e)) n s c=bO a (bJ es f n s c)
 | 0,_,_=>rfl
 | n + 1,s,c=>by
  rw [bJ,bJ,pD,<- u6]
  congr 1
  refine dO es fun e _=>?_
  by_cases h:e.1.1=c/\e.1.2 ∉ s
  ·rw [if_pos h,if_pos h,Bl es a f n,<- l7,nT e.2 a,l7]
  ·rw [if_neg h,if_neg h,bS,bS]
theorem Fj.ways {cs:List Str} {tls:List Tl} {b:Str} {lp:List Ps} (h:Fj cs tls b lp) {c:Str}:ones (((Rc cs lp [b] 7).filter fun e=>decide (e.1=c)).map (·.2))=Wc cs (iK (aX tls)) (fB tls) [c] c:=by
 have h1:ones (((Rc cs lp [b] 7).filter fun e=>decide (e.1=c)).map (·.2))=aV ((Rc cs lp [b] 7).map fun e=>if e.1=c then some (e.2,1) else none):=by
  unfold ones
  generalize Rc cs lp [b] 7=l
  induction l with
  | nil=>rfl
  | cons x r ih =>
   rw [List.filter_cons,List.map_cons,aV,<- ih]
   by_cases e:x.1=c
   ·rw [if_pos (decide_eq_true e),if_pos e];rfl
   ·rw [if_neg (by simpa using e),if_neg e,gT]
 rw [h1]
 unfold Rc Wc
 rw [IU,show bB [b]=b from rfl,show ([b]:List Str).length=[c].length from rfl]
 have h2:=sT (CK lp) (cs.length - [c].length) [] b c (by simp) (by simp)
 rw [List.nil_append,List.nil_append] at h2
 rw [h2]
 have hf:fB tls=fun e=>bO (some (7,1)) (gP b e):=by
  funext e
  unfold fB
  rw [h.leaf]
  show bQ (if b=e then some (7,1) else none) none=_
  rw [eB]
  unfold gP
  by_cases z:b=e
  ·rw [if_pos z,if_pos z.symm,tS]
  ·rw [if_neg z,if_neg (Ne.symm z),bS]
 rw [hf,Bl]
 congr 1
 have hp:((CK lp).map sV).Perm (iK (aX tls)):=by
  have e:(CK lp).map sV=iK (lp.map LY):=by unfold CK iK;rw [List.map_map,List.map_map];rfl
  rw [e]
  exact (h.perm.map _).symm
 exact CL hp _ _ _ _
theorem NU {M:aD} {Q:UK} (q:Q (.bl false) M):tT true (.tup []) (.tup []) M Q:=⟨.tuple [],.tuple [],rfl,rfl,rfl,rfl,by decide,q⟩
def zN:cV:=fun us M Q=>∃ ns:List Int,us=[.lst (ns.map .int)]/\ns.length<=63/\Q (.bl true) M
theorem OV (F:dE K "law" "law" nS f fd) (lO:mg "list"=none) (gM:mg "len"=none) (zC:mg "min"=none) (bH:mg "enumerate"=none) (DR:Callee P w K mg base 2 "_law_table" LA []) (sM:Callee P w K mg base 7 "_law_rows" (uV 6) []) (J3:Callee P w K mg base 16 "labels" DB []) (wY:Callee P w K mg base 16 "how_many_least" LQ []) (N1:Callee P w K mg base 16 "least" BP []) (Mu:Callee P w K mg base 1 "price" E7 []):i6 P w K mg base qM 17 f fd ["script"] (gO K zN):=by
 refine EU F gQ (fun us M Q h=>by obtain ⟨x,rfl,_⟩:=h;rfl) (aE (aY 1 gQ.nd (hZ (own:=true) (aA (Dw (OY (own:=false)) lO (aA (qY (own:=false) (uv 0) n0 (nY aS)) aB)) (aA aS (aA aS (aA aS aB))))))
 (aE (Qk (aU DR (aA (uv 1) aB)) (dU (n:=3) (aT (aO (k:=1000) 2 gQ.nd) (aT (aO (k:=1000) 3 gQ.nd) (aT (aO (k:=1000) 4 gQ.nd) cW)))))
 (aE (aY 5 gQ.nd (hZ (own:=true) aB))
 (aE (eA (aU sM (aA (uv 4) (aA (hZ (own:=false) (aA (uv 3) aB)) (aA aS (aA (uv 5) aB))))))
 (aE (aY 6 gQ.nd (bI (aA kS (aA kS aB))))
 (aE (aY 7 gQ.nd (aU J3 (aA (uv 2) (aA (uv 6) aB))))
 (aE (dW (l5.pt (pM (cP sO (kM m4 gM (aA (uv 7) aB)) aS) (oN (cP sO (aN (aN (uv 7) aS) aS) (bI aB)))))
 (aJ (bP v5))
 cT)
 (aE (eG (lU bH (aA (aN (uv 2) aS) aB)) (dU (n:=2) (aT (aO (k:=1000) 8 gQ.nd) (aT (aO (k:=1000) 9 gQ.nd) cW)))
 (aE (qT 10 gQ.nd false ["end","cost","cls"] 2 [9] (dD (uv 5)) (dU (n:=2) (aT (aO (k:=2) 0 (by dsimp only [bM];decide +kernel)) (aT (aO (k:=2) 1 (by dsimp only [bM];decide +kernel)) cW))) (Ax (cP j6 (uv 0) (uv 2))) (uv 1))
 (aE (aY 11 gQ.nd (aU wY (aA (uv 2) (aA (uv 6) (aA (uv 9) aB)))))
 (aE (aY 12 gQ.nd (aU N1 (aA (uv 2) (aA (uv 6) (aA (uv 9) aB)))))
 (aJ (dW (cP j6 (uv 10) (hZ (own:=false) aB))
 (aJ (dW (l5.pt (pM (cP CH (aN (aN (aN (uv 7) aS) aS) (uv 8)) zP) (pM (cP sO (uv 11) aS) (oN (cP CH (uv 12) zP)))))
 (aJ (bP v5))
 cT))
 (aE (dW (l5.pt (pM (cP sO (aN (aN (aN (uv 7) aS) aS) (uv 8)) (kM Cy zC (aA (uv 10) aB))) (oN (cP sO (uv 11) (JD (uv 10) (aA (kM Cy zC (aA (uv 10) aB)) aB))))))
 (aJ (bP v5))
 cT)
 (aJ (dW (cP sO (aU Mu (aA (uv 2) (aA (uv 12) aB))) (kM Cy zC (aA (uv 10) aB)))
 (aJ (bP v5))
 cT)))))))))
 (aJ (bP v5)))))))))) ?_
 rintro us M Q ⟨ns,rfl,hl,q⟩
 refine aI fun V hV=>?_
 simp! only [bR,hName,Ab,aG]
 intro t ht
 subst hV
 refine aI fun V hV=>?_
 simp! only [bR,i9,gN,kI,hName,aG]
 refine ⟨t,fP ns none (some 63),0,0,rfl,aF,fun cs tls bg lp a1 b1 c1 hT=>?_⟩
 rw [bV]
 have hc6:=hT.rng.tab.cls.len
 subst hV
 simp! only [i9,gN,kI,hName,aG]
 refine aI fun V hV=>?_
 simp! only [bR,hName,aG]
 intro fo hfo
 have hft:fo≠t:=fun z=>by rw [z,aF] at hfo;cases hfo
 rw [aM hft] at hfo
 subst hV
 have hs1:Seen cs [bg]:=⟨by simp,fun s hs=>by cases List.mem_singleton.mp hs;exact hT.bc⟩
 have hlpl:lp.length<=39:=by have:=hT.lpl;have:=uN tls;have:=hT.rng.tab.len;omega
 have hRl:(Rc cs lp [bg] 7).length<=100000:=by
  unfold Rc
  rw [AX]
  have h1:=wR (Ez lp) (cs.length - [bg].length) [bg] (bB [bg])
  have h2:1<=cs.length:=hs1.len
  have h3:=EY hT.few (k:=(Ez lp).length) (by unfold Ez;rw [List.length_map,hT.lpl];exact Nat.le_refl _) (n:=cs.length - [bg].length) (by simp;omega)
  exact Nat.le_trans h1 h3
 refine aI fun V hV=>?_
 simp! only [gC,aG]
 refine ⟨cs,lp,[bg],7,fo,[],rfl,aF,hs1,by simp,by simp;omega,fun p hp=>(hT.mem p hp).2,by omega,hc6,by rw [List.length_nil];omega,?_⟩
 rw [bV,List.nil_append]
 generalize hRc:Rc cs lp [bg] 7=found at *
 subst hV
 refine aI fun V hV=>?_
 simp! only [bR,hName,aG]
 subst hV
 refine aI fun V hV=>?_
 simp! only [bR,hName,aG]
 refine ⟨cs,tls,.name "k",rfl,hT.rng.tab,(by show 1<=12;decide),(by show 1<=1000;decide),fun vs chs b=>?_⟩
 have b':Bd (.name "k") tls cs [[]] vs chs:=b
 subst hV
 refine aI fun V hV=>?_
 show qC _ _ _ _ [some (.lst (ns.map U.int)),some (.ref t),some (eD cs tls),some (.str bg),some (.lst (lp.map kE)),some (.ref fo),some (Tr.name "k").toU,some (.lst [uR cs vs []]),none,none,none,none,none] _
 refine fD fun A B hA hB=>?_
 simp! only [uR,aG]
 rw [if_neg (by decide)]
 refine NU ?_
 simp only [Bool.false_eq_true,if_false]
 subst hB
 simp only [fJ]
 show V _ _
 subst hV
 refine aI fun V hV=>?_
 have hS0:Sub M (mup (mup M t (.lst (fK (fP ns none (some 63)) a1 b1 c1))) fo (.lst (found.map pH))):=((Sub.refl M).mup ht).mup hfo
 generalize hM0:mup (mup M t (.lst (fK (fP ns none (some 63)) a1 b1 c1))) fo (.lst (found.map pH))=M0 at *
 have hMf:M0 fo=some (.lst (found.map pH)):=by rw [<- hM0];exact aF
 refine eT (S:=⟨none,numbered (cs.map U.str)⟩) (M1:=M0) (fun R r=>by simp! only [m7,qF,aG];exact r)
  (fun i τ Mj=>∃ z8 z9 z10 z11 z12:Option U,τ=[some (.lst (ns.map U.int)),some (.ref t),some (eD cs tls),some (.str bg),some (.lst (lp.map kE)),some (.ref fo),some (Tr.name "k").toU,some (.lst [uR cs vs []]),z8,z9,z10,z11,z12]/\Sub M0 Mj) ⟨none,none,none,none,none,rfl,Sub.refl _⟩ nk ?_ ?_
 ·rintro j y τ Mj e ⟨y8,y9,y10,y11,y12,rfl,hSj⟩
  obtain ⟨u,hu,rfl⟩:=gY e
  rw [List.getElem?_map] at hu
  cases hj:cs[j]? with
  | none=>rw [hj] at hu;cases hu
  | some c =>
   rw [hj] at hu
   cases hu
   have hcm:=List.mem_of_getElem? hj
   have hfj:Mj fo=some (.lst (found.map pH)):=hSj fo _ hMf
   have hval:=Ms hT.rng b' hcm
   have hway:=hT.ways (c:=c)
   rw [hRc] at hway
   refine ⟨rfl,?_⟩
   simp! only [i9,gN,kI,hName,aG]
   refine aI fun V1 hV1=>?_
   refine pK (S:=⟨some fo,found.map pH⟩) (M1:=Mj) (found.map fun e=>if e.1=c then some (.int e.2) else none) (fun R r=>by simp! only [hfj,aG];exact r) (by simp) (small (by show (found.map pH).length<=_;rw [List.length_map];exact hRl)) (fun a e=>by cases e;exact hfj) ?_ ?_
   ·intro k x z' hx hz M' hS R r'
    have hx':(found.map pH)[k]?=some x:=hx
    rw [List.getElem?_map] at hx' hz
    cases hk:found[k]? with
    | none=>rw [hk] at hx';cases hx'
    | some en =>
     rw [hk] at hx' hz
     cases hx';cases hz
     refine ⟨rfl,?_⟩
     simp! only [i9,gN,kI,hName,aG]
     have r':R (if en.1=c then some (.int en.2) else none) M':=r'
     by_cases h:en.1=c
     ·rw [if_pos h] at r'
      simp! only [h,aG]
      exact r'
     ·rw [if_neg h] at r'
      simp only [h,decide_false,Bool.false_eq_true,if_false]
      exact r'
   ·have ef:(found.map fun e=>if e.1=c then some (U.int e.2) else none).filterMap id=((found.filter fun e=>decide (e.1=c)).map (·.2)).map U.int:=by
     generalize found=L
     induction L with
     | nil=>rfl
     | cons a r ih =>
      rw [List.map_cons,List.filterMap_cons,List.filter_cons]
      by_cases h:a.1=c
      ·rw [if_pos h,if_pos (decide_eq_true h)];simp [ih]
      ·rw [if_neg h,if_neg (by simpa using h)];simpa using ih
    simp! only [ef,hName,aG]
    generalize hsm:(found.filter fun e=>decide (e.1=c)).map (·.2)=sm at *
    subst hV1
    refine aI fun V1 hV1=>?_
    simp! only [bR,hName,aG]
    refine ⟨cs,tls,"k",c,rfl,hT.rng,hT.few,hcm,?_⟩
    rw [<- hway] at hval ⊢
    subst hV1
    refine aI fun V1 hV1=>?_
    simp! only [bR,hName,aG]
    have hat:eR (cs.map fun c=>l0 (bY vs ([],c))) (j:Int)=some (l0 ((ones sm).map (·.1))):=by
     rw [<- hval]
     exact eX (by rw [List.getElem?_map,hj];rfl)
    refine ⟨cs,tls,.name "k",c,rfl,hT.rng.tab,(by show 1<=12;decide),(by show 1<=200;decide),fun vs2 chs2 b2=>?_⟩
    rw [b2.uniq b ([],c),hval]
    subst hV1
    cases sm with
    | nil =>
     show _
     simp only [ones,List.map_nil,aV,Option.map_none,Kp]
     have hat':eR (cs.map fun c=>l0 (bY vs ([],c))) (j:Int)=some .non:=hat
     refine fD fun A B hA hB=>?_
     simp! only [aG]
     refine uO (ns:=[]) ?_
     simp only [List.isEmpty_nil,if_true]
     subst hA
     refine fD fun A B hA hB=>?_
     simp! only [uR,hat',aG]
     subst hB
     simp only [fJ]
     exact ⟨_,_,_,_,_,rfl,hSj⟩
    | cons m ms =>
     rw [GW] at hat ⊢
     simp only [Option.map_some,Kp]
     intro word r hr hrun hwo hcost hwl
     refine fD fun A B hA hB=>?_
     simp! only [aG]
     refine uO (ns:=m :: ms) ?_
     simp only [List.isEmpty_cons,Bool.false_eq_true,if_false]
     subst hB
     refine aI fun V1 hV1=>?_
     refine fD fun A B hA hB=>?_
     have hat':eR (cs.map fun c=>l0 (bY vs ([],c))) (j:Int)=some (.int (gK m ms)):=hat
     have hio:intsOf (U.int m :: List.map U.int ms)=some (m :: ms):=rZ (m :: ms)
     simp! only [uR,hat',BI,aG]
     refine ⟨m,ms,hio,?_⟩
     simp only [lK,if_true,decide_true,Bool.not_true,Bool.false_eq_true,if_false]
     refine ⟨⟨_,rfl⟩,m,ms,hio,?_⟩
     have hic:((m :: ms).countP fun z=>decide (z=gK m ms))=(m :: ms).countP (· == gK m ms):=by
      congr 1
     refine ⟨m :: ms,Ba (m :: ms),?_⟩
     simp only [hic,lK,if_true,decide_true,Bool.not_true,Bool.false_eq_true,if_false]
     subst hB
     simp only [fJ]
     show V1 _ _
     subst hV1
     refine fD fun A B hA hB=>?_
     simp! only [BI,aG]
     refine ⟨cs,tls,r,word,rfl,aF,fun tl h=>?_,hwo,by omega,m,ms,hio,?_⟩
     ·have:=(hT.rng.tab.good tl h).2.2.2
      simp only [Tl.k] at this
      exact this
     ·rw [hcost]
      simp only [lK,if_true,decide_true,Bool.not_true,Bool.false_eq_true,if_false]
      subst hB
      simp only [fJ]
      refine ⟨_,_,_,_,_,rfl,fun b mo h=>?_⟩
      have h2:=hSj b mo h
      rw [aM (fun z=>by rw [z,hr] at h2;cases h2)]
      exact h2
 ·rintro τ Mj ⟨y8,y9,y10,y11,y12,rfl,hSj⟩
  show V _ _
  subst hV
  simp! only [gH,aG]
  exact ⟨_,M,fun b mo h=>hSj b mo (hS0 b mo h),.inl rfl,q⟩
end
theorem Cu {K:PySem.W.Frag} {H:Hp} {M:aD}:∀ ns:List Int,aH K H M (ns.map U.int) (ns.map V.int)
 | []=>.nil
 | _ :: r=>.cons eK (Cu r)
theorem HA {K:PySem.W.Frag} {H:Hp} {a:Addr} {ns:List Int} {E:XK} (hl:ns.length<=63) (hS:dN K H a (ns.map V.int)):gO K zN [.ref a] H (fun v _=>v=.bl true) E:=by
 refine ⟨[.lst (ns.map .int)],fun _=>none,fun u _=>u=.bl true,(fun a mo e=>by cases e),.cons ?_ .nil,⟨ns,rfl,hl,rfl⟩,fun u v M1 H1 _ _ ru q=>by subst q;exact ru.bl⟩
 simp only [aK]
 refine ⟨a,_,rfl,?_,Cu ns⟩
 rcases hS with h | h
 ·exact .inl ⟨trivial,h⟩
 ·exact .inr h
def cS (K:PySem.W.Frag) (n:Str) (st:Stmt) (f:Addr):Prop:=∃ fd,PySem.W.nsIn K mainGlobals n=some (some (.ref f))/\dE K n n st f fd
theorem RI {K:PySem.W.Frag} {n:Str} {st:Stmt} {f:Addr} {oc:Value} {od an:Option Addr} {osl:Array (Option Value)} {kV doc pm cdv ct:Value} (a:PySem.W.nsIn K mainGlobals n=some (some (.ref f))) (l:K.lookup f=some ⟨oc,od,.func (PySem.W.fnOf n n (j9 st) (fN st) (aR st) .none kV doc pm an cdv ct),osl⟩) (c:PySem.W.codeIn K cdv n=true) (k:PySem.W.keepIn K (.ref f)=true):cS K n st f:=⟨_,a,HC l c k⟩
open PyProof.Rows in
theorem all_mk {l:PySem.W.OpenLaw} {w:World} {K:PySem.W.Frag} {h:Heap} {mg:Str->Option Value} {fa f0 f1 f2 f3 f4 f5 f6 f7 f8 f9 f10 f11 f12 f13 f14 f15 f16 f17 f18 f19 f20 f21 f22 f23 f24 f25 f26 f27 f28 f29:Addr} (X:K.In h) (G:h.Ns mainGlobals mg) (hfa:mg "law"=some (.ref fa))
  (a0:cS K "parts_of" sW f0) (a1:cS K "places_of" i3 f1) (a2:cS K "shape_at" tE f2) (a3:cS K "lies_on_leaf" mK f3) (a4:cS K "is_pass" uT f4) (a5:cS K "parts" AI f5) (a6:cS K "places" wX f6) (a7:cS K "tree_at" tQ f7) (a8:cS K "holes" zZ f8) (a9:cS K "lies" yE f9) (a10:cS K "price" Av f10) (a11:cS K "tiles_at" rQ f11) (a12:cS K "laid_tiles" oJ f12) (a13:cS K "join_spots" oS f13) (a14:cS K "fill_least" oD f14) (a15:cS K "least_of_all" mP f15) (a16:cS K "chosen_cover" mV f16) (a17:cS K "as_paper" rR f17) (a18:cS K "cheapest_steps" lE f18) (a19:cS K "put_in" rS f19) (a20:cS K "cheapest_chains" kO f20) (a21:cS K "joined_price" mI f21) (a22:cS K "labels" xB f22) (a23:cS K "least" AE f23) (a24:cS K "first_tiles" nI f24) (a25:cS K "how_many_least" k0 f25) (a26:cS K "_law_draw" tD f26) (a27:cS K "_law_rows" nP f27) (a28:cS K "_law_table" p5 f28)
  {od an:Option Addr} {sl:Array (Option Value)} {oc kV dc pm cd ct:Value} (aL:PySem.W.nsIn K mainGlobals "law"=some (some (.ref f29))) (lL:K.lookup f29=some ⟨oc,od,.func (PySem.W.fnOf "law" "law" (j9 nS) (fN nS) (aR nS) .none kV dc pm an cd ct),sl⟩) (cL:PySem.W.codeIn K cd "law"=true) (kL:PySem.W.keepIn K (.ref f29)=true)
  {dt0:Addr} (ta0:PySem.W.nsIn K mainGlobals "SIGNS"=some (some (.ref dt0))) (tb0:KTD.tabLook KTD.flatLooks (fun b=>K.lookup b) dt0 (Af gG)=true) (tc0:KTD.hashesOf (fun b=>K.lookup b) dt0=(Af gG).map fun p=>(PySem.strKind l.prog w).hash p.1)
  (z0:PySem.W.nsIn K mainGlobals "len"=some none) (z1:PySem.W.nsIn K mainGlobals "range"=some none) (z2:PySem.W.nsIn K mainGlobals "tuple"=some none) (z3:PySem.W.nsIn K mainGlobals "list"=some none) (z4:PySem.W.nsIn K mainGlobals "all"=some none) (z5:PySem.W.nsIn K mainGlobals "zip"=some none) (z6:PySem.W.nsIn K mainGlobals "enumerate"=some none) (z7:PySem.W.nsIn K mainGlobals "sum"=some none) (z8:PySem.W.nsIn K mainGlobals "reversed"=some none) (z9:PySem.W.nsIn K mainGlobals "dict"=some none) (z10:PySem.W.nsIn K mainGlobals "min"=some none)
  : ∃ fd:FuncData,(∀ (s:Shared) (v:Value),BindsTo s fd ⟨[v],[]⟩ [("script",v)])/\∀ base:Heap,K.In base->base.Ns mainGlobals mg->i6 l.prog w K mg base qM 17 fa fd ["script"] (gO K zN):=by
 have V:∀ {x:Str} {f:Addr},PySem.W.nsIn K mainGlobals x=some (some (.ref f))->mg x=some (.ref f):=PySem.W.mg_of X G
 have N:∀ {x:Str},PySem.W.nsIn K mainGlobals x=some none->mg x=none:=PySem.W.mg_none_of X G
 have e:=hfa.symm.trans (V aL)
 cases e
 have Qz:=HC (st:=nS) lL cL kL
 obtain ⟨_,rO,GO⟩:=a0;have rO:=V rO
 obtain ⟨_,mY,vT⟩:=a1;have mY:=V mY
 obtain ⟨_,rE,Fw⟩:=a2;have rE:=V rE
 obtain ⟨_,mQ,Ak⟩:=a3;have mQ:=V mQ
 obtain ⟨_,tU,IS⟩:=a4;have tU:=V tU
 obtain ⟨_,zS,Ng⟩:=a5;have zS:=V zS
 obtain ⟨_,wQ,Jq⟩:=a6;have wQ:=V wQ
 obtain ⟨_,uU,IT⟩:=a7;have uU:=V uU
 obtain ⟨_,AF,M9⟩:=a8;have AF:=V AF
 obtain ⟨_,BL,Pa⟩:=a9;have BL:=V BL
 obtain ⟨_,AA,M8⟩:=a10;have AA:=V AA
 obtain ⟨_,sZ,FV⟩:=a11;have sZ:=V sZ
 obtain ⟨_,oB,Dv⟩:=a12;have oB:=V oB
 obtain ⟨_,n6,Ca⟩:=a13;have n6:=V n6
 obtain ⟨_,n8,B5⟩:=a14;have n8:=V n8
 obtain ⟨_,mF,As⟩:=a15;have mF:=V mF
 obtain ⟨_,mT,AM⟩:=a16;have mT:=V mT
 obtain ⟨_,sH,FI⟩:=a17;have sH:=V sH
 obtain ⟨_,lF,wN⟩:=a18;have lF:=V lF
 obtain ⟨_,sE,CJ⟩:=a19;have sE:=V sE
 obtain ⟨_,kK,vQ⟩:=a20;have kK:=V kK
 obtain ⟨_,dC,AN⟩:=a21;have dC:=V dC
 obtain ⟨_,wM,Jn⟩:=a22;have wM:=V wM
 obtain ⟨_,zQ,Na⟩:=a23;have zQ:=V zQ
 obtain ⟨_,nH,BD⟩:=a24;have nH:=V nH
 obtain ⟨_,k7,xC⟩:=a25;have k7:=V k7
 obtain ⟨_,rP,Fo⟩:=a26;have rP:=V rP
 obtain ⟨_,rL,Gz⟩:=a27;have rL:=V rL
 obtain ⟨_,p7,DU⟩:=a28;have p7:=V p7
 have Az:=V ta0
 have Am:zE l.prog w K dt0 gG:=tab_of (by decide +kernel) tb0 tc0
 have gM:=N z0
 have Ad:=N z1
 have nZ:=N z2
 have lO:=N z3
 have vH:=N z4
 have vK:=N z5
 have bH:=N z6
 have vJ:=N z7
 have fL:=N z8
 have B8:=N z9
 have zC:=N z10
 refine ⟨PySem.W.fnOf "law" "law" (j9 nS) (fN nS) (aR nS) .none kV dc pm an cd ct,fun s v=>.of_eq rfl,fun base _ _=>?_⟩
 have c0:=DE (P:=l.prog) (w:=w) (base:=base) GO rO Am Az
 have c1:=K6 Ng zS c0
 have c2:=xV (P:=l.prog) (w:=w) (base:=base) Ak mQ
 have c3:=CO Pa BL vH vK c2 c0 c1 6
 have c4:=x9 vT mY bH c0 6
 have c5:=vZ vT mY bH c0 12
 have c6:=HY Jq wQ c5
 have c7:=DI Fw rE c0
 have c8:=FU IT uU c7
 have c9:=JF M9 AF c4 c7
 have d0:=FW (P:=l.prog) (w:=w) (base:=base) IS tU
 have d4:=KO (P:=l.prog) (w:=w) (base:=base) M8 AA vJ
 have e0:=DS FV sZ bH c8 c3 c9
 have e1:=yS (P:=l.prog) (w:=w) (base:=base) (mg:=mg) AN vJ
 have e2:=Bq Ca n6 True.intro e1
 have e3:=MH (Lm B5 n8 True.intro e2)
 have e4:=yP (Ha As mF fL c6 e0 e3)
 have e5:=G6 (P:=l.prog) (w:=w) (base:=base) AM mT True.intro lO fL
 have e6:=DD FI sH True.intro nZ c6
 have e7:=HF Jn wM dC e6 e4
 have e8:=KH Na zQ True.intro dC e4 e5
 have h0:=NK (P:=l.prog) (w:=w) (base:=base) CJ sE
 have h1:=MK (P:=l.prog) (w:=w) (base:=base) CJ sE
 have h2:=KA (Ja wN lF d0 h1)
 have h3:=HN (Gk vQ kK h2 h0)
 have h4:=KG (Ic BD nH (K33.Callee.ofAt e1 dC) h0)
 have h5:=By (J5 Dv oB c6 e0 d0)
 have h6:=PD xC k7 B8 lO fL h3 h5 h4 h0
 have g0:=Nr (P:=l.prog) (w:=w) (base:=base) Fo rP gM
 have g1:=Lh DU p7 nZ Ad gM bH g0
 have g2:=CU (P:=l.prog) (w:=w) (base:=base) Gz rL 6
 exact OV Qz lO gM zC bH g1 g2 e7 h6 e8 d4
theorem walk {l:PySem.W.OpenLaw} {q:Program} {loose:List Str} {XP:(Str->Option Value)->Heap->Prop} {YP:World->Heap->Prop} {d:DefRec} {K:Params->PySem.W.Frag} (hn:l.most=some 63) (hdf:d.params.defaults=[])
  (hY:∀ (w:World) (h:Heap),YP w h->(K w.params).In h)
  (F:∀ (w:World) (mg:Str->Option Value) (fa:Addr) (h:Heap),(K w.params).In h->h.Ns mainGlobals mg->mg d.name=some (.ref fa) ->
   ∃ fd:FuncData,(∀ (s:Shared) (u:Value),BindsTo s fd ⟨[u],[]⟩ [("script",u)])/\∀ base:Heap,(K w.params).In base->base.Ns mainGlobals mg->i6 l.prog w (K w.params) mg base qM 17 fa fd ["script"] (gO (K w.params) zN)) :
  PySem.W.WalkO q loose XP YP l.row.toRowW d [] (fun f vs=>PySem.call f vs) :=
 L2.Nz (n:=63) (k:=17) (x:="script") (CX:=fun _=>qM) (sp:=fun w=>gO (K w.params) zN) hn (by decide) hdf ⟨rfl,by decide,by decide⟩ hY F (fun _ _ a ns hl _ hS=>HA hl hS) fun _ _ _ _ _ z=>z
end K33
namespace PySem.W.Fast
def tw10313904976591012720:=0
def tw10437231781469781081:=0
def tw10471031455823183221:=0
def tw10567585029156226152:=0
def tw10595992820286170355:=0
def tw10616851935641331807:=0
def tw10764239105383484440:=0
def tw1088449600649680812:=0
def tw10888502967715611562:=0
def tw10908218904440792945:=0
def tw11046680630363804186:=0
def tw11226750774441125141:=0
def tw11280158790790985855:=0
def tw11693484132700136987:=0
def tw11840085233824949973:=0
def tw1199470638370013288:=0
def tw12274346728941764596:=0
def tw12315867859637104725:=0
def tw1233477614766275142:=0
def tw12344007270264539995:=0
def tw12349681414726094296:=0
def tw12474608563643906882:=0
def tw1266302790825315764:=0
def tw12824242099675057092:=0
def tw12876025297069309295:=0
def tw12966307519793319615:=0
def tw12972960840000117069:=0
def tw1339817227743249786:=0
def tw13544701178624132675:=0
def tw13709590025952631909:=0
def tw1372048339544228141:=0
def tw13881848832147131885:=0
def tw1400434247059391433:=0
def tw14029884990812006158:=0
def tw14046115103847262994:=0
def tw14434864998124536912:=0
def tw14750863487043287677:=0
def tw14848744393791558848:=0
def tw14888555809803407029:=0
def tw1517044114977721377:=0
def tw15213612165637500645:=0
def tw15267404566611276078:=0
def tw15335219726119002790:=0
def tw15392152099770395099:=0
def tw15527561537348231041:=0
def tw15530721141886917482:=0
def tw15544216430469655527:=0
def tw15691943445603105541:=0
def tw16077702375141631462:=0
def tw16165339002322184944:=0
def tw16175043462101106236:=0
def tw16290671531621230312:=0
def tw16415643082726698323:=0
def tw16622224440340055565:=0
def tw16670979700337688004:=0
def tw16771088886823926906:=0
def tw16900115165196896746:=0
def tw17048809860448190025:=0
def tw17065771508438305780:=0
def tw17144139916892066776:=0
def tw17174481261079325788:=0
def tw17176362791619957633:=0
def tw17217934151188255756:=0
def tw17305735995171521080:=0
def tw17424144888020544144:=0
def tw17449992181685001825:=0
def tw17505148255626694023:=0
def tw17569265037618263371:=0
def tw176609045157942475:=0
def tw17691125628142198893:=0
def tw17716241191926966476:=0
def tw18192189375577406591:=0
def tw18195090684161508118:=0
def tw18197100426994151869:=0
def tw18197945997223940440:=0
def tw18394018879938694431:=0
def tw1858134809048783602:=0
def tw2005715821228350817:=0
def tw2023588998642698429:=0
def tw2245114426713411101:=0
def tw2319116623683630442:=0
def tw2324802511289087202:=0
def tw2371863276667453276:=0
def tw2415596584733988274:=0
def tw2421142821921639828:=0
def tw2551700184708361613:=0
def tw2592218809582268261:=0
def tw2711684506624863764:=0
def tw273239161820676758:=0
def tw2808036012059408726:=0
def tw2853565588931995185:=0
def tw308812051023027837:=0
def tw3099766637852153759:=0
def tw3163107085244618998:=0
def tw3191282180066561050:=0
def tw3313735600737440714:=0
def tw3536326955418944882:=0
def tw3696006637327362673:=0
def tw3746652907383047179:=0
def tw3882837469629801902:=0
def tw3901870869286583833:=0
def tw390745259788482313:=0
def tw3949174279041092556:=0
def tw4005646215889307547:=0
def tw4032784044255745933:=0
def tw4055776857259926805:=0
def tw410270208674504388:=0
def tw4163455261641494921:=0
def tw4245498193231165318:=0
def tw4271846518334618278:=0
def tw4280498314068931160:=0
def tw4299932779600542144:=0
def tw4318042056003845237:=0
def tw4334949430997807208:=0
def tw4480513231578223217:=0
def tw4493399966475218340:=0
def tw4545011712548032516:=0
def tw4586878544711647851:=0
def tw4604992818973673629:=0
def tw4957918180500034166:=0
def tw5015798792190135176:=0
def tw5092526200435833978:=0
def tw5104659264875880040:=0
def tw5123394624132666851:=0
def tw5270137887032046667:=0
def tw5278497994920719646:=0
def tw533861299275412407:=0
def tw5363936232374580815:=0
def tw555494450271221611:=0
def tw5656351382510782472:=0
def tw5677479088291138843:=0
def tw5933975611841435285:=0
def tw62367934589493528:=0
def tw6295121961512828976:=0
def tw6352345676527705932:=0
def tw6384239681000723918:=0
def tw6393804651538945927:=0
def tw6619911074074437792:=0
def tw6654781388350503152:=0
def tw671794964567244996:=0
def tw6837973159051618448:=0
def tw6875028471688951714:=0
def tw6888325569720215093:=0
def tw6910063232239616663:=0
def tw6994949034402042171:=0
def tw739504175849389924:=0
def tw7407855784946837715:=0
def tw7502042887317025846:=0
def tw7621777980226927016:=0
def tw7721983873719361568:=0
def tw7772665567447412590:=0
def tw7831247867956669974:=0
def tw783980889461018534:=0
def tw7964787911650321526:=0
def tw7971578127622999658:=0
def tw8008251633656179630:=0
def tw8070477024625296965:=0
def tw8105269166252871643:=0
def tw8105797229849198172:=0
def tw8147169585014023813:=0
def tw8285889137198639681:=0
def tw8331274590360524753:=0
def tw8368542291739935894:=0
def tw8398966447217660654:=0
def tw8509956259286189811:=0
def tw8537675882078238617:=0
def tw8602836146228746796:=0
def tw8798037621601752819:=0
def tw8840481067042522896:=0
def tw8868434927366237889:=0
def tw8948440929063865945:=0
def tw8999557425432772918:=0
def tw936158437746236675:=0
def tw9372868820251339914:=0
def tw9414687481163872837:=0
def tw9595925465382939397:=0
def tw9664190861016467211:=0
def tw968988965006087496:=0
def tw9929091703017181728:=0
end PySem.W.Fast
open PySem PySem.W PyProof.Rows
set_option maxRecDepth 100000 in
set_option maxHeartbeats 0 in
theorem PySem.Challenge.cw_rowsmith_k33_passes_in_rings_holds : PySem.Challenge.rw_rowsmith_k33_passes_in_rings.Holds := by
 w_on;o_law;k_head;(case hw=>w_witness2)
 k_fill
 refine K33.walk (l:=PySem.Challenge.rw_rowsmith_k33_passes_in_rings) rfl rfl (fun w h Y=>PySem.W.kIn_of Y) ?F
 case F =>
  intro w mg fa h KX G hmg
  refine' K33.all_mk KX G hmg ?a0 ?a1 ?a2 ?a3 ?a4 ?a5 ?a6 ?a7 ?a8 ?a9 ?a10 ?a11 ?a12 ?a13 ?a14 ?a15 ?a16 ?a17 ?a18 ?a19 ?a20 ?a21 ?a22 ?a23 ?a24 ?a25 ?a26 ?a27 ?a28 ?aL ?lL ?cL ?kL ?ta0 ?tb0 ?tc0 ?z0 ?z1 ?z2 ?z3 ?z4 ?z5 ?z6 ?z7 ?z8 ?z9 ?z10
  all_goals first | (refine' K33.RI ?a ?l ?c ?k;(case a=>k_is);(case l=>k_is);(case c=>k_is);(case k=>k_is)) | skip
  (case aL=>k_is)
  (case lL=>k_is)
  (case cL=>k_is)
  (case kL=>k_is)
  (case ta0=>k_is)
  (case tb0=>kernel_rfl)
  (case tc0=>kernel_rfl)
  (case z0=>k_is)
  (case z1=>k_is)
  (case z2=>k_is)
  (case z3=>k_is)
  (case z4=>k_is)
  (case z5=>k_is)
  (case z6=>k_is)
  (case z7=>k_is)
  (case z8=>k_is)
  (case z9=>k_is)
  (case z10=>k_is)
#print axioms PySem.Challenge.cw_rowsmith_k33_passes_in_rings_holds