import PyProof.Rows.All
import Wide.All
import OpenK.AllK
import Wide.FinOn
import Lean
import PyProof.EqAt
import PyProof.EqKinds
import PyProof.TupleCall
import PySem.Challenge.RW_rowsmith_k34_like_tiles_multiply
import KE.KRevIter
import PyProof.ListRange
import PyProof.CollectIter
import PyProof.Rows.SortWalk
import PyProof.ListMulRoad
import PyProof.AutoListH
import PyProof.IsiH_list
import PyProof.TupleOfGen
import PyProof.EnumMake
set_option Elab.async false
set_option linter.all false
noncomputable section
set_option maxRecDepth 100000
set_option maxHeartbeats 4000000
namespace L2
open PySem PySem.Spec PyProof.Rows
abbrev Key:=Sum Int Str
def sT:Key->Value->Bool
 | .inl k,v=>Value.isInt k v
 | .inr x,v=>Value.isStrOf x v
noncomputable def Sl (w:World):Key->Int
 | .inl k=>hashInt k
 | .inr x=>hashStr w x
theorem eJ:∀ {k:Key} {v:Value},sT k v=true->(∃ i t,k=Sum.inl i/\v=Value.int i t)\/(∃ x t,k=Sum.inr x/\v=Value.str x t)
 | .inl i,v,h=>by
  obtain ⟨t,e⟩:=Value.isInt_shape (k:=i) (v:=v) h
  exact .inl ⟨i,t,rfl,e⟩
 | .inr x,v,h=>by
  obtain ⟨t,e⟩:=Value.isStrOf_shape (x:=x) (v:=v) h
  exact .inr ⟨x,t,rfl,e⟩
theorem IF (i:Int) (t:Tok):sT (.inl i) (.int i t)=true:=by simp [sT,Value.isInt]
theorem JB (x:Str) (t:Tok):sT (.inr x) (.str x t)=true:=by simp [sT,Value.isStrOf]
theorem Qe (a b:Int):decide ((Sum.inl a:Key)=Sum.inl b)=(a == b):=by
 by_cases e:a=b
 ·subst e;simp
 ·have h:¬ (Sum.inl a:Key)=Sum.inl b:=fun q=>e (Sum.inl.inj q)
  rw [decide_eq_false h]
  exact (beq_eq_false_iff_ne.mpr e).symm
theorem OW (a b:Str):decide ((Sum.inr a:Key)=Sum.inr b)=decide (a=b):=by
 by_cases e:a=b
 ·subst e;simp
 ·have h:¬ (Sum.inr a:Key)=Sum.inr b:=fun q=>e (Sum.inr.inj q)
  rw [decide_eq_false h,decide_eq_false e]
theorem Pu (a:Int) (b:Str):decide ((Sum.inl a:Key)=Sum.inr b)=false:=decide_eq_false (fun q=>nomatch q)
theorem Qi (a:Str) (b:Int):decide ((Sum.inr a:Key)=Sum.inl b)=false:=decide_eq_false (fun q=>nomatch q)
noncomputable def cV (prog:Program) (w:World):PySem.KeyKind prog w Key where
 is:=sT
 hash:=Sl w
 inj:=fun v a b ha hb=>by
  rcases eJ ha with ⟨i,t,rfl,rfl⟩ | ⟨x,t,rfl,rfl⟩
  ·rcases eJ hb with ⟨j,u,rfl,e⟩ | ⟨y,u,rfl,e⟩
   ·injection e with e1 _;rw [e1]
   ·exact nomatch e
  ·rcases eJ hb with ⟨j,u,rfl,e⟩ | ⟨y,u,rfl,e⟩
   ·exact nomatch e
   ·injection e with e1 _;rw [e1]
 byValue:=fun k v h=>by
  rcases eJ h with ⟨i,t,rfl,rfl⟩ | ⟨x,t,rfl,rfl⟩ <;> rfl
 pyHash:=fun hv h=>by
  rcases eJ hv with ⟨i,t,rfl,rfl⟩ | ⟨x,t,rfl,rfl⟩
  ·exact wpAny_pyHash_int h
  ·exact wpAny_pyHash_str h
 eqBool:=fun hu hv h=>by
  rcases eJ hu with ⟨i,t,rfl,rfl⟩ | ⟨x,t,rfl,rfl⟩
  ·rcases eJ hv with ⟨j,u,rfl,rfl⟩ | ⟨y,u,rfl,rfl⟩
   ·rw [Qe] at h;exact wpAny_eqBool_int h
   ·rw [Pu] at h;exact SeqAt.EqAt.int_str i t y u _ _ _ _ h
  ·rcases eJ hv with ⟨j,u,rfl,rfl⟩ | ⟨y,u,rfl,rfl⟩
   ·rw [Qi] at h;exact SeqAt.EqAt.str_int x t j u _ _ _ _ h
   ·rw [OW] at h;exact wpAny_eqBool_str h
 «strs»:=fun k x t v h=>by
  rcases eJ h with ⟨i,u,rfl,e⟩ | ⟨y,u,rfl,e⟩
  ·exact nomatch e
  ·injection e with e1 _
   subst e1
   cases v <;> rfl
theorem El (prog:Program) (w:World) (i:Int) (t:Tok):(cV prog w).is (.inl i) (.int i t)=true:=IF i t
theorem Ef (prog:Program) (w:World) (x:Str) (t:Tok):(cV prog w).is (.inr x) (.str x t)=true:=JB x t
inductive V where
 | non | bl (b:Bool) | int (i:Int) | str (x:Str) | byt (b:Array UInt8) | flt (b:UInt64) | ref (a:Addr) | ty (n:String)
 deriving DecidableEq
noncomputable def RelV:V->Value->Prop
 | .non,u=>u=Value.none
 | .bl b,u=>u=Value.bool b
 | .int i,u=>∃ t,u=Value.int i t
 | .str x,u=>∃ t,u=Value.str x t
 | .byt b,u=>∃ t,u=Value.bytes b t
 | .flt b,u=>∃ t,u=Value.float b t
 | .ref a,u=>u=Value.ref a
 | .ty n,u=>u=Value.type n
abbrev Vals:List V->List Value->Prop:=Paired RelV
theorem Vals.length {xs:List V} {us:List Value} (r:Vals xs us):xs.length=us.length:=Paired.length r
theorem Vals.get:∀ {xs:List V} {us:List Value} {i:Nat} {x:V},Vals xs us->xs[i]?=some x->∃ u,us[i]?=some u/\RelV x u
 | _,_,_,_,.nil,e=>by simp at e
 | _,_,0,_,.cons r _,e=>by simp at e;subst e;exact ⟨_,rfl,r⟩
 | _,_,i + 1,x,.cons _ t,e=>by
  obtain ⟨u,h1,h2⟩:=Vals.get (i:=i) (x:=x) t (by simpa using e)
  exact ⟨u,by simpa using h1,h2⟩
theorem Vals.set {x:V} {u:Value} (r:RelV x u):∀ {xs:List V} {us:List Value} (i:Nat),Vals xs us->Vals (xs.set i x) (us.set i u)
 | _,_,_,.nil=>.nil
 | _,_,0,.cons _ t=>.cons r t
 | _,_,i + 1,.cons q t=>.cons q (Vals.set r i t)
theorem Vals.append:∀ {xs ys:List V} {us ws:List Value},Vals xs us->Vals ys ws->Vals (xs++ys) (us++ws)
 | _,_,_,_,.nil,s=>s
 | _,_,_,_,.cons r t,s=>.cons r (Vals.append t s)
theorem Vals.take:∀ {xs:List V} {us:List Value} (n:Nat),Vals xs us->Vals (xs.take n) (us.take n)
 | _,_,0,_=>.nil
 | _,_,_ + 1,.nil=>.nil
 | _,_,n + 1,.cons r t=>.cons r (Vals.take n t)
theorem Vals.drop:∀ {xs:List V} {us:List Value} (n:Nat),Vals xs us->Vals (xs.drop n) (us.drop n)
 | _,_,0,r=>r
 | _,_,_ + 1,.nil=>.nil
 | _,_,n + 1,.cons _ t=>Vals.drop n t
def oD:Option V->Option Value->Prop
 | some v,some u=>RelV v u
 | none,none=>True
 | _,_=>False
noncomputable def KV {κ:Type}:List (κ × V)->List (κ × Value)->Prop:=Paired fun (p:κ × V) (q:κ × Value)=>p.1=q.1/\RelV p.2 q.2
noncomputable def kV:Key->V
 | .inl i=>.int i
 | .inr x=>.str x
inductive HO where
  | lst (xs:List V)
  | tup (xs:List V)
  | dK (kvs:List (Key × V)) | dT (kvs:List (List Key × V))
  | set (S:Int->Bool) (n:Nat)
  | ins (C dx:Addr) (fs:List (Str × V))
  | own (x:Addr)
  | xd (fs:List (Str × V))
  | met (f x:Addr)
  | rng (lo hi:Int)
  | frz (o:Obj) (u:HO)
  | tbl (ps:Array Value)
  | ext (φ:Heap->Prop)
abbrev Hp:=Addr->Option HO
def upd (H:Hp) (a:Addr) (o:HO):Hp:=fun b=>if b=a then some o else H b
theorem cK {H:Hp} {a:Addr} {o:HO}:upd H a o a=some o:=by unfold upd;rw [if_pos rfl]
theorem bI {H:Hp} {a b:Addr} {o:HO} (h:b≠a):upd H a o b=H b:=by unfold upd;rw [if_neg h]
theorem Rp {H:Hp} {a b:Addr} {o u:HO} (h:H a=some o) (h':H b=some u) (d:o≠u):a≠b:=by
 intro e;subst e;rw [h] at h';exact d (Option.some.inj h')
theorem cJ {H:Hp} {a b:Addr} {o:HO} (h:H a=some o) (h':H b=none):a≠b:=by
 intro e;subst e;rw [h] at h';cases h'
section
variable (P:Program) (w:World)
noncomputable def dO (H:Hp) (h:Heap) (a:Addr):HO->Prop
 | .lst xs=>xs.length<=sizeLine/\∃ (its:List Value) (n:Nat),Vals xs its/\h.get? a=some { cls:=.type "list",data:=.seq its.toArray n }
 | .tup xs=>xs.length<=sizeLine/\∃ its:List Value,Vals xs its/\IsTup h a its.toArray
 | .dK kvs=>kvs.length<=sizeLine/\(a == sysModules)=false/\∃ vs,KV kvs vs/\h.DictOf (cV P w) a vs
 | .dT kvs=>kvs.length<=sizeLine/\(a == sysModules)=false/\∃ xs:List (List Key × Addr × Value),
   Paired (fun (p:List Key × V) (q:List Key × Addr × Value)=>p.1=q.1/\H q.2.1=some (.tup (p.1.map kV))/\RelV p.2 q.2.2) kvs xs /\
   ∃ o es ep,h.get? a=some o/\o.ExactDict/\o.data=.dict es ep/\es.toList=xs.map (entryOfKey (tupleKind (cV P w)))/\(xs.map (·.1)).Nodup
 | .set S n=>h.SetOf (intKind P w) a S n
 | .ins C dx fs=>H dx=some (.own a)/\fs.length<=1000/\dx≠a/\h.get? a=some (PySem.W.instObj C dx) /\
   ∃ mA,h.Ns1 dx mA/\(∀ f,oD (fs.lookup f) (mA f))/\PySem.Within mA (fs.map (·.1))
 | .own _=>∃ o,h.get? a=some o
 | .xd fs=>∃ mA,h.Ns1 a mA/\∀ f,oD (fs.lookup f) (mA f)
 | .rng lo hi=>∃ t u v,h.get? a=some { cls:=.type "range",data:=.fields #[.int lo t,.int hi u,.int 1 v] }
 | .frz o u=>h.get? a=some o/\dO H h a u
 | .tbl ps=>h.get? a=some { cls:=.none,data:=.fields ps }
 | .met f x=>h.get? a=some (PySem.W.methodObj (.ref f) (.ref x))
 | .ext φ=>φ h/\(∃ o,h.get? a=some o)/\∀ h1 h2:Heap,φ h1->(∀ o,h1.get? a=some o->h2.get? a=some o)->φ h2
noncomputable def gW (H:Hp) (h:Heap):Prop:=∀ a o,H a=some o->dO P w H h a o
end
section
variable {P:Program} {w:World} {H H':Hp} {h h':Heap} {a:Addr} {o:HO}
theorem dO.lt (x:dO P w H h a o):a < h.objs.size:=by
 cases o with
 | lst xs=>obtain ⟨_,_,_,_,e⟩:=x;exact Heap.lt_size e
 | tup xs=>obtain ⟨_,_,_,p⟩:=x;exact p.lt
 | dK kvs=>obtain ⟨_,_,_,_,o,_,_,e,_⟩:=x;exact Heap.lt_size e
 | dT kvs=>obtain ⟨_,_,_,_,o,_,_,e,_⟩:=x;exact Heap.lt_size e
 | set S n=>obtain ⟨o,_,_,_,e,_⟩:=x;exact Heap.lt_size e
 | ins C dx fs=>obtain ⟨_,_,_,e,_⟩:=x;exact Heap.lt_size e
 | own y=>obtain ⟨_,e⟩:=x;exact Heap.lt_size e
 | xd fs=>obtain ⟨_,⟨_,_,_,e,_⟩,_⟩:=x;exact Heap.lt_size e
 | rng lo hi=>obtain ⟨_,_,_,e⟩:=x;exact Heap.lt_size e
 | frz ob u=>obtain ⟨e,_⟩:=x;exact Heap.lt_size e
 | tbl ps=>exact Heap.lt_size (show h.get? a=some _ from x)
 | met f y=>exact Heap.lt_size (show h.get? a=some _ from x)
 | ext φ=>obtain ⟨_,⟨_,e⟩,_⟩:=x;exact Heap.lt_size e
theorem Paired.mapP {α β:Type} {F G:α->β->Prop}:∀ {l₁:List α} {l₂:List β},Paired F l₁ l₂->(∀ a b,F a b->G a b)->Paired G l₁ l₂
 | _,_,.nil,_=>.nil
 | _,_,.cons r t,f=>.cons (f _ _ r) (Paired.mapP t f)
theorem dO.stay (x:dO P w H h a o) (k:∀ b u,(b=a\/H b=some (.own a))->h.get? b=some u->h'.get? b=some u)
  (ho:∀ b,H b=some (.own a)->H' b=some (.own a)) (ht:∀ b xs,H b=some (.tup xs)->H' b=some (.tup xs)):dO P w H' h' a o:=by
 induction o with
 | lst xs=>obtain ⟨z,its,n,r,e⟩:=x;exact ⟨z,its,n,r,k _ _ (.inl rfl) e⟩
 | tup xs=>obtain ⟨z,its,r,ob,e,c⟩:=x;exact ⟨z,its,r,ob,k _ _ (.inl rfl) e,c⟩
 | dK kvs=>obtain ⟨z,y,vs,r,ob,es,ep,e,c⟩:=x;exact ⟨z,y,vs,r,ob,es,ep,k _ _ (.inl rfl) e,c⟩
 | dT kvs =>
  obtain ⟨z,y,xs,r,ob,es,ep,e,c⟩:=x
  exact ⟨z,y,xs,Paired.mapP r fun p q z=>⟨z.1,ht _ _ z.2.1,z.2.2⟩,ob,es,ep,k _ _ (.inl rfl) e,c⟩
 | set S n=>obtain ⟨ob,es,ep,t,e,c⟩:=x;exact ⟨ob,es,ep,t,k _ _ (.inl rfl) e,c⟩
 | ins C dx fs =>
  obtain ⟨d,z,ne,e,mA,⟨od,es,ep,e2,c⟩,r⟩:=x
  exact ⟨ho _ d,z,ne,k _ _ (.inl rfl) e,mA,⟨od,es,ep,k _ _ (.inr d) e2,c⟩,r⟩
 | own y=>obtain ⟨ob,e⟩:=x;exact ⟨ob,k _ _ (.inl rfl) e⟩
 | xd fs=>obtain ⟨mA,⟨od,es,ep,e,c⟩,r⟩:=x;exact ⟨mA,⟨od,es,ep,k _ _ (.inl rfl) e,c⟩,r⟩
 | rng lo hi=>obtain ⟨t,u,v,e⟩:=x;exact ⟨t,u,v,k _ _ (.inl rfl) e⟩
 | frz ob u ih=>obtain ⟨e,q⟩:=x;exact ⟨k _ _ (.inl rfl) e,ih q⟩
 | tbl ps =>
  have e:h.get? a=some { cls:=.none,data:=.fields ps }:=x
  show h'.get? a=some { cls:=.none,data:=.fields ps }
  exact k a _ (.inl rfl) e
 | met f y =>
  have e:h.get? a=some (PySem.W.methodObj (.ref f) (.ref y)):=x
  show h'.get? a=some (PySem.W.methodObj (.ref f) (.ref y))
  exact k a _ (.inl rfl) e
 | ext φ=>obtain ⟨p,⟨o,e⟩,st⟩:=x;exact ⟨st _ _ p fun o q=>k _ _ (.inl rfl) q,⟨o,k _ _ (.inl rfl) e⟩,st⟩
theorem gW.lt (x:gW P w H h) (e:H a=some o):a < h.objs.size:=(x a o e).lt
theorem gW.fresh (x:gW P w H h) (e:h.objs.size<=a):H a=none:=by
 cases q:H a with
 | none=>rfl
 | some u=>exact absurd (Nat.lt_of_lt_of_le (x.lt q) e) (Nat.lt_irrefl _)
theorem gW.kept (x:gW P w H h) (k:∀ b u,h.get? b=some u->h'.get? b=some u):gW P w H h':=fun a o e =>
 (x a o e).stay (fun b u _ q=>k b u q) (fun _ q=>q) fun _ _ q=>q
theorem gW.laid (x:gW P w H h) (k:∀ b u,h.get? b=some u->h'.get? b=some u) (hp:h.objs.size<=a) (new:dO P w (upd H a o) h' a o):gW P w (upd H a o) h':=fun b u e=>by
 have hn:=x.fresh hp
 by_cases hb:b=a
 ·subst hb;rw [cK] at e;cases e;exact new
 ·rw [bI hb] at e
  exact (x b u e).stay (fun c v _ q=>k c v q) (fun c q=>by rw [bI (cJ q hn)];exact q) fun c xs q=>by rw [bI (cJ q hn)];exact q
end
noncomputable def Rd (H:Hp) (a:Addr) (u:HO):Prop:=H a=some u\/∃ o,H a=some (.frz o u)
theorem Rd.ok {P:Program} {w:World} {H:Hp} {h:Heap} {a:Addr} {u:HO} (r:Rd H a u) (x:gW P w H h):dO P w H h a u:=by
 rcases r with r | ⟨o,r⟩
 ·exact x a u r
 ·obtain ⟨_,q⟩:=x a _ r
  exact q
noncomputable def HM:Option HO->Prop
 | some (.lst _)=>True
 | some (.dK _)=>True
 | some (.dT _)=>True
 | some (.set _ _)=>True
 | some (.ins _ _ _)=>True
 | some (.ext _)=>True
 | _=>False
section
variable {P:Program} {w:World} {H:Hp} {h h':Heap} {x e:Addr} {o':HO}
theorem gW.write (ok:gW P w H h) (mu:HM (H x)) (he:e=x\/H e=some (.own x)) (k:∀ b u,b≠e->h.get? b=some u->h'.get? b=some u) (heo:∃ u,h'.get? e=some u)
  (new:dO P w (upd H x o') h' x o'):gW P w (upd H x o') h':=fun b u q=>by
 have nown:∀ c y,H c=some (.own y)->c≠x:=fun c y r z=>by subst z;rw [r] at mu;exact mu
 have ntup:∀ c xs,H c=some (.tup xs)->c≠x:=fun c xs r z=>by subst z;rw [r] at mu;exact mu
 by_cases hb:b=x
 ·subst hb;rw [cK] at q;cases q;exact new
 ·rw [bI hb] at q
  by_cases hbe:b=e
  ·have q':H b=some (.own x):=by
    rcases he with z | z
    ·exact absurd (hbe.trans z) hb
    ·rw [hbe];exact z
   rw [q] at q';cases q'
   obtain ⟨v,hv⟩:=heo
   exact ⟨v,by rw [hbe];exact hv⟩
  ·refine (ok b u q).stay (fun c v hc r=>k c v ?_ r) (fun c r=>by rw [bI (nown c b r)];exact r) fun c xs r=>by rw [bI (ntup c xs r)];exact r
   rcases hc with rfl | hc
   ·exact hbe
   ·rintro rfl
    rcases he with z | z
    ·exact nown c b hc z
    ·rw [hc] at z;cases z;exact hb rfl
end
structure Un (fs ex:List Addr) (H H':Hp) (h h':Heap):Prop where
 keep:∀ b o,h.get? b=some o->H b=none->b ∉ fs->b ∉ ex->h'.get? b=some o
 slot:∀ b o,h.get? b=some o->H b=none->b∈fs->b ∉ ex->∃ sl,h'.get? b=some { o with slots:=sl }
 free:∀ b o,h.get? b=some o->H b=none->b ∉ ex->H' b=none
 there:∀ b o,h.get? b=some o->b ∉ ex->∃ o',h'.get? b=some o'
 tups:∀ b xs,H b=some (.tup xs)->H' b=some (.tup xs)
 frzs:∀ b o u,H b=some (.frz o u)->H' b=some (.frz o u)
 tbls:∀ b ps,H b=some (.tbl ps)->∃ more,H' b=some (.tbl (ps++more))
section
variable {fs fs' ex ex':List Addr} {H H1 H2:Hp} {h h1 h2 h':Heap} {a x e:Addr} {o:HO}
theorem Un.any (u:Un fs ex H H1 h h1) {b:Addr} {ob:Obj} (q:h.get? b=some ob) (n:H b=none) (hx:b ∉ ex):∃ sl,h1.get? b=some { ob with slots:=sl }:=by
 by_cases hb:b∈fs
 ·exact u.slot b ob q n hb hx
 ·exact ⟨ob.slots,u.keep b ob q n hb hx⟩
theorem Un.kept (k:∀ b u,h.get? b=some u->h'.get? b=some u):Un fs ex H H h h' :=
 ⟨fun b ob q _ _ _=>k b ob q,fun b ob q _ _ _=>⟨ob.slots,k b ob q⟩,fun _ _ _ n _=>n,fun b ob q _=>⟨ob,k b ob q⟩,fun _ _ q=>q,fun _ _ _ q=>q,fun _ ps q=>⟨#[],by rw [q];simp⟩⟩
theorem Un.refl:Un fs ex H H h h:=Un.kept fun _ _ q=>q
theorem Un.laid (k:∀ b u,h.get? b=some u->h'.get? b=some u) (hp:h.objs.size<=a) (hn:H a=none):Un fs ex H (upd H a o) h h' where
 keep:=fun b u q _ _ _=>k b u q
 slot:=fun b u q _ _ _=>⟨u.slots,k b u q⟩
 free:=fun b u q n _=>by rw [bI (Nat.ne_of_lt (Nat.lt_of_lt_of_le (Heap.lt_size q) hp))];exact n
 there:=fun b u q _=>⟨u,k b u q⟩
 tups:=fun b xs q=>by rw [bI (cJ q hn)];exact q
 frzs:=fun b u xs q=>by rw [bI (cJ q hn)];exact q
 tbls:=fun b ps q=>⟨#[],by rw [bI (cJ q hn),q];simp⟩
theorem Un.write (mu:HM (H x)) (he:e=x\/H e=some (.own x)) (k:∀ b u,b≠e->h.get? b=some u->h'.get? b=some u) (heo:∃ u,h'.get? e=some u):Un fs ex H (upd H x o) h h':=by
 have hx:∀ b,H b=none->b≠x:=fun b n z=>by subst z;rw [n] at mu;exact mu
 have hb:∀ b,H b=none->b≠e:=fun b n z=>by
  subst z
  rcases he with r | r
  ·exact hx b n r
  ·rw [n] at r;cases r
 have hm:∀ b u,H b=some u->¬ HM (some u)->b≠x:=fun b u q nm z=>by subst z;rw [q] at mu;exact nm mu
 refine ⟨fun b u q n _ _=>k b u (hb b n) q,fun b u q n _ _=>⟨u.slots,k b u (hb b n) q⟩,fun b u q n _=>by rw [bI (hx b n)];exact n,fun b u q _=>?_,
  fun b xs q=>by rw [bI (hm b _ q fun z=>z)];exact q,fun b u xs q=>by rw [bI (hm b _ q fun z=>z)];exact q,fun b ps q=>⟨#[],by rw [bI (hm b _ q fun z=>z),q];simp⟩⟩
 by_cases hbe:b=e
 ·subst hbe;exact heo
 ·exact ⟨u,k b u hbe q⟩
end
noncomputable def MK (h:Heap) (H:Hp):List Addr:=(List.range h.objs.size).filter fun a=>(H a).isSome
def sS (h:Heap) (H:Hp):Heap:=PySem.W.hideAll h (MK h H)
theorem Jx (h:Heap) (H:Hp):(sS h H).objs.size=h.objs.size:=PySem.W.hideAll_size _ _
theorem LZ {h:Heap} {H:Hp} {b:Addr} {o:Obj} (e:h.get? b=some o) (n:H b=none):(sS h H).get? b=some o :=
 PySem.W.hideAll_get _ e fun hm=>by
  have q:(H b).isSome=true:=(List.mem_filter.mp hm).2
  rw [n] at q;simp at q
theorem NI {h:Heap} {H:Hp} {b:Addr} {o:Obj} (e:(sS h H).get? b=some o):h.get? b=some o/\H b=none:=by
 have e':h.get? b=some o:=PySem.W.of_hideAll (MK h H) e
 refine ⟨e',?_⟩
 cases q:H b with
 | none=>rfl
 | some x =>
  have hm:b∈MK h H:=List.mem_filter.mpr ⟨List.mem_range.mpr (Heap.lt_size e'),by simp [q]⟩
  have z:(sS h H).get? b=none:=PySem.W.hideAll_none (MK h H) hm
  rw [z] at e;cases e
structure Mod (K:PySem.W.Frag) (mg:Str->Option Value) (base:Heap):Prop where
 kin:K.In base
 glob:base.Ns mainGlobals mg
 blt:∃ mb,base.Ns builtinsNs mb/\∀ x:Str,x≠"__name__"->mb x=bootBuiltins x
 nolimit:base.NoLimit
structure Cx where
 prog:Program
 w:World
 K:PySem.W.Frag
 mg:Str->Option Value
 base:Heap
 A:Around
 N:List Str
 s₀:Shared
 H₀:Hp
 env:Env
 outer:List Env
 stack:List Env
 ex:List Addr
 fn:Str->Bool
 calm:Bool
 pn:List (Addr × Obj)
 xe:Value->Shared->Prop
def rT (l:List Env):List Addr:=l.filterMap (·.frame)
abbrev Cx.fs (X:Cx):List Addr:=rT X.outer
noncomputable def JI (sc:Scope) (x:Str):Prop:=sc.names.lookup x=some .local\/sc.names.lookup x=some .cell\/sc.names.lookup x=some .free
noncomputable def Loc (sc:Scope) (x:Str):Prop:=sc.names.lookup x=some .local\/sc.names.lookup x=some .cell
noncomputable def Look (env:Env) (h:Heap) (m:Str->Option Value) (x:Str) (u:Value):Prop :=
 (env.kindOf x=some .local/\m x=some u)\/((env.kindOf x=some .cell\/env.kindOf x=some .free)/\∃ c,env.cells.lookup x=some c/\h.IsCell c (some u))
structure Cx.Ok (X:Cx):Prop where
 mod:Mod X.K X.mg X.base
 kind:X.env.scope.kind=.function
 glob:X.env.globals=mainGlobals
 blt:X.env.builtins=builtinsNs
 above:X.s₀.heap.objs.size<=X.env.locals
 inj:∀ x y c,X.env.cells.lookup x=some c->X.env.cells.lookup y=some c->x=y
 has:∀ x,(X.env.kindOf x=some .cell\/X.env.kindOf x=some .free)->∃ c,X.env.cells.lookup x=some c
 cab:∀ x c,X.fn x=true->X.env.cells.lookup x=some c->X.s₀.heap.objs.size<=c
 hd:X.calm=true->X.A.handled=none
 frames:X.A.frames=some X.stack
 stk:X.stack=X.outer\/(X.stack=X.env :: X.outer/\X.env.frame=some X.env.locals)
 exf:∀ b∈X.ex,b≠X.env.locals/\∀ x c,X.env.cells.lookup x=some c->c≠b
 bs:∀ b o,X.base.get? b=some o->X.s₀.heap.get? b=some o/\X.H₀ b=none
 bsz:X.base.objs.size<=X.s₀.heap.objs.size
 noex:∀ b o,X.base.get? b=some o->b ∉ X.ex
 exfs:∀ b∈X.ex,b ∉ X.fs
 funs:X.s₀.heap.FunFrames X.base X.outer
 frf:∀ b∈X.fs,X.H₀ b=none
structure Inv (X:Cx) (pins:List (Addr × Obj)) (σ:List (Option V)) (H:Hp) (s:Shared):Prop where
 ok:X.Ok
 os:s.os=X.s₀.os
 bare:AllBare s.gens
 base:Un X.fs X.ex X.H₀ H X.s₀.heap s.heap
 loc:∃ m,s.heap.Ns X.env.locals m/\∀ (i:Nat) (x:Str) (v:V),X.N[i]?=some x->σ[i]?=some (some v)->JI X.env.scope x->∃ u,RelV v u/\Look X.env s.heap m x u
 cell:∀ x c,X.env.cells.lookup x=some c->∃ v,s.heap.IsCell c v
 free:H X.env.locals=none
 freeC:∀ x c,X.env.cells.lookup x=some c->H c=none
 pin:∀ p∈X.pn++pins,s.heap.get? p.1=some p.2/\H p.1=none/\p.1≠X.env.locals/\p.1 ∉ X.fs/\∀ v,p.2.data≠.cell v
 hok:gW X.prog X.w H s.heap
 len:σ.length=X.N.length
section
variable {X:Cx} {pins:List (Addr × Obj)} {σ:List (Option V)} {H H':Hp} {s:Shared} {h':Heap}
theorem Cx.Ok.nofr (ok:X.Ok) {b:Addr} {o:Obj} (e:X.base.get? b=some o):b ∉ X.fs:=fun hb=>by
 have:=(ok.funs.mem hb).1
 rw [e] at this;cases this
theorem Inv.bs (I:Inv X pins σ H s):∀ b o,X.base.get? b=some o->s.heap.get? b=some o/\H b=none:=fun b o e =>
 ⟨I.base.keep b o (I.ok.bs b o e).1 (I.ok.bs b o e).2 (I.ok.nofr e) (I.ok.noex b o e),I.base.free b o (I.ok.bs b o e).1 (I.ok.bs b o e).2 (I.ok.noex b o e)⟩
theorem Inv.bk (I:Inv X pins σ H s):∀ b o,X.base.get? b=some o->s.heap.get? b=some o:=fun b o e=>(I.bs b o e).1
theorem Inv.mod (I:Inv X pins σ H s):Mod X.K X.mg X.base:=I.ok.mod
theorem Inv.kIn (I:Inv X pins σ H s):X.K.In s.heap:=I.ok.mod.kin.keeps I.bk
theorem Inv.fr (I:Inv X pins σ H s):∃ m,Fr X.base X.env.locals s.heap m :=
 let ⟨m,hn,_⟩:=I.loc
 ⟨m,hn,I.bk,Nat.le_trans I.ok.bsz I.ok.above⟩
theorem Inv.lt (I:Inv X pins σ H s):X.env.locals < s.heap.objs.size:=let ⟨_,hn,_⟩:=I.loc;hn.lt
theorem Inv.sz (I:Inv X pins σ H s):X.s₀.heap.objs.size<=s.heap.objs.size:=Nat.le_trans I.ok.above (Nat.le_of_lt I.lt)
theorem Inv.nofs (I:Inv X pins σ H s) {a:Addr} (h:s.heap.objs.size<=a):a ∉ X.fs:=fun hb=>by
 obtain ⟨_,o,ho,_⟩:=I.ok.funs.mem hb
 exact absurd (Nat.lt_of_lt_of_le (Heap.lt_size ho) (Nat.le_trans I.sz h)) (Nat.lt_irrefl _)
theorem Inv.cne (I:Inv X pins σ H s):∀ x c,X.env.cells.lookup x=some c->c≠X.env.locals:=fun x c e z=>by
 obtain ⟨v,o,ho,hd⟩:=I.cell x c e
 obtain ⟨m,⟨o',es,ep,ho',hd',_⟩,_⟩:=I.loc
 rw [z,ho'] at ho;cases ho;rw [hd'] at hd;cases hd
theorem Inv.funs (I:Inv X pins σ H s):s.heap.FunFrames X.base X.outer:=by
 have all:∀ (l:List Env),(∀ b∈rT l,b∈X.fs)->X.s₀.heap.FunFrames X.base l->s.heap.FunFrames X.base l:=by
  intro l
  induction l with
  | nil=>intro _ _;trivial
  | cons env r ih =>
   intro hs hl
   obtain ⟨hk,⟨L,o,hf,hn,ho,hd⟩,hr⟩:=hl
   have hL:L∈X.fs:=hs L (by unfold rT;rw [List.filterMap_cons,hf];exact List.mem_cons_self)
   obtain ⟨sl,e⟩:=I.base.slot L o ho (I.ok.frf L hL) hL fun z=>I.ok.exfs L z hL
   exact ⟨hk,⟨L,_,hf,hn,e,hd⟩,ih (fun b hb=>hs b (by unfold rT;rw [List.filterMap_cons,hf];exact List.mem_cons_of_mem _ hb)) hr⟩
 exact all X.outer (fun _ hb=>hb) I.ok.funs
theorem Inv.stack (I:Inv X pins σ H s):s.heap.FunFrames X.base X.stack:=by
 rcases I.ok.stk with e | ⟨e,hf⟩
 ·rw [e];exact I.funs
 ·rw [e]
  obtain ⟨m,hn,_⟩:=I.loc
  refine .cons (by rw [I.ok.kind];decide) hf hn ?_ I.funs
  exact Heap.get?_none_of_le (Nat.le_trans I.ok.bsz I.ok.above)
theorem Inv.stkSub (I:Inv X pins σ H s):∀ b∈rT X.stack,b∈X.env.locals :: X.fs:=fun b hb=>by
 rcases I.ok.stk with e | ⟨e,hf⟩
 ·rw [e] at hb;exact List.mem_cons_of_mem _ hb
 ·rw [e] at hb
  unfold rT at hb
  rw [List.filterMap_cons,hf] at hb
  exact hb
theorem Inv.stkFree (I:Inv X pins σ H s):∀ b∈rT X.stack,H b=none:=fun b hb=>by
 rcases List.mem_cons.mp (I.stkSub b hb) with e | hb
 ·rw [e];exact I.free
 ·obtain ⟨_,o,ho,_⟩:=I.ok.funs.mem hb
  exact I.base.free b o ho (I.ok.frf b hb) fun z=>I.ok.exfs b z hb
theorem Inv.step {g':Array GenState} {t':Nat} {d':Drawn} {ch:List Addr} (I:Inv X pins σ H s)
  (hch:∀ b∈ch,(b∈X.ex\/X.s₀.heap.objs.size<=b)/\b≠X.env.locals/\(∀ x c,X.env.cells.lookup x=some c->c≠b)/\∀ p∈X.pn++pins,p.1≠b)
  (keep:∀ b o,b≠X.env.locals->b ∉ X.fs->b ∉ ch->s.heap.get? b=some o->H b=none->h'.get? b=some o)
  (slot:∀ b o,b≠X.env.locals->b∈X.fs->b ∉ ch->s.heap.get? b=some o->H b=none->∃ sl,h'.get? b=some { o with slots:=sl }) (free:∀ b o,b ∉ ch->s.heap.get? b=some o->H b=none->H' b=none)
  (there:∀ b o,b ∉ ch->s.heap.get? b=some o->∃ o',h'.get? b=some o')
  (tups:∀ b xs,H b=some (.tup xs)->H' b=some (.tup xs)) (frzs:∀ b o u,H b=some (.frz o u)->H' b=some (.frz o u)) (tbls:∀ b ps,H b=some (.tbl ps)->∃ more,H' b=some (.tbl (ps++more)))
  (ns:∀ m,s.heap.Ns X.env.locals m->h'.Ns X.env.locals m) (hok:gW X.prog X.w H' h') (hg:AllBare g') :
  Inv X pins σ H' { s with heap:=h',gens:=g',drawn:=d',toks:=t' }:=by
 have neL:∀ b o,X.s₀.heap.get? b=some o->b≠X.env.locals:=fun b o e=>Nat.ne_of_lt (Nat.lt_of_lt_of_le (Heap.lt_size e) I.ok.above)
 have neC:∀ b o,X.s₀.heap.get? b=some o->b ∉ X.ex->b ∉ ch:=fun b o e hx hb=>by
  rcases (hch b hb).1 with z | z
  ·exact hx z
  ·exact absurd (Nat.lt_of_lt_of_le (Heap.lt_size e) z) (Nat.lt_irrefl _)
 have cellK:∀ x c,X.env.cells.lookup x=some c->∀ v,s.heap.IsCell c v->h'.IsCell c v:=fun x c e v ⟨o,ho,hd⟩=>by
  have nch:c ∉ ch:=fun z=>(hch c z).2.2.1 x c e rfl
  by_cases hc:c∈X.fs
  ·obtain ⟨sl,q⟩:=slot c o (I.cne x c e) hc nch ho (I.freeC x c e)
   exact ⟨_,q,hd⟩
  ·exact ⟨o,keep c o (I.cne x c e) hc nch ho (I.freeC x c e),hd⟩
 refine ⟨I.ok,I.os,hg,⟨fun b o e n hb hx=>?_,fun b o e n hb hx=>?_,fun b o e n hx=>?_,fun b o e hx=>?_,fun b xs e=>tups b xs (I.base.tups b xs e),fun b o xs e=>frzs b o xs (I.base.frzs b o xs e),fun b ps e=>?_⟩,?_,fun x c e=>?_,?_,fun x c e=>?_,fun p hp=>?_,hok,I.len⟩
 ·exact keep b o (neL b o e) hb (neC b o e hx) (I.base.keep b o e n hb hx) (I.base.free b o e n hx)
 ·obtain ⟨sl,e1⟩:=I.base.slot b o e n hb hx
  obtain ⟨sl',e2⟩:=slot b _ (neL b o e) hb (neC b o e hx) e1 (I.base.free b o e n hx)
  exact ⟨sl',e2⟩
 ·obtain ⟨o',e1⟩:=I.base.there b o e hx
  exact free b o' (neC b o e hx) e1 (I.base.free b o e n hx)
 ·obtain ⟨o',e1⟩:=I.base.there b o e hx
  exact there b o' (neC b o e hx) e1
 ·obtain ⟨m1,e1⟩:=I.base.tbls b ps e
  obtain ⟨m2,e2⟩:=tbls b _ e1
  exact ⟨m1++m2,by rw [e2,Array.append_assoc]⟩
 ·obtain ⟨m,hn,hl⟩:=I.loc
  refine ⟨m,ns m hn,fun i x v e1 e2 e3=>?_⟩
  obtain ⟨u,r,l⟩:=hl i x v e1 e2 e3
  refine ⟨u,r,?_⟩
  rcases l with l | ⟨k,c,e,z⟩
  ·exact .inl l
  ·exact .inr ⟨k,c,e,cellK x c e _ z⟩
 ·obtain ⟨v,z⟩:=I.cell x c e
  exact ⟨v,cellK x c e v z⟩
 ·obtain ⟨m,⟨o,_,_,ho,_⟩,_⟩:=I.loc
  exact free _ o (fun z=>(hch _ z).2.1 rfl) ho I.free
 ·obtain ⟨v,o,ho,hd⟩:=I.cell x c e
  exact free c o (fun z=>(hch c z).2.2.1 x c e rfl) ho (I.freeC x c e)
 ·obtain ⟨e,n,ne,nf,d⟩:=I.pin p hp
  have nch:p.1 ∉ ch:=fun z=>(hch p.1 z).2.2.2 p hp rfl
  exact ⟨keep p.1 p.2 ne nf nch e n,free p.1 p.2 nch e n,ne,nf,d⟩
theorem Inv.un {t':Nat} (I:Inv X pins σ H s) (u:Un X.fs [] H H' s.heap h') (hok:gW X.prog X.w H' h'):Inv X pins σ H' { s with heap:=h',toks:=t' }:=by
 obtain ⟨m,⟨o,es,ep,ho,r⟩,_⟩:=id I.loc
 obtain ⟨sl,hL⟩:=u.any ho I.free (by simp)
 exact I.step (g':=s.gens) (d':=s.drawn) (ch:=[]) (fun _ z=>nomatch z) (fun b o _ hb _ e n=>u.keep b o e n hb (by simp)) (fun b o _ hb _ e n=>u.slot b o e n hb (by simp)) (fun b o _ e n=>u.free b o e n (by simp)) (fun b o _ e=>u.there b o e (by simp)) u.tups u.frzs u.tbls (fun m' hm=>by
  obtain ⟨o',es',ep',ho',r'⟩:=hm
  rw [ho] at ho';cases ho'
  exact ⟨_,es',ep',hL,r'⟩) hok I.bare
theorem Inv.call {g':Array GenState} {t':Nat} {d':Drawn} {ch:List Addr} (I:Inv X pins σ H s) (u:Un (rT X.stack) ch H H' s.heap h') (hok:gW X.prog X.w H' h') (hg:AllBare g')
  (hch:∀ b∈ch,(b∈X.ex\/X.s₀.heap.objs.size<=b)/\b≠X.env.locals/\(∀ x c,X.env.cells.lookup x=some c->c≠b)/\∀ p∈X.pn++pins,p.1≠b) :
  Inv X pins σ H' { s with heap:=h',gens:=g',drawn:=d',toks:=t' }:=by
 obtain ⟨m,⟨o,es,ep,ho,r⟩,_⟩:=id I.loc
 obtain ⟨sl,hL⟩:=u.any ho I.free fun z=>(hch _ z).2.1 rfl
 exact I.step (ch:=ch) hch (fun b o hL hb hc e n=>u.keep b o e n (fun z=>(List.mem_cons.mp (I.stkSub b z)).elim hL hb) hc) (fun b o _ _ hc e n=>u.any e n hc) (fun b o hc e n=>u.free b o e n hc) (fun b o hc e=>u.there b o e hc) u.tups u.frzs u.tbls (fun m' hm=>by
  obtain ⟨o',es',ep',ho',r'⟩:=hm
  rw [ho] at ho';cases ho'
  exact ⟨_,es',ep',hL,r'⟩) hok hg
theorem Inv.turned {t':Nat} {it:Addr} (I:Inv X pins σ H s) (k:∀ b o,b≠it->s.heap.get? b=some o->h'.get? b=some o) (hn:H it=none) (hL:it≠X.env.locals)
  (h1:it∈X.ex\/X.s₀.heap.objs.size<=it) (h2:∀ x c,X.env.cells.lookup x=some c->c≠it) (h3:∀ p∈X.pn++pins,p.1≠it):Inv X pins σ H { s with heap:=h',toks:=t' }:=by
 have nit:∀ b u,H b=some u->b≠it:=fun b u e z=>by rw [z,hn] at e;cases e
 refine I.step (g':=s.gens) (d':=s.drawn) (ch:=[it]) (fun b hb=>?_) (fun b o _ _ hc e _=>k b o (fun z=>hc (by simp [z])) e) (fun b o _ _ hc e _=>⟨o.slots,k b o (fun z=>hc (by simp [z])) e⟩) (fun _ _ _ _ n=>n)
  (fun b o hc e=>⟨o,k b o (fun z=>hc (by simp [z])) e⟩) (fun _ _ e=>e) (fun _ _ _ e=>e) (fun b ps e=>⟨#[],by rw [e];simp⟩) (fun m hm=>?_) (fun b u e=>?_) I.bare
 ·have e:b=it:=by simpa using hb
  subst e
  exact ⟨h1,hL,h2,h3⟩
 ·obtain ⟨o,es,ep,ho,r⟩:=hm
  exact ⟨o,es,ep,k _ o (Ne.symm hL) ho,r⟩
 ·refine (I.hok b u e).stay (fun c v hc q=>k c v ?_ q) (fun _ q=>q) fun _ _ q=>q
  rcases hc with z | z
  ·rw [z];exact nit b u e
  ·exact nit c _ z
theorem Inv.tok (I:Inv X pins σ H s) (t:Nat):Inv X pins σ H { s with toks:=t }:=I.un (h':=s.heap) (t':=t) Un.refl I.hok
theorem Inv.kept {t':Nat} (I:Inv X pins σ H s) (k:∀ b u,s.heap.get? b=some u->h'.get? b=some u):Inv X pins σ H { s with heap:=h',toks:=t' }:=I.un (Un.kept k) (I.hok.kept k)
theorem Inv.laid {a:Addr} {o:HO} {t':Nat} (I:Inv X pins σ H s) (k:∀ b u,s.heap.get? b=some u->h'.get? b=some u) (hp:s.heap.objs.size<=a) (new:dO X.prog X.w (upd H a o) h' a o) :
  Inv X pins σ (upd H a o) { s with heap:=h',toks:=t' }:=I.un (Un.laid k hp (I.hok.fresh hp)) (I.hok.laid k hp new)
theorem Inv.write {x e:Addr} {o:HO} {t':Nat} (I:Inv X pins σ H s) (mu:HM (H x)) (he:e=x\/H e=some (.own x)) (k:∀ b u,b≠e->s.heap.get? b=some u->h'.get? b=some u) (heo:∃ u,h'.get? e=some u)
  (new:dO X.prog X.w (upd H x o) h' x o):Inv X pins σ (upd H x o) { s with heap:=h',toks:=t' }:=I.un (Un.write mu he k heo) (I.hok.write mu he k heo new)
theorem Inv.weak {σ':List (Option V)} (I:Inv X pins σ H s) (hl:σ'.length=σ.length) (w:∀ (i:Nat) v,σ'[i]?=some (some v)->σ[i]?=some (some v)):Inv X pins σ' H s :=
 ⟨I.ok,I.os,I.bare,I.base,let ⟨m,hn,hl'⟩:=I.loc;⟨m,hn,fun i x v e1 e2 e3=>hl' i x v e1 (w i v e2) e3⟩,I.cell,I.free,I.freeC,I.pin,I.hok,hl.trans I.len⟩
theorem Inv.pins_of {pins':List (Addr × Obj)} (I:Inv X pins σ H s) (h:∀ p∈pins',s.heap.get? p.1=some p.2/\H p.1=none/\p.1≠X.env.locals/\p.1 ∉ X.fs/\∀ v,p.2.data≠.cell v):Inv X pins' σ H s :=
 ⟨I.ok,I.os,I.bare,I.base,I.loc,I.cell,I.free,I.freeC,fun p hp=>(List.mem_append.mp hp).elim (fun z=>I.pin p (List.mem_append_left _ z)) (h p),I.hok,I.len⟩
theorem Cy {N:List Str} (hN:N.Nodup) {i j:Nat} {x:Str} (a:N[i]?=some x) (b:N[j]?=some x):i=j:=by
 obtain ⟨h1,e1⟩:=List.getElem?_eq_some_iff.mp a
 obtain ⟨h2,e2⟩:=List.getElem?_eq_some_iff.mp b
 exact (List.getElem_inj hN).mp (e1.trans e2.symm)
theorem BG {M:Model} {A:Around} {E:Value->Shared->Prop} {i:Nat} {x:Str} {v:V} {u:Value} {Q:Unit->Shared->Prop} (I:Inv X pins σ H s) (hN:X.N.Nodup) (hi:X.N[i]?=some x) (hx:Loc X.env.scope x) (r:RelV v u)
  (h:∀ s',Inv X pins (σ.set i (some v)) H s'->(∃ a,Heap.SameBut a s.heap s'.heap/\(a=X.env.locals\/X.env.cells.lookup x=some a))->Q () s') (hf:X.fn x=true\/X.env.scope.names.lookup x=some .local:=by first | exact .inl rfl | exact .inr rfl | assumption):wpAny M A (storeName X.env x u) Q E s:=by
 obtain ⟨m,hn,hl⟩:=id I.loc
 have hcls:(X.env.scope.kind == .class || (X.env.scope.kind == .module && X.env.locals != X.env.globals))=false:=by rw [I.ok.kind];rfl
 have hiσ:i < σ.length:=by rw [I.len];exact (List.getElem?_eq_some_iff.mp hi).1
 have cne:=I.cne
 have tracked:∀ {a:Addr} {h':Heap},(∃ o,s.heap.get? a=some o/\H a=none)->Heap.SameBut a s.heap h'->gW X.prog X.w H h':=fun {a h'} ha hs b ob e=>by
  obtain ⟨_,_,hfree⟩:=ha
  refine (I.hok b ob e).stay (fun c w' hc q=>(hs.2 c ?_).trans q) (fun _ q=>q) fun _ _ q=>q
  rintro rfl
  rcases hc with rfl | hc
  ·rw [hfree] at e;cases e
  ·rw [hfree] at hc;cases hc
 rcases hx with hk | hk
 ·refine wpAny_storeName_local hk hn (fun h' hn' hs=>?_) hcls
  obtain ⟨oL,_,_,hoL,_⟩:=id hn
  refine h _ ⟨I.ok,I.os,I.bare,⟨fun b o e n hb hx=>?_,fun b o e n hb hx=>?_,I.base.free,fun b o e hx=>?_,I.base.tups,I.base.frzs,I.base.tbls⟩,⟨_,hn',fun j y v' e1 e2 e3=>?_⟩,fun y c e=>?_,I.free,I.freeC,fun p hp=>?_,tracked ⟨oL,hoL,I.free⟩ hs,by simpa using I.len⟩ ⟨_,hs,.inl rfl⟩
  ·exact (hs.2 b (Nat.ne_of_lt (Nat.lt_of_lt_of_le (Heap.lt_size e) I.ok.above))).trans (I.base.keep b o e n hb hx)
  ·obtain ⟨sl,e1⟩:=I.base.slot b o e n hb hx
   exact ⟨sl,(hs.2 b (Nat.ne_of_lt (Nat.lt_of_lt_of_le (Heap.lt_size e) I.ok.above))).trans e1⟩
  ·obtain ⟨o',e1⟩:=I.base.there b o e hx
   exact ⟨o',(hs.2 b (Nat.ne_of_lt (Nat.lt_of_lt_of_le (Heap.lt_size e) I.ok.above))).trans e1⟩
  ·by_cases hj:j=i
   ·subst hj
    rw [hi] at e1;cases e1
    rw [List.getElem?_set_self hiσ] at e2
    cases e2
    exact ⟨u,r,.inl ⟨hk,by simp⟩⟩
   ·rw [List.getElem?_set_ne (Ne.symm hj)] at e2
    obtain ⟨u',r',q⟩:=hl j y v' e1 e2 e3
    refine ⟨u',r',?_⟩
    rcases q with ⟨k,e⟩ | ⟨k,c,e,z⟩
    ·refine .inl ⟨k,?_⟩
     have:y≠x:=fun e=>hj (Cy hN e1 (e ▸ hi))
     simp [this,e]
    ·exact .inr ⟨k,c,e,z.sameBut hs (cne y c e)⟩
  ·obtain ⟨w',z⟩:=I.cell y c e
   exact ⟨w',z.sameBut hs (cne y c e)⟩
  ·obtain ⟨e,n,ne,nf,d⟩:=I.pin p hp
   exact ⟨(hs.2 p.1 ne).trans e,n,ne,nf,d⟩
 ·have hfn:X.fn x=true:=by
   rcases hf with z | z
   ·exact z
   ·rw [z] at hk;cases hk
  obtain ⟨c,hc⟩:=I.ok.has x (.inl hk)
  obtain ⟨w',z⟩:=I.cell x c hc
  refine wpAny_storeName_cell I.ok.kind hk hc z (fun h' hc' hs=>?_)
  obtain ⟨oc,hoc,hocd⟩:=id z
  refine h { s with heap:=h' } ⟨I.ok,I.os,I.bare,⟨fun b o e n hb hx=>?_,fun b o e n hb hx=>?_,I.base.free,fun b o e hx=>?_,I.base.tups,I.base.frzs,I.base.tbls⟩,⟨m,hn.sameBut hs (Ne.symm (cne x c hc)),fun j y v' e1 e2 e3=>?_⟩,fun y c' e=>?_,I.free,I.freeC,fun p hp=>?_,tracked ⟨oc,hoc,I.freeC x c hc⟩ hs,by simpa using I.len⟩ ⟨c,hs,.inr hc⟩
  ·exact (hs.2 b (Nat.ne_of_lt (Nat.lt_of_lt_of_le (Heap.lt_size e) (I.ok.cab x c hfn hc)))).trans (I.base.keep b o e n hb hx)
  ·obtain ⟨sl,e1⟩:=I.base.slot b o e n hb hx
   exact ⟨sl,(hs.2 b (Nat.ne_of_lt (Nat.lt_of_lt_of_le (Heap.lt_size e) (I.ok.cab x c hfn hc)))).trans e1⟩
  ·obtain ⟨o',e1⟩:=I.base.there b o e hx
   exact ⟨o',(hs.2 b (Nat.ne_of_lt (Nat.lt_of_lt_of_le (Heap.lt_size e) (I.ok.cab x c hfn hc)))).trans e1⟩
  ·by_cases hj:j=i
   ·subst hj
    rw [hi] at e1;cases e1
    rw [List.getElem?_set_self hiσ] at e2
    cases e2
    exact ⟨u,r,.inr ⟨.inl hk,c,hc,hc'⟩⟩
   ·rw [List.getElem?_set_ne (Ne.symm hj)] at e2
    obtain ⟨u',r',q⟩:=hl j y v' e1 e2 e3
    refine ⟨u',r',?_⟩
    rcases q with q | ⟨k,c',e,z'⟩
    ·exact .inl q
    ·refine .inr ⟨k,c',e,z'.sameBut hs ?_⟩
     rintro rfl
     exact hj (Cy hN e1 (I.ok.inj _ _ _ e hc ▸ hi))
  ·by_cases hcc:c'=c
   ·subst hcc;exact ⟨_,hc'⟩
   ·obtain ⟨w2,z2⟩:=I.cell y c' e
    exact ⟨w2,z2.sameBut hs hcc⟩
  ·obtain ⟨e,n,ne,nf,d⟩:=I.pin p hp
   refine ⟨(hs.2 p.1 ?_).trans e,n,ne,nf,d⟩
   intro q
   rw [q,hoc] at e
   have q':oc=p.2:=Option.some.inj e
   exact d w' (by rw [<- q'];exact hocd)
theorem pM {M:Model} {A:Around} {E:Value->Shared->Prop} {i:Nat} {x:Str} {v:V} {u:Value} {Q:Unit->Shared->Prop} (I:Inv X pins σ H s) (hN:X.N.Nodup) (hi:X.N[i]?=some x) (hx:Loc X.env.scope x) (r:RelV v u)
  (h:∀ s',Inv X pins (σ.set i (some v)) H s'->Q () s') (hf:X.fn x=true\/X.env.scope.names.lookup x=some .local:=by first | exact .inl rfl | exact .inr rfl | assumption):wpAny M A (storeName X.env x u) Q E s :=
 BG I hN hi hx r (fun s' I' _=>h s' I') hf
theorem Inv.call' {s':Shared} {ch:List Addr} (I:Inv X pins σ H s) (ho:s'.os=s.os) (u:Un (rT X.stack) ch H H' s.heap s'.heap) (hok:gW X.prog X.w H' s'.heap) (hg:AllBare s'.gens)
  (hch:∀ b∈ch,(b∈X.ex\/X.s₀.heap.objs.size<=b)/\b≠X.env.locals/\(∀ x c,X.env.cells.lookup x=some c->c≠b)/\∀ p∈X.pn++pins,p.1≠b):Inv X pins σ H' s':=by
 obtain ⟨h',g',d',t',o'⟩:=s'
 have e:o'=s.os:=ho
 subst e
 exact I.call (g':=g') (t':=t') (d':=d') u hok hg hch
end
abbrev XK:=Value->Option Addr->Hp->Prop
abbrev St:=List (Option V)
abbrev VK:=V->Hp->Prop
abbrev TE:=St->Hp->VK->Prop
abbrev TT:=St->Hp->(Bool->Hp->Prop)->Prop
abbrev TA:=St->Hp->(List V->Hp->Prop)->Prop
structure Ends where
 nx:St->Hp->Prop
 rt:VK
 bk:St->Hp->Prop:=fun _ _=>False
 ct:St->Hp->Prop:=fun _ _=>False
abbrev TS:=Ends->St->Hp->Prop
noncomputable def EP (X:Cx) (pins:List (Addr × Obj)) (σ:St) (Q:VK) (u:Value) (s':Shared):Prop:=∃ v H',Inv X pins σ H' s'/\RelV v u/\Q v H'
noncomputable def TP (X:Cx) (pins:List (Addr × Obj)) (σ:St) (Q:Bool->Hp->Prop) (b:Bool) (s':Shared):Prop:=∃ H',Inv X pins σ H' s'/\Q b H'
noncomputable def AP (X:Cx) (pins:List (Addr × Obj)) (σ:St) (Q:List V->Hp->Prop) (us:List Value) (s':Shared):Prop:=∃ vs H',Inv X pins σ H' s'/\Vals vs us/\Q vs H'
noncomputable def SP (X:Cx) (pins:List (Addr × Obj)) (D:Ends) (f:Flow) (s':Shared):Prop :=
 match f with
 | .next=>∃ σ' H',Inv X pins σ' H' s'/\D.nx σ' H'
 | .brk=>∃ σ' H',Inv X pins σ' H' s'/\D.bk σ' H'
 | .cont=>∃ σ' H',Inv X pins σ' H' s'/\D.ct σ' H'
 | .ret u=>∃ v σ' H',Inv X pins σ' H' s'/\RelV v u/\D.rt v H'
noncomputable def PE (X:Cx) (e:Expr) (t:TE):Prop :=
 ∀ (pins:List (Addr × Obj)) (s:Shared) (σ:St) (H:Hp) (Q:VK),Inv X pins σ H s->t σ H Q->wpAny (model X.prog X.w) X.A (eval e X.env) (EP X pins σ Q) X.xe s
noncomputable def PT (X:Cx) (e:Expr) (t:TT):Prop :=
 ∀ (pins:List (Addr × Obj)) (s:Shared) (σ:St) (H:Hp) (Q:Bool->Hp->Prop),Inv X pins σ H s->t σ H Q->wpAny (model X.prog X.w) X.A (isTrue e X.env (eval e X.env)) (TP X pins σ Q) X.xe s
noncomputable def PW (X:Cx) (e:Expr) (t:TT):Prop :=
 ∀ (whole:Sem Value) (pins:List (Addr × Obj)) (s:Shared) (σ:St) (H:Hp) (Q:Bool->Hp->Prop),Inv X pins σ H s->t σ H Q->wpAny (model X.prog X.w) X.A (isTrue e X.env whole) (TP X pins σ Q) X.xe s
theorem PW.pt {X:Cx} {e:Expr} {t:TT} (h:PW X e t):PT X e t:=h _
noncomputable def PA (X:Cx) (es:List Expr) (t:TA):Prop :=
 ∀ (pos:Pos) (pins:List (Addr × Obj)) (s:Shared) (σ:St) (H:Hp) (Q:List V->Hp->Prop),Inv X pins σ H s->t σ H Q->wpAny (model X.prog X.w) X.A (spliced (backTo pos (starEach es X.env))) (AP X pins σ Q) X.xe s
noncomputable def PS (X:Cx) (st:Stmt) (t:TS):Prop :=
 ∀ (pins:List (Addr × Obj)) (s:Shared) (σ:St) (H:Hp) (D:Ends),Inv X pins σ H s->t D σ H->wpAny (model X.prog X.w) X.A (exec st X.env) (SP X pins D) X.xe s
def qU (X:Cx) (st:List Stmt) (t:TS):Prop :=
 ∀ (pins:List (Addr × Obj)) (s:Shared) (σ:St) (H:Hp) (D:Ends),Inv X pins σ H s->t D σ H->wpAny (model X.prog X.w) X.A (execs st X.env) (SP X pins D) X.xe s
theorem bF {α:Type} {t:Sem α} {Q Q':α->Shared->Prop} {M:Model} {A:Around} {E:Value->Shared->Prop} {s:Shared} (h:wpAny M A t Q E s) (hQ:∀ a s,Q a s->Q' a s):wpAny M A t Q' E s:=wpAny_mono h hQ fun _ _ x=>x
section
variable {X:Cx}
theorem bin {a b:Expr} {ta tb:TE} (ha:PE X a ta) (hb:PE X b tb) {pins:List (Addr × Obj)} {s:Shared} {σ:St} {H:Hp} {R:V->V->Hp->Prop} (I:Inv X pins σ H s) (h:ta σ H fun x H1=>tb σ H1 fun y H2=>R x y H2)
  {α:Type} {Q:α->Shared->Prop} {f:Value->Value->Sem α}
  (hf:∀ v u s2 x y H2,Inv X pins σ H2 s2->RelV x v->RelV y u->R x y H2->wpAny (model X.prog X.w) X.A (f v u) Q X.xe s2) :
  wpAny (model X.prog X.w) X.A (eval a X.env) (fun v s₁=>wpAny (model X.prog X.w) X.A (eval b X.env) (fun u s₂=>wpAny (model X.prog X.w) X.A (f v u) Q X.xe s₂) X.xe s₁) X.xe s:=by
 refine bF (ha pins s σ H _ I h) fun v s1 ⟨x,H1,I1,r1,q1⟩=>?_
 refine bF (hb pins s1 σ H1 _ I1 q1) fun u s2 ⟨y,H2,I2,r2,q2⟩=>?_
 exact hf v u s2 x y H2 I2 r1 r2 q2
noncomputable def K1 (i:Nat):TE:=fun σ H Q=>∃ v,σ[i]?=some (some v)/\Q v H
def tC (v:V):TE:=fun _ H Q=>Q v H
theorem Jd {i:Nat} {x:Str} {pos:Pos} (hN:X.N[i]?=some x) (hv:JI X.env.scope x) (hd:(x == ("__debug__":Str))=false:=by decide) (hcd:(x == ("__classdict__":Str))=false:=by decide):PE X (.Name x pos) (K1 i):=by
 intro pins s σ H Q I h
 obtain ⟨v,e,h⟩:=h
 obtain ⟨m,hn,hl⟩:=I.loc
 obtain ⟨u,r,l⟩:=hl i x v hN e hv
 have fin:EP X pins σ Q u s:=⟨v,H,I,r,h⟩
 rcases l with ⟨hk,hm⟩ | ⟨hk,c,hc,hcell⟩
 ·exact wpAny_Name (wpAny_loadName_local I.ok.kind hk hn hm fin) hd
 ·rcases hk with hk | hk
  ·exact wpAny_Name (wpAny_loadName_cell I.ok.kind hk hc hcell fin) hd
  ·exact wpAny_Name (wpAny_loadName_free I.ok.kind hk hc hcell fin hcd) hd
theorem O5 {i j pos}:PE X (.Constant (.int i) j pos) (tC (.int i)):=fun _ _ _ H _ I h=>wpAny_Constant_int ⟨.int i,H,I.tok _,⟨_,rfl⟩,h⟩
theorem Rv {b j pos}:PE X (.Constant (.bool b) j pos) (tC (.bl b)):=fun _ _ _ H _ I h=>Constant_bool ⟨.bl b,H,I,rfl,h⟩
theorem Qf {j pos}:PE X (.Constant .none j pos) (tC .non):=fun _ _ _ H _ I h=>Constant_none ⟨.non,H,I,rfl,h⟩
theorem PX {x j pos}:PE X (.Constant (.str x) j pos) (tC (.str x)):=fun _ _ _ H _ I h=>Calls.Constant_str ⟨.str x,H,I.tok _,⟨_,rfl⟩,h⟩
noncomputable def Gl (X:Cx) (x:Str):Prop:=X.env.kindOf x=some .globalImplicit
theorem FF {E:Value->Shared->Prop} {pins:List (Addr × Obj)} {s:Shared} {σ:St} {H:Hp} {x:Str} {u:Value} {pos:Pos} {Q:Value->Shared->Prop} (I:Inv X pins σ H s) (hg:Gl X x) (hm:X.mg x=some u) (h:Q u s)
  (hd:(x == ("__debug__":Str))=false:=by decide):wpAny (model X.prog X.w) X.A (eval (.Name x pos) X.env) Q E s :=
 Calls.Name_function_global I.ok.kind hg (Calls.loadGlobal_global (by rw [I.ok.glob];exact I.mod.glob.keeps I.bk) hm h) hd
theorem nX {E:Value->Shared->Prop} {pins:List (Addr × Obj)} {s:Shared} {σ:St} {H:Hp} {x:Str} {u:Value} {pos:Pos} {Q:Value->Shared->Prop} (I:Inv X pins σ H s) (hg:Gl X x) (hm:X.mg x=none) (hv:bootBuiltins x=some u) (h:Q u s)
  (hn:x≠"__name__":=by decide) (hd:(x == ("__debug__":Str))=false:=by decide):wpAny (model X.prog X.w) X.A (eval (.Name x pos) X.env) Q E s:=by
 obtain ⟨mb,h1,h2⟩:=I.mod.blt
 exact Calls.Name_function_global I.ok.kind hg (Calls.loadGlobal_builtin (by rw [I.ok.glob];exact I.mod.glob.keeps I.bk) hm (by rw [I.ok.blt];exact h1.keeps I.bk) ((h2 x hn).trans hv) h) hd
theorem MM {x:Str} {v:V} {u:Value} {pos:Pos} (hg:Gl X x) (hm:X.mg x=some u) (r:RelV v u) (hd:(x == ("__debug__":Str))=false:=by decide):PE X (.Name x pos) (tC v) :=
 fun _ _ _ H _ I h=>FF I hg hm ⟨v,H,I,r,h⟩ hd
noncomputable def SE (ta tb:TE) (k:Int->Int->Hp->Prop):St->Hp->Prop:=fun σ H=>ta σ H fun x H1=>tb σ H1 fun y H2=>∃ i j,x=.int i/\y=.int j/\k i j H2
variable {a b:Expr} {ta tb:TE} {pos:Pos}
noncomputable def Bu (p:Int->Int->Bool) (ta tb:TE):TE:=fun σ H Q=>SE ta tb (fun i j H2=>Q (.bl (p i j)) H2) σ H
abbrev SQ:TE->TE->TE:=Bu fun i j=>decide (i < j)
abbrev SR:TE->TE->TE:=Bu fun i j=>decide (i<=j)
abbrev SJ:TE->TE->TE:=Bu fun i j=>decide (j < i)
abbrev SO:TE->TE->TE:=Bu fun i j=>decide (j<=i)
abbrev SH:TE->TE->TE:=Bu fun i j=>decide (i=j)
abbrev SG:TE->TE->TE:=Bu fun i j=>!decide (i=j)
variable {tA tB':TT} {rest:List Expr}
noncomputable def PU (t u:TT):TT:=fun σ H Q=>t σ H fun c H1=>if c=true then u σ H1 Q else Q false H1
noncomputable def R5 (t u:TT):TT:=fun σ H Q=>t σ H fun c H1=>if c=true then Q true H1 else u σ H1 Q
noncomputable def Qc (t:TT):TT:=fun σ H Q=>t σ H fun c H1=>Q (!c) H1
theorem N4 (ha:PT X a tA):PW X (.BoolOp .And [a] pos) tA:=by
 intro wh pins s σ H Q I h
 refine isTrue_and (bF (ha pins s σ H Q I h) fun c s1 e=>?_)
 cases c with
 | true=>exact isTrue_and_nil e
 | false=>exact e
theorem Rh (ha:PT X a tA):PW X (.BoolOp .Or [a] pos) tA:=by
 intro wh pins s σ H Q I h
 refine isTrue_or (bF (ha pins s σ H Q I h) fun c s1 e=>?_)
 cases c with
 | false=>exact isTrue_or_nil e
 | true=>exact e
theorem Pk (ha:PT X a tA) (hb:PW X (.BoolOp .And (b :: rest) pos) tB'):PW X (.BoolOp .And (a :: b :: rest) pos) (PU tA tB'):=by
 intro wh pins s σ H Q I h
 refine isTrue_and (bF (ha pins s σ H _ I h) fun c s1 ⟨H1,I1,q1⟩=>?_)
 cases c with
 | true=>exact hb wh pins s1 σ H1 Q I1 q1
 | false=>exact ⟨H1,I1,q1⟩
theorem Rx (ha:PT X a tA) (hb:PW X (.BoolOp .Or (b :: rest) pos) tB'):PW X (.BoolOp .Or (a :: b :: rest) pos) (R5 tA tB'):=by
 intro wh pins s σ H Q I h
 refine isTrue_or (bF (ha pins s σ H _ I h) fun c s1 ⟨H1,I1,q1⟩=>?_)
 cases c with
 | true=>exact ⟨H1,I1,q1⟩
 | false=>exact hb wh pins s1 σ H1 Q I1 q1
theorem OQ (ha:PT X a tA):PT X (.UnaryOp .Not a pos) (Qc tA):=by
 intro pins s σ H Q I h
 exact isTrue_not (ha pins s σ H (fun c H1=>Q (!c) H1) I h)
noncomputable def Mu (ta tb:TE):TE:=fun σ H Q=>ta σ H fun x H1=>∃ c,x=.bl c/\if c=true then tb σ H1 Q else Q (.bl false) H1
theorem Qs {op} {t:TE} (h:PE X a t):PE X (.BoolOp op [a] pos) t:=fun pins s σ H Q I hw=>BoolOp_one (h pins s σ H Q I hw)
theorem Qm (ha:PE X a ta) (hb:PE X (.BoolOp .And (b :: rest) pos) tb):PE X (.BoolOp .And (a :: b :: rest) pos) (Mu ta tb):=by
 intro pins s σ H Q I h
 refine BoolOp_and (bF (ha pins s σ H _ I h) fun v s1 ⟨x,H1,I1,r1,q1⟩=>?_)
 obtain ⟨c,rfl,q1⟩:=q1
 cases r1
 refine wpAny_truthy_bool ?_
 cases c with
 | true=>exact hb pins s1 σ H1 Q I1 q1
 | false=>exact ⟨.bl false,H1,I1,rfl,q1⟩
noncomputable def R4 (t:TT) (ta tb:TE):TE:=fun σ H Q=>t σ H fun c H1=>if c=true then ta σ H1 Q else tb σ H1 Q
theorem JZ {c:Expr} (hc:PT X c tA) (ha:PE X a ta) (hb:PE X b tb):PE X (.IfExp c a b pos) (R4 tA ta tb):=by
 intro pins s σ H Q I h
 refine wpAny_IfExp (bF (hc pins s σ H _ I h) fun d s1 ⟨H1,I1,q1⟩=>?_)
 cases d with
 | true=>exact ha pins s1 σ H1 Q I1 q1
 | false=>exact hb pins s1 σ H1 Q I1 q1
end
noncomputable def eC (K:PySem.W.Frag) (H:Hp) (a:Addr) (xs:List V):Prop :=
 Rd H a (.lst xs) \/
  ∃ (o:Obj) (its:Array Value) (n:Nat),K.lookup a=some o/\o.cls=.type "list"/\o.dict=none/\o.data=.seq its n/\its.size<=sizeLine/\Vals xs its.toList
noncomputable def fH (K:PySem.W.Frag) (H:Hp) (a:Addr) (xs:List V):Prop :=
 Rd H a (.tup xs) \/
  ∃ (o:Obj) (its:Array Value) (n:Nat),K.lookup a=some o/\o.cls=.type "tuple"/\o.data=.seq its n/\its.size<=sizeLine/\Vals xs its.toList
noncomputable def Sn:Value->Option V
 | .none=>some .non
 | .bool b=>some (.bl b)
 | .int i _=>some (.int i)
 | .str x _=>some (.str x)
 | .bytes b _=>some (.byt b)
 | .float b _=>some (.flt b)
 | .ref a=>some (.ref a)
 | .type n=>some (.ty n)
 | _=>none
theorem RelV.abs {x:V} {u:Value} (r:RelV x u):Sn u=some x:=by
 cases x with
 | non=>cases r;rfl
 | bl _=>cases r;rfl
 | int _=>obtain ⟨t,rfl⟩:=r;rfl
 | str _=>obtain ⟨t,rfl⟩:=r;rfl
 | byt _=>obtain ⟨t,rfl⟩:=r;rfl
 | flt _=>obtain ⟨t,rfl⟩:=r;rfl
 | ref _=>cases r;rfl
 | ty _=>cases r;rfl
theorem RelV.inj {x y:V} {u:Value} (r:RelV x u) (q:RelV y u):x=y:=Option.some.inj (r.abs.symm.trans q.abs)
theorem Vals.inj:∀ {xs ys:List V} {us:List Value},Vals xs us->Vals ys us->xs=ys
 | _,_,_,.nil,.nil=>rfl
 | _,_,_,.cons r t,.cons r' t'=>by rw [r.inj r',Vals.inj t t']
section
variable {X:Cx} {pins:List (Addr × Obj)} {σ:St} {H:Hp} {s:Shared} {a:Addr} {xs ys:List V}
theorem Inv.list (I:Inv X pins σ H s) (h:eC X.K H a xs):∃ its:List Value,Vals xs its/\PlainL s.heap a its.toArray/\xs.length<=sizeLine:=by
 rcases h with h | ⟨o,its,n,hk,hc,hd,hs,hz,r⟩
 ·obtain ⟨z,its,n,r,e⟩:=h.ok I.hok
  exact ⟨its,r,⟨_,n,e,rfl,rfl,rfl⟩,z⟩
 ·refine ⟨its.toList,r,⟨o,n,I.kIn a o hk,hc,hd,by simpa using hs⟩,?_⟩
  have e:=r.length
  simp only [Array.length_toList] at e
  omega
theorem Inv.tuple (I:Inv X pins σ H s) (h:fH X.K H a xs):∃ its:List Value,Vals xs its/\IsTup s.heap a its.toArray/\xs.length<=sizeLine:=by
 rcases h with h | ⟨o,its,n,hk,hc,hs,hz,r⟩
 ·obtain ⟨z,its,r,p⟩:=h.ok I.hok
  exact ⟨its,r,p,z⟩
 ·refine ⟨its.toList,r,⟨o,I.kIn a o hk,hc,n,by simpa using hs⟩,?_⟩
  have e:=r.length
  simp only [Array.length_toList] at e
  omega
theorem Inv.list_inj (I:Inv X pins σ H s) (h:eC X.K H a xs) (h':eC X.K H a ys):xs=ys:=by
 obtain ⟨its,r,⟨o,n,e,_,_,d⟩,_⟩:=I.list h
 obtain ⟨its',r',⟨o',n',e',_,_,d'⟩,_⟩:=I.list h'
 rw [e] at e';cases e'
 rw [d] at d'
 injection d' with d1 _
 have:its=its':=by simpa using congrArg Array.toList d1
 subst this
 exact r.inj r'
theorem Inv.tuple_inj (I:Inv X pins σ H s) (h:fH X.K H a xs) (h':fH X.K H a ys):xs=ys:=by
 obtain ⟨its,r,⟨o,e,_,n,d⟩,_⟩:=I.tuple h
 obtain ⟨its',r',⟨o',e',_,n',d'⟩,_⟩:=I.tuple h'
 rw [e] at e';cases e'
 rw [d] at d'
 injection d' with d1 _
 have:its=its':=by simpa using congrArg Array.toList d1
 subst this
 exact r.inj r'
end
abbrev Cx.wish (X:Cx) (E:Value->Shared->Prop):Cx:={ X with xe:=E }
abbrev Cx.nox (X:Cx):Cx:=X.wish fun _ _=>False
theorem Cx.Ok.wish {X:Cx} (ok:X.Ok) (E:Value->Shared->Prop):(X.wish E).Ok :=
 ⟨ok.mod,ok.kind,ok.glob,ok.blt,ok.above,ok.inj,ok.has,ok.cab,ok.hd,ok.frames,ok.stk,ok.exf,ok.bs,ok.bsz,ok.noex,ok.exfs,ok.funs,ok.frf⟩
theorem Cx.Ok.unwish {X:Cx} {E:Value->Shared->Prop} (ok:(X.wish E).Ok):X.Ok :=
 ⟨ok.mod,ok.kind,ok.glob,ok.blt,ok.above,ok.inj,ok.has,ok.cab,ok.hd,ok.frames,ok.stk,ok.exf,ok.bs,ok.bsz,ok.noex,ok.exfs,ok.funs,ok.frf⟩
section
variable {X:Cx} {pins:List (Addr × Obj)} {σ:St} {H:Hp} {s:Shared} {E:Value->Shared->Prop}
theorem Inv.wish (I:Inv X pins σ H s) (E:Value->Shared->Prop):Inv (X.wish E) pins σ H s:=⟨I.ok.wish E,I.os,I.bare,I.base,I.loc,I.cell,I.free,I.freeC,I.pin,I.hok,I.len⟩
theorem Inv.unwish (I:Inv (X.wish E) pins σ H s):Inv X pins σ H s:=⟨I.ok.unwish,I.os,I.bare,I.base,I.loc,I.cell,I.free,I.freeC,I.pin,I.hok,I.len⟩
theorem SP.unwish {D:Ends} {f:Flow} {s':Shared} (h:SP (X.wish E) pins D f s'):SP X pins D f s':=by
 cases f with
 | next=>obtain ⟨σ',H',I,q⟩:=h;exact ⟨σ',H',I.unwish,q⟩
 | brk=>obtain ⟨σ',H',I,q⟩:=h;exact ⟨σ',H',I.unwish,q⟩
 | cont=>obtain ⟨σ',H',I,q⟩:=h;exact ⟨σ',H',I.unwish,q⟩
 | ret u=>obtain ⟨v,σ',H',I,r,q⟩:=h;exact ⟨v,σ',H',I.unwish,r,q⟩
theorem qU.nox {st:List Stmt} {t:TS} (h:qU X.nox st t):qU X st t:=fun pins s σ H D I hw =>
 wpAny_mono (h pins s σ H D (I.wish _) hw) (fun _ _ q=>q.unwish) fun _ _ z=>False.elim z
end
section
variable {X:Cx} {st:Stmt} {rest:List Stmt} {t u:TS} {e:Expr} {te:TE} {pos:Pos}
noncomputable def MH:TS:=fun D σ H=>D.nx σ H
noncomputable def Qn (t u:TS):TS:=fun D σ H=>t { D with nx:=u D } σ H
theorem N3:qU X [] MH:=fun _ _ σ H _ I h=>wpAny_execs_nil ⟨σ,H,I,h⟩
theorem KD (h1:PS X st t) (h2:qU X rest u):qU X (st :: rest) (Qn t u):=by
 intro pins s σ H D I h
 refine wpAny_execs_cons (bF (h1 pins s σ H { D with nx:=u D } I h) fun f s1 q=>?_)
 cases f with
 | next =>
  obtain ⟨σ',H',I',q⟩:=q
  exact h2 pins s1 σ' H' D I' q
 | ret v=>exact q
 | brk=>exact q
 | cont=>exact q
theorem M7 (h1:PS X st t):qU X [st] t:=by
 intro pins s σ H D I h
 refine wpAny_execs_cons (bF (h1 pins s σ H D I h) fun f s1 q=>?_)
 cases f with
 | next=>exact wpAny_execs_nil q
 | ret v=>exact q
 | brk=>exact q
 | cont=>exact q
theorem Inv.quiet {pins:List (Addr × Obj)} {σ:St} {H:Hp} {s:Shared} (I:Inv X pins σ H s):interactive X.env=false:=by simp [interactive,I.ok.kind]
noncomputable def Mz (te:TE):TS:=fun D σ H=>te σ H fun _ H1=>D.nx σ H1
theorem MZ (he:PE X e te) (hs:swapsWith e none pos.line X.env=pure false:=by rfl):PS X (.Expr e pos) (Mz te):=by
 intro pins s σ H D I h
 exact wpAny_Expr_any (bF (he pins s σ H _ I h) fun v s1 ⟨x,H1,I1,r1,q1⟩=>⟨σ,H1,I1,q1⟩) I.quiet hs
noncomputable def Pa (te:TE):TS:=fun D σ H=>te σ H D.rt
theorem Pc (he:PE X e te):PS X (.Return (some e) pos) (Pa te):=by
 intro pins s σ H D I h
 exact wpAny_Return_some (bF (he pins s σ H _ I h) fun v s1 ⟨x,H1,I1,r1,q1⟩=>⟨x,σ,H1,I1,r1,q1⟩)
noncomputable def Pb (c:TT) (t u:TS):TS:=fun D σ H=>c σ H fun b H1=>if b=true then t D σ H1 else u D σ H1
theorem RV {c:Expr} {a b:List Stmt} {tc:TT} (hc:PT X c tc) (ha:qU X a t) (hb:qU X b u):PS X (.If c a b pos) (Pb tc t u):=by
 intro pins s σ H D I h
 refine wpAny_If (bF (hc pins s σ H _ I h) fun d s1 ⟨H1,I1,q1⟩=>?_)
 cases d with
 | true=>exact ha pins s1 σ H1 D I1 q1
 | false=>exact hb pins s1 σ H1 D I1 q1
end
abbrev TG:=V->St->Hp->(St->Hp->Prop)->Prop
abbrev pT:=List V->St->Hp->(St->Hp->Prop)->Prop
noncomputable def PG (X:Cx) (target:Expr) (t:TG):Prop :=
 ∀ (pins:List (Addr × Obj)) (s:Shared) (σ:St) (H:Hp) (v:V) (u:Value) (Q:St->Hp->Prop),Inv X pins σ H s->RelV v u->t v σ H Q ->
  wpAny (model X.prog X.w) X.A (assign target X.env u) (fun _ s'=>∃ σ' H',Inv X pins σ' H' s'/\Q σ' H') X.xe s
noncomputable def Jb (X:Cx) (ts:List Expr) (t:pT):Prop :=
 ∀ (pins:List (Addr × Obj)) (s:Shared) (σ:St) (H:Hp) (vs:List V) (us:List Value) (Q:St->Hp->Prop),Inv X pins σ H s->Vals vs us->t vs σ H Q ->
  wpAny (model X.prog X.w) X.A (assignInOrder ((assignEach ts X.env).map (·.2)) us) (fun _ s'=>∃ σ' H',Inv X pins σ' H' s'/\Q σ' H') X.xe s
abbrev Lq:=V->V->V->Hp->(Hp->Prop)->Prop
noncomputable def QT (X:Cx) (t:Lq):Prop :=
 ∀ (pins:List (Addr × Obj)) (s:Shared) (σ:St) (H:Hp) (o i v:V) (ov iv u:Value) (Q:Hp->Prop),Inv X pins σ H s->RelV o ov->RelV i iv->RelV v u->t o i v H Q ->
  wpAny (model X.prog X.w) X.A (setItem ov iv u) (fun _ s'=>∃ H',Inv X pins σ H' s'/\Q H') X.xe s
abbrev SM:=V->V->Hp->VK->Prop
section
variable {X:Cx} {pos:Pos}
def qM (i:Nat):TG:=fun v σ H Q=>Q (σ.set i (some v)) H
theorem FP {i:Nat} {x:Str} (hN:X.N.Nodup) (hi:X.N[i]?=some x) (hx:Loc X.env.scope x) (hf:X.fn x=true\/X.env.scope.names.lookup x=some .local:=by first | exact .inl rfl | exact .inr rfl | assumption):PG X (.Name x pos) (qM i):=by
 intro pins s σ H v u Q I r h
 exact wpAny_assign_Name (pM I hN hi hx r (fun s' I'=>⟨_,H,I',h⟩) hf)
noncomputable def DB:pT:=fun vs σ H Q=>vs=[]/\Q σ H
def yY (t:TG) (u:pT):pT:=fun vs σ H Q=>∃ v r,vs=v :: r/\t v σ H fun σ' H'=>u r σ' H' Q
theorem NG:Jb X [] DB:=by
 intro pins s σ H vs us Q I r h
 obtain ⟨e,h⟩:=h
 subst e
 cases r
 exact assignInOrder_nil ⟨σ,H,I,h⟩
theorem K9 {e:Expr} {es:List Expr} {t:TG} {u:pT} (h1:PG X e t) (h2:Jb X es u)
  (hs:(assignEach (e :: es) X.env).map (·.2)=assign e X.env :: (assignEach es X.env).map (·.2):=by rfl):Jb X (e :: es) (yY t u):=by
 intro pins s σ H vs us Q I r h
 obtain ⟨v,vr,e1,h⟩:=h
 subst e1
 cases r with
 | cons r rr =>
  rw [hs]
  refine assignInOrder_cons (bF (h1 pins s σ H _ _ _ I r h) fun _ s1 ⟨σ1,H1,I1,q1⟩=>?_)
  exact h2 pins s1 σ1 H1 _ _ Q I1 rr q1
noncomputable def D7 (K:PySem.W.Frag) (n:Nat) (t:pT):TG:=fun v σ H Q=>∃ a xs,v=.ref a/\fH K H a xs/\xs.length=n/\t xs σ H Q
theorem Qk {es:List Expr} {k:Nat} {t:pT} {n:Nat} (hc:X.calm=true) (h:Jb X es t)
  (hn:(assignEach es X.env).length=n:=by rfl) (hst:(assignEach es X.env).findIdx? (·.1)=none:=by rfl):PG X (.Tuple es k pos) (D7 X.K n t):=by
 intro pins s σ H v u Q I r hw
 obtain ⟨a,xs,e1,hq,hl,hw⟩:=hw
 subst e1
 cases r
 obtain ⟨its,rv,ht,hz⟩:=I.tuple hq
 refine assign_Tuple_tuple (I.ok.hd hc) ht (by simp [hn,<- hl,rv.length]) hst fun h' hx=>?_
 have I1:Inv X pins σ H { s with heap:=h' }:=I.kept (t':=s.toks) fun b o e=>hx b o (Nat.ne_of_lt (Heap.lt_size e)) e
 exact h pins _ σ H xs _ Q I1 (by simpa using rv) hw
noncomputable def Sg (to ti:TE) (t:Lq):TG:=fun v σ H Q=>to σ H fun o H1=>ti σ H1 fun i H2=>t o i v H2 fun H3=>Q σ H3
theorem Ph {o i:Expr} {to ti:TE} {t:Lq} (ho:PE X o to) (hi:PE X i ti) (hs:QT X t)
  (ha:∀ v,assign (.Subscript o i pos) X.env v=(do
   let ov <- holding [v] (eval o X.env)
   let iv <- holding [v,ov] (eval i X.env)
   standAt pos
   holding [v,ov,iv] (setItem ov iv v)
   release [v,ov,iv] []):=by intro _;rfl):PG X (.Subscript o i pos) (Sg to ti t):=by
 intro pins s σ H v u Q I r h
 rw [ha]
 refine wpAny_bind (wpAny_holding (bF (ho pins s σ H _ I h) fun ov s1 ⟨x,H1,I1,r1,q1⟩=>?_))
 refine wpAny_bind (wpAny_holding (bF (hi pins s1 σ H1 _ I1 q1) fun iv s2 ⟨y,H2,I2,r2,q2⟩=>?_))
 refine wpAny_bind (wpAny_standAt (wpAny_bind (wpAny_holding (bF (hs pins s2 σ H2 x y v ov iv u _ I2 r1 r2 r q2) fun _ s3 ⟨H3,I3,q3⟩=>?_))))
 exact wpAny_release ⟨σ,H3,I3,q3⟩
noncomputable def G1 (te:TE) (g:TG):TS:=fun D σ H=>te σ H fun x H1=>g x σ H1 D.nx
theorem Hn {tg e:Expr} {te:TE} {g:TG} (he:PE X e te) (hg:PG X tg g) (hs:swapsWithSole [tg] e pos.line X.env=pure false:=by rfl) (hw:swappedStores [tg] e X.env=pure none:=by rfl)
  (h1:(assignEach [tg] X.env).map (·.2)=[assign tg X.env]:=by rfl):PS X (.Assign [tg] e pos) (G1 te g):=by
 intro pins s σ H D I h
 refine wpAny_Assign_stores (bF (he pins s σ H _ I h) fun v s1 ⟨x,H1,I1,r1,q1⟩=>?_) hs hw
 rw [h1]
 exact bF (hg pins s1 σ H1 x v _ I1 r1 q1) fun _ s2 q=>q
theorem Qq {i:Nat} {x:Str} {e:Expr} {te:TE} {pos':Pos} (hN:X.N.Nodup) (hi:X.N[i]?=some x) (hx:Loc X.env.scope x) (he:PE X e te) (hs:swapsWith e (some (.Name x pos')) pos.line X.env=pure false:=by rfl) (hf:X.fn x=true\/X.env.scope.names.lookup x=some .local:=by first | exact .inl rfl | exact .inr rfl | assumption) :
  PS X (.Assign [.Name x pos'] e pos) (G1 te (qM i)):=by
 intro pins s σ H D I h
 refine wpAny_Assign_Name (bF (he pins s σ H _ I h) fun v s1 ⟨y,H1,I1,r1,q1⟩=>?_) hs
 exact pM I1 hN hi hx r1 (fun s2 I2=>⟨_,H1,I2,q1⟩) hf
end
section
variable {X:Cx} {pos:Pos}
noncomputable def IA (c:TT) (tb:TS):TS:=fun D σ H=>∃ W:Nat->St->Hp->Prop,(∃ m,W m σ H)/\∀ m σ H,W m σ H ->
 c σ H fun b H1=>if b=true then ∃ N:St->Hp->Prop,(∀ σ' H',N σ' H'->∃ m',m' < m/\W m' σ' H')/\tb { D with nx:=N,ct:=N,bk:=D.nx } σ H1 else D.nx σ H1
theorem LI {c:Expr} {body:List Stmt} {tc:TT} {tb:TS} (hp:PassesOwn (model X.prog X.w) X.A X.env X.xe) (hc:PT X c tc) (hb:qU X body tb):PS X (.While c body [] pos) (IA tc tb):=by
 intro pins s σ H D I h
 obtain ⟨W,⟨m0,w0⟩,turn⟩:=h
 refine wpAny_While (codeAny_whileLoop (fun n s'=>∃ σ' H',Inv X pins σ' H' s'/\W n σ' H') ?_ m0 ⟨σ,H,I,w0⟩)
 rintro n s1 ⟨σ1,H1,I1,w1⟩
 refine wpAny_passesOwn hp (bF (hc pins s1 σ1 H1 _ I1 (turn n σ1 H1 w1)) fun b s2 ⟨H2,I2,q2⟩=>?_)
 cases b with
 | true =>
  obtain ⟨N,hN,q2⟩:=q2
  rw [if_pos rfl]
  refine wpAny_passesOwn hp (bF (hb pins s2 σ1 H2 _ I2 q2) fun f s3 q3=>?_)
  cases f with
  | next =>
   obtain ⟨σ3,H3,I3,n3⟩:=q3
   obtain ⟨m',hm,w3⟩:=hN σ3 H3 n3
   exact ⟨m',hm,σ3,H3,I3,w3⟩
  | cont =>
   obtain ⟨σ3,H3,I3,n3⟩:=q3
   obtain ⟨m',hm,w3⟩:=hN σ3 H3 n3
   exact ⟨m',hm,σ3,H3,I3,w3⟩
  | brk=>exact q3
  | ret v=>exact q3
 | false =>
  rw [if_neg Bool.false_ne_true]
  exact wpAny_execs_nil ⟨σ1,H2,I2,q2⟩
end
structure It where
 go:Nat->Hp->Prop
 yld:Nat->Hp->V->Hp->Prop
 stop:Nat->Hp->Prop
def rE (X:Cx) (pins:List (Addr × Obj)) (H:Hp) (b:Addr):Prop :=
 H b=none/\b≠X.env.locals/\b ∉ X.fs/\(b∈X.ex\/X.s₀.heap.objs.size<=b)/\(∀ x c,X.env.cells.lookup x=some c->c≠b)/\∀ p∈X.pn++pins,p.1≠b
theorem Inv.fpOk {X:Cx} {pins:List (Addr × Obj)} {σ:St} {H H':Hp} {s:Shared} {b:Addr} (I:Inv X pins σ H s) (hb:s.heap.objs.size<=b) (hn:H' b=none):rE X pins H' b:=by
 refine ⟨hn,Nat.ne_of_gt (Nat.lt_of_lt_of_le I.lt hb),I.nofs hb,.inr (Nat.le_trans I.sz hb),fun x c e z=>?_,fun p hp z=>?_⟩
 ·obtain ⟨v,q⟩:=I.cell x c e
  exact absurd (Nat.lt_of_lt_of_le q.lt (by rw [z];exact hb)) (Nat.lt_irrefl _)
 ·exact absurd (Nat.lt_of_lt_of_le (Heap.lt_size (I.pin p hp).1) (by rw [z];exact hb)) (Nat.lt_irrefl _)
structure Turn (P:Program) (w:World) (K:PySem.W.Frag) (tg:Expr) (J:It) (fp:List Addr) (it:Addr) (tn:Nat->Heap->Prop):Prop where
 mem:it∈fp
 obj:∀ i h,tn i h->∀ b∈fp,∃ o,h.get? b=some o/\∀ v,o.data≠.cell v
 keep:∀ i h h',tn i h->(∀ b∈fp,∀ o,h.get? b=some o->h'.get? b=some o)->tn i h'
 item:∀ (X:Cx),X.prog=P->X.w=w->X.K=K->X.calm=true->∀ (i:Nat) (pins:List (Addr × Obj)) (s:Shared) (σ:St) (H:Hp) (E:Value->Shared->Prop),Inv X pins σ H s->(∀ b∈fp,rE X pins H b)->tn i s.heap->J.go i H ->
  wpAny (model P w) X.A (pyNext (.ref it)) (fun r s1=>∃ u,r=some u /\
   wpAny (model P w) X.A (letOwnedTupleGo tg (.ref it) u) (fun _ s2=>∃ x H',Inv X pins σ H' s2/\RelV x u/\J.yld i H x H'/\tn (i + 1) s2.heap/\∀ b∈fp,H' b=none) E s1) E s
 done:∀ (X:Cx),X.prog=P->X.w=w->X.K=K->X.calm=true->∀ (i:Nat) (pins:List (Addr × Obj)) (s:Shared) (σ:St) (H:Hp) (E:Value->Shared->Prop),Inv X pins σ H s->(∀ b∈fp,rE X pins H b)->tn i s.heap->J.stop i H ->
  wpAny (model P w) X.A (pyNext (.ref it)) (fun r s1=>r=none/\Inv X pins σ H s1) E s
 self:∀ (A:Around) (i:Nat) (s:Shared) (Q:Value->Shared->Prop) (E:Value->Shared->Prop),tn i s.heap->Q (.ref it) s->wpAny (model P w) A (pyIter (.ref it)) Q E s
abbrev TI:=St->Hp->(It->Hp->Prop)->Prop
noncomputable def R0 (X:Cx) (pins:List (Addr × Obj)) (σ:St) (tg:Expr) (R:It->Hp->Prop) (itv:Value) (s2:Shared):Prop :=
 ∃ (it:Addr) (fp:List Addr) (tn:Nat->Heap->Prop) (J:It) (H':Hp),itv=.ref it/\Inv X pins σ H' s2/\Turn X.prog X.w X.K tg J fp it tn/\tn 0 s2.heap/\(∀ b∈fp,rE X pins H' b)/\R J H'
noncomputable def PI (X:Cx) (tg iter:Expr) (wi:TI):Prop :=
 ∀ (pins:List (Addr × Obj)) (s:Shared) (σ:St) (H:Hp) (R:It->Hp->Prop),Inv X pins σ H s->wi σ H R ->
  wpAny (model X.prog X.w) X.A (eval iter X.env) (fun v s1=>wpAny (model X.prog X.w) X.A (pyIter v) (R0 X pins σ tg R) X.xe s1) X.xe s
theorem AF {M:Model} {A:Around} {E:Value->Shared->Prop} {s:Shared} {tg:Expr} {it:Addr} {u:Value} {o:Obj} {n:String} {vs:Array Value} {Q:Unit->Shared->Prop} (ho:s.heap.get? it=some o) (hc:o.cls=.type n) (hd:o.data=.fields vs)
    (hn:["enumerate","zip","dict_itemiterator","dict_reverseitemiterator","odict_iterator","itertools.zip_longest","itertools.pairwise"].contains n=false) (hQ:Q () s):wpAny M A (letOwnedTupleGo tg (.ref it) u) Q E s:=by
  unfold letOwnedTupleGo
  cases tg <;> first
    | exact wpAny_pure hQ
    | (cases u <;> first
        | exact wpAny_pure hQ
        | (refine wpAny_bind (wpAny_load ho ?_)
           rw [hc,hd]
           show wpAny M A (if (["enumerate","zip","dict_itemiterator","dict_reverseitemiterator","odict_iterator","itertools.zip_longest","itertools.pairwise"].contains n && vs[0]? == some (rawInt _))=true then _ else _) Q E s
           rw [if_neg (by intro h;rw [hn,Bool.false_and] at h;cases h)]
           exact wpAny_pure hQ))
noncomputable def Mg (K:PySem.W.Frag) (a:Addr):It :=
 ⟨fun i H=>∃ xs x,eC K H a xs/\xs[i]?=some x,fun i H x H'=>H'=H/\∀ xs,eC K H a xs->xs[i]?=some x,fun i H=>∃ xs,eC K H a xs/\xs.length<=i⟩
noncomputable def Pf (K:PySem.W.Frag) (a:Addr):It :=
 ⟨fun i H=>∃ xs x,fH K H a xs/\xs[i]?=some x,fun i H x H'=>H'=H/\∀ xs,fH K H a xs->xs[i]?=some x,fun i H=>∃ xs,fH K H a xs/\xs.length<=i⟩
noncomputable def BX (lo:Int) (n:Nat):It:=⟨fun i _=>i < n,fun i H x H'=>H'=H/\x=.int (lo + i),fun i _=>n<=i⟩
theorem Jz {P:Program} {w:World} {K:PySem.W.Frag} {tg:Expr} (a it:Addr):Turn P w K tg (Mg K a) [it] it (fun i h=>h.IsListIter it a i) where
 mem:=by simp
 obj:=fun i h st b hb=>by
  have e:b=it:=by simpa using hb
  subst e
  obtain ⟨o,e,c,d⟩:=st
  exact ⟨o,e,fun v z=>by rw [d] at z;cases z⟩
 keep:=fun i h h' st k=>st.at fun o e=>k it (by simp) o e
 item:=by
  intro X hP hw hK hc i pins s σ H E I hf st hg
  subst hP hw hK
  obtain ⟨xs,x,hq,hx⟩:=hg
  obtain ⟨its,rv,p,hz⟩:=I.list hq
  obtain ⟨u,hu,ru⟩:=rv.get hx
  obtain ⟨f0,f1,f2,f3,f4,f5⟩:=hf it (by simp)
  refine wpAny_pyNext_list_item st p.isList (x:=u) (by simpa using hu) fun h' st' sb=>?_
  have I1:Inv X pins σ H { s with heap:=h' }:=I.turned (t':=s.toks) (fun b o hb e=>(sb.2 b hb).trans e) f0 f1 f3 f4 f5
  obtain ⟨o,e,c,d⟩:=id st'
  exact ⟨u,rfl,AF (s:={ s with heap:=h' }) e c d (by decide) ⟨x,H,I1,ru,⟨rfl,fun ys hy=>by rw [I.list_inj hy hq];exact hx⟩,st',fun b hb=>(hf b hb).1⟩⟩
 done:=by
  intro X hP hw hK hc i pins s σ H E I hf st hg
  subst hP hw hK
  obtain ⟨xs,hq,hx⟩:=hg
  obtain ⟨its,rv,p,hz⟩:=I.list hq
  obtain ⟨f0,f1,f2,f3,f4,f5⟩:=hf it (by simp)
  have hl:=rv.length
  exact wpAny_pyNext_list_end (I.ok.hd hc) st p.isList (by simp;omega) fun h' eb=>⟨rfl,I.turned (t':=s.toks) (fun b o hb e=>eb b o hb e) f0 f1 f3 f4 f5⟩
 self:=fun _ _ _ _ _ st h=>wpAny_pyIter_listiter st h
theorem GD {P:Program} {w:World} {K:PySem.W.Frag} {tg:Expr} (a it:Addr):Turn P w K tg (Pf K a) [it] it (fun i h=>h.IsTupleIter it a i) where
 mem:=by simp
 obj:=fun i h st b hb=>by
  have e:b=it:=by simpa using hb
  subst e
  obtain ⟨o,e,c,d⟩:=st
  exact ⟨o,e,fun v z=>by rw [d] at z;cases z⟩
 keep:=fun i h h' st k=>st.at fun o e=>k it (by simp) o e
 item:=by
  intro X hP hw hK hc i pins s σ H E I hf st hg
  subst hP hw hK
  obtain ⟨xs,x,hq,hx⟩:=hg
  obtain ⟨its,rv,p,hz⟩:=I.tuple hq
  obtain ⟨u,hu,ru⟩:=rv.get hx
  obtain ⟨f0,f1,f2,f3,f4,f5⟩:=hf it (by simp)
  refine wpAny_pyNext_tuple_item st (show s.heap.IsTuple a its.toArray from p) (x:=u) (by simpa using hu) fun h' st' sb=>?_
  have I1:Inv X pins σ H { s with heap:=h' }:=I.turned (t':=s.toks) (fun b o hb e=>(sb.2 b hb).trans e) f0 f1 f3 f4 f5
  obtain ⟨o,e,c,d⟩:=id st'
  exact ⟨u,rfl,AF (s:={ s with heap:=h' }) e c d (by decide) ⟨x,H,I1,ru,⟨rfl,fun ys hy=>by rw [I.tuple_inj hy hq];exact hx⟩,st',fun b hb=>(hf b hb).1⟩⟩
 done:=by
  intro X hP hw hK hc i pins s σ H E I hf st hg
  subst hP hw hK
  obtain ⟨xs,hq,hx⟩:=hg
  obtain ⟨its,rv,p,hz⟩:=I.tuple hq
  obtain ⟨f0,f1,f2,f3,f4,f5⟩:=hf it (by simp)
  have hl:=rv.length
  exact wpAny_pyNext_tuple_end (I.ok.hd hc) st (show s.heap.IsTuple a its.toArray from p) (by simp;omega) fun h' eb=>⟨rfl,I.turned (t':=s.toks) (fun b o hb e=>eb b o hb e) f0 f1 f3 f4 f5⟩
 self:=fun _ _ _ _ _ st h=>wpAny_pyIter_tupleiter st h
theorem Hk {P:Program} {w:World} {K:PySem.W.Frag} {tg:Expr} (it:Addr) (lo:Int) (n:Nat):Turn P w K tg (BX lo n) [it] it (fun i h=>IsRangeIter h it (lo + (i:Nat) * 1) ((n:Int) - (i:Nat)) 1) where
 mem:=by simp
 obj:=fun i h st b hb=>by
  have e:b=it:=by simpa using hb
  subst e
  exact ⟨_,st,fun v z=>by
   have z':Data.fields _=Data.cell v:=z
   cases z'⟩
 keep:=fun i h h' st k=>k it (by simp) _ st
 item:=by
  intro X hP hw hK hc i pins s σ H E I hf st hg
  subst hP hw hK
  obtain ⟨f0,f1,f2,f3,f4,f5⟩:=hf it (by simp)
  have W:=Walks.range (prog:=X.prog) (w:=X.w) (I.ok.hd hc) it lo 1 n
  refine W.item i s _ _ hg st fun v h' tk hv st' kk=>?_
  obtain ⟨t,rfl⟩:=hv
  have I1:Inv X pins σ H { s with heap:=h',toks:=tk }:=I.turned (fun b o hb e=>kk b o (by simpa using hb) e) f0 f1 f3 f4 f5
  refine ⟨_,rfl,AF (s:={ s with heap:=h',toks:=tk }) (n:="range_iterator") st' rfl rfl (by decide) ⟨.int (lo + i),H,I1,⟨t,?_⟩,⟨rfl,rfl⟩,st',fun b hb=>(hf b hb).1⟩⟩
  rw [Int.mul_one]
 done:=by
  intro X hP hw hK hc i pins s σ H E I hf st hg
  subst hP hw hK
  obtain ⟨f0,f1,f2,f3,f4,f5⟩:=hf it (by simp)
  exact wpAny_pyNext_range_end (I.ok.hd hc) st (by have:n<=i:=hg;omega) fun h' eb=>⟨rfl,I.turned (t':=s.toks) (fun b o hb e=>eb b o hb e) f0 f1 f3 f4 f5⟩
 self:=fun _ _ _ _ _ st h=>wpAny_pyIter_rangeiter st h
section
variable {X:Cx} {tg:Expr}
theorem LV {pins:List (Addr × Obj)} {σ:St} {H:Hp} {s:Shared} {R:It->Hp->Prop} {E:Value->Shared->Prop} {lo hi:Int} {t u v:Tok} {tk:Nat} (I:Inv X pins σ H s) (h1:-(2 ^ 62)<=lo) (h2:lo < 2 ^ 62) (h3:-(2 ^ 62)<=hi) (h4:hi < 2 ^ 62)
  (q:R (BX lo (hi - lo).toNat) H):wpAny (model X.prog X.w) X.A (pyIter (.ref s.heap.objs.size)) (R0 X pins σ tg R) E { s with heap:=s.heap.push { cls:=.type "range",data:=.fields #[.int lo t,.int hi u,.int 1 v] },toks:=tk }:=by
 refine wpAny_pyIter_range (IsRange.new ..) (small_one h1 h2 h3 h4) ?_
 have I1:Inv X pins σ H { s with heap:=s.heap.push { cls:=.type "range",data:=.fields #[.int lo t,.int hi u,.int 1 v] },toks:=tk }:=I.kept fun b o e=>Heap.get?_push_of_some _ e
 refine ⟨(s.heap.push { cls:=.type "range",data:=.fields #[.int lo t,.int hi u,.int 1 v] }).objs.size,[(s.heap.push { cls:=.type "range",data:=.fields #[.int lo t,.int hi u,.int 1 v] }).objs.size],_,_,H,rfl,
  I1.kept (t':=tk) fun b o e=>Heap.get?_push_of_some _ e,Hk _ lo (hi - lo).toNat,?_,fun b hb=>?_,q⟩
 ·have e1:lo + ((0:Nat):Int) * 1=lo:=by simp
  have e2:(((hi - lo).toNat:Nat):Int) - ((0:Nat):Int)=Builtin.Range.rangeSize lo hi 1:=by rw [rangeSize_one];split <;> omega
  show IsRangeIter _ _ (lo + ((0:Nat):Int) * 1) ((((hi - lo).toNat:Nat):Int) - ((0:Nat):Int)) 1
  rw [e1,e2]
  exact Heap.get?_push_size _ rfl
 ·have e:b=(s.heap.push { cls:=.type "range",data:=.fields #[.int lo t,.int hi u,.int 1 v] }).objs.size:=by simpa using hb
  subst e
  exact I1.fpOk (Nat.le_refl _) (I1.hok.fresh (Nat.le_refl _))
noncomputable def L8 (ta:TA):TI:=fun σ H R=>ta σ H fun vs H1=>∃ j:Int,vs=[.int j]/\-(2 ^ 62)<=j/\j < 2 ^ 62/\R (BX 0 j.toNat) H1
theorem Jr {a:Expr} {ta:TA} {p pos:Pos} (hg:Gl X "range") (hm:X.mg "range"=none) (ha:PA X [a] ta) (hs:starEach [a] X.env=[(false,eval a X.env)]:=by rfl):PI X tg (.Call (.Name "range" p) [a] [] pos) (L8 ta):=by
 intro pins s σ H R I h
 refine Call_ (nX I hg hm boot_range (PyProof.Rows.callWith_type1 (bF (ha pos pins s σ H _ I h) fun us s1 ⟨vs,H1,I1,r1,q1⟩=>?_) hs rfl))
 obtain ⟨j,e,q1,q2,q⟩:=q1
 subst e
 cases r1 with
 | cons r rr =>
  cases rr
  obtain ⟨t,rfl⟩:=r
  exact call_range_1 (LV I1 (by omega) (by omega) q1 q2 (by simpa using q))
noncomputable def PY (wi:TI) (g:TG) (tb:TS):TS:=fun D σ H=>wi σ H fun J H1=>∃ W:Nat->Nat->St->Hp->Prop,(∃ m,W 0 m σ H1)/\∀ i m σ H,W i m σ H ->
 (J.stop i H/\D.nx σ H)\/(J.go i H/\∃ N:St->Hp->Prop,(∀ σ' H',N σ' H'->∃ m',m' < m/\W (i + 1) m' σ' H')/\∀ x H',J.yld i H x H'->g x σ H' fun σ2 H2=>tb { D with nx:=N,ct:=N,bk:=D.nx } σ2 H2)
def sP (fp:List Addr) (h:Heap):List (Addr × Obj):=fp.filterMap fun b=>(h.get? b).map fun o=>(b,o)
theorem k8 {fp:List Addr} {h:Heap} {b:Addr} {o:Obj} (hb:b∈fp) (e:h.get? b=some o):(b,o)∈sP fp h:=List.mem_filterMap.mpr ⟨b,hb,by rw [e];rfl⟩
theorem HC {fp:List Addr} {h:Heap} {p:Addr × Obj} (hp:p∈sP fp h):p.1∈fp/\h.get? p.1=some p.2:=by
 obtain ⟨b,hb,e⟩:=List.mem_filterMap.mp hp
 cases q:h.get? b with
 | none=>rw [q] at e;cases e
 | some o =>
  rw [q] at e
  have e':(b,o)=p:=Option.some.inj e
  subst e'
  exact ⟨hb,q⟩
theorem Inv.pinned {pins:List (Addr × Obj)} {σ:St} {H:Hp} {s:Shared} {fp:List Addr} (I:Inv X pins σ H s) (hf:∀ b∈fp,rE X pins H b) (ho:∀ b∈fp,∃ o,s.heap.get? b=some o/\∀ v,o.data≠.cell v):Inv X (pins++sP fp s.heap) σ H s :=
 I.pins_of fun p hp=>(List.mem_append.mp hp).elim (fun z=>I.pin p (List.mem_append_right _ z)) fun z=>by
  obtain ⟨hb,e⟩:=HC z
  obtain ⟨f0,f1,f2,_⟩:=hf p.1 hb
  obtain ⟨o,e',d⟩:=ho p.1 hb
  rw [e] at e';cases e'
  exact ⟨e,f0,f1,f2,d⟩
theorem Inv.unpinned {pins pl:List (Addr × Obj)} {σ:St} {H:Hp} {s:Shared} (I:Inv X (pins++pl) σ H s):Inv X pins σ H s:=I.pins_of fun p hp=>I.pin p (List.mem_append_right _ (List.mem_append_left _ hp))
theorem QE {iter:Expr} {body:List Stmt} {wi:TI} {g:TG} {tb:TS} {pos:Pos} (hp:PassesOwn (model X.prog X.w) X.A X.env X.xe) (hc:X.calm=true) (hi:PI X tg iter wi) (hg:PG X tg g) (hb:qU X body tb)
  (hs:∀ x,foldedSetIterable iter X.env x=pure x:=by intro _;rfl):PS X (.For tg iter body [] pos) (PY wi g tb):=by
 intro pins s σ H D I h
 refine wpAny_For (bF (hi pins s σ H _ I h) fun v s1 h1=>bF h1 fun itv s2 h2=>?_) hs
 obtain ⟨it,fp,tn,J,H2,e,I2,T,cT,f2,W,⟨m0,w0⟩,turn⟩:=h2
 subst e
 have stat:∀ {H':Hp},(∀ b∈fp,H' b=none)->∀ b∈fp,rE X pins H' b:=fun hn b hb=>⟨hn b hb,(f2 b hb).2⟩
 refine codeAny_forLoop_any (fun n s'=>∃ i σ' H',Inv X pins σ' H' s'/\tn i s'.heap/\(∀ b∈fp,H' b=none)/\W i n σ' H') ?_ m0 ⟨0,σ,H2,I2,cT,fun b hb=>(f2 b hb).1,w0⟩
 rintro n s3 ⟨i,σ3,H3,I3,st3,fr3,w3⟩
 rcases turn i n σ3 H3 w3 with ⟨stop,qn⟩ | ⟨go,N,hN,step⟩
 ·refine wpAny_passesOwn hp (bF (T.done X rfl rfl rfl hc i pins s3 σ3 H3 X.xe I3 (stat fr3) st3 stop) fun r s4 ⟨hr,I4⟩=>?_)
  subst hr
  exact wpAny_execs_nil ⟨σ3,H3,I4,qn⟩
 ·refine wpAny_passesOwn hp (bF (T.item X rfl rfl rfl hc i pins s3 σ3 H3 X.xe I3 (stat fr3) st3 go) fun r s4 ⟨u,hr,h4⟩=>?_)
  subst hr
  refine wpAny_passesOwn hp (bF h4 fun _ s5 ⟨x,H5,I5,r5,y5,st5,fr5⟩=>?_)
  have I5':=I5.pinned (stat fr5) (T.obj _ _ st5)
  refine wpAny_passesOwn hp (bF (hg _ s5 σ3 H5 x u _ I5' r5 (step x H5 y5)) fun _ s6 ⟨σ6,H6,I6,q6⟩=>?_)
  refine wpAny_passesOwn hp (bF (hb _ s6 σ6 H6 _ I6 q6) fun f s7 q7=>?_)
  have again:∀ {σ7:St} {H7:Hp},Inv X (pins++sP fp s5.heap) σ7 H7 s7->N σ7 H7->∃ m,m < n/\∃ i σ' H',Inv X pins σ' H' s7/\tn i s7.heap/\(∀ b∈fp,H' b=none)/\W i m σ' H':=fun {σ7 H7} I7 n7=>by
   obtain ⟨m',hm,w7⟩:=hN σ7 H7 n7
   refine ⟨m',hm,i + 1,σ7,H7,I7.unpinned,T.keep _ _ _ st5 fun b hb o e=>(I7.pin (b,o) (List.mem_append_right _ (List.mem_append_right _ (k8 hb e)))).1,fun b hb=>?_,w7⟩
   obtain ⟨o,e,d⟩:=T.obj _ _ st5 b hb
   exact (I7.pin (b,o) (List.mem_append_right _ (List.mem_append_right _ (k8 hb e)))).2.1
  cases f with
  | next=>obtain ⟨σ7,H7,I7,n7⟩:=q7;exact again I7 n7
  | cont=>obtain ⟨σ7,H7,I7,n7⟩:=q7;exact again I7 n7
  | brk=>obtain ⟨σ7,H7,I7,q7⟩:=q7;exact ⟨σ7,H7,I7.unpinned,q7⟩
  | ret v=>obtain ⟨x7,σ7,H7,I7,r7,q7⟩:=q7;exact ⟨x7,σ7,H7,I7.unpinned,r7,q7⟩
end
abbrev R2:=V->V->Hp->VK->Prop
noncomputable def dW (X:Cx) (f:Value->Value->Sem Value) (r:R2):Prop :=
 ∀ (pins:List (Addr × Obj)) (s:Shared) (σ:St) (H:Hp) (x y:V) (v u:Value) (Q:VK),Inv X pins σ H s->RelV x v->RelV y u->r x y H Q ->
  wpAny (model X.prog X.w) X.A (f v u) (EP X pins σ Q) X.xe s
noncomputable def Rc (X:Cx) (f:Value->Sem Value) (r:V->Hp->VK->Prop):Prop :=
 ∀ (pins:List (Addr × Obj)) (s:Shared) (σ:St) (H:Hp) (x:V) (v:Value) (Q:VK),Inv X pins σ H s->RelV x v->r x H Q ->
  wpAny (model X.prog X.w) X.A (f v) (EP X pins σ Q) X.xe s
def mF (X:Cx) (f:Value) (r:List V->Hp->VK->Prop):Prop :=
 ∀ (pins:List (Addr × Obj)) (s:Shared) (σ:St) (H:Hp) (xs:List V) (us:List Value) (Q:VK),Inv X pins σ H s->Vals xs us->r xs H Q ->
  wpAny (model X.prog X.w) X.A (call f us) (EP X pins σ Q) X.xe s
noncomputable def Ss (X:Cx) (r:V->Hp->(Bool->Hp->Prop)->Prop):Prop :=
 ∀ (pins:List (Addr × Obj)) (s:Shared) (σ:St) (H:Hp) (x:V) (v:Value) (Q:Bool->Hp->Prop),Inv X pins σ H s->RelV x v->r x H Q ->
  wpAny (model X.prog X.w) X.A (truthy v) (TP X pins σ Q) X.xe s
noncomputable def ES (r:R2) (ta tb:TE):TE:=fun σ H Q=>ta σ H fun x H1=>tb σ H1 fun y H2=>r x y H2 Q
noncomputable def R1 (r:V->Hp->VK->Prop) (ta:TE):TE:=fun σ H Q=>ta σ H fun x H1=>r x H1 Q
def rI (C:Int->Int->Prop) (g:Int->Int->V):R2:=fun x y H Q=>∃ i j,x=.int i/\y=.int j/\C i j/\Q (g i j) H
def uP (g:Int->Int->V):R2:=fun x y H Q=>∃ i j,x=.int i/\y=.int j/\Q (g i j) H
def rU (g:Int->V):V->Hp->VK->Prop:=fun x H Q=>∃ i,x=.int i/\Q (g i) H
section
variable {X:Cx} {a b c:Expr} {ta tb tc:TE} {pos:Pos}
theorem LN (ha:PE X a ta) (hb:PE X b tb) {pins:List (Addr × Obj)} {s:Shared} {σ:St} {H:Hp} {R:V->V->Hp->Prop} (I:Inv X pins σ H s)
  (h:ta σ H fun x H1=>tb σ H1 fun y H2=>R x y H2) {Q:Value->Shared->Prop} {f:Value->Value->Sem Value}
  (hf:∀ v u s2 x y H2,Inv X pins σ H2 s2->RelV x v->RelV y u->R x y H2->wpAny (model X.prog X.w) X.A (f v u) Q X.xe s2) :
  wpAny (model X.prog X.w) X.A (eval a X.env) (fun v s₁=>wpAny (model X.prog X.w) X.A (eval b X.env) (fun u s₂=>wpAny (model X.prog X.w) X.A (f v u) Q X.xe s₂) X.xe s₁) X.xe s:=by
 refine bF (ha pins s σ H _ I h) fun v s1 ⟨x,H1,I1,r1,q1⟩=>?_
 refine bF (hb pins s1 σ H1 _ I1 q1) fun u s2 ⟨y,H2,I2,r2,q2⟩=>?_
 exact hf v u s2 x y H2 I2 r1 r2 q2
theorem RH {op:Operator} {r:R2} (ho:dW X (binaryOp op) r) (ha:PE X a ta) (hb:PE X b tb):PE X (.BinOp a op b pos) (ES r ta tb):=by
 intro pins s σ H Q I h
 exact wpAny_BinOp (LN ha hb I h fun v u s2 x y H2 I2 rx ry q=>ho pins s2 σ H2 x y v u Q I2 rx ry q)
theorem Rn {op:UnaryOp} {r:V->Hp->VK->Prop} (ho:Rc X (unaryOp op) r) (ha:PE X a ta):PE X (.UnaryOp op a pos) (R1 r ta):=by
 intro pins s σ H Q I h
 exact UnaryOp_ (bF (ha pins s σ H _ I h) fun v s1 ⟨x,H1,I1,r1,q1⟩=>ho pins s1 σ H1 x v Q I1 r1 q1)
theorem Mt {f:Value->Value->Sem Value} {C:Int->Int->Prop} {g:Int->Int->Int}
  (rule:∀ (i j:Int) (t u:Tok) (s:Shared) (Q:Value->Shared->Prop) (E:Value->Shared->Prop),C i j->Q (.int (g i j) s.toks) { s with toks:=s.toks + 1 }->wpAny (model X.prog X.w) X.A (f (.int i t) (.int j u)) Q E s) :
  dW X f (rI C fun i j=>.int (g i j)):=by
 intro pins s σ H x y v u Q I rx ry h
 obtain ⟨i,j,rfl,rfl,hc,q⟩:=h
 obtain ⟨t,rfl⟩:=rx
 obtain ⟨t',rfl⟩:=ry
 exact rule i j t t' s _ _ hc ⟨.int (g i j),H,I.tok _,⟨_,rfl⟩,q⟩
theorem QD {f:Value->Value->Sem Value} {g:Int->Int->Int}
  (rule:∀ (i j:Int) (t u:Tok) (s:Shared) (Q:Value->Shared->Prop) (E:Value->Shared->Prop),Q (.int (g i j) s.toks) { s with toks:=s.toks + 1 }->wpAny (model X.prog X.w) X.A (f (.int i t) (.int j u)) Q E s) :
  dW X f (uP fun i j=>.int (g i j)):=by
 intro pins s σ H x y v u Q I rx ry h
 obtain ⟨i,j,rfl,rfl,q⟩:=h
 obtain ⟨t,rfl⟩:=rx
 obtain ⟨t',rfl⟩:=ry
 exact rule i j t t' s _ _ ⟨.int (g i j),H,I.tok _,⟨_,rfl⟩,q⟩
theorem GY {f:Value->Value->Sem Value} {g:Int->Int->Bool}
  (rule:∀ (i j:Int) (t u:Tok) (s:Shared) (Q:Value->Shared->Prop) (E:Value->Shared->Prop),Q (.bool (g i j)) s->wpAny (model X.prog X.w) X.A (f (.int i t) (.int j u)) Q E s) :
  dW X f (uP fun i j=>.bl (g i j)):=by
 intro pins s σ H x y v u Q I rx ry h
 obtain ⟨i,j,rfl,rfl,q⟩:=h
 obtain ⟨t,rfl⟩:=rx
 obtain ⟨t',rfl⟩:=ry
 exact rule i j t t' s _ _ ⟨.bl (g i j),H,I,rfl,q⟩
noncomputable def K2 (i j:Int):Prop:=0<=j/\j<=1000000/\i.natAbs < 2 ^ 64
noncomputable def Lk (i j:Int):Prop:=(-(2 ^ 64) < i/\i < 2 ^ 64)\/(-(2 ^ 64) < j/\j < 2 ^ 64)
theorem Lk.ok {i j:Int} (h:Lk i j):IntMulOk i j:=by
 rcases h with ⟨h1,h2⟩ | ⟨h1,h2⟩
 ·exact .of_left (intBits_le_64 h1 h2)
 ·exact .of_right (intBits_le_64 h1 h2)
theorem RI (k:Nat):(0:Int)<=2 ^ k:=by
 rw [two_pow_cast]
 exact Int.natCast_nonneg _
theorem O6:dW X (binaryOp .Add) (uP fun i j=>.int (i + j)):=QD fun _ _ _ _ _ _ _ q=>add_int q
theorem O1:dW X (binaryOp .Sub) (uP fun i j=>.int (i - j)):=QD fun _ _ _ _ _ _ _ q=>sub_int q
theorem QC:dW X (binaryOp .Mod) (rI (fun _ j=>0 < j) fun i j=>.int (i % j)):=Mt fun i j _ _ _ _ _ hc q=>by
 have h1:(0:Int) < j:=hc
 exact mod_int' (by omega) (by rw [Int.fmod_eq_emod_of_nonneg i (by omega)];exact q)
theorem Qp:dW X (binaryOp .Pow) (rI K2 fun i j=>.int (i ^ j.toNat)):=Mt fun _ _ _ _ _ _ _ hc q=>pow_int_small hc.1 hc.2.1 hc.2.2 q
theorem Sy {f:Value->Sem Value} {g:Int->Int}
  (rule:∀ (i:Int) (t:Tok) (s:Shared) (Q:Value->Shared->Prop) (E:Value->Shared->Prop),Q (.int (g i) s.toks) { s with toks:=s.toks + 1 }->wpAny (model X.prog X.w) X.A (f (.int i t)) Q E s) :
  Rc X f (rU fun i=>.int (g i)):=by
 intro pins s σ H x v Q I rx h
 obtain ⟨i,rfl,q⟩:=h
 obtain ⟨t,rfl⟩:=rx
 exact rule i t s _ _ ⟨.int (g i),H,I.tok _,⟨_,rfl⟩,q⟩
theorem Qt:Rc X (unaryOp .USub) (rU fun i=>.int (-i)):=Sy fun _ _ _ _ _ q=>neg_int q
end
noncomputable def Hd:V->V->Bool
 | .non,.non=>true | .non,.int _=>true | .int _,.non=>true | .non,.bl _=>true | .bl _,.non=>true | .non,.str _=>true | .str _,.non=>true
 | .int _,.int _=>true | .bl _,.bl _=>true | .str _,.str _=>true | .byt _,.byt _=>true
 | .int _,.str _=>true | .str _,.int _=>true | .bl _,.str _=>true | .str _,.bl _=>true
 | _,_=>false
noncomputable def SA:R2:=fun x y H Q=>Hd x y=true/\Q (.bl (decide (x=y))) H
noncomputable def Sz:R2:=fun x y H Q=>Hd x y=true/\Q (.bl (!decide (x=y))) H
theorem Ft {i j:Int}:decide (V.int i=V.int j)=(i == j):=by
 rw [Bool.eq_iff_iff]
 simp
theorem JD {i j:Bool}:decide (V.bl i=V.bl j)=(i == j):=by
 rw [Bool.eq_iff_iff]
 simp
theorem E4 {i j:Str}:decide (V.str i=V.str j)=(i == j):=by
 rw [Bool.eq_iff_iff]
 simp
theorem E9 {i j:Array UInt8}:decide (V.byt i=V.byt j)=(i.toList == j.toList):=by
 rw [Bool.eq_iff_iff]
 cases i
 cases j
 simp
section
variable {X:Cx} {a b c:Expr} {ta tb tc:TE} {pos:Pos}
theorem bV {pins:List (Addr × Obj)} {σ:St} {H:Hp} {s:Shared} {Q:VK} {k k':Bool} (I:Inv X pins σ H s) (q:Q (.bl k) H) (e:k=k'):EP X pins σ Q (.bool k') s:=by
 subst e
 exact ⟨.bl k,H,I,rfl,q⟩
theorem Rt:dW X (compareOp .Eq) SA:=by
 intro pins s σ H x y v u Q I rx ry h
 obtain ⟨hs,q⟩:=h
 cases x with
 | non =>
  cases rx
  cases y with
  | non=>cases ry;exact PySem.EqNone.eq_none_none (bV I q (by simp))
  | bl j=>cases ry;exact PySem.EqNone.eq_none_bool (bV I q (by simp))
  | int j=>obtain ⟨t',rfl⟩:=ry;exact PySem.EqNone.eq_none_int (bV I q (by simp))
  | str j=>obtain ⟨t',rfl⟩:=ry;exact PySem.EqNone.eq_none_str (bV I q (by simp))
  | _=>exact absurd (show false=true from hs) Bool.false_ne_true
 | bl i =>
  cases rx
  cases y with
  | non=>cases ry;exact PySem.EqNone.eq_bool_none (bV I q (by simp))
  | bl j=>cases ry;exact eq_bool (bV I q JD)
  | str j=>obtain ⟨t',rfl⟩:=ry;exact PySem.EqMixed.eq_bool_str (bV I q (by simp))
  | _=>exact absurd (show false=true from hs) Bool.false_ne_true
 | int i =>
  obtain ⟨t,rfl⟩:=rx
  cases y with
  | non=>cases ry;exact PySem.EqNone.eq_int_none (bV I q (by simp))
  | int j=>obtain ⟨t',rfl⟩:=ry;exact eq_int (bV I q Ft)
  | str j=>obtain ⟨t',rfl⟩:=ry;exact PySem.EqMixed.eq_int_str (bV I q (by simp))
  | _=>exact absurd (show false=true from hs) Bool.false_ne_true
 | str i =>
  obtain ⟨t,rfl⟩:=rx
  cases y with
  | non=>cases ry;exact PySem.EqNone.eq_str_none (bV I q (by simp))
  | bl j=>cases ry;exact PySem.EqMixed.eq_str_bool (bV I q (by simp))
  | int j=>obtain ⟨t',rfl⟩:=ry;exact PySem.EqMixed.eq_str_int (bV I q (by simp))
  | str j=>obtain ⟨t',rfl⟩:=ry;exact eq_str (bV I q E4)
  | _=>exact absurd (show false=true from hs) Bool.false_ne_true
 | byt i =>
  obtain ⟨t,rfl⟩:=rx
  cases y with
  | byt j=>obtain ⟨t',rfl⟩:=ry;exact PySem.W.eq_bytes (bV I q E9)
  | _=>exact absurd (show false=true from hs) Bool.false_ne_true
 | _=>cases y <;> exact absurd (show false=true from hs) Bool.false_ne_true
theorem RL:dW X (compareOp .NotEq) Sz:=by
 intro pins s σ H x y v u Q I rx ry h
 obtain ⟨hs,q⟩:=h
 cases x with
 | non =>
  cases rx
  cases y with
  | non=>cases ry;exact PySem.EqNone.ne_none_none (bV I q (by simp))
  | bl j=>cases ry;exact PySem.EqNone.ne_none_bool (bV I q (by simp))
  | int j=>obtain ⟨t',rfl⟩:=ry;exact PySem.EqNone.ne_none_int (bV I q (by simp))
  | str j=>obtain ⟨t',rfl⟩:=ry;exact PySem.EqNone.ne_none_str (bV I q (by simp))
  | _=>exact absurd (show false=true from hs) Bool.false_ne_true
 | bl i =>
  cases rx
  cases y with
  | non=>cases ry;exact PySem.EqNone.ne_bool_none (bV I q (by simp))
  | bl j=>cases ry;exact ne_bool (bV I q (congrArg not JD))
  | str j=>obtain ⟨t',rfl⟩:=ry;exact PySem.EqMixed.ne_bool_str (bV I q (by simp))
  | _=>exact absurd (show false=true from hs) Bool.false_ne_true
 | int i =>
  obtain ⟨t,rfl⟩:=rx
  cases y with
  | non=>cases ry;exact PySem.EqNone.ne_int_none (bV I q (by simp))
  | int j=>obtain ⟨t',rfl⟩:=ry;exact ne_int (bV I q (congrArg not Ft))
  | str j=>obtain ⟨t',rfl⟩:=ry;exact PySem.EqMixed.ne_int_str (bV I q (by simp))
  | _=>exact absurd (show false=true from hs) Bool.false_ne_true
 | str i =>
  obtain ⟨t,rfl⟩:=rx
  cases y with
  | non=>cases ry;exact PySem.EqNone.ne_str_none (bV I q (by simp))
  | bl j=>cases ry;exact PySem.EqMixed.ne_str_bool (bV I q (by simp))
  | int j=>obtain ⟨t',rfl⟩:=ry;exact PySem.EqMixed.ne_str_int (bV I q (by simp))
  | str j=>obtain ⟨t',rfl⟩:=ry;exact ne_str (bV I q (congrArg not E4))
  | _=>exact absurd (show false=true from hs) Bool.false_ne_true
 | byt i =>
  obtain ⟨t,rfl⟩:=rx
  cases y with
  | byt j=>obtain ⟨t',rfl⟩:=ry;exact PySem.W.ne_bytes (bV I q (congrArg not E9))
  | _=>exact absurd (show false=true from hs) Bool.false_ne_true
 | _=>cases y <;> exact absurd (show false=true from hs) Bool.false_ne_true
theorem RW:dW X (compareOp .Lt) (uP fun i j=>.bl (decide (i < j))):=GY fun _ _ _ _ _ _ _ q=>lt_int q
theorem RD:dW X (compareOp .LtE) (uP fun i j=>.bl (decide (i<=j))):=GY fun _ _ _ _ _ _ _ q=>le_int q
theorem Ro:dW X (compareOp .Gt) (uP fun i j=>.bl (decide (j < i))):=GY fun _ _ _ _ _ _ _ q=>gt_int q
theorem RB:dW X (compareOp .GtE) (uP fun i j=>.bl (decide (j<=i))):=GY fun _ _ _ _ _ _ _ q=>ge_int q
theorem PK:dW X (compareOp .Is) (fun x y H Q=>y=.non/\Q (.bl (decide (x=.non))) H):=by
 intro pins s σ H x y v u Q I rx ry h
 obtain ⟨rfl,q⟩:=h
 cases ry
 refine is_none_gen (bV I q ?_)
 cases x <;> first
  | (cases rx;rfl)
  | (obtain ⟨t,rfl⟩:=rx;rfl)
theorem Ni:dW X (compareOp .IsNot) (fun x y H Q=>y=.non/\Q (.bl (!decide (x=.non))) H):=by
 intro pins s σ H x y v u Q I rx ry h
 obtain ⟨rfl,q⟩:=h
 cases ry
 refine isnot_none_gen (bV I q ?_)
 cases x <;> first
  | (cases rx;rfl)
  | (obtain ⟨t,rfl⟩:=rx;rfl)
theorem dW.or {f:Value->Value->Sem Value} {r r':R2} (h:dW X f r) (h':dW X f r'):dW X f (fun x y H Q=>r x y H Q\/r' x y H Q):=by
 intro pins s σ H x y v u Q I rx ry q
 rcases q with q | q
 ·exact h pins s σ H x y v u Q I rx ry q
 ·exact h' pins s σ H x y v u Q I rx ry q
theorem Jh (b:Expr) {op:CmpOp} (h:op≠.In:=by decide) (h2:op≠.NotIn:=by decide):behindInMarks op b=false:=by
 have e1:(op == CmpOp.In)=false:=by cases op <;> first | rfl | exact absurd rfl h
 have e2:(op == CmpOp.NotIn)=false:=by cases op <;> first | rfl | exact absurd rfl h2
 cases b <;> simp [behindInMarks,e1,e2]
theorem N9 {op:CmpOp} {r:R2} (ho:dW X (compareOp op) r) (ha:PE X a ta) (hb:PE X b tb) (hm:behindInMarks op b=false):PE X (.Compare a [op] [b] pos) (ES r ta tb):=by
 intro pins s σ H Q I h
 exact wpAny_Compare1 (LN ha hb I h fun v u s2 x y H2 I2 rx ry q=>ho pins s2 σ H2 x y v u Q I2 rx ry q) hm
noncomputable def MD (t:TE):TT:=fun σ H Q=>t σ H fun x H'=>∃ k,x=.bl k/\Q k H'
theorem NX {op:CmpOp} {r:R2} (ho:dW X (compareOp op) r) (ha:PE X a ta) (hb:PE X b tb) (hm:behindInMarks op b=false):PT X (.Compare a [op] [b] pos) (MD (ES r ta tb)):=by
 intro pins s σ H Q I h
 refine wpAny_isTrue_Compare1 (bF (ha pins s σ H _ I h) fun v s1 ⟨x,H1,I1,r1,q1⟩=>bF (hb pins s1 σ H1 _ I1 q1) fun u s2 ⟨y,H2,I2,r2,q2⟩ =>
  bF (ho pins s2 σ H2 x y v u _ I2 r1 r2 q2) fun c s3 ⟨z,H3,I3,r3,k,e,q3⟩=>?_) hm
 subst e
 cases r3
 exact wpAny_truthy_bool ⟨H3,I3,q3⟩
noncomputable def IP (r r':R2) (ta tb tc:TE):TE:=fun σ H Q=>ta σ H fun x H1=>tb σ H1 fun y H2=>r x y H2 fun z H3=>∃ k,z=.bl k /\
 (if k=true then tc σ H3 fun w' H4=>r' y w' H4 Q else Q (.bl false) H3)
theorem J1 {op op':CmpOp} {r r':R2} (ho:dW X (compareOp op) r) (ho':dW X (compareOp op') r') (ha:PE X a ta) (hb:PE X b tb) (hc:PE X c tc)
  (hm:lastMarks [op,op'] [b,c]=false:=by with_unfolding_all rfl):PE X (.Compare a [op,op'] [b,c] pos) (IP r r' ta tb tc):=by
 intro pins s σ H Q I h
 refine Compare_chain (bF (ha pins s σ H _ I h) fun v s1 ⟨x,H1,I1,r1,q1⟩=>chain_link (bF (hb pins s1 σ H1 _ I1 q1) fun u s2 ⟨y,H2,I2,r2,q2⟩ =>
  bF (ho pins s2 σ H2 x y v u _ I2 r1 r2 q2) fun d s3 ⟨z,H3,I3,r3,k,e,q3⟩=>?_)) hm
 subst e
 cases r3
 refine wpAny_truthy_bool ?_
 cases k with
 | false=>exact ite_ff ⟨.bl false,H3,I3,rfl,q3⟩
 | true=>exact ite_tt (chain_last (bF (hc pins s3 σ H3 _ I3 q3) fun w' s4 ⟨z',H4,I4,r4,q4⟩=>ho' pins s4 σ H4 y z' u w' Q I4 r2 r4 q4))
noncomputable def Lx (K:PySem.W.Frag) (x:V) (H:Hp) (k:Bool):Prop :=
 match x with
 | .non=>k=false
 | .bl b=>k=b
 | .int i=>k=(i != 0)
 | .str y=>y.length<=sizeLine/\k=((y.length:Int) != 0)
 | .byt y=>y.size<=sizeLine/\k=((y.size:Int) != 0)
 | .ref p=>(∃ xs,eC K H p xs/\k=!xs.isEmpty)\/(∃ xs,fH K H p xs/\k=!xs.isEmpty)\/∃ kvs,H p=some (.dK kvs)/\k=!kvs.isEmpty
 | _=>False
theorem G4 {κ:Type} {kvs:List (κ × V)} {vs:List (κ × Value)} (r:KV kvs vs):(!vs.isEmpty)=!kvs.isEmpty:=by
 cases r <;> rfl
theorem Aa {xs:List V} {its:List Value} (r:Vals xs its):(!its.toArray.isEmpty)=!xs.isEmpty:=by
 cases r <;> simp
theorem sA:(sizeLine:Nat) < 2 ^ 63:=by rw [sizeLine_eq];decide
theorem Qd:Ss X (fun x H Q=>∃ k,Lx X.K x H k/\Q k H):=by
 intro pins s σ H x v Q I rx h
 obtain ⟨k,e,q⟩:=h
 have hl:=sA
 have hs:sizeLine=16777216:=sizeLine_eq
 cases x with
 | non =>
  cases rx
  have e':k=false:=e
  subst e'
  exact truthy_none ⟨H,I,q⟩
 | bl b =>
  cases rx
  have e':k=b:=e
  subst e'
  exact wpAny_truthy_bool ⟨H,I,q⟩
 | int i =>
  obtain ⟨t,rfl⟩:=rx
  have e':k=(i != 0):=e
  subst e'
  exact PySem.P.truthy_int ⟨H,I,q⟩
 | str y =>
  obtain ⟨t,rfl⟩:=rx
  obtain ⟨hy,e'⟩:y.length<=sizeLine/\k=((y.length:Int) != 0):=e
  subst e'
  exact PySem.P.truthy_str (by omega) ⟨H,I.tok _,q⟩
 | byt y =>
  obtain ⟨t,rfl⟩:=rx
  obtain ⟨hy,e'⟩:y.size<=sizeLine/\k=((y.size:Int) != 0):=e
  subst e'
  exact PySem.W.truthy_bytes (by omega) ⟨H,I.tok _,q⟩
 | ref p =>
  cases rx
  have e':(∃ xs,eC X.K H p xs/\k=!xs.isEmpty)\/(∃ xs,fH X.K H p xs/\k=!xs.isEmpty)\/∃ kvs,H p=some (.dK kvs)/\k=!kvs.isEmpty:=e
  rcases e' with ⟨xs,hx,e'⟩ | ⟨xs,hx,e'⟩ | ⟨kvs,hx,e'⟩
  ·subst e'
   obtain ⟨its,r,pl,hz⟩:=I.list hx
   have hlen:=r.length
   exact wpAny_truthy_list pl.isList (by simp only [List.size_toArray];omega) ⟨H,I.tok _,by rw [Aa r];exact q⟩
  ·subst e'
   obtain ⟨its,r,pl,hz⟩:=I.tuple hx
   have hlen:=r.length
   exact truthy_tuple pl (by simp only [List.size_toArray];omega) ⟨H,I.tok _,by rw [Aa r];exact q⟩
  ·subst e'
   obtain ⟨hz,hS,vs,r,m⟩:kvs.length<=sizeLine/\(p == sysModules)=false/\∃ vs,KV kvs vs/\s.heap.DictOf (cV X.prog X.w) p vs:=I.hok p _ hx
   have hlen:kvs.length=vs.length:=Paired.length r
   exact wpAny_truthy_dict hS m (by omega) ⟨H,I.tok _,by rw [G4 r];exact q⟩
 | _=>exact (show False from e).elim
theorem Km (ha:PE X a ta) (he:∀ whole,isTrue a X.env whole=(do let v <- whole;standAt a.pos;holding [v] (truthy v))) :
  PT X a (fun σ H Q=>ta σ H fun x H'=>∃ k,Lx X.K x H' k/\Q k H'):=by
 intro pins s σ H Q I h
 exact isTrue_plain (bF (ha pins s σ H _ I h) fun v s1 ⟨x,H1,I1,r1,q1⟩=>Qd pins s1 σ H1 x v Q I1 r1 q1) (he _)
theorem GU:dW X (binaryOp .Add) (fun x y H Q=>∃ i j,x=.str i/\y=.str j/\i.length + j.length<=sizeLine/\Q (.str (i++j)) H):=by
 intro pins s σ H x y v u Q I rx ry h
 obtain ⟨i,j,rfl,rfl,hz,q⟩:=h
 obtain ⟨t,rfl⟩:=rx
 obtain ⟨t',rfl⟩:=ry
 exact add_str (fun t' tk=>⟨.str (i++j),H,I.tok _,⟨_,rfl⟩,q⟩) hz
theorem vals1 {x:V} {us:List Value} (r:Vals [x] us):∃ u,us=[u]/\RelV x u:=by
 cases r with
 | cons r1 r2=>cases r2;exact ⟨_,rfl,r1⟩
theorem vals2 {x y:V} {us:List Value} (r:Vals [x,y] us):∃ u w',us=[u,w']/\RelV x u/\RelV y w':=by
 cases r with
 | cons r1 r2 =>
  cases r2 with
  | cons r3 r4=>cases r4;exact ⟨_,_,rfl,r1,r3⟩
theorem Hr:mF X (.type "int") (fun xs H Q=>(∃ i,xs=[.int i]/\Q (.int i) H)\/∃ k,xs=[.bl k]/\Q (.int (if k then 1 else 0)) H):=by
 intro pins s σ H xs us Q I r h
 rcases h with ⟨i,rfl,q⟩ | ⟨k,rfl,q⟩
 ·obtain ⟨u,rfl,t,rfl⟩:=vals1 r
  exact call_int_int ⟨.int i,H,I,⟨_,rfl⟩,q⟩
 ·obtain ⟨u,rfl,r1⟩:=vals1 r
  cases r1
  exact call_int_bool ⟨.int (if k then 1 else 0),H,I.tok _,⟨_,rfl⟩,q⟩
noncomputable def QX (K:PySem.W.Frag) (x:V) (H:Hp) (n:Nat):Prop :=
 match x with
 | .str y=>y.length<=sizeLine/\n=y.length
 | .byt y=>y.size<=sizeLine/\n=y.size
 | .ref p=>(∃ xs,eC K H p xs/\n=xs.length)\/∃ xs,fH K H p xs/\n=xs.length
 | _=>False
theorem J6:mF X (.builtin "len") (fun xs H Q=>∃ x n,xs=[x]/\QX X.K x H n/\Q (.int n) H):=by
 intro pins s σ H xs us Q I r h
 obtain ⟨x,n,rfl,e,q⟩:=h
 obtain ⟨u,rfl,rx⟩:=vals1 r
 have hl:=sA
 have hs:sizeLine=16777216:=sizeLine_eq
 cases x with
 | str y =>
  obtain ⟨t,rfl⟩:=rx
  obtain ⟨hy,e'⟩:y.length<=sizeLine/\n=y.length:=e
  subst e'
  exact len_str (by omega) ⟨.int _,H,I.tok _,⟨_,rfl⟩,q⟩
 | byt y =>
  obtain ⟨t,rfl⟩:=rx
  obtain ⟨hy,e'⟩:y.size<=sizeLine/\n=y.size:=e
  subst e'
  exact PySem.W.len_bytes (by omega) ⟨.int _,H,I.tok _,⟨_,rfl⟩,q⟩
 | ref p =>
  cases rx
  have e':(∃ xs,eC X.K H p xs/\n=xs.length)\/∃ xs,fH X.K H p xs/\n=xs.length:=e
  rcases e' with ⟨xs,hx,e'⟩ | ⟨xs,hx,e'⟩
  ·subst e'
   obtain ⟨its,r',pl,hz⟩:=I.list hx
   have hlen:=r'.length
   exact Calls.call_len_list pl.isList (by simp only [List.size_toArray];omega) ⟨.int xs.length,H,I.tok _,⟨_,by simp only [List.size_toArray];rw [hlen]⟩,q⟩
  ·subst e'
   obtain ⟨its,r',pl,hz⟩:=I.tuple hx
   have hlen:=r'.length
   exact len_tuple pl (by simp only [List.size_toArray];omega) ⟨.int xs.length,H,I.tok _,⟨_,by simp only [List.size_toArray];rw [hlen]⟩,q⟩
 | _=>exact (show False from e).elim
end
section
variable {prog:Program} {w:World} {A:Around} {E:Value->Shared->Prop} {s:Shared} {K:PySem.W.Frag} {x dx C f:Addr} {mA:Str->Option Value} {name:Str} {v:Value}
end
noncomputable def GR (f:Str) (v:V):List (Str × V)->List (Str × V)
 | []=>[(f,v)]
 | (g,x) :: r=>if g=f then (g,v) :: r else (g,x) :: GR f v r
theorem ED (f g:Str) (v:V):∀ fs:List (Str × V),(GR f v fs).lookup g=if g=f then some v else fs.lookup g
 | []=>by
  show List.lookup g [(f,v)]=_
  by_cases h:g=f
  ·have hb:(g == f)=true:=beq_iff_eq.mpr h
   simp only [List.lookup,hb,if_pos h]
  ·have hb:(g == f)=false:=beq_eq_false_iff_ne.mpr h
   simp only [List.lookup,hb,if_neg h]
 | (k,x) :: r=>by
  have ih:=ED f g v r
  rw [show GR f v ((k,x) :: r)=(if k=f then (k,v) :: r else (k,x) :: GR f v r) from rfl]
  by_cases hk:k=f
  ·rw [if_pos hk]
   by_cases h:g=k
   ·have hb:(g == k)=true:=beq_iff_eq.mpr h
    simp only [List.lookup,hb,if_pos (h.trans hk)]
   ·have hb:(g == k)=false:=beq_eq_false_iff_ne.mpr h
    simp only [List.lookup,hb,if_neg (fun e:g=f=>h (e.trans hk.symm))]
  ·rw [if_neg hk]
   by_cases h:g=k
   ·have hb:(g == k)=true:=beq_iff_eq.mpr h
    simp only [List.lookup,hb,if_neg (fun e:g=f=>hk (h.symm.trans e))]
   ·have hb:(g == k)=false:=beq_eq_false_iff_ne.mpr h
    simp only [List.lookup,hb]
    exact ih
theorem oD.some_of {v:V} {o:Option Value} (r:oD (some v) o):∃ u,o=some u/\RelV v u:=by
 cases o with
 | none=>exact (show False from r).elim
 | some u=>exact ⟨u,rfl,r⟩
section
variable {P:Program} {w:World} {H H':Hp} {h h':Heap} {a C dx:Addr} {fs fs':List (Str × V)}
end
section
variable {X:Cx} {pins:List (Addr × Obj)} {σ:St} {H:Hp} {s:Shared} {a C dx:Addr} {fs:List (Str × V)} {f:Str} {v:V} {A:Around} {E:Value->Shared->Prop}
end
section
variable {X:Cx} {o e value:Expr} {f:Str} {pos pos' tpos:Pos} {ta tv:TE}
end
section
variable {X:Cx} {pins:List (Addr × Obj)} {σ:St} {H:Hp} {s:Shared} {A:Around} {E:Value->Shared->Prop} {Q:Value->Shared->Prop} {c:Value} {b:Bool}
end
structure eU (k:Nat) (A:Around):Prop where
 hd:A.handled=none
 dp:A.depth + 3 * k + 5 < recursionLimit
 un:A.units + 16 * k + 200 < cLine
theorem eU.mono {j k:Nat} {A:Around} (r:eU k A) (h:j<=k):eU j A:=⟨r.hd,by have:=r.dp;omega,by have:=r.un;omega⟩
theorem eU.deeper {k:Nat} {A:Around} (r:eU (k + 1) A) (env:Env):eU k (A.deeper env) :=
 ⟨r.hd,by have:=r.dp;show A.depth + 1 + 3 * k + 5 < _;omega,by have:=r.un;show A.units + 3 + 16 * k + 200 < _;omega⟩
theorem RR {A:Around} {C:Addr} {us:List Value} {kw:List (Str × Value)}:(A.under (.builtin "type.__call__" ⟨.ref C :: us,kw⟩)).depth=A.depth + 1:=by
 first | rfl | simp [Around.under,Code.weight,Code.isCreation,Code.isGuard,Code.isCaller,Code.frames,Code.isFrame,guardIds]
theorem RF {A:Around} {C:Addr} {us:List Value} {kw:List (Str × Value)}:(A.under (.builtin "type.__call__" ⟨.ref C :: us,kw⟩)).units=A.units + 1:=by
 first | rfl | simp [Around.under,Code.cUnits,Code.frames,Code.isFrame]
theorem eU.depth {k:Nat} {A:Around} (r:eU k A):A.depth < recursionLimit:=by have:=r.dp;omega
theorem eU.units {k:Nat} {A:Around} (r:eU k A):A.units + 64 < cLine:=by have:=r.un;omega
theorem eU.units0 {k:Nat} {A:Around} (r:eU k A):A.units < cLine:=by have:=r.un;omega
noncomputable def OL:TA:=fun _ H Q=>Q [] H
noncomputable def Md (ta:TE) (tr:TA):TA:=fun σ H Q=>ta σ H fun x H1=>tr σ H1 fun xs H2=>Q (x :: xs) H2
section
variable {X:Cx} {e:Expr} {es:List Expr} {te:TE} {t:TA} {pos:Pos}
theorem OX:PA X [] OL:=fun _ _ _ _ H Q I h=>Calls.spliced_nil ⟨[],H,I,.nil,h⟩
theorem Oi (ha:PE X e te) (hr:PA X es t) (hs:starEach (e :: es) X.env=(false,eval e X.env) :: starEach es X.env:=by rfl):PA X (e :: es) (Md te t):=by
 intro pos pins s σ H Q I h
 rw [hs]
 show wpAny _ _ (spliced ((false,eval e X.env) :: backTo pos (starEach es X.env))) _ _ s
 refine Calls.spliced_cons (bF (ha pins s σ H _ I h) fun u s1 ⟨x,H1,I1,r1,q1⟩=>?_)
 exact bF (hr pos pins s1 σ H1 _ I1 q1) fun us s2 ⟨xs,H2,I2,r2,q2⟩=>⟨x :: xs,H2,I2,.cons r1 r2,q2⟩
noncomputable def OP (t:TA):TE:=fun σ H Q=>t σ H fun xs H1=>xs.length<=sizeLine/\∀ p,H1 p=none->Q (.ref p) (upd H1 p (.tup xs))
noncomputable def QS (t:TA):TE:=fun σ H Q=>t σ H fun xs H1=>xs.length<=sizeLine/\∀ p,H1 p=none->Q (.ref p) (upd H1 p (.lst xs))
theorem Qy {x1} (h:PA X es t):PE X (.Tuple es x1 pos) (OP t):=by
 intro pins s σ H Q I hq
 refine wpAny_Tuple_spliced (bF (h pos pins s σ H _ I hq) fun us s1 ⟨xs,H1,I1,r,z,q⟩=>⟨by rw [<- r.length];exact z,?_⟩)
 have hf:H1 s1.heap.objs.size=none:=I1.hok.fresh (Nat.le_refl _)
 refine ⟨.ref s1.heap.objs.size,upd H1 s1.heap.objs.size (.tup xs),I1.laid (t':=s1.toks) (fun b u e=>Heap.get?_push_of_some _ e) (Nat.le_refl _) ?_,rfl,q _ hf⟩
 exact ⟨z,us,r,⟨_,Heap.get?_push_size _ rfl,rfl,_,rfl⟩⟩
theorem QM (h:PA X es t):PE X (.List es pos) (QS t):=by
 intro pins s σ H Q I hq
 refine wpAny_List_spliced (bF (h pos pins s σ H _ I hq) fun us s1 ⟨xs,H1,I1,r,z,q⟩=>⟨by rw [<- r.length];exact z,?_⟩)
 have hf:H1 s1.heap.objs.size=none:=I1.hok.fresh (Nat.le_refl _)
 refine ⟨.ref s1.heap.objs.size,upd H1 s1.heap.objs.size (.lst xs),I1.laid (t':=s1.toks) (fun b u e=>Heap.get?_push_of_some _ e) (Nat.le_refl _) ?_,rfl,q _ hf⟩
 exact ⟨z,us,0,r,Heap.get?_push_size _ rfl⟩
end
abbrev Sp:=List V->Hp->VK->XK->Prop
abbrev uU:=List Env->Hp->Shared->XK->Value->Shared->Prop
structure GH (P:Program) (w:World) (K:PySem.W.Frag) (mg:Str->Option Value) (base:Heap) (A:Around) (outer:List Env) (s:Shared) (H:Hp):Prop where
 frames:A.frames=some outer
 mod:Mod K mg base
 bs:∀ b o,base.get? b=some o->s.heap.get? b=some o/\H b=none
 bsz:base.objs.size<=s.heap.objs.size
 funs:s.heap.FunFrames base outer
 frf:∀ b∈rT outer,H b=none
 hok:gW P w H s.heap
 bare:AllBare s.gens
noncomputable def CE (outer:List Env) (P:Program) (w:World) (H:Hp) (s:Shared) (Q:VK) (u:Value) (s':Shared):Prop :=
 ∃ v H',s'.os=s.os/\AllBare s'.gens/\Un (rT outer) [] H H' s.heap s'.heap/\gW P w H' s'.heap/\RelV v u/\Q v H'
noncomputable def CR (CX:uU) (outer:List Env) (P:Program) (w:World) (H:Hp) (s:Shared) (Q:VK) (E:XK) (r:Result) (s':Shared):Prop :=
 match r with
 | .ok (.ret u)=>CE outer P w H s Q u s'
 | .ok _=>False
 | .error e=>CX outer H s E e s'
structure j7 (P:Program) (w:World) (K:PySem.W.Frag) (mg:Str->Option Value) (base:Heap) (CX:uU) (k:Nat) (f:Addr) (fd:FuncData) (ps:List Str) (sp:Sp):Prop where
 len:∀ vs H Q E,sp vs H Q E->vs.length=ps.length
 run:∀ (A:Around) (outer:List Env) (s:Shared) (H:Hp) (args:Args) (us:List Value) (vs:List V) (Q:VK) (E:XK),eU k A->GH P w K mg base A outer s H->BindsTo s fd args (ps.zip us)->Vals vs us->sp vs H Q E ->
  codeAny (model P w) A (.call (.ref f) args) (CR CX outer P w H s Q E) s
theorem j7.imp {P:Program} {w:World} {K:PySem.W.Frag} {mg:Str->Option Value} {base:Heap} {CX:uU} {k:Nat} {f:Addr} {fd:FuncData} {ps:List Str} {sp sp':Sp} (F:j7 P w K mg base CX k f fd ps sp)
  (h:∀ vs H Q E,sp' vs H Q E->sp vs H Q E):j7 P w K mg base CX k f fd ps sp' :=
 ⟨fun vs H Q E q=>F.len vs H Q E (h _ _ _ _ q),fun A outer s H args us vs Q E hr he hb hv hs=>F.run A outer s H args us vs Q E hr he hb hv (h _ _ _ _ hs)⟩
section
variable {X:Cx} {pins:List (Addr × Obj)} {σ:St} {H:Hp} {s s':Shared}
theorem Inv.env0 (I:Inv X pins σ H s):GH X.prog X.w X.K X.mg X.base X.A X.stack s H :=
 ⟨I.ok.frames,I.ok.mod,I.bs,Nat.le_trans I.ok.bsz I.sz,I.stack,I.stkFree,I.hok,I.bare⟩
theorem Inv.after {Q:VK} {u:Value} (I:Inv X pins σ H s) (h:CE X.stack X.prog X.w H s Q u s'):EP X pins σ Q u s':=by
 obtain ⟨v,H',os,bare,un,hok,r,q⟩:=h
 obtain ⟨hh,g,d,t,os'⟩:=s'
 obtain rfl:os'=s.os:=os
 exact ⟨v,H',I.call (h':=hh) (g':=g) (d':=d) (t':=t) (ch:=[]) un hok bare (fun b z=>absurd z (by simp)),r,q⟩
end
noncomputable def Gd (sp:Sp) (dvs:List V) (E:XK) (t:TA):TE:=fun σ H Q=>t σ H fun vs H1=>sp (vs++dvs) H1 Q E
noncomputable def Binds (K:PySem.W.Frag) (fd:FuncData) (ps:List Str) (ds:List Value):Prop :=
 ∀ (s:Shared) (us:List Value),K.In s.heap->(us++ds).length=ps.length->BindsTo s fd ⟨us,[]⟩ (ps.zip (us++ds))
theorem Binds.all {K:PySem.W.Frag} {fd:FuncData} {ps:List Str} (h:∀ us:List Value,us.length=ps.length->bindArgs fd ⟨us,[]⟩=pure (ps.zip us)):Binds K fd ps []:=fun s us _ hl=>by
 rw [List.append_nil] at hl ⊢
 exact .of_eq (h us hl)
noncomputable def Passes (CX:uU) (X:Cx) (E:XK):Prop:=∀ (pins:List (Addr × Obj)) (σ:St) (H:Hp) (s:Shared) (e:Value) (s':Shared),Inv X pins σ H s->CX X.stack H s E e s'->X.xe e s'
section
variable {X:Cx} {CX:uU} {k:Nat} {f C:Addr} {fd:FuncData} {ps:List Str} {sp:Sp} {dvs:List V} {ds:List Value} {E:XK} {x m:Str} {p pos apos:Pos} {e o:Expr} {es:List Expr} {ta:TE} {t:TA}
theorem IT {pins:List (Addr × Obj)} {σ:St} {H:Hp} {s:Shared} {Q:VK} {us:List Value} {vs:List V} (F:j7 X.prog X.w X.K X.mg X.base CX k f fd ps sp) (hr:eU k X.A) (hb:Binds X.K fd ps ds) (hd:Vals dvs ds) (hx:Passes CX X E)
  (I:Inv X pins σ H s) (r:Vals vs us) (h:sp (vs++dvs) H Q E):wpAny (model X.prog X.w) X.A (call (.ref f) us) (EP X pins σ Q) X.xe s:=by
 have r2:Vals (vs++dvs) (us++ds):=r.append hd
 have hl:(us++ds).length=ps.length:=by rw [<- r2.length];exact F.len _ _ _ _ h
 refine wpAny_call (codeAny_mono (F.run X.A X.stack s H ⟨us,[]⟩ (us++ds) (vs++dvs) Q E hr I.env0 (hb s us I.kIn hl) r2 h) fun r s' hq=>?_)
 cases r with
 | error e=>exact hx pins σ H s e s' I hq
 | ok fl =>
  cases fl with
  | ret u=>exact I.after hq
  | next=>exact False.elim hq
  | brk=>exact False.elim hq
  | cont=>exact False.elim hq
theorem OF (F:j7 X.prog X.w X.K X.mg X.base CX k f fd ps sp) (hr:eU k X.A) (hg:Gl X x) (hm:X.mg x=some (.ref f)) (hk:PySem.W.keepIn X.K (.ref f)=true) (hb:Binds X.K fd ps ds) (hd:Vals dvs ds) (hx:Passes CX X E)
  (ha:PA X (e :: es) t) (hdb:(x == ("__debug__":Str))=false:=by decide) (he:starEach (e :: es) X.env=(false,eval e X.env) :: starEach es X.env:=by rfl) (hpl:(backTo pos (starEach es X.env)).any (·.1)=false:=by rfl) :
  PE X (.Call (.Name x p) (e :: es) [] pos) (Gd sp dvs E t):=by
 intro pins s σ H Q I h
 refine wpAny_Call_Name_kw (FF I hg hm ?_ hdb)
 refine PySem.W.callWith_K (h₀:=X.base) I.ok.mod.kin hk (bF (ha pos pins s σ H _ I h) fun us s1 ⟨vs,H1,I1,r,q⟩=>⟨I1.kIn,?_⟩) he hpl
 exact IT F hr hb hd hx I1 r q
end
section
variable {X:Cx} {CX:uU} {k:Nat} {f C:Addr} {fd:FuncData} {ps ks:List Str} {sp:Sp} {E:XK} {x m:Str} {p pos apos kpos:Pos} {e o:Expr} {es:List Expr} {kws:List Keyword} {te ta:TE} {t tk:TA} {nm:Option Str}
variable {g:List Value->List Value->List Value} {gV:List V->List V->List V}
end
structure bE (N P:List Str) (sc:Scope):Prop where
 kind:sc.kind=.function
 co:sc.isCoroutine=false
 gen:sc.isGenerator=false
 nd:N.Nodup
 pre:N.take P.length=P
 par:∀ x∈P,sc.names.lookup x=some .local\/sc.names.lookup x=some .cell
 nofree:∀ y∈sc.names,y.2≠.free
theorem BM {kindOf:Str->Option NameKind} {x:Str}:∀ {binds:List (Str × Value)} {m:Str->Option Value},(∀ v,(x,v) ∉ binds)->bindL kindOf binds m x=m x
 | [],_,_=>rfl
 | (n,v) :: r,m,h=>by
  unfold bindL
  rw [BM fun w hw=>h w (List.mem_cons_of_mem _ hw)]
  split
  ·have:x≠n:=by rintro rfl;exact h v List.mem_cons_self
   simp [this]
  ·rfl
theorem B1 {kindOf:Str->Option NameKind} {x:Str}:∀ {binds:List (Str × Value)} {m:Str->Option Value},(∀ v,(x,v) ∉ binds)->bindC kindOf binds m x=m x
 | [],_,_=>rfl
 | (n,v) :: r,m,h=>by
  unfold bindC
  rw [B1 fun w hw=>h w (List.mem_cons_of_mem _ hw)]
  split
  ·rfl
  ·have:x≠n:=by rintro rfl;exact h v List.mem_cons_self
   simp [this]
theorem Bz {kindOf:Str->Option NameKind} {x:Str} {v:Value}:∀ {P:List Str} {vs:List Value} {i:Nat} {m:Str->Option Value},P.Nodup->P[i]?=some x->vs[i]?=some v->kindOf x=some .local ->
  bindL kindOf (P.zip vs) m x=some v
 | [],_,_,_,_,h,_,_=>by simp at h
 | _ :: _,[],_,_,_,_,h,_=>by simp at h
 | p :: P,w :: vs,0,m,nd,h1,h2,hk=>by
  simp at h1 h2;subst h1;subst h2
  show bindL kindOf ((p,w) :: P.zip vs) m p=_
  unfold bindL
  rw [BM fun v hv=>(List.nodup_cons.mp nd).1 (List.of_mem_zip hv).1,if_pos hk]
  simp
 | p :: P,w :: vs,i + 1,m,nd,h1,h2,hk=>by
  show bindL kindOf ((p,w) :: P.zip vs) m x=_
  unfold bindL
  exact Bz (i:=i) (List.nodup_cons.mp nd).2 (by simpa using h1) (by simpa using h2) hk
theorem BB {kindOf:Str->Option NameKind} {x:Str} {v:Value}:∀ {P:List Str} {vs:List Value} {i:Nat} {m:Str->Option Value},P.Nodup->P[i]?=some x->vs[i]?=some v->kindOf x≠some .local ->
  bindC kindOf (P.zip vs) m x=some v
 | [],_,_,_,_,h,_,_=>by simp at h
 | _ :: _,[],_,_,_,_,h,_=>by simp at h
 | p :: P,w :: vs,0,m,nd,h1,h2,hk=>by
  simp at h1 h2;subst h1;subst h2
  show bindC kindOf ((p,w) :: P.zip vs) m p=_
  unfold bindC
  rw [B1 fun v hv=>(List.nodup_cons.mp nd).1 (List.of_mem_zip hv).1,if_neg hk]
  simp
 | p :: P,w :: vs,i + 1,m,nd,h1,h2,hk=>by
  show bindC kindOf ((p,w) :: P.zip vs) m x=_
  unfold bindC
  exact BB (i:=i) (List.nodup_cons.mp nd).2 (by simpa using h1) (by simpa using h2) hk
noncomputable def start (N:List Str) (vs:List V):St:=vs.map some++List.replicate (N.length - vs.length) none
noncomputable def AQ (CX:uU) (P:Program) (w:World) (K:PySem.W.Frag) (mg:Str->Option Value) (base:Heap) (N:List Str) (qual:Str) (scope:Scope) (f:Addr) (cd:Value) (A:Around) (outer:List Env) (s:Shared) (H:Hp) (E:XK):Cx where
 prog:=P
 w:=w
 K:=K
 mg:=mg
 base:=base
 A:=A.deeper (envOfC qual scope s.heap.objs.size f cd)
 N:=N
 s₀:=s
 H₀:=H
 env:=envOfC qual scope s.heap.objs.size f cd
 outer:=outer
 stack:=envOfC qual scope s.heap.objs.size f cd :: outer
 ex:=[]
 calm:=true
 fn:=fun _=>true
 pn:=[]
 xe:=fun e s'=>wpAny (model P w) (A.deeper (envOfC qual scope s.heap.objs.size f cd)) (leaving (envOfC qual scope s.heap.objs.size f cd) e) (fun _ s''=>CX outer H s E e s'') (fun e' s''=>CX outer H s E e' s'') s'
theorem Dr {sc:Scope} {n:Nat} {x:Str} (h:sc.names.lookup x=some .cell):∃ c,(cellsFrom n sc.names []).lookup x=some c:=by
 have q:=PySem.W.cellsFrom_some sc.names n [] (.inl h)
 exact Option.isSome_iff_exists.mp q
theorem JO {CX:uU} {P:Program} {w:World} {K:PySem.W.Frag} {mg:Str->Option Value} {base:Heap} {N ps:List Str} {qual:Str} {scope:Scope} {f:Addr} {cd:Value} {A:Around} {outer:List Env} {s s1:Shared} {H:Hp} {E:XK} {us:List Value} {vs:List V}
  (S:bE N ps scope) (hd:A.handled=none) (e0:GH P w K mg base A outer s H) (hl:vs.length=ps.length) (r:Vals vs us)
  (x:InCallC s s.heap.objs.size (bindL (envOfC qual scope s.heap.objs.size f cd).kindOf (ps.zip us) fun _=>none) (cellsFrom (s.heap.objs.size + 1) scope.names []) (bindC (envOfC qual scope s.heap.objs.size f cd).kindOf (ps.zip us) fun _=>none) s1) :
  Inv (AQ CX P w K mg base N qual scope f cd A outer s H E) [] (start N vs) H s1:=by
 have hpl:ps.length<=N.length:=by have:=congrArg List.length S.pre;rw [List.length_take] at this;omega
 obtain ⟨h1,tk,rfl,hk⟩:=x.done
 have noA:∀ b:Addr,b ∉ (AQ CX P w K mg base N qual scope f cd A outer s H E).ex:=fun b z=>absurd (show b∈([]:List Addr) from z) (by simp)
 refine ⟨⟨e0.mod,S.kind,rfl,rfl,Nat.le_refl _,fun y z c h1 h2=>?_,fun y hy=>?_,fun y c _ h=>?_,fun _=>hd,Around.frames_deeper e0.frames,.inr ⟨rfl,rfl⟩,fun b z=>absurd z (noA b),e0.bs,e0.bsz,fun b _ _=>noA b,fun b z=>absurd z (noA b),e0.funs,e0.frf⟩,
  rfl,e0.bare,Un.kept hk,⟨_,x.toInCall.ns,fun i y v h1 h2 h3=>?_⟩,fun y c h=>⟨_,x.cell y c h⟩,e0.hok.fresh (Nat.le_refl _),fun y c h=>?_,fun p hp=>absurd (show p∈([]:List (Addr × Obj)) from hp) (by simp),e0.hok.kept hk,?_⟩
 ·exact name_of_addr x.apart (PySem.mem_of_lookup h1) (PySem.mem_of_lookup h2)
 ·have hy:scope.names.lookup y=some .cell\/scope.names.lookup y=some .free:=hy
  rcases hy with hy | hy
  ·exact Dr hy
  ·exact absurd rfl (S.nofree _ (PySem.mem_of_lookup hy))
 ·exact Nat.le_of_lt (x.above y c (PySem.mem_of_lookup h))
 ·have hi:i < vs.length:=by
   unfold start at h2
   by_cases hi:i < vs.length
   ·exact hi
   ·rw [List.getElem?_append_right (by simpa using hi)] at h2
    rw [List.getElem?_replicate] at h2
    split at h2 <;> cases h2
  have ha:vs[i]?=some v:=by
   unfold start at h2
   rw [List.getElem?_append_left (by simpa using hi),List.getElem?_map] at h2
   cases e:vs[i]? with
   | none=>rw [e] at h2;cases h2
   | some a=>rw [e] at h2;cases h2;rfl
  obtain ⟨u,hu,rv⟩:=r.get ha
  have hp:ps[i]?=some y:=by
   rw [<- S.pre,List.getElem?_take_of_lt (by omega)];exact h1
  have ndP:ps.Nodup:=by rw [<- S.pre];exact S.nd.sublist (List.take_sublist _ _)
  refine ⟨u,rv,?_⟩
  rcases S.par y (List.mem_of_getElem? hp) with k | k
  ·exact .inl ⟨k,Bz ndP hp hu k⟩
  ·obtain ⟨c,e⟩:=Dr (n:=s.heap.objs.size + 1) k
   refine .inr ⟨.inl k,c,e,?_⟩
   have q:=x.cell y c e
   rw [BB ndP hp hu (by show scope.names.lookup y≠_;rw [k];decide)] at q
   exact q
 ·exact e0.hok.fresh (Nat.le_of_lt (x.above y c (PySem.mem_of_lookup h)))
 ·unfold start
  show _=N.length
  rw [List.length_append,List.length_map,List.length_replicate]
  omega
theorem RT {CX:uU} {P:Program} {w:World} {K:PySem.W.Frag} {mg:Str->Option Value} {base:Heap} {k:Nat} {f:Addr} {name qual:Str} {params:Arguments} {body:List Stmt} {scope:Scope} {dV kV doc pm cdv ct oc:Value} {an od:Option Addr}
  {osl:Array (Option Value)} {N ps:List Str} {sp:Sp} (lk:K.lookup f=some ⟨oc,od,.func (PySem.W.fnOf name qual params body scope dV kV doc pm an cdv ct),osl⟩) (hcd:PySem.W.codeIn K cdv qual=true) (S:bE N ps scope)
  (len:∀ vs H Q E,sp vs H Q E->vs.length=ps.length)
  (hbody:∀ (A:Around) (outer:List Env) (s:Shared) (H:Hp) (vs:List V) (Q:VK) (E:XK),eU k (A.deeper (envOfC qual scope s.heap.objs.size f cdv))->sp vs H Q E ->
   ∃ t,qU (AQ CX P w K mg base N qual scope f cdv A outer s H E) body t/\t { nx:=fun _ H'=>Q .non H',rt:=Q } (start N vs) H) :
  j7 P w K mg base CX (k + 1) f (PySem.W.fnOf name qual params body scope dV kV doc pm an cdv ct) ps sp:=by
 refine ⟨len,fun A outer s H args us vs Q E hr e0 hb r hsp=>?_⟩
 have hl:=len _ _ _ _ hsp
 have KX:K.In s.heap:=e0.mod.kin.keeps fun b o e=>(e0.bs b o e).1
 have lim:s.heap.NoLimit:=e0.mod.nolimit.keeps fun b o e=>(e0.bs b o e).1
 have hkind:∀ y∈ps.zip us,scope.names.lookup y.1=some .local\/(scope.names.lookup y.1=some .cell/\((cellsFrom (s.heap.objs.size + 1) scope.names []).lookup y.1).isSome=true):=fun ⟨n,v⟩ hy=>by
  rcases S.par n (List.of_mem_zip hy).1 with q | q
  ·exact .inl q
  ·exact .inr ⟨q,PySem.W.cellsFrom_some _ _ _ (.inl q)⟩
 refine codeAny_call_function hr.depth (KX _ _ lk) rfl S.co S.gen rfl (PySem.W.codeRec_of KX hcd) (hb _ _ _ _ ?_)
 refine wpAny_newFunctionEnv_cells S.kind hkind fun env he s1 x=>?_
 subst he
 refine ⟨lim.keeps x.toInCall.keep,codeAny_func ?_⟩
 obtain ⟨t,ht,hq⟩:=hbody A outer s H vs Q E (hr.deeper _) hsp
 have I:Inv (AQ CX P w K mg base N qual scope f cdv A outer s H E) [] (start N vs) H s1:=JO S hr.hd e0 hl r x
 refine wpAny_mono (ht [] s1 (start N vs) H _ I hq) (fun fl s' hs=>?_) fun e s' hs=>hs
 have fin:∀ {σ':St} {H':Hp} {v:V} {u:Value},Inv (AQ CX P w K mg base N qual scope f cdv A outer s H E) [] σ' H' s'->RelV v u->Q v H'->CE outer P w H s Q u s' :=
  fun {σ' H' v u} J rv q=>⟨v,H',J.os,J.bare,J.base,J.hok,rv,q⟩
 cases fl with
 | ret u =>
  obtain ⟨v,σ',H',J,rv,q⟩:=hs
  exact fin J rv q
 | next =>
  obtain ⟨σ',H',J,q⟩:=hs
  exact fin (v:=V.non) (u:=Value.none) J rfl q
 | brk =>
  obtain ⟨_,_,_,q⟩:=hs
  exact False.elim q
 | cont =>
  obtain ⟨_,_,_,q⟩:=hs
  exact False.elim q
section
variable {X:Cx} {x:Str} {p pos:Pos} {e:Expr} {es:List Expr} {t:TA} {id T:String} {r:List V->Hp->VK->Prop}
noncomputable def Pm (r:List V->Hp->VK->Prop) (t:TA):TE:=fun σ H Q=>t σ H fun vs H1=>r vs H1 Q
theorem LA (hc:mF X (.builtin id) r) (hg:Gl X x) (hm:X.mg x=none) (hv:bootBuiltins x=some (.builtin id)) (ha:PA X (e :: es) t) (hn:x≠"__name__":=by decide) (hdb:(x == ("__debug__":Str))=false:=by decide)
  (he:starEach (e :: es) X.env=(false,eval e X.env) :: starEach es X.env:=by rfl) (hpl:(backTo pos (starEach es X.env)).any (·.1)=false:=by rfl):PE X (.Call (.Name x p) (e :: es) [] pos) (Pm r t):=by
 intro pins s σ H Q I h
 refine wpAny_Call_Name_kw (nX I hg hm hv ?_ hn hdb)
 exact PyProof.Rows.callWith_builtin1 (bF (ha pos pins s σ H _ I h) fun us s1 ⟨vs,H1,I1,r1,q1⟩=>hc pins s1 σ H1 vs us Q I1 r1 q1) he hpl
theorem Ib (hc:mF X (.type T) r) (hg:Gl X x) (hm:X.mg x=none) (hv:bootBuiltins x=some (.type T)) (ha:PA X (e :: es) t) (hn:x≠"__name__":=by decide) (hdb:(x == ("__debug__":Str))=false:=by decide)
  (he:starEach (e :: es) X.env=(false,eval e X.env) :: starEach es X.env:=by rfl) (hpl:(backTo pos (starEach es X.env)).any (·.1)=false:=by rfl):PE X (.Call (.Name x p) (e :: es) [] pos) (Pm r t):=by
 intro pins s σ H Q I h
 refine wpAny_Call_Name_kw (nX I hg hm hv ?_ hn hdb)
 exact PyProof.Rows.callWith_type1 (bF (ha pos pins s σ H _ I h) fun us s1 ⟨vs,H1,I1,r1,q1⟩=>hc pins s1 σ H1 vs us Q I1 r1 q1) he hpl
end
end L2
namespace HT
open PySem PyProof.Rows
noncomputable def lexLt:List Int->List Int->Bool
 | [],[]=>false
 | [],_ :: _=>true
 | _ :: _,[]=>false
 | x :: xs,y :: ys=>if x=y then lexLt xs ys else decide (x < y)
theorem Gh (x y:Int) (xs ys:List Int):lexLt (x :: xs) (y :: ys)=if x=y then lexLt xs ys else decide (x < y):=rfl
theorem Cg:lexLt [] []=false:=rfl
theorem A1 (y:Int) (ys:List Int):lexLt [] (y :: ys)=true:=rfl
theorem Bn (x:Int) (xs:List Int):lexLt (x :: xs) []=false:=rfl
theorem Li (A:Around) (s:Shared) (a:Int) (t:Tok) (c:Int) (u:Tok):∃ e,SeqAt.EqAt A s (.int a t) (.int c u) e/\(e=true ↔ a=c) :=
 ⟨(a == c),SeqAt.EqAt.int_int a t c u,by simp⟩
theorem Lb (A:Around) (s:Shared) (a:Int) (t:Tok) (c:Int) (u:Tok) (prog:Program) (w:World) (E:Value->Shared->Prop) (Q:Value->Shared->Prop) (h:Q (.bool (decide (a < c))) s) :
  wpAny (model prog w) A (richCompare .Lt (.int a t) (.int c u)) Q E s :=
 (PyProof.Rows.lt_int h:wpAny (model prog w) A (compareOp .Lt (.int a t) (.int c u)) Q E s)
section
open PySem.SeqAt
open PySem.AutoSeq1 (wpAny_loadPart')
open PySem.MeetsSeq PySem.MeetsSeq2 PySem.MeetsSeq3
theorem Ci (l b:Addr) (items items2:Array Value) (n n2:Nat) (dd dd2:Option Addr) (sl sl2:Array (Option Value)) (ns ms:List Int) (hi:IntsAre items.toList ns) (hj:IntsAre items2.toList ms) :
  Meets (Builtin.«tuple.__lt__» ⟨[.ref l,.ref b],[]⟩)
   (fun _ R s=>s.heap.get? l=some { cls:=.type "tuple",dict:=dd,data:=.seq items n,slots:=sl }/\s.heap.get? b=some { cls:=.type "tuple",dict:=dd2,data:=.seq items2 n2,slots:=sl2 } /\
    R (.ok (.ret (.bool (lexLt ns ms)))) s) :=
 .of_wp fun prog w A R s h=>by
  obtain ⟨hp,g,d,tk,os⟩:=s;obtain ⟨hl,hb,h⟩:=h
  have f2:=AutoSeq1.sub_tuple_tuple
  have z1:items.size=ns.length:=by rw [<- hi.length];simp
  have z2:items2.size=ms.length:=by rw [<- hj.length];simp
  wp_walk using wpAny_loadPart' hl,wpAny_loadPart' hb,wpAny_forIn_list _ (fun rest b s'=>b.1=none/\s'=⟨hp,g,d,tk,os⟩/\∃ (vs ws:List Value) (ns' ms':List Int),rest=vs.zip ws /\
   IntsAre vs ns'/\IntsAre ws ms'/\ns'.length + items2.size=ms'.length + items.size/\R (.ok (.ret (.bool (lexLt ns' ms')))) ⟨hp,g,d,tk,os⟩) _
  case turn =>
   rintro ⟨y,x⟩ rest b s' ⟨hb',rfl,vs,ws,ns',ms',hz,hvi,hwi,hlen,hR⟩
   cases hvi with
   | nil=>rw [List.zip_nil_left] at hz;cases hz
   | cons a t hvi' =>
    cases hwi with
    | nil=>rw [List.zip_nil_right] at hz;cases hz
    | cons c u hwi' =>
     rw [List.zip_cons_cons] at hz
     injection hz with hyx hrest
     injection hyx with hy hx
     subst hy hx
     rw [Gh] at hR
     simp only [List.length_cons] at hlen
     obtain ⟨e,he,hiff⟩:=Li A.in1 ⟨hp,g,d,tk,os⟩ a t c u
     refine wpAny_bind (he prog w _ _ ?_)
     cases e with
     | true =>
      rw [if_pos (hiff.mp rfl)] at hR
      wp_walk
      exact ⟨rfl,rfl,_,_,_,_,hrest,hvi',hwi',by omega,hR⟩
     | false =>
      rw [if_neg (fun q=>absurd (hiff.mpr q) Bool.false_ne_true)] at hR
      have hri:=Lb A.in1 ⟨hp,g,d,tk,os⟩ a t c u prog w
      wp_walk using hri
      exact ⟨_,rfl,by simpa using hR⟩
  case fin =>
   rintro ⟨b1,b2⟩ s' ⟨hb',rfl,vs,ws,ns',ms',hz,hvi,hwi,hlen,hR⟩
   simp only at hb'
   subst hb'
   have hv:lexLt ns' ms'=decide (items.size < items2.size):=by
    cases hvi with
    | nil =>
     cases hwi with
     | nil =>
      simp only [List.length_nil] at hlen
      rw [Cg]
      exact (decide_eq_false (by omega)).symm
     | cons c u hw =>
      simp only [List.length_nil,List.length_cons] at hlen
      rw [A1]
      exact (decide_eq_true (by omega)).symm
    | cons a t hv =>
     cases hwi with
     | nil =>
      simp only [List.length_nil,List.length_cons] at hlen
      rw [Bn]
      exact (decide_eq_false (by omega)).symm
     | cons c u hw =>
      rw [List.zip_cons_cons] at hz
      cases hz
   rw [hv] at hR
   wp_walk
   exact ⟨_,rfl,by simpa [Builtin.Tuple.tupleCompareSizes] using hR⟩
  case h =>
   exact ⟨rfl,rfl,items.toList,items2.toList,ns,ms,rfl,hi,hj,by omega,h⟩
end
section
variable {prog:Program} {w:World} {A:Around} {E:Value->Shared->Prop} {s:Shared}
theorem F7 {l b:Addr} {items items2:Array Value} {ns ms:List Int} {Q:Value->Shared->Prop} (hl:IsTup s.heap l items) (hb:IsTup s.heap b items2) (hi:IntsAre items.toList ns) (hj:IntsAre items2.toList ms)
  (hu:A.units < cLine) (h:Q (.bool (lexLt ns ms)) s):wpAny (model prog w) A (compareOp .Lt (.ref l) (.ref b)) Q E s:=by
 obtain ⟨⟨cls,dd,data,sl⟩,ho,hc,n,hd⟩:=id hl
 obtain ⟨⟨cls2,dd2,data2,sl2⟩,ho2,hc2,n2,hd2⟩:=id hb
 simp only at hc hd hc2 hd2
 subst hc hd hc2 hd2
 exact richCompare_meets_room (op:=.Lt) ⟨_,ho,rfl⟩ ⟨_,ho2,rfl⟩ PySem.F.slot_tuple_lt PySem.F.entry_tuple_lt (PySem.F.args_tuple_lt_2 _ _) (Ci l b items items2 n n2 dd dd2 sl sl2 ns ms hi hj)
  ⟨ho,ho2,show Value.bool (lexLt ns ms)≠Value.notImplemented/\Q (.bool (lexLt ns ms)) s from ⟨(fun x=>nomatch x),h⟩⟩ hu
theorem Ox {t b:Addr} {vs ws:List Value} {Q:Value->Shared->Prop} (ht:IsTup s.heap t vs.toArray) (hb:IsTup s.heap b ws.toArray) (hv:vs≠[])
  (h1:ws=[]->Q (.ref t) s) (h2:ws≠[]->Q (.ref s.heap.objs.size) { s with heap:=s.heap.push { cls:=.type "tuple",data:=.seq (vs++ws).toArray } })
  (hsz:vs.length + ws.length<=sizeLine):wpAny (model prog w) A (binaryOp .Add (.ref t) (.ref b)) Q E s:=by
 obtain ⟨⟨cls,dd,data,sl⟩,ho,hc,n,hd⟩:=id ht
 obtain ⟨⟨cls2,dd2,data2,sl2⟩,ho2,hc2,n2,hd2⟩:=id hb
 simp only at hc hd hc2 hd2
 subst hc hd hc2 hd2
 have e:vs.toArray++ws.toArray=(vs++ws).toArray:=by simp
 by_cases hw:ws=[]
 ·exact concat_meets ⟨_,ho,rfl⟩ ⟨_,ho2,rfl⟩ noFill_tuple_add seq_tuple_add PySem.F.slot_tuple_add PySem.F.entry_tuple_add (PySem.F.args_tuple_add_2 _ _)
   (tuple_addW1 t b vs.toArray ws.toArray n n2 dd dd2 sl sl2 (by simpa using hv) (by simp [hw])) ⟨ho,ho2,h1 hw⟩
 ·refine concat_meets ⟨_,ho,rfl⟩ ⟨_,ho2,rfl⟩ noFill_tuple_add seq_tuple_add PySem.F.slot_tuple_add PySem.F.entry_tuple_add (PySem.F.args_tuple_add_2 _ _)
   (tuple_addW2 t b vs.toArray ws.toArray n n2 dd dd2 sl sl2 (by simpa using hv) (by simpa using hw) (by rw [List.size_toArray,List.size_toArray];exact hsz)) ⟨ho,ho2,?_⟩
  rw [e]
  exact h2 hw
noncomputable def bK (n d:Nat):Option Int->Nat
 | none=>d
 | some v=>if v < 0 then (v + (n:Int)).toNat else min v.toNat n
theorem PC (n d:Nat) (hd:d<=n) (o:Option Int):bK n d o<=n:=by
 cases o with
 | none=>exact hd
 | some v =>
  show (if v < 0 then (v + (n:Int)).toNat else min v.toNat n)<=n
  by_cases hv:v < 0
  ·rw [if_pos hv];omega
  ·rw [if_neg hv];exact Nat.min_le_right _ _
theorem E7 (v:Int) (n d:Nat):(if v < 0 then max (v + (n:Int)) 0 else min v (n:Int))=((bK n d (some v):Nat):Int):=by
 show (if v < 0 then max (v + (n:Int)) 0 else min v (n:Int))=(((if v < 0 then (v + (n:Int)).toNat else min v.toNat n):Nat):Int)
 by_cases hv:v < 0
 ·simp only [if_pos hv];omega
 ·simp only [if_neg hv];omega
theorem FU (lo hi:Option Int) (n:Nat):Builtin.Slice.sliceAdjust lo hi 1 (n:Int)=(((bK n 0 lo:Nat):Int),((bK n n hi:Nat):Int)):=by
 have h1:¬ ((1:Int) < 0):=by omega
 unfold Builtin.Slice.sliceAdjust
 simp only [h1,if_false]
 refine Prod.ext ?_ ?_
 ·cases lo with
  | none=>rfl
  | some v=>exact E7 v n 0
 ·cases hi with
  | none=>rfl
  | some v=>exact E7 v n n
theorem Hi (i j:Nat):Builtin.Slice.slicePlaces (i:Int) (j:Int) 1=j - i:=by
 unfold Builtin.Slice.slicePlaces
 have h1:(1:Int) > 0:=by omega
 simp only [h1,if_true,Int.ediv_one]
 split <;> omega
theorem Aq {v:Value} {o:Option Int} {Q:Option Int->Shared->Prop} (p:IsPart v o) (h:Q o s):wpAny (model prog w) A (Builtin.Slice.slicePartIndex v) Q E s:=by
 cases p with
 | none=>exact slicePart_none h
 | int i t=>exact slicePart_int h
theorem pA {sl:Addr} {vl vu:Value} {lo hi:Option Int} {n:Nat} {Q:Int × Int × Nat->Shared->Prop} (hs:s.heap.IsSliceOf sl vl vu .none) (pl:IsPart vl lo) (pu:IsPart vu hi)
  (h:Q (((bK n 0 lo:Nat):Int),1,bK n n hi - bK n 0 lo) s):wpAny (model prog w) A (Builtin.Slice.sliceApplied (.ref sl) (pure (n:Int))) Q E s:=by
 obtain ⟨os,hos,hcs,hds⟩:=id hs
 unfold Builtin.Slice.sliceApplied Builtin.Slice.sliceFields
 refine wpAny_bind (wpAny_bind (wpAny_field hos hds (x:=vl) rfl (wpAny_bind (wpAny_field hos hds (x:=vu) rfl (wpAny_bind (wpAny_field hos hds (x:=.none) rfl (wpAny_pure ?_)))))))
 refine wpAny_bind (slicePart_none ?_)
 show wpAny _ _ (if ((1:Int) == 0)=true then _ else _) _ _ s
 rw [if_neg (by decide)]
 refine wpAny_bind (Aq pl (wpAny_bind (Aq pu (wpAny_bind (wpAny_pure ?_)))))
 show wpAny _ _ (match Builtin.Slice.sliceAdjust lo hi 1 (n:Int) with | (lo,hi)=>pure (lo,(1:Int),Builtin.Slice.slicePlaces lo hi 1)) _ _ s
 rw [FU lo hi n]
 show wpAny _ _ (pure (((bK n 0 lo:Nat):Int),(1:Int),Builtin.Slice.slicePlaces ((bK n 0 lo:Nat):Int) ((bK n n hi:Nat):Int) 1)) _ _ s
 rw [Hi]
 exact wpAny_pure h
theorem K7 (xs:Array Value) (i k:Nat):((List.range k).filterMap fun (m:Nat)=>xs[((i:Int) + (m:Int) * 1).toNat]?).toArray=((xs.toList.drop i).take k).toArray:=by
 have e:(fun (m:Nat)=>xs[((i:Int) + (m:Int) * 1).toNat]?)=fun m=>xs[i + m]?:=by
  funext m
  have:((i:Int) + (m:Int) * 1).toNat=i + m:=by omega
  rw [this]
 rw [e]
 have:=pick_run xs i k
 rw [List.filterMap_map] at this
 have e2:((fun x=>xs[x]?) ∘ fun x=>i + x)=fun m=>xs[i + m]?:=rfl
 rw [e2] at this
 rw [this]
theorem xE {t sl:Addr} {items:Array Value} {vl vu:Value} {lo hi:Option Int} {Q:Value->Shared->Prop} (ht:IsTup s.heap t items) (hs:s.heap.IsSliceOf sl vl vu .none) (pl:IsPart vl lo) (pu:IsPart vu hi)
  (hw:¬ (bK items.size 0 lo=0/\bK items.size items.size hi=items.size))
  (h:Q (.ref s.heap.objs.size) { s with heap:=s.heap.push { cls:=.type "tuple",data:=.seq ((items.toList.drop (bK items.size 0 lo)).take (bK items.size items.size hi - bK items.size 0 lo)).toArray } })
  (hsz:items.size<=sizeLine):wpAny (model prog w) A (getItem (.ref t) (.ref sl)) Q E s:=by
 have htake:sizeOk (.seq ((items.toList.drop (bK items.size 0 lo)).take (bK items.size items.size hi - bK items.size 0 lo)).toArray):=by
  show ((items.toList.drop (bK items.size 0 lo)).take (bK items.size items.size hi - bK items.size 0 lo)).toArray.size<=sizeLine
  rw [List.size_toArray,List.length_take,List.length_drop,Array.length_toList]
  omega
 have hj:bK items.size items.size hi<=items.size:=PC _ _ (Nat.le_refl _) hi
 obtain ⟨os,hos,hcs,hds⟩:=id hs
 have hTs:s.TypeIs (.ref sl) "slice":=⟨os,hos,hcs⟩
 unfold getItem
 try with_reducible refine wpAny_holding ?_
 first | refine wpAny_bind (wpAny_pure ?_) | skip
 refine wpAny_bind (wpAny_sequenceKey ht.typeIs (by decide) ?_)
 refine wpAny_bind (wpAny_callSpecial?_slot (name:=Str.ofString "__getitem__") ht.typeIs PyProof.Rows.slot_tuple_getitem
  (wpAny_call_entry PyProof.Rows.slot_tuple_getitem ht.typeIs entry_tuple_getitem ?_ (args_tuple_getitem _ _)))
 show wpAny _ _ (Builtin.Tuple.tupleItemsOf (.ref t) >>= _) _ _ s
 refine wpAny_bind (tupleItemsOf_ ht ?_)
 refine wpAny_bind (wpAny_typeOf hTs ?_)
 rw [if_pos (by decide)]
 refine wpAny_bind (pA hs pl pu ?_)
 have hno:¬ ((((bK items.size 0 lo:Nat):Int) == 0 && (1:Int) == 1 && (bK items.size items.size hi - bK items.size 0 lo) == items.size)=true):=by
  intro q
  rw [Bool.and_eq_true,Bool.and_eq_true] at q
  have q1:((bK items.size 0 lo:Nat):Int)=0:=eq_of_beq q.1.1
  have q2:bK items.size items.size hi - bK items.size 0 lo=items.size:=eq_of_beq q.2
  exact hw ⟨by omega,by omega⟩
 show wpAny _ _ (if (((bK items.size 0 lo:Nat):Int) == 0 && (1:Int) == 1 && (bK items.size items.size hi - bK items.size 0 lo) == items.size)=true then _ else _) _ _ s
 rw [if_neg hno,K7]
 first
  | exact wpAny_bind (m:=Builtin.Tuple.tupleExact _) (wpAny_newObj_type (wpAny_pure ⟨_,rfl,wpAny_pure h⟩) htake)
  | exact wpAny_bind (m:=Builtin.Tuple.tupleExact _) (wpAny_newObj_type (wpAny_bind (wpAny_pure (wpAny_pure ⟨_,rfl,wpAny_pure h⟩))) htake)
  | exact wpAny_bind (wpAny_bind (m:=Builtin.Tuple.tupleExact _) (wpAny_newObj_type (wpAny_pure (wpAny_pure ⟨_,rfl,wpAny_pure h⟩)) htake))
  | exact wpAny_bind (wpAny_bind (m:=Builtin.Tuple.tupleExact _) (wpAny_newObj_type (wpAny_pure ⟨_,rfl,wpAny_pure h⟩) htake))
end
end HT
namespace L2
open PySem PySem.Spec PyProof.Rows
abbrev TO:=St->Hp->(Option Int->Hp->Prop)->Prop
noncomputable def PO (X:Cx) (e:Option Expr) (t:TO):Prop :=
 ∀ (pins:List (Addr × Obj)) (s:Shared) (σ:St) (H:Hp) (Q:Option Int->Hp->Prop),Inv X pins σ H s->t σ H Q ->
  wpAny (model X.prog X.w) X.A (evalPart e X.env) (fun u s'=>∃ o H',Inv X pins σ H' s'/\IsPart u o/\Q o H') X.xe s
noncomputable def EL:TO:=fun _ H Q=>Q none H
noncomputable def My (t:TE):TO:=fun σ H Q=>t σ H fun x H1=>∃ i,x=.int i/\Q (some i) H1
theorem intsAre_of {ns:List Int}:∀ {us:List Value},Vals (ns.map V.int) us->IntsAre us ns:=by
 induction ns with
 | nil=>intro us r;rw [List.map_nil] at r;cases r;exact .nil
 | cons n ns ih =>
  intro us r
  rw [List.map_cons] at r
  cases r with
  | cons r1 r2 =>
   obtain ⟨t,e⟩:=r1
   subst e
   exact .cons n t (ih r2)
section
variable {X:Cx} {e:Expr} {te:TE} {lo hi:Option Expr} {tl th:TO} {pos p2:Pos}
theorem Oq:PO X none EL:=by
 intro pins s σ H Q I h
 rw [evalPart_none]
 exact wpAny_pure ⟨none,H,I,.none,h⟩
theorem NB (h:PE X e te):PO X (some e) (My te):=by
 intro pins s σ H Q I hw
 rw [evalPart_some]
 refine bF (h pins s σ H _ I hw) fun u s1 ⟨x,H1,I1,r1,q1⟩=>?_
 obtain ⟨i,rfl,q⟩:=q1
 obtain ⟨t,rfl⟩:=r1
 exact ⟨some i,H1,I1,.int i t,q⟩
def xR (X:Cx) (r:V->Option Int->Option Int->Hp->VK->Prop):Prop :=
 ∀ (pins:List (Addr × Obj)) (s:Shared) (σ:St) (H:Hp) (x:V) (v vl vu:Value) (lo hi:Option Int) (sl:Addr) (Q:VK),Inv X pins σ H s->RelV x v->s.heap.IsSliceOf sl vl vu .none->IsPart vl lo->IsPart vu hi->r x lo hi H Q ->
  ∃ T id,typeLookup (.type T) "__getitem__"=pure (some (.builtin id))/\s.TypeIs v T/\wpAny (model X.prog X.w) X.A (getItem v (.ref sl)) (EP X pins σ Q) X.xe s
theorem xR.or {r r':V->Option Int->Option Int->Hp->VK->Prop} (h:xR X r) (h':xR X r'):xR X (fun x lo hi H Q=>r x lo hi H Q\/r' x lo hi H Q):=by
 intro pins s σ H x v vl vu lo hi sl Q I rx hs pl pu q
 rcases q with q | q
 ·exact h pins s σ H x v vl vu lo hi sl Q I rx hs pl pu q
 ·exact h' pins s σ H x v vl vu lo hi sl Q I rx hs pl pu q
noncomputable def R6 (r:V->Option Int->Option Int->Hp->VK->Prop) (te:TE) (tl th:TO):TE:=fun σ H Q=>te σ H fun x H1=>tl σ H1 fun l H2=>th σ H2 fun u H3=>r x l u H3 Q
theorem L0 {r:V->Option Int->Option Int->Hp->VK->Prop} (hr:xR X r) (he:PE X e te) (hl:PO X lo tl) (hu:PO X hi th):PE X (.Subscript e (.Slice lo hi none p2) pos) (R6 r te tl th):=by
 intro pins s σ H Q I h
 refine Subscript_ (bF (he pins s σ H _ I h) fun v s1 ⟨x,H1,I1,r1,q1⟩=>?_)
 refine wpAny_Slice (bF (hl pins s1 σ H1 _ I1 q1) fun vl s2 ⟨l,H2,I2,pl,q2⟩=>bF (hu pins s2 σ H2 _ I2 q2) fun vu s3 ⟨u,H3,I3,pu,q3⟩=>?_)
 rw [evalPart_none]
 refine wpAny_pure ?_
 have I4:Inv X pins σ H3 { s3 with heap:=s3.heap.push { cls:=.type "slice",data:=.fields #[vl,vu,.none] } }:=I3.kept (t':=s3.toks) fun b ob q=>Heap.get?_push_of_some _ q
 obtain ⟨T,id,hT,ht,hg⟩:=hr pins { s3 with heap:=s3.heap.push { cls:=.type "slice",data:=.fields #[vl,vu,.none] } } σ H3 x v vl vu l u s3.heap.objs.size Q I4 r1 (Heap.IsSliceOf.new ..) pl pu q3
 show wpAny (model X.prog X.w) X.A (subscriptTail e (.Slice lo hi none p2) v (.ref s3.heap.objs.size)) (EP X pins σ Q) X.xe { s3 with heap:=s3.heap.push { cls:=.type "slice",data:=.fields #[vl,vu,.none] } }
 exact tail_any (ops:=[.ref s3.heap.objs.size,v]) ht hT hg (by with_unfolding_all rfl)
noncomputable def rK (xs:List V) (lo hi:Option Int):List V:=(xs.drop (HT.bK xs.length 0 lo)).take (HT.bK xs.length xs.length hi - HT.bK xs.length 0 lo)
theorem xH (xs:List V) (lo hi:Option Int):(rK xs lo hi).length<=xs.length:=by
 unfold rK
 rw [List.length_take,List.length_drop]
 omega
noncomputable def Sh (K:PySem.W.Frag):V->Option Int->Option Int->Hp->VK->Prop:=fun x lo hi H Q=>∃ a xs,x=.ref a/\fH K H a xs /\
 ¬ (HT.bK xs.length 0 lo=0/\HT.bK xs.length xs.length hi=xs.length)/\∀ p,H p=none->Q (.ref p) (upd H p (.tup (rK xs lo hi)))
theorem OZ:xR X (Sh X.K):=by
 intro pins s σ H x v vl vu lo hi sl Q I rx hs pl pu h
 obtain ⟨a,xs,rfl,hx,hw,q⟩:=h
 cases rx
 obtain ⟨its,r,ht,hz⟩:=I.tuple hx
 have hlen:its.toArray.size=xs.length:=by rw [List.size_toArray];exact r.length.symm
 refine ⟨"tuple",_,PyProof.Rows.slot_tuple_getitem.lookup,ht.typeIs,?_⟩
 refine HT.xE ht hs pl pu (by rw [hlen];exact hw) ?_ (by rw [hlen];exact hz)
 rw [hlen]
 refine ⟨.ref s.heap.objs.size,_,I.laid (t':=s.toks) (o:=.tup (rK xs lo hi)) (fun b ob q=>Heap.get?_push_of_some _ q) (Nat.le_refl _) ?_,rfl,q _ (I.hok.fresh (Nat.le_refl _))⟩
 exact ⟨Nat.le_trans (xH xs lo hi) hz,_,(r.drop (HT.bK xs.length 0 lo)).take (HT.bK xs.length xs.length hi - HT.bK xs.length 0 lo),IsTup.new _ _⟩
noncomputable def Sm (K:PySem.W.Frag):R2:=fun x y H Q=>∃ a b ns ms,x=.ref a/\y=.ref b/\fH K H a (ns.map V.int)/\fH K H b (ms.map V.int)/\Q (.bl (HT.lexLt ns ms)) H
theorem QJ (hu:X.A.units < cLine):dW X (compareOp .Lt) (Sm X.K):=by
 intro pins s σ H x y v u Q I rx ry h
 obtain ⟨a,b,ns,ms,rfl,rfl,ha,hb,q⟩:=h
 cases rx
 cases ry
 obtain ⟨its,r1,p1,_⟩:=I.tuple ha
 obtain ⟨its2,r2,p2,_⟩:=I.tuple hb
 have i1:IntsAre its.toArray.toList ns:=intsAre_of r1
 have i2:IntsAre its2.toArray.toList ms:=intsAre_of r2
 exact HT.F7 p1 p2 i1 i2 hu ⟨.bl (HT.lexLt ns ms),H,I,rfl,q⟩
noncomputable def Rq (K:PySem.W.Frag):R2:=fun x y H Q=>∃ a b xs ys,x=.ref a/\y=.ref b/\fH K H a xs/\fH K H b ys/\xs≠[]/\xs.length + ys.length<=sizeLine /\
 (ys=[]->Q (.ref a) H)/\(ys≠[]->∀ p,H p=none->Q (.ref p) (upd H p (.tup (xs++ys))))
theorem Vals.nil_iff {xs:List V} {us:List Value} (r:Vals xs us):us=[] ↔ xs=[]:=by
 cases r with
 | nil=>simp
 | cons _ _=>simp
theorem MY:dW X (binaryOp .Add) (Rq X.K):=by
 intro pins s σ H x y v u Q I rx ry h
 obtain ⟨a,b,xs,ys,rfl,rfl,ha,hb,hx,hz,q1,q2⟩:=h
 cases rx
 cases ry
 obtain ⟨its,r1,p1,_⟩:=I.tuple ha
 obtain ⟨its2,r2,p2,_⟩:=I.tuple hb
 refine HT.Ox p1 p2 (fun z=>hx (r1.nil_iff.mp z)) (fun z=>⟨.ref a,H,I,rfl,q1 (r2.nil_iff.mp z)⟩) (fun z=>?_) (by rw [<- r1.length,<- r2.length];exact hz)
 refine ⟨.ref s.heap.objs.size,_,I.laid (t':=s.toks) (o:=.tup (xs++ys)) (fun b ob q=>Heap.get?_push_of_some _ q) (Nat.le_refl _) ?_,rfl,q2 (fun w=>z (r2.nil_iff.mpr w)) _ (I.hok.fresh (Nat.le_refl _))⟩
 exact ⟨by rw [List.length_append];exact hz,_,r1.append r2,IsTup.new _ _⟩
end
noncomputable def u6 (n:Nat) (i:Int):Option Nat:=if 0<=i then (if i < n then some i.toNat else none) else if -(n:Int)<=i then some (i + n).toNat else none
noncomputable def fQ {α:Type} (xs:List α) (i:Int):Option α:=(u6 xs.length i).bind fun j=>xs[j]?
theorem FH {n:Nat} {i:Int} {j:Nat} (h:u6 n i=some j):seqIndex? i n=some j/\j < n/\-(n:Int)<=i/\i < n:=by
 unfold u6 at h
 by_cases h0:0<=i
 ·rw [if_pos h0] at h
  by_cases h1:i < n
  ·rw [if_pos h1] at h
   have e:i.toNat=j:=Option.some.inj h
   exact ⟨by rw [seqIndex_of h0 h1,e],by omega,by omega,h1⟩
  ·rw [if_neg h1] at h;cases h
 ·rw [if_neg h0] at h
  by_cases h1:-(n:Int)<=i
  ·rw [if_pos h1] at h
   have e:(i + n).toNat=j:=Option.some.inj h
   exact ⟨by rw [seqIndex_neg (by omega) h1,e],by omega,h1,by omega⟩
  ·rw [if_neg h1] at h;cases h
theorem Ba {α:Type} {xs:List α} {i:Int} {v:α} (h:fQ xs i=some v):∃ j,seqIndex? i xs.length=some j/\xs[j]?=some v/\j < xs.length/\-(xs.length:Int)<=i/\i < xs.length:=by
 unfold fQ at h
 cases e:u6 xs.length i with
 | none=>rw [e] at h;cases h
 | some j =>
  rw [e] at h
  obtain ⟨h1,h2,h3,h4⟩:=FH e
  exact ⟨j,h1,h,h2,h3,h4⟩
theorem gO {α:Type} {xs:List α} {j:Nat} {v:α} (h:xs[j]?=some v):fQ xs (j:Int)=some v:=by
 have hj:j < xs.length:=(List.getElem?_eq_some_iff.mp h).1
 have e:u6 xs.length (j:Int)=some j:=by
  unfold u6
  rw [if_pos (by omega),if_pos (by omega)];simp
 unfold fQ;rw [e];exact h
theorem K8 {α:Type} (xs:List α) (v:α):fQ (xs++[v]) (-1)=some v:=by
 have hl:(xs++[v]).length=xs.length + 1:=by simp
 have e:u6 (xs++[v]).length (-1)=some xs.length:=by
  unfold u6
  rw [hl,if_neg (by decide),if_pos (by omega)]
  congr 1
  omega
 unfold fQ
 rw [e]
 show (xs++[v])[xs.length]?=some v
 simp
noncomputable def Fu (b:Expr):Prop:=∀ o i,subscripted b false o i=operate [o,i] (getItem o i)
def zR (X:Cx) (r:R2):Prop :=
 ∀ (value slice:Expr) (pins:List (Addr × Obj)) (s:Shared) (σ:St) (H:Hp) (x y:V) (v u:Value) (Q:VK),Inv X pins σ H s->RelV x v->RelV y u->r x y H Q ->
  subscripted slice false v u=operate [v,u] (getItem v u)->wpAny (model X.prog X.w) X.A (subscriptTail value slice v u) (EP X pins σ Q) X.xe s
noncomputable def RZ (X:Cx) (id:String) (r:V->List V->Hp->VK->Prop):Prop :=
 ∀ (pins:List (Addr × Obj)) (s:Shared) (σ:St) (H:Hp) (x:V) (xs:List V) (v:Value) (us:List Value) (Q:VK),Inv X pins σ H s->RelV x v->Vals xs us->r x xs H Q ->
  wpAny (model X.prog X.w) X.A (call (.builtin id) (v :: us)) (EP X pins σ Q) X.xe s
section
variable {X:Cx} {a b:Expr} {ta tb:TE} {pos:Pos}
theorem zR.or {r r':R2} (h:zR X r) (h':zR X r'):zR X (fun x y H Q=>r x y H Q\/r' x y H Q):=by
 intro value slice pins s σ H x y v u Q I rx ry q hs
 rcases q with q | q
 ·exact h value slice pins s σ H x y v u Q I rx ry q hs
 ·exact h' value slice pins s σ H x y v u Q I rx ry q hs
theorem Rm {r:R2} (hr:zR X r) (ha:PE X a ta) (hb:PE X b tb) (hs:Fu b):PE X (.Subscript a b pos) (ES r ta tb):=by
 intro pins s σ H Q I h
 exact Subscript_ (LN ha hb I h fun v u s2 x y H2 I2 rx ry q=>hr a b pins s2 σ H2 x y v u Q I2 rx ry q (hs _ _))
noncomputable def OK (K:PySem.W.Frag):R2:=fun x y H Q=>∃ p xs i v,x=.ref p/\y=.int i/\eC K H p xs/\fQ xs i=some v/\Q v H
noncomputable def QV (K:PySem.W.Frag):R2:=fun x y H Q=>∃ p xs i v,x=.ref p/\y=.int i/\fH K H p xs/\fQ xs i=some v/\Q v H
noncomputable def QH:R2:=fun x y H Q=>∃ z i c,x=.str z/\y=.int i/\z.length<=sizeLine/\fQ z.cps.toList i=some c/\Q (.str ⟨#[c]⟩) H
theorem NC:zR X (OK X.K):=by
 intro value slice pins s σ H x y v u Q I rx ry h hs
 obtain ⟨p,xs,i,z,rfl,rfl,hq,he,q⟩:=h
 cases rx
 obtain ⟨t,rfl⟩:=ry
 obtain ⟨its,r,pl,hz⟩:=I.list hq
 obtain ⟨j,h1,h2,h3,h4,h5⟩:=Ba he
 obtain ⟨w,ew,rw'⟩:=r.get h2
 have hl:=r.length
 have hn:=sA
 have fin:EP X pins σ Q w s:=⟨z,H,I,rw',q⟩
 by_cases h0:0<=i
 ·have hj:i.toNat=j:=by
   rw [seqIndex_of h0 h5] at h1
   exact Option.some.inj h1
  exact item_listR pl.isList h0 (by omega) (by rw [hj];simpa using ew) fin hs
 ·have hj:(i + (its.toArray.size:Int)).toNat=j:=by
   rw [seqIndex_neg (by omega) h4] at h1
   rw [List.size_toArray,<- hl]
   exact Option.some.inj h1
  exact subscriptTail_builtinR (x:=w) pl.isList.typeIs slot_list_getitem.lookup
   (wpAny_getItem_list_neg (Q:=fun r s'=>r=w/\EP X pins σ Q r s') pl.isList (by omega) (by rw [List.size_toArray] <;> omega) (by omega) (by rw [hj];simpa using ew) ⟨rfl,fin⟩) hs
theorem P7:zR X (QV X.K):=by
 intro value slice pins s σ H x y v u Q I rx ry h hs
 obtain ⟨p,xs,i,z,rfl,rfl,hq,he,q⟩:=h
 cases rx
 obtain ⟨t,rfl⟩:=ry
 obtain ⟨its,r,pl,hz⟩:=I.tuple hq
 obtain ⟨j,h1,h2,h3,h4,h5⟩:=Ba he
 obtain ⟨w,ew,rw'⟩:=r.get h2
 have hl:=r.length
 have hn:=sA
 have fin:EP X pins σ Q w s:=⟨z,H,I,rw',q⟩
 exact subscriptTail_builtinR (x:=w) pl.typeIs slot_tuple_getitem.lookup
  (getItem_tuple (j:=j) (Q:=fun r s'=>r=w/\EP X pins σ Q r s') pl (by omega) (by omega) (by rw [List.size_toArray,<- hl];exact h1) (by simpa using ew) ⟨rfl,fin⟩) hs
theorem Ql:zR X QH:=by
 intro value slice pins s σ H x y v u Q I rx ry h hs
 obtain ⟨z,i,c,rfl,rfl,hz,he,q⟩:=h
 obtain ⟨t,rfl⟩:=rx
 obtain ⟨t',rfl⟩:=ry
 obtain ⟨j,h1,h2,h3,h4,h5⟩:=Ba he
 have hl:z.cps.toList.length=z.length:=by simp [Str.length]
 rw [hl] at h1 h4 h5
 have hn:=sA
 exact tail_any (typeIs_str s z t) slot_str_getitem.lookup (getItem_str (c:=c) (by
  have e1:decide (i < -(2 ^ 63:Int))=false:=decide_eq_false (by omega)
  have e2:decide (i ≥ 2 ^ 63)=false:=decide_eq_false (by omega)
  rw [e1,e2,Bool.or_false]) (by rw [h1];simpa using h2) ⟨.str ⟨#[c]⟩,H,I.tok _,⟨_,rfl⟩,q⟩) hs
noncomputable def R7 (K:PySem.W.Frag):R2:=fun x y H Q=>OK K x y H Q\/QV K x y H Q\/QH x y H Q
theorem Pz:zR X (R7 X.K):=NC.or (P7.or Ql)
theorem Hj (its:List Value) (n j:Nat) (u:Value):Obj.mapSeq (·.setIfInBounds j u) { cls:=.type "list",data:=.seq its.toArray n }={ cls:=.type "list",data:=.seq (its.set j u).toArray n }:=by
 simp [Obj.mapSeq]
theorem Inv.lst {pins:List (Addr × Obj)} {σ:St} {H:Hp} {s:Shared} {p:Addr} {xs:List V} (I:Inv X pins σ H s) (h:H p=some (.lst xs)) :
  ∃ (its:List Value) (n:Nat),Vals xs its/\s.heap.get? p=some { cls:=.type "list",data:=.seq its.toArray n }/\xs.length<=sizeLine:=by
 obtain ⟨z,its,n,r,e⟩:=I.hok p _ h
 exact ⟨its,n,r,e,z⟩
theorem Inv.lstUpd {pins:List (Addr × Obj)} {σ:St} {H:Hp} {s:Shared} {p:Addr} {xs ys:List V} {its its':List Value} {n n':Nat} {f:Obj->Obj} (I:Inv X pins σ H s) (h:H p=some (.lst xs))
  (ho:s.heap.get? p=some { cls:=.type "list",data:=.seq its.toArray n }) (hf:f { cls:=.type "list",data:=.seq its.toArray n }={ cls:=.type "list",data:=.seq its'.toArray n' }) (r:Vals ys its') (hz:ys.length<=sizeLine) (t:Nat) :
  Inv X pins σ (upd H p (.lst ys)) { s with heap:=s.heap.update p f,toks:=t }:=by
 have e:(s.heap.update p f).get? p=some { cls:=.type "list",data:=.seq its'.toArray n' }:=by
  rw [Heap.get?_update_self f ho (by rw [hf] <;> rfl),hf]
 refine I.write (x:=p) (e:=p) (by rw [h];trivial) (.inl rfl) (fun b u hb q=>(Heap.get?_update_other _ _ (Ne.symm hb)).trans q) ⟨_,e⟩ ?_
 exact ⟨hz,its',n',r,e⟩
noncomputable def Rl:V->V->V->Hp->(Hp->Prop)->Prop:=fun o i v H Q=>∃ p xs k j,o=.ref p/\i=.int k/\H p=some (.lst xs)/\u6 xs.length k=some j/\Q (upd H p (.lst (xs.set j v)))
theorem set_list:QT X Rl:=by
 intro pins s σ H o i v ov iv u Q I ro ri rv h
 obtain ⟨p,xs,k,j,rfl,rfl,hp,hj,q⟩:=h
 cases ro
 obtain ⟨t,rfl⟩:=ri
 obtain ⟨its,n,r,ho,hz⟩:=I.lst hp
 obtain ⟨h1,h2,h3,h4⟩:=FH hj
 have hl:=r.length
 have hn:=sA
 have I':Inv X pins σ (upd H p (.lst (xs.set j v))) { s with heap:=s.heap.update p (Obj.mapSeq (·.setIfInBounds j u)) } :=
  I.lstUpd hp ho (Hj its n j u) (r.set rv j) (by rw [List.length_set];exact hz) s.toks
 by_cases h0:0<=k
 ·have hk:k.toNat=j:=by
   rw [seqIndex_of h0 h4] at h1
   exact Option.some.inj h1
  exact PySem.W.ki_setAt ho h0 (by omega) (by rw [List.size_toArray,<- hl];exact h4) (by rw [hk];exact ⟨_,I',q⟩)
 ·have hk:(k + (its.toArray.size:Int)).toNat=j:=by
   rw [seqIndex_neg (by omega) h3] at h1
   rw [List.size_toArray,<- hl]
   exact Option.some.inj h1
  exact PySem.W.ki_setBack ho (by omega) (by rw [List.size_toArray,<- hl];exact h3) (by omega) (by rw [hk];exact ⟨_,I',q⟩)
theorem Dx (lo hi:Option Int) (n:Nat):(sliceBounds lo hi none n).1=((HT.bK n 0 lo:Nat):Int)/\(sliceBounds lo hi none n).2.1=((HT.bK n n hi:Nat):Int)/\(sliceBounds lo hi none n).2.2=1:=by
 refine ⟨?_,?_,rfl⟩
 ·cases lo with
  | none=>simp [sliceBounds,HT.bK]
  | some i =>
   simp only [sliceBounds,HT.bK,Option.getD_none,show (1:Int) > 0 by decide,if_true]
   by_cases h:i < 0
   ·simp only [h,if_true] <;> omega
   ·simp only [h,if_false] <;> omega
 ·cases hi with
  | none=>simp [sliceBounds,HT.bK]
  | some i =>
   simp only [sliceBounds,HT.bK,Option.getD_none,show (1:Int) > 0 by decide,if_true]
   by_cases h:i < 0
   ·simp only [h,if_true] <;> omega
   ·simp only [h,if_false] <;> omega
theorem Cb (its:List Value) (lo hi:Option Int):slicePick its.toArray lo hi none=((its.drop (HT.bK its.length 0 lo)).take (HT.bK its.length its.length hi - HT.bK its.length 0 lo)).toArray:=by
 obtain ⟨h1,h2,h3⟩:=Dx lo hi its.toArray.size
 unfold slicePick
 rw [h1,h2,h3]
 simp only [sliceRange_one,pick_run,List.size_toArray] <;> rfl
noncomputable def Sk (K:PySem.W.Frag):V->Option Int->Option Int->Hp->VK->Prop:=fun x lo hi H Q=>∃ a xs,x=.ref a/\eC K H a xs/\∀ p,H p=none->Q (.ref p) (upd H p (.lst (rK xs lo hi)))
theorem Nl:xR X (Sk X.K):=by
 intro pins s σ H x v vl vu lo hi sl Q I rx hs pl pu h
 obtain ⟨a,xs,rfl,hx,q⟩:=h
 cases rx
 obtain ⟨its,r,ht,hz⟩:=I.list hx
 have hlen:=r.length
 refine ⟨"list",_,slot_list_getitem.lookup,ht.isList.typeIs,?_⟩
 refine wpAny_getItem_list_slice ht.isList hs pl pu .none (by simp) ?_ (by rw [List.size_toArray] <;> omega)
 rw [Cb,<- hlen]
 refine ⟨.ref s.heap.objs.size,_,I.laid (t':=s.toks) (o:=.lst (rK xs lo hi)) (fun b ob q=>Heap.get?_push_of_some _ q) (Nat.le_refl _) ?_,rfl,q _ (I.hok.fresh (Nat.le_refl _))⟩
 exact ⟨Nat.le_trans (xH xs lo hi) hz,_,0,(r.drop (HT.bK xs.length 0 lo)).take (HT.bK xs.length xs.length hi - HT.bK xs.length 0 lo),Heap.get?_push_size _ rfl⟩
def nS:V->Bool
 | .non=>true
 | .bl _=>true
 | .int _=>true
 | .str _=>true
 | _=>false
noncomputable def Ac:V->V->Bool
 | .non,.non=>true
 | .bl a,.bl b=>a == b
 | .bl a,.int b=>(if a then 1 else 0) == b
 | .int a,.bl b=>a == (if b then 1 else 0)
 | .int a,.int b=>a == b
 | .str a,.str b=>a == b
 | _,_=>false
theorem Q2 {A:Around} {s:Shared} {y x:V} {u v:Value} (ry:RelV y u) (rx:RelV x v) (fy:nS y=true) (fx:nS x=true):SeqAt.EqAt A s u v (Ac y x):=by
 cases y with
 | non =>
  cases ry
  cases x with
  | non=>cases rx;exact SeqAt.EqAt.same _
  | bl b=>cases rx;exact SeqAt.EqAt.none_bool b
  | int b=>obtain ⟨t,rfl⟩:=rx;exact SeqAt.EqAt.none_int b t
  | str b=>obtain ⟨t,rfl⟩:=rx;exact SeqAt.EqAt.none_str b t
  | _=>exact absurd (show false=true from fx) Bool.false_ne_true
 | bl a =>
  cases ry
  cases x with
  | non=>cases rx;exact SeqAt.EqAt.bool_none a
  | bl b=>cases rx;exact SeqAt.EqAt.bool_bool a b
  | int b=>obtain ⟨t,rfl⟩:=rx;exact SeqAt.EqAt.bool_int a b t
  | str b=>obtain ⟨t,rfl⟩:=rx;exact SeqAt.EqAt.bool_str a b t
  | _=>exact absurd (show false=true from fx) Bool.false_ne_true
 | int a =>
  obtain ⟨t',rfl⟩:=ry
  cases x with
  | non=>cases rx;exact SeqAt.EqAt.int_none a t'
  | bl b=>cases rx;exact SeqAt.EqAt.int_bool a t' b
  | int b=>obtain ⟨t,rfl⟩:=rx;exact SeqAt.EqAt.int_int a t' b t
  | str b=>obtain ⟨t,rfl⟩:=rx;exact SeqAt.EqAt.int_str a t' b t
  | _=>exact absurd (show false=true from fx) Bool.false_ne_true
 | str a =>
  obtain ⟨t',rfl⟩:=ry
  cases x with
  | non=>cases rx;exact SeqAt.EqAt.str_none a t'
  | bl b=>cases rx;exact SeqAt.EqAt.str_bool a t' b
  | int b=>obtain ⟨t,rfl⟩:=rx;exact SeqAt.EqAt.str_int a t' b t
  | str b=>obtain ⟨t,rfl⟩:=rx;exact SeqAt.EqAt.str_str a t' b t
  | _=>exact absurd (show false=true from fx) Bool.false_ne_true
 | _=>exact absurd (show false=true from fy) Bool.false_ne_true
noncomputable def o8 (x:V) (u:Value):Bool:=match u with
 | .none=>Ac .non x
 | .bool b=>Ac (.bl b) x
 | .int i _=>Ac (.int i) x
 | .str z _=>Ac (.str z) x
 | _=>false
theorem Iz {x y:V} {u:Value} (r:RelV y u) (f:nS y=true):o8 x u=Ac y x:=by
 cases y with
 | non=>cases r;rfl
 | bl b=>cases r;rfl
 | int i=>obtain ⟨t,rfl⟩:=r;rfl
 | str z=>obtain ⟨t,rfl⟩:=r;rfl
 | _=>exact absurd (show false=true from f) Bool.false_ne_true
theorem sI {x:V}:∀ {xs:List V} {us:List Value},Vals xs us->xs.all nS=true->us.any (o8 x)=xs.any fun y=>Ac y x
 | _,_,.nil,_=>rfl
 | y :: xs,u :: us,.cons r t,f=>by
  rw [List.all_cons,Bool.and_eq_true] at f
  rw [List.any_cons,List.any_cons,Iz r f.1,sI t f.2]
theorem o9 {A:Around} {s:Shared} {x:V} {v:Value} (rx:RelV x v) (fx:nS x=true):∀ {xs:List V} {us:List Value},Vals xs us->xs.all nS=true->∀ u∈us,SeqAt.EqAt A s u v (o8 x u)
 | _,_,.nil,_=>fun u hu=>by cases hu
 | y :: xs,u :: us,.cons r t,f=>fun u' hu=>by
  rw [List.all_cons,Bool.and_eq_true] at f
  rcases List.mem_cons.mp hu with rfl | hu
  ·rw [Iz r f.1];exact Q2 r rx f.1 fx
  ·exact o9 rx fx t f.2 u' hu
noncomputable def MB (x:V) (xs:List V):Bool:=xs.any fun y=>Ac y x
noncomputable def QB (K:PySem.W.Frag) (neg:Bool):R2:=fun x y H Q=>∃ p xs,y=.ref p/\(eC K H p xs\/fH K H p xs)/\nS x=true/\xs.all nS=true/\Q (.bl (if neg then !MB x xs else MB x xs)) H
theorem Il:dW X (compareOp .In) (QB X.K false):=by
 intro pins s σ H x y v u Q I rx ry h
 obtain ⟨p,xs,rfl,hq,fx,fs,q⟩:=h
 cases ry
 rcases hq with hq | hq
 ·obtain ⟨its,r,pl,hz⟩:=I.list hq
  refine SeqAt.in_listAt (o8 x) pl.isList (fun w hw=>o9 rx fx r fs w (by simpa using hw)) ⟨.bl _,H,I,rfl,?_⟩
  rw [show its.toArray.any (o8 x)=its.any (o8 x) by simp,sI r fs]
  exact q
 ·obtain ⟨its,r,pl,hz⟩:=I.tuple hq
  refine SeqAt.in_tupleAt (o8 x) pl (fun w hw=>o9 rx fx r fs w (by simpa using hw)) ⟨.bl _,H,I,rfl,?_⟩
  rw [show its.toArray.any (o8 x)=its.any (o8 x) by simp,sI r fs]
  exact q
theorem CJ:dW X (compareOp .NotIn) (QB X.K true):=by
 intro pins s σ H x y v u Q I rx ry h
 obtain ⟨p,xs,rfl,hq,fx,fs,q⟩:=h
 cases ry
 rcases hq with hq | hq
 ·obtain ⟨its,r,pl,hz⟩:=I.list hq
  refine SeqAt.notIn_listAt (o8 x) pl.isList (fun w hw=>o9 rx fx r fs w (by simpa using hw)) ⟨.bl _,H,I,rfl,?_⟩
  rw [show its.toArray.any (o8 x)=its.any (o8 x) by simp,sI r fs]
  exact q
 ·obtain ⟨its,r,pl,hz⟩:=I.tuple hq
  refine SeqAt.notIn_tupleAt (o8 x) pl (fun w hw=>o9 rx fx r fs w (by simpa using hw)) ⟨.bl _,H,I,rfl,?_⟩
  rw [show its.toArray.any (o8 x)=its.any (o8 x) by simp,sI r fs]
  exact q
theorem DG:mF X (.type "list") (fun xs H Q=>∃ p ys,xs=[.ref p]/\(eC X.K H p ys\/fH X.K H p ys)/\∀ l,H l=none->Q (.ref l) (upd H l (.lst ys))):=by
 intro pins s σ H xs us Q I r h
 obtain ⟨p,ys,rfl,hq,q⟩:=h
 obtain ⟨u,rfl,rx⟩:=vals1 r
 cases rx
 have fin:∀ (its:List Value),Vals ys its->ys.length<=sizeLine->∀ (h':Heap) (c':Nat),(∀ b o',s.heap.get? b=some o'->h'.get? b=some o') ->
   h'.get? s.heap.objs.size=some { cls:=.type "list",dict:=none,data:=.seq its.toArray c',slots:=#[] }->EP X pins σ Q (.ref s.heap.objs.size) { s with heap:=h' }:=fun its r' hz h' c' kp e =>
  ⟨.ref s.heap.objs.size,_,I.laid (t':=s.toks) kp (Nat.le_refl _) (show dO X.prog X.w _ h' _ (.lst ys) from ⟨hz,its,c',r',e⟩),rfl,q _ (I.hok.fresh (Nat.le_refl _))⟩
 rcases hq with hq | hq
 ·obtain ⟨its,r',pl,hz⟩:=I.list hq
  have hlen:=r'.length
  obtain ⟨o,ho,hc,n,hd⟩:=pl.isList
  exact call_list_seq p (.inl rfl) ho hc hd (fun h' c' kp e=>fin its r' hz h' c' kp e) (by simp only [List.size_toArray] <;> omega)
 ·obtain ⟨its,r',pl,hz⟩:=I.tuple hq
  have hlen:=r'.length
  obtain ⟨o,ho,hc,n,hd⟩:=pl
  exact call_list_seq p (.inr rfl) ho hc hd (fun h' c' kp e=>fin its r' hz h' c' kp e) (by simp only [List.size_toArray] <;> omega)
theorem Ca:mF X (.type "tuple") (fun xs H Q=>∃ p ys,xs=[.ref p]/\((eC X.K H p ys/\∀ l,H l=none->Q (.ref l) (upd H l (.tup ys)))\/(fH X.K H p ys/\Q (.ref p) H))):=by
 intro pins s σ H xs us Q I r h
 obtain ⟨p,ys,rfl,h⟩:=h
 obtain ⟨u,rfl,rx⟩:=vals1 r
 cases rx
 rcases h with ⟨hq,q⟩ | ⟨hq,q⟩
 ·obtain ⟨its,r',pl,hz⟩:=I.list hq
  have hlen:=r'.length
  refine call_tuple_list pl.isList (fun h' kp=>?_) (by simp only [List.size_toArray] <;> omega)
  have I1:Inv X pins σ H { s with heap:=h' }:=I.kept (t':=s.toks) kp
  have I2:Inv X pins σ (upd H h'.objs.size (.tup ys)) { s with heap:=h'.push { cls:=.type "tuple",data:=.seq its.toArray } } :=
   I1.laid (t':=s.toks) (fun b o e=>Heap.get?_push_of_some _ e) (Nat.le_refl _) (show dO X.prog X.w _ _ _ (.tup ys) from ⟨hz,its,r',IsTup.new _ _⟩)
  exact ⟨.ref h'.objs.size,_,I2,rfl,q _ (I1.hok.fresh (Nat.le_refl _))⟩
 ·obtain ⟨its,r',pl,hz⟩:=I.tuple hq
  exact call_tuple_same pl ⟨.ref p,H,I,rfl,q⟩
noncomputable def MA (K:PySem.W.Frag) (T:String) (x:V) (H:Hp):Prop:=match x with
 | .str _=>T="str"
 | .int _=>T="int"
 | .ref p=>(T="list"/\∃ xs,eC K H p xs)\/(T="tuple"/\∃ o,K.lookup p=some o/\o.cls=.type "tuple"/\o.dict=none) \/
   (T="dict"/\((∃ kvs,H p=some (.dK kvs))\/∃ kvs,H p=some (.dT kvs)))\/(T="set"/\∃ S n,H p=some (.set S n))
 | _=>False
theorem ID {pins:List (Addr × Obj)} {σ:St} {H:Hp} {s:Shared} {T:String} {x:V} {v:Value} (I:Inv X pins σ H s) (r:RelV x v) (ty:MA X.K T x H) :
  s.TypeIs v T/\∀ a,v=.ref a->∃ ob,s.heap.get? a=some ob/\ob.dict=none:=by
 cases x with
 | str z =>
  obtain ⟨t,rfl⟩:=r
  cases (show T="str" from ty)
  exact ⟨typeIs_str s z t,fun _ e=>nomatch e⟩
 | int i =>
  obtain ⟨t,rfl⟩:=r
  cases (show T="int" from ty)
  exact ⟨typeIs_int s i t,fun _ e=>nomatch e⟩
 | ref p =>
  cases r
  rcases ty with ⟨rfl,xs,hq⟩ | ⟨rfl,o,hk,hc,hd⟩ | ⟨rfl,hk⟩ | ⟨rfl,S,n,hk⟩
  ·obtain ⟨its,_,pl,_⟩:=I.list hq
   refine ⟨pl.isList.typeIs,fun a e=>?_⟩
   cases e
   obtain ⟨o,n,e,c,hd,_⟩:=pl
   exact ⟨o,e,hd⟩
  ·refine ⟨⟨o,I.kIn p o hk,hc⟩,fun a e=>?_⟩
   cases e
   exact ⟨o,I.kIn _ o hk,hd⟩
  ·have z:∃ o,s.heap.get? p=some o/\o.ExactDict:=by
    rcases hk with ⟨kvs,hk⟩ | ⟨kvs,hk⟩
    ·obtain ⟨_,_,_,_,o,_,_,e,ex,_⟩:=I.hok p _ hk
     exact ⟨o,e,ex⟩
    ·obtain ⟨_,_,_,_,o,_,_,e,ex,_⟩:=I.hok p _ hk
     exact ⟨o,e,ex⟩
   obtain ⟨o,e,ex⟩:=z
   refine ⟨⟨o,e,ex.1⟩,fun a e2=>?_⟩
   cases e2
   exact ⟨o,e,ex.2.1⟩
  ·obtain ⟨o,_,_,_,e,ex,_⟩:=I.hok p _ hk
   refine ⟨⟨o,e,ex.1⟩,fun a e2=>?_⟩
   cases e2
   exact ⟨o,e,ex.2.1⟩
 | _=>exact False.elim ty
noncomputable def QU (K:PySem.W.Frag) (T:String) (r:V->List V->Hp->VK->Prop) (to:TE):TE:=fun σ H Q=>to σ H fun x H1=>MA K T x H1/\r x [] H1 Q
noncomputable def Sa (K:PySem.W.Frag) (T:String) (r:V->List V->Hp->VK->Prop) (to:TE) (t:TA):TE:=fun σ H Q=>to σ H fun x H1=>MA K T x H1/\t σ H1 fun xs H2=>r x xs H2 Q
variable {o e:Expr} {es:List Expr} {to:TE} {t:TA} {name:Str} {apos cpos:Pos} {T id:String} {r:V->List V->Hp->VK->Prop}
theorem Pr (pa:PlainAttrs T) (slot:Slot T name id) (hty:typeOf (.builtin id)=pure (.type "method_descriptor")) (hm:RZ X id r) (ho:PE X o to)
  (hbase:attributeBase o name X.env (eval o X.env)=eval o X.env:=by rfl) (hline:(apos.endLine == cpos.line)=true:=by rfl):PE X (.Call (.Attribute o name apos) [] [] cpos) (QU X.K T r to):=by
 intro pins s σ H Q I h
 refine wpAny_Call_method0_late hbase hline (bF (ho pins s σ H _ I h) fun v s1 ⟨x,H1,I1,r1,ty,q1⟩=>?_)
 obtain ⟨h1,h2⟩:=ID I1 r1 ty
 exact ⟨T,id,pa,slot,hty,h1,h2,Calls.callWith_builtin rfl (PySem.evalArgs_none (hm pins s1 σ H1 x [] v [] Q I1 r1 .nil q1))⟩
theorem Mn (pa:PlainAttrs T) (slot:Slot T name id) (hty:typeOf (.builtin id)=pure (.type "method_descriptor")) (hm:RZ X id r) (ho:PE X o to) (ha:PA X (e :: es) t)
  (hbase:attributeBase o name X.env (eval o X.env)=eval o X.env:=by rfl)
  (hfew:((backTo cpos (starEach (e :: es) X.env)).all (fun x=>!x.1) && (backToKw cpos (keywordEach [] X.env)).all (fun x=>x.1.isSome)
   && decide ((e :: es).length + ([]:List Keyword).length + (if ([]:List Keyword).isEmpty then 0 else 1) < 30))=true:=by rfl)
  (hline:(apos.endLine == cpos.line)=true:=by rfl) (hs:starEach (e :: es) X.env=(false,eval e X.env) :: starEach es X.env:=by rfl) (hplain:(backTo cpos (starEach es X.env)).any (·.1)=false:=by rfl) :
  PE X (.Call (.Attribute o name apos) (e :: es) [] cpos) (Sa X.K T r to t):=by
 intro pins s σ H Q I h
 refine wpAny_Call_method_late hbase hfew hline rfl (bF (ho pins s σ H _ I h) fun v s1 ⟨x,H1,I1,r1,ty,q1⟩=>?_)
 obtain ⟨h1,h2⟩:=ID I1 r1 ty
 refine ⟨T,id,pa,slot,hty,h1,h2,?_⟩
 have hA:=ha cpos pins s1 σ H1 _ I1 q1
 rw [hs] at hA ⊢
 refine Calls.callWith_builtin (by show (false || (backTo cpos (starEach es X.env)).any (·.1))=false;rw [hplain] <;> rfl) (Calls.evalArgs_plain ?_)
 exact bF hA fun us s2 ⟨vs,H2,I2,r2,q2⟩=>hm pins s2 σ H2 x vs v us Q I2 r1 r2 q2
end
noncomputable def Pj (X:Cx) (id:String) (r:V->List V->Hp->VK->Prop):Prop :=
 ∀ (pins:List (Addr × Obj)) (s:Shared) (σ:St) (H:Hp) (x:V) (xs:List V) (v:Value) (us:List Value) (Q:VK),Inv X pins σ H s->RelV x v->Vals xs us->r x xs H Q ->
  wpAny (model X.prog X.w) X.A (call (.builtin id) (v :: us)) (EP X pins σ Q) X.xe s
theorem Vals.one:∀ {x:V} {us:List Value},Vals [x] us->∃ u,us=[u]/\RelV x u
 | _,_,.cons r .nil=>⟨_,rfl,r⟩
theorem Vals.zero:∀ {us:List Value},Vals [] us->us=[]
 | _,.nil=>rfl
theorem Vals.dropLast {xs:List V} {us:List Value} (h:Vals xs us):Vals xs.dropLast us.dropLast:=by
 induction h with
 | nil=>exact .nil
 | cons r t ih =>
  cases t with
  | nil=>exact .nil
  | cons q t'=>exact .cons r ih
theorem Vals.reverse {xs:List V} {us:List Value} (h:Vals xs us):Vals xs.reverse us.reverse:=by
 induction h with
 | nil=>exact .nil
 | cons r t ih=>rw [List.reverse_cons,List.reverse_cons];exact Vals.append ih (.cons r .nil)
theorem Vals.rep {xs:List V} {us:List Value} (h:Vals xs us):∀ k:Nat,Vals (List.replicate k xs).flatten (List.replicate k us).flatten
 | 0=>.nil
 | k + 1=>by
  rw [List.replicate_succ,List.replicate_succ,List.flatten_cons,List.flatten_cons]
  exact Vals.append h (Vals.rep h k)
theorem Gv {α:Type} (l:List α):l.eraseIdx (l.length - 1)=l.dropLast:=by
 induction l with
 | nil=>rfl
 | cons a r ih =>
  cases r with
  | nil=>rfl
  | cons b r =>
   have e:(a :: b :: r).length - 1=((b :: r).length - 1) + 1:=by
    have h1:(a :: b :: r).length=r.length + 2:=rfl
    have h2:(b :: r).length=r.length + 1:=rfl
    omega
   rw [e,List.eraseIdx_cons_succ,ih]
   all_goals rfl
theorem foldl_rep (its:List Value):∀ (k:Nat) (acc:List Value),
  List.foldl (fun x1 x2=>x1++x2) acc.toArray (List.replicate k its.toArray)=(acc++(List.replicate k its).flatten).toArray
 | 0,acc=>by simp
 | k + 1,acc=>by
  have e:acc.toArray++its.toArray=(acc++its).toArray:=by simp
  have e2:(acc++its)++(List.replicate k its).flatten=acc++(List.replicate (k + 1) its).flatten:=by
   rw [List.replicate_succ,List.flatten_cons,List.append_assoc]
  rw [<- e2,<- foldl_rep its k (acc++its),<- e,List.replicate_succ,List.foldl_cons]
section
variable {X:Cx} {pins:List (Addr × Obj)} {σ:St} {H:Hp} {s:Shared} {l b:Addr} {xs ys zs:List V}
theorem Inv.lset {its its':List Value} {n:Nat} {f:Array Value->Array Value} {t':Nat} (I:Inv X pins σ H s) (hH:H l=some (.lst xs))
  (e:s.heap.get? l=some { cls:=.type "list",data:=.seq its.toArray n }) (hf:f its.toArray=its'.toArray) (hv:Vals ys its') (hz:ys.length<=sizeLine) :
  Inv X pins σ (upd H l (.lst ys)) { s with heap:=s.heap.update l (Obj.mapSeq f),toks:=t' }:=by
 have q:=PySem.IsL.update e f
 rw [hf] at q
 refine I.write (x:=l) (e:=l) (by rw [hH];exact trivial) (.inl rfl) (fun b' u hb hu=>(Heap.get?_update_other s.heap (Obj.mapSeq f) (Ne.symm hb)).trans hu) ⟨_,q⟩ ?_
 exact ⟨hz,its',_,hv,q⟩
theorem Inv.lnew {its:List Value} {t':Nat} (I:Inv X pins σ H s) (hv:Vals ys its) (hz:ys.length<=sizeLine) :
  Inv X pins σ (upd H s.heap.objs.size (.lst ys)) { s with heap:=s.heap.push { cls:=.type "list",data:=.seq its.toArray },toks:=t' } :=
 I.laid (fun _ _ q=>Heap.get?_push_of_some _ q) (Nat.le_refl _) ⟨hz,its,0,hv,Heap.get?_push_size _ rfl⟩
theorem Inv.fresh (I:Inv X pins σ H s):H s.heap.objs.size=none:=I.hok.fresh (Nat.le_refl _)
theorem Inv.lstM (I:Inv X pins σ H s) (hH:H l=some (.lst xs)):xs.length<=sizeLine/\∃ (its:List Value) (n:Nat),Vals xs its/\xs.length=its.length/\s.heap.get? l=some { cls:=.type "list",data:=.seq its.toArray n }:=by
 obtain ⟨z,its,n,r,e⟩:=I.hok l _ hH
 exact ⟨z,its,n,r,r.length,e⟩
theorem D8 {n:Nat} (h:n<=sizeLine):Builtin.List.listTooLong n=false:=by
 unfold Builtin.List.listTooLong
 exact decide_eq_false (by omega)
end
section
variable {X:Cx}
noncomputable def Fd:V->List V->Hp->VK->Prop:=fun x vs H Q=>∃ l xs y,x=.ref l/\vs=[y]/\H l=some (.lst xs)/\xs.length < sizeLine/\Q .non (upd H l (.lst (xs++[y])))
theorem vW:Pj X "list.append" Fd:=by
 intro pins s σ H x vs v us Q I rx rv h
 obtain ⟨l,xs,y,rfl,rfl,hH,hz,q⟩:=h
 cases rx
 obtain ⟨u,rfl,ru⟩:=rv.one
 obtain ⟨z,its,n,r,hl,e⟩:=I.lstM hH
 refine call_meets F.slot_list_append ⟨_,e,rfl⟩ F.entry_list_append (F.args_list_append_2 _ _) (PySem.list_append l its.toArray n u (by rw [List.size_toArray];omega)) ⟨e,?_⟩
 refine ⟨.non,_,I.lset (its':=its++[u]) hH e (by simp) (r.append (.cons ru .nil)) ?_,rfl,q⟩
 rw [List.length_append,List.length_singleton]
 omega
noncomputable def Qh:V->List V->Hp->VK->Prop:=fun x vs H Q=>∃ l xs y,x=.ref l/\vs=[]/\H l=some (.lst xs)/\xs[xs.length - 1]?=some y/\Q y (upd H l (.lst xs.dropLast))
theorem Pl:Pj X "list.pop" Qh:=by
 intro pins s σ H x vs v us Q I rx rv h
 obtain ⟨l,xs,y,rfl,rfl,hH,hy,q⟩:=h
 cases rx
 have hus:=rv.zero
 subst hus
 obtain ⟨z,its,n,r,hl,e⟩:=I.lstM hH
 obtain ⟨u,hu,ru⟩:=r.get hy
 have hy':its.toArray[its.toArray.size - 1]?=some u:=by
  show its.toArray[its.length - 1]?=some u
  rw [<- Array.getElem?_toList,<- hl]
  exact hu
 refine call_meets F.slot_list_pop ⟨_,e,rfl⟩ F.entry_list_pop (F.args_list_pop_1 _) (MeetsSeq.list_pop_last l its.toArray n u hy' (by rw [List.size_toArray];omega)) ⟨e,?_⟩
 refine ⟨y,_,I.lset (its':=its.dropLast) hH e ?_ r.dropLast ?_,ru,q⟩
 ·show its.toArray.eraseIdxIfInBounds (its.toArray.size - 1)=its.dropLast.toArray
  rw [List.size_toArray,List.eraseIdxIfInBounds_toArray,Gv]
 ·rw [List.length_dropLast]
  omega
noncomputable def P4:R2:=fun x y H Q=>∃ l k xs,x=.ref l/\y=.int k/\H l=some (.lst xs)/\-(2 ^ 63)<=k/\k < 2 ^ 63/\xs.length * k.toNat<=sizeLine /\
 ∀ p,H p=none->Q (.ref p) (upd H p (.lst (List.replicate k.toNat xs).flatten))
theorem len_rep {α:Type} (xs:List α) (k:Nat):(List.replicate k xs).flatten.length=k * xs.length:=by
 induction k with
 | zero=>simp
 | succ k ih=>rw [List.replicate_succ,List.flatten_cons,List.length_append,ih,Nat.succ_mul,Nat.add_comm]
theorem QR:dW X (binaryOp .Mult) P4:=by
 intro pins s σ H x y v u Q I rx ry h
 obtain ⟨l,k,xs,rfl,rfl,hH,h1,h2,hz,q⟩:=h
 cases rx
 obtain ⟨t,rfl⟩:=ry
 obtain ⟨z,its,n,r,hl,e⟩:=I.lstM hH
 have hlen:its.toArray.size * k.toNat<=sizeLine:=by rw [List.size_toArray,<- hl];exact hz
 have hcap:¬ its.toArray.size * k.toNat > (2 ^ 63 - 1) / 8:=by
  have:(sizeLine:Nat)<=(2 ^ 63 - 1) / 8:=by decide
  omega
 have hfit:¬ (!Builtin.List.listFitsIndex k)=true:=by
  rw [fitsIndex_both h1 h2]
  exact Bool.false_ne_true
 have hlong:¬ Builtin.List.listTooLong (its.toArray.size * k.toNat)=true:=by
  rw [D8 hlen]
  exact Bool.false_ne_true
 have hnew:List.foldl (fun x1 x2=>x1++x2) #[] (List.replicate (if its.toArray.isEmpty=true then 0 else k.toNat) its.toArray)=(List.replicate k.toNat its).flatten.toArray:=by
  have f0:∀ m:Nat,List.foldl (fun x1 x2=>x1++x2) #[] (List.replicate m its.toArray)=(List.replicate m its).flatten.toArray:=fun m=>by
   have:=foldl_rep its m []
   rw [List.nil_append] at this
   exact this
  rw [f0]
  cases its with
  | nil=>simp
  | cons a r'=>rw [if_neg (by simp)]
 refine wpAny_binaryOp_repeat_ref (T:="list") (U:="int") (by decide) ⟨_,e,rfl⟩ (fun s'=>typeIs_int s' k t) noFill_list_mul F.fills_int_mul F.slot_int_rmul repeat_list F.slot_int_index.lookup
  (call_meets F.slot_int_rmul (typeIs_int s k t) F.entry_int_rmul (F.args_int_rmul_2 _ _) (int___rmul___int_list k t l its.toArray n)
   ⟨e,rfl,⟨_,e,rfl⟩,call_meets F.slot_list_mul ⟨_,e,rfl⟩ F.entry_list_mul (F.args_list_mul_2 _ _) (AutoListH.list___mul___list_int_3 l its.toArray n k t hfit hcap hlong) ⟨e,?_⟩⟩)
 rw [hnew]
 exact ⟨.ref _,_,I.lnew (t':=s.toks) (r.rep k.toNat) (by rw [len_rep,Nat.mul_comm];exact hz),rfl,q _ I.fresh⟩
end
section
variable {prog:Program} {w:World} {A:Around} {E:Value->Shared->Prop} {s:Shared}
end
section
variable {X:Cx}
end
end L2
namespace Att
open PySem PySem.W PySem.Calls PyProof.Rows
theorem zL {P:Params} {h:Heap}:∀ (ns:List Int) (vs:List Value),WellAll P h vs (ns.map WData.int)->IntsAre vs ns:=by
 intro ns
 induction ns with
 | nil =>
  intro vs w
  rw [List.map_nil] at w
  cases w
  exact .nil
 | cons n ns ih =>
  intro vs w
  rw [List.map_cons] at w
  cases w with
  | cons a b =>
   cases a
   exact .cons _ _ (ih _ b)
theorem Hz {l:OpenLaw} {n:Nat} (hn:l.most=some n) {P:Params} {h:Heap} {args:List WData} {vals:List Value}
  (hpre:l.row.toRowW.claim.pre args=true) (hwl:WellAll P h vals args) :
  ∃ a vs ns,vals=[Value.ref a]/\args=[WData.list (ns.map WData.int)]/\h.get? a=some { cls:=.type "list",data:=.seq vs.toArray }/\IntsAre vs ns/\ns.length<=n:=by
 have hsh:WShape.hasAll [] args [.list .int]=true:=(pre_splitW hpre).1
 have hc:l.pre.holds [] { args:=args }=true:=(pre_splitW hpre).2
 obtain ⟨d,r,rfl,h1,h2⟩:=hasAllW_cons hsh
 obtain rfl:=hasAllW_nil h2
 obtain ⟨xs,rfl,h3⟩:=hasW_list h1
 obtain ⟨ns,rfl⟩:=items_int h3
 have hlen:ns.length<=n:=by
  unfold OpenLaw.pre at hc
  have h4:(WTm.not (.lt (.lit (.int (n:Int))) (.len (.arg 0)))).holds [] { args:=[.list (ns.map .int)] }=true:=by
   have h4:=(holds_andW hc).1
   rw [hn] at h4
   exact h4
  have h5:=condW_of h4 (w_not (w_lt w_lit (w_len_list (w_arg rfl))))
  rw [List.length_map] at h5
  refine Nat.le_of_not_lt fun q=>?_
  have q':(n:Int) < ((ns.length:Nat):Int):=by omega
  first
   | (rw [decide_eq_true q'] at h5;exact absurd h5 (by decide))
   | (simp at h5;omega)
 cases hwl with
 | cons w1 w2 =>
  cases w2
  cases w1 with
  | list ho hall=>exact ⟨_,_,ns,rfl,rfl,ho,zL ns _ hall,hlen⟩
theorem Hv (l:OpenLaw) (args:List WData):l.row.toRowW.claim.post args (.bool true) args=true :=
 postW_of (r:=l.row.toRowW) (X:=(true == true))
  (show WShape.has [] (.bool true) .bool=true by first | rfl | decide | simp [WShape.has,WShape.arms,WShape.armsAll])
  (show (WTm.eq .res (.lit (.bool true))).value [] { args:=args,res:=some (.bool true),after:=args }=some (.bool (true == true)) from w_eq_bool (w_res rfl) w_lit) rfl
theorem attach_call {l:OpenLaw} {n:Nat} {q:Program} {loose:List Str} {XP:(Str->Option Value)->Heap->Prop} {YP:World->Heap->Prop} {d:DefRec}
  (hn:l.most=some n) (hdf:d.params.defaults=[])
  (call:∀ (w:World) (s₀ s₁:Shared) (mg mb:Str->Option Value) (fa:Addr) (o:Obj) (pm cd doc:Value) (a:Addr) (vs:List Value) (ns:List Int),
   Ground q loose [] XP w s₀ mg mb s₁.heap->YP w s₁.heap ->
   s₁.heap.get? fa=some o->o.data=.func (docDef d.name d.params d.body d.scope pm cd doc)->s₁.heap.CodeRec cd d.name->mg d.name=some (.ref fa) ->
   s₁.heap.get? a=some { cls:=.type "list",data:=.seq vs.toArray }->IntsAre vs ns->ns.length<=n->s₁.gens=#[] ->
   codeAny (model l.prog w) callerA (.call (.ref fa) ⟨[.ref a],[]⟩) (fun r s'=>r=.ok (.ret (.bool true))/\OldK s₁.heap s'.heap/\s'.os=s₁.os/\AllBare s'.gens) s₁) :
  WalkO q loose XP YP l.row.toRowW d [] (fun f vs=>PySem.call f vs):=by
 intro w s₀ s₁ mg mb G Y fa o pm cd doc dV kV ho hd hcd hD hmg hg args vals as hpre hlay hrd hwl hlo
 obtain rfl:dV=.none:=Dflts.none hD hdf
 obtain rfl:kV=.none:=Dflts.noKw hD
 obtain ⟨a,vs,ns,rfl,rfl,hobj,hints,hlen⟩:=Hz hn hpre hwl
 refine enter_call (codeAny_mono (call w s₀ s₁ mg mb fa o pm cd doc a vs ns G Y ho (fd_plain hd) hcd hmg hobj hints hlen hg) fun r s' hq=>?_)
 obtain ⟨rfl,h2,h3,h4⟩:=hq
 exact ⟨.inl ⟨.bool true,.bool true,[],rfl,fun _=>rfl,.bool true,Hv l _,fun _=>⟨List.Pairwise.nil,fun _ hm=>(nomatch hm)⟩⟩,h2,h3,h4⟩
section
variable {prog:Program} {w:World} {A:Around} {E:Value->Shared->Prop} {s:Shared} {K:Frag}
end
end Att
namespace L2
open PySem PySem.Spec PyProof.Rows
theorem BA:∀ {vs:List Value} {ns:List Int},IntsAre vs ns->Vals (ns.map V.int) vs
 | _,_,.nil=>.nil
 | _,_,.cons n t h=>.cons ⟨t,rfl⟩ (BA h)
noncomputable def Lo (H:Hp):Prop:=∀ b,H b=none\/∃ o xs,H b=some (.frz o (.lst xs))
theorem LL {P:Program} {w:World} {K:PySem.W.Frag} {mg mb:Str->Option Value} {CX:uU} {k:Nat} {fa a:Addr} {fd:FuncData} {x:Str} {sp:Sp} {s₁:Shared} {vs:List Value} {ns:List Int}
  (KX:K.In s₁.heap) (hns:s₁.heap.Ns mainGlobals mg) (hb:s₁.heap.Ns builtinsNs mb) (hbb:∀ x:Str,x≠"__name__"->mb x=bootBuiltins x) (hlim:s₁.heap.NoLimit) (hg:s₁.gens=#[])
  (ha:s₁.heap.get? a=some { cls:=.type "list",data:=.seq vs.toArray }) (hi:IntsAre vs ns) (hl:ns.length<=sizeLine) (hr:eU k callerA)
  (F:∀ base:Heap,K.In base->base.Ns mainGlobals mg->j7 P w K mg base CX k fa fd [x] sp) (hbind:∀ (s:Shared) (u:Value),BindsTo s fd ⟨[u],[]⟩ [(x,u)])
  (hsp:∀ H:Hp,Lo H->eC K H a (ns.map V.int)->sp [.ref a] H (fun v _=>v=.bl true) fun _ _ _=>False)
  (hCX:∀ H e s',CX [] H s₁ (fun _ _ _=>False) e s'->False) :
  codeAny (model P w) callerA (.call (.ref fa) ⟨[.ref a],[]⟩) (fun r s'=>r=.ok (.ret (.bool true))/\OldK s₁.heap s'.heap/\s'.os=s₁.os/\AllBare s'.gens) s₁:=by
 have rv:=BA hi
 have lenV:=hi.length
 have core:∀ H:Hp,Lo H->eC K H a (ns.map V.int)->gW P w H s₁.heap->(∀ b,H b≠none->b=a)->(H a≠none->K.lookup a=none) ->
   codeAny (model P w) callerA (.call (.ref fa) ⟨[.ref a],[]⟩) (fun r s'=>r=.ok (.ret (.bool true))/\OldK s₁.heap s'.heap/\s'.os=s₁.os/\AllBare s'.gens) s₁:=by
  intro H hO hS hok hA hK
  have base_of:∀ {b:Addr} {o:Obj},s₁.heap.get? b=some o->H b=none->(sS s₁.heap H).get? b=some o:=fun e n=>LZ e n
  have noA:∀ {b:Addr} {o:Obj} {es:Array DictEntry} {ep:Nat},s₁.heap.get? b=some o->o.data=.dict es ep->H b=none:=fun {b o es ep} e d=>by
   cases q:H b with
   | none=>rfl
   | some u =>
    have e':b=a:=hA b (by rw [q];simp)
    subst e'
    rw [ha] at e;cases e
    have d':Data.seq vs.toArray _=Data.dict es ep:=d
    cases d'
  have nsK:∀ {b:Addr} {m:Str->Option Value},s₁.heap.Ns b m->(sS s₁.heap H).Ns b m:=fun {b m} ⟨o,es,ep,e,d,r⟩=>⟨o,es,ep,base_of e (noA e d),d,r⟩
  have hKb:K.In (sS s₁.heap H):=fun b o e=>base_of (KX b o e) (by
   cases q:H b with
   | none=>rfl
   | some u =>
    have e':b=a:=hA b (by rw [q];simp)
    subst e'
    rw [hK (by rw [q];simp)] at e;cases e)
  have hM:Mod K mg (sS s₁.heap H):=⟨hKb,nsK hns,⟨mb,nsK hb,hbb⟩,let ⟨mc,h1,h2⟩:=hlim;⟨mc,nsK h1,h2⟩⟩
  have e0:GH P w K mg (sS s₁.heap H) callerA [] s₁ H:=⟨rfl,hM,fun b o e=>NI e,Nat.le_of_eq (Jx _ _),trivial,fun b hb=>absurd (show b∈([]:List Addr) from hb) (by simp),hok,.of_eq hg⟩
  refine codeAny_mono ((F _ hKb (nsK hns)).run callerA [] s₁ H ⟨[.ref a],[]⟩ [.ref a] [.ref a] _ _ hr e0 (hbind s₁ (.ref a)) (.cons rfl .nil) (hsp H hO hS)) fun r s' h=>?_
  cases r with
  | error e=>exact (hCX H e s' h).elim
  | ok fl =>
   cases fl with
   | next=>exact False.elim h
   | brk=>exact False.elim h
   | cont=>exact False.elim h
   | ret u =>
    obtain ⟨v,H',os,bare,un,hok',r',q⟩:=h
    have q':v=.bl true:=q
    subst q'
    obtain rfl:u=Value.bool true:=r'
    refine ⟨rfl,OldK.of_keep fun b o e=>?_,os,bare⟩
    cases q:H b with
    | none=>exact un.keep b o e q (by intro z;exact absurd (show b∈([]:List Addr) from z) (by simp)) (by simp)
    | some u =>
     rcases hO b with z | ⟨ob,xs,z⟩
     ·rw [q] at z;cases z
     ·have z2:=un.frzs b ob _ z
      obtain ⟨e1,_⟩:=hok b _ z
      obtain ⟨e2,_⟩:=hok' b _ z2
      rw [e] at e1;cases e1
      exact e2
 cases hk:K.lookup a with
 | some o =>
  have e:=KX a o hk
  rw [ha] at e
  cases e
  refine core (fun _=>none) (fun _=>.inl rfl) (.inr ⟨_,vs.toArray,_,hk,rfl,rfl,rfl,by rw [List.size_toArray,lenV];exact hl,by simpa using rv⟩) (fun b u z=>by have z':(none:Option HO)=some u:=z;cases z') (fun b z=>absurd rfl z) fun z=>absurd rfl z
 | none =>
  refine core (fun b=>if b=a then some (.frz { cls:=.type "list",data:=.seq vs.toArray } (.lst (ns.map V.int))) else none) (fun b=>?_) (.inl (.inr ⟨{ cls:=.type "list",data:=.seq vs.toArray },if_pos rfl⟩)) (fun b u z=>?_) (fun b z=>?_) fun _=>hk
  ·by_cases hb:b=a
   ·exact .inr ⟨_,_,if_pos hb⟩
   ·exact .inl (if_neg hb)
  ·by_cases hb:b=a
   ·have z':=(if_pos hb).symm.trans z
    cases z'
    subst hb
    exact ⟨ha,by rw [List.length_map];exact hl,vs,_,rv,ha⟩
   ·have z':=(if_neg hb).symm.trans z
    cases z'
  ·by_cases hb:b=a
   ·exact hb
   ·exact absurd (if_neg hb) z
theorem Oj {l:PySem.W.OpenLaw} {n k:Nat} {q:Program} {loose:List Str} {XP:(Str->Option Value)->Heap->Prop} {YP:World->Heap->Prop} {d:DefRec} {K:Params->PySem.W.Frag} {CX:World->uU} {sp:World->Sp} {x:Str}
  (hn:l.most=some n) (hn2:n<=sizeLine) (hdf:d.params.defaults=[]) (hr:eU k callerA)
  (hY:∀ (w:World) (h:Heap),YP w h->(K w.params).In h)
  (F:∀ (w:World) (mg:Str->Option Value) (fa:Addr) (h:Heap),(K w.params).In h->h.Ns mainGlobals mg->mg d.name=some (.ref fa) ->
   ∃ fd:FuncData,(∀ (s:Shared) (u:Value),BindsTo s fd ⟨[u],[]⟩ [(x,u)]) /\
    ∀ base:Heap,(K w.params).In base->base.Ns mainGlobals mg->j7 l.prog w (K w.params) mg base (CX w) k fa fd [x] (sp w))
  (hsp:∀ (w:World) (H:Hp) (a:Addr) (ns:List Int),ns.length<=n->Lo H->eC (K w.params) H a (ns.map V.int)->sp w [.ref a] H (fun v _=>v=.bl true) fun _ _ _=>False)
  (hCX:∀ (w:World) (H:Hp) (s:Shared) (e:Value) (s':Shared),CX w [] H s (fun _ _ _=>False) e s'->False) :
  PySem.W.WalkO q loose XP YP l.row.toRowW d [] (fun f vs=>PySem.call f vs):=by
 refine Att.attach_call hn hdf fun w s₀ s₁ mg mb fa o pm cd doc a vs ns G Y ho hd hcd hmg hobj hints hlen hg=>?_
 have KX:=hY w _ Y
 obtain ⟨fd,hb,hF⟩:=F w mg fa _ KX G.T.g hmg
 exact LL KX G.T.g G.T.b G.T.builtins G.T.nolimit hg hobj hints (Nat.le_trans hlen hn2) hr hF hb (fun H hO hS=>hsp w H a ns hlen hO hS) fun H e s'=>hCX w H s₁ e s'
end L2
namespace L2
open PySem PySem.Spec PyProof.Rows
noncomputable def k9 (s:Stmt):Arguments:=match s with
 | .FunctionDef _ a _ _ _ _ _ _ _ _=>a
 | _=>{ posonlyargs:=[],args:=[],vararg:=none,kwonlyargs:=[],kw_defaults:=[],kwarg:=none,defaults:=[] }
noncomputable def gG (s:Stmt):List Stmt:=match s with
 | .FunctionDef _ _ b _ _ _ _ _ _ _=>b
 | _=>[]
noncomputable def aT (s:Stmt):Scope:=match s with
 | .FunctionDef _ _ _ _ _ _ sc _ _ _=>sc
 | _=>{ kind:=.function,names:=[],isGenerator:=false,isCoroutine:=false }
abbrev sN:uU:=fun _ _ _ _ _ _=>False
abbrev E0:XK:=fun _ _ _=>False
theorem Mo {X:Cx}:Passes sN X E0:=fun _ _ _ _ _ _ _ h=>h.elim
structure dM (K:PySem.W.Frag) (x qual:Str) (st:Stmt) (f:Addr) (fd:FuncData):Prop where
 ex:∃ (oc:Value) (od:Option Addr) (kV doc pm:Value) (an:Option Addr) (cdv ct:Value) (osl:Array (Option Value)),
  fd=PySem.W.fnOf x qual (k9 st) (gG st) (aT st) .none kV doc pm an cdv ct/\K.lookup f=some ⟨oc,od,.func fd,osl⟩/\PySem.W.codeIn K cdv qual=true
 kp:PySem.W.keepIn K (.ref f)=true
section
variable {P:Program} {w:World} {K:PySem.W.Frag} {mg:Str->Option Value} {base:Heap}
theorem dM.ok {x qual:Str} {st:Stmt} {f:Addr} {fd:FuncData} {N ps:List Str} {k:Nat} {sp:Sp} (F:dM K x qual st f fd) (S:bE N ps (aT st)) (len:∀ vs H Q E,sp vs H Q E->vs.length=ps.length)
  (hbody:∀ (cdv:Value) (A:Around) (outer:List Env) (s:Shared) (H:Hp) (vs:List V) (Q:VK) (E:XK),eU k (A.deeper (envOfC qual (aT st) s.heap.objs.size f cdv))->sp vs H Q E ->
   ∃ t,qU (AQ sN P w K mg base N qual (aT st) f cdv A outer s H E).nox (gG st) t/\t { nx:=fun _ H'=>Q .non H',rt:=Q } (start N vs) H):j7 P w K mg base sN (k + 1) f fd ps sp:=by
 obtain ⟨oc,od,kV,doc,pm,an,cdv,ct,osl,rfl,lk,hcd⟩:=F.ex
 refine RT lk hcd S len fun A outer s H vs Q E hr hsp=>?_
 obtain ⟨t,h,q⟩:=hbody cdv A outer s H vs Q E hr hsp
 exact ⟨t,h.nox,q⟩
theorem dM.binds {x qual:Str} {st:Stmt} {f:Addr} {fd:FuncData} {ps:List Str} (F:dM K x qual st f fd)
  (h:∀ (kV doc pm:Value) (an:Option Addr) (cdv ct:Value) (us:List Value),us.length=ps.length->bindArgs (PySem.W.fnOf x qual (k9 st) (gG st) (aT st) .none kV doc pm an cdv ct) ⟨us,[]⟩=pure (ps.zip us)):Binds K fd ps []:=by
 obtain ⟨oc,od,kV,doc,pm,an,cdv,ct,osl,rfl,lk,hcd⟩:=F.ex
 exact .all (h kV doc pm an cdv ct)
theorem Jl {x qual:Str} {st:Stmt} {f:Addr} {oc:Value} {od an:Option Addr} {osl:Array (Option Value)} {kV doc pm cdv ct:Value} (l:K.lookup f=some ⟨oc,od,.func (PySem.W.fnOf x qual (k9 st) (gG st) (aT st) .none kV doc pm an cdv ct),osl⟩)
  (c:PySem.W.codeIn K cdv qual=true) (k:PySem.W.keepIn K (.ref f)=true):dM K x qual st f (PySem.W.fnOf x qual (k9 st) (gG st) (aT st) .none kV doc pm an cdv ct):=⟨⟨oc,od,kV,doc,pm,an,cdv,ct,osl,rfl,l,c⟩,k⟩
end
theorem zX {A:Around} {k:Nat} (hr:eU k A):A.units + 1 < cLine:=Nat.lt_of_le_of_lt (Nat.add_le_add_left (by decide:1<=64) _) hr.units
section
variable {X:Cx}
end
theorem mC {c A B:Prop} [Decidable c] (h1:c->A) (h2:¬ c->B):if c then A else B:=by
 by_cases h:c
 ·rw [if_pos h]
  exact h1 h
 ·rw [if_neg h]
  exact h2 h
section
variable {κ:Type} [DecidableEq κ]
def mE (kvs:List (κ × V)) (k:κ):Option V:=(kvs.find? fun kv=>decide (kv.1=k)).map (·.2)
def putK (kvs:List (κ × V)) (k:κ) (v:V):List (κ × V) :=
 if (kvs.any fun kv=>decide (kv.1=k))=true then kvs.map (fun kv=>if kv.1=k then (kv.1,v) else kv) else kvs++[(k,v)]
def uL (kvs:List (κ × V)) (k:κ):List (κ × V):=kvs.filter fun kv=>decide (kv.1≠k)
theorem kG {p:κ × V} {r:List (κ × V)} {k:κ} (e:p.1=k):mE (p :: r) k=some p.2:=by simp [mE,List.find?_cons,e]
theorem kJ {p:κ × V} {r:List (κ × V)} {k:κ} (e:¬ p.1=k):mE (p :: r) k=mE r k:=by simp [mE,List.find?_cons,e]
theorem yG (k:κ):∀ kvs:List (κ × V),(kvs.any fun kv=>decide (kv.1=k))=(mE kvs k).isSome
 | []=>rfl
 | p :: r=>by
  rw [List.any_cons]
  by_cases e:p.1=k
  ·simp only [kG e,decide_eq_true e,Bool.true_or,Option.isSome_some]
  ·rw [kJ e,decide_eq_false e,Bool.false_or];exact yG k r
theorem K3 (k j:κ) (y:V):∀ kvs:List (κ × V),mE (kvs.map fun kv=>if kv.1=k then (kv.1,y) else kv) j=(mE kvs j).map fun x=>if j=k then y else x
 | []=>rfl
 | p :: r=>by
  have ih:=K3 k j y r
  rw [List.map_cons]
  by_cases h:p.1=k
  ·rw [if_pos h]
   by_cases e:p.1=j
   ·rw [kG (p:=(p.1,y)) e,kG e,Option.map_some,if_pos (e.symm.trans h)]
   ·rw [kJ (p:=(p.1,y)) e,kJ e,ih]
  ·rw [if_neg h]
   by_cases e:p.1=j
   ·rw [kG (p:=p) e,kG e,Option.map_some,if_neg (fun z=>h (e.trans z))]
   ·rw [kJ (p:=p) e,kJ e,ih]
theorem rO (kvs:List (κ × V)) (k:κ) (v:V):(putK kvs k v).length<=kvs.length + 1:=by
 unfold putK
 split
 ·rw [List.length_map];omega
 ·rw [List.length_append,List.length_cons,List.length_nil];omega
theorem Se {kvs:List (κ × V)} {k:κ} (v:V) (h:mE kvs k=none):putK kvs k v=kvs++[(k,v)]:=by
 unfold putK
 rw [yG,h]
 exact if_neg (by decide)
theorem oD.isSome_eq {o:Option V} {u:Option Value} (r:oD o u):o.isSome=u.isSome:=by
 cases o with
 | none=>cases u with
  | none=>rfl
  | some _=>exact (show False from r).elim
 | some _=>cases u with
  | none=>exact (show False from r).elim
  | some _=>rfl
theorem oD.getD {o:Option V} {u:Option Value} {d:V} {d':Value} (r:oD o u) (rd:RelV d d'):RelV (o.getD d) (u.getD d'):=by
 cases o with
 | none=>cases u with
  | none=>exact rd
  | some _=>exact (show False from r).elim
 | some _=>cases u with
  | none=>exact (show False from r).elim
  | some _=>exact r
theorem KV.val {kvs:List (κ × V)} {vs:List (κ × Value)} (r:KV kvs vs) (k:κ):oD (mE kvs k) (valueAt vs k):=by
 unfold KV at r
 induction r with
 | nil=>exact True.intro
 | @cons p q ps qs h t ih =>
  obtain ⟨h1,h2⟩:=h
  by_cases e:p.1=k
  ·have e':q.1=k:=h1.symm.trans e
   have b:valueAt (q :: qs) k=some q.2:=by simp [valueAt,List.find?_cons,e']
   rw [kG e,b];exact h2
  ·have e':¬ q.1=k:=fun z=>e (h1.trans z)
   have b:valueAt (q :: qs) k=valueAt qs k:=by simp [valueAt,List.find?_cons,e']
   rw [kJ e,b];exact ih
theorem KV.any {kvs:List (κ × V)} {vs:List (κ × Value)} (r:KV kvs vs) (k:κ):(kvs.any fun kv=>decide (kv.1=k))=vs.any fun kv=>decide (kv.1=k):=by
 unfold KV at r
 induction r with
 | nil=>rfl
 | cons h t ih=>rw [List.any_cons,List.any_cons,ih,h.1]
theorem KV.repl {kvs:List (κ × V)} {vs:List (κ × Value)} (r:KV kvs vs) (k:κ) {y:V} {u:Value} (ry:RelV y u) :
  KV (kvs.map fun kv=>if kv.1=k then (kv.1,y) else kv) (vs.map fun kv=>if kv.1=k then (kv.1,u) else kv):=by
 unfold KV at r ⊢
 induction r with
 | nil=>exact .nil
 | @cons p q ps qs h t ih =>
  rw [List.map_cons,List.map_cons]
  refine .cons ?_ ih
  obtain ⟨h1,h2⟩:=h
  by_cases e:p.1=k
  ·rw [if_pos e,if_pos (h1.symm.trans e)];exact ⟨h1,ry⟩
  ·rw [if_neg e,if_neg (fun z=>e (h1.trans z))];exact ⟨h1,h2⟩
theorem KV.put {kvs:List (κ × V)} {vs:List (κ × Value)} (r:KV kvs vs) (k:κ) {y:V} {u:Value} (ry:RelV y u):KV (putK kvs k y) (stored vs k u):=by
 unfold putK stored
 rw [r.any k]
 by_cases e:(vs.any fun kv=>decide (kv.1=k))=true
 ·rw [if_pos e,if_pos e];exact r.repl k ry
 ·rw [if_neg e,if_neg e];exact Paired.snoc r ⟨rfl,ry⟩
theorem KV.length {kvs:List (κ × V)} {vs:List (κ × Value)} (r:KV kvs vs):kvs.length=vs.length:=Paired.length r
end
theorem t5 {P:Program} {w:World} {k:Key} {u:Value} (r:RelV (kV k) u):(cV P w).is k u=true:=by
 cases k with
 | inl i=>obtain ⟨t,e⟩:=(show ∃ t,u=Value.int i t from r);subst e;exact El P w i t
 | inr x=>obtain ⟨t,e⟩:=(show ∃ t,u=Value.str x t from r);subst e;exact Ef P w x t
theorem ON {a b:Key} (e:kV a=kV b):a=b:=by
 cases a with
 | inl i=>cases b with
  | inl j=>have e':V.int i=V.int j:=e;injection e' with e';rw [e']
  | inr y=>exact nomatch (show V.int i=V.str y from e)
 | inr x=>cases b with
  | inl j=>exact nomatch (show V.str x=V.int j from e)
  | inr y=>have e':V.str x=V.str y:=e;injection e' with e';rw [e']
theorem MT:∀ {a b:List Key},a.map kV=b.map kV->a=b
 | [],[],_=>rfl
 | [],_ :: _,e=>by simp at e
 | _ :: _,[],e=>by simp at e
 | x :: xs,y :: ys,e=>by
  rw [List.map_cons,List.map_cons] at e
  injection e with e1 e2
  rw [ON e1,MT e2]
theorem BY {P:Program} {w:World}:∀ {ks:List Key} {us:List Value},Vals (ks.map kV) us->ItemsAre (cV P w) ks us
 | [],_,r=>by rw [List.map_nil] at r;cases r;exact .nil
 | k :: ks,_,r=>by
  rw [List.map_cons] at r
  cases r with
  | cons h t=>exact .cons (t5 h) (BY t)
abbrev qE (H:Hp):List (List Key × V)->List (List Key × Addr × Value)->Prop:=Paired fun p q=>p.1=q.1/\H q.2.1=some (.tup (p.1.map kV))/\RelV p.2 q.2.2
theorem qE.val {H:Hp} {kvs:List (List Key × V)} {xs:List (List Key × Addr × Value)} (r:qE H kvs xs) (k:List Key):oD (mE kvs k) ((atKey xs k).map (·.2)):=by
 induction r with
 | nil=>exact True.intro
 | @cons p q ps qs h t ih =>
  obtain ⟨h1,_,h2⟩:=h
  by_cases e:p.1=k
  ·have e':q.1=k:=h1.symm.trans e
   have b:atKey (q :: qs) k=some q.2:=by simp [atKey,List.find?_cons,e']
   rw [kG e,b];exact h2
  ·have e':¬ q.1=k:=fun z=>e (h1.trans z)
   have b:atKey (q :: qs) k=atKey qs k:=by simp [atKey,List.find?_cons,e']
   rw [kJ e,b];exact ih
theorem qE.repl {H:Hp} {kvs:List (List Key × V)} {xs:List (List Key × Addr × Value)} (r:qE H kvs xs) (k:List Key) {y:V} {u:Value} (ry:RelV y u) :
  qE H (kvs.map fun kv=>if kv.1=k then (kv.1,y) else kv) (xs.map (putAt k u)):=by
 induction r with
 | nil=>exact .nil
 | @cons p q ps qs h t ih =>
  rw [List.map_cons,List.map_cons]
  refine .cons ?_ ih
  obtain ⟨h1,h2,h3⟩:=h
  unfold putAt
  by_cases e:p.1=k
  ·rw [if_pos e,if_pos (h1.symm.trans e)];exact ⟨h1,h2,ry⟩
  ·rw [if_neg e,if_neg (fun z=>e (h1.trans z))];exact ⟨h1,h2,h3⟩
theorem qE.put {H:Hp} {kvs:List (List Key × V)} {xs:List (List Key × Addr × Value)} (r:qE H kvs xs) (k:List Key) {b:Addr} {y:V} {u:Value} (hb:H b=some (.tup (k.map kV))) (ry:RelV y u) :
  qE H (putK kvs k y) (storedH xs k b u):=by
 have e:(kvs.any fun kv=>decide (kv.1=k))=(atKey xs k).isSome:=by
  rw [yG,(r.val k).isSome_eq,Option.isSome_map]
 unfold putK storedH
 rw [e]
 by_cases q:(atKey xs k).isSome=true
 ·rw [if_pos q,if_pos q];exact r.repl k ry
 ·rw [if_neg q,if_neg q];exact Paired.snoc r ⟨rfl,hb,ry⟩
theorem qE.keeps {H H':Hp} {kvs:List (List Key × V)} {xs:List (List Key × Addr × Value)} (r:qE H kvs xs) (ht:∀ b ys,H b=some (.tup ys)->H' b=some (.tup ys)):qE H' kvs xs :=
 Paired.mapP r fun _ _ z=>⟨z.1,ht _ _ z.2.1,z.2.2⟩
section
variable {P:Program} {w:World} {H:Hp} {h:Heap} {a:Addr}
theorem MF {u:HO} (ok:gW P w H h) (e:Rd H a u):dO P w H h a u:=e.ok ok
theorem tI {kvs:List (Key × V)} (ok:gW P w H h) (e:Rd H a (.dK kvs)):kvs.length<=sizeLine/\(a == sysModules)=false/\∃ vs,KV kvs vs/\h.DictOf (cV P w) a vs :=
 show dO P w H h a (.dK kvs) from MF ok e
theorem Rw {kvs:List (Key × V)} (ok:gW P w H h) (e:H a=some (.dK kvs)):kvs.length<=sizeLine/\(a == sysModules)=false/\∃ vs,KV kvs vs/\h.DictOf (cV P w) a vs:=tI ok (.inl e)
theorem rY {ks:List Key} (ok:gW P w H h) (e:H a=some (.tup (ks.map kV))):(tupleKind (cV P w)).is h ks a:=by
 obtain ⟨_,its,r,o,h1,h2,n,h3⟩:=(show dO P w H h a (.tup (ks.map kV)) from ok a _ e)
 exact ⟨o,its.toArray,n,h1,h2,h3,by simpa using BY r⟩
theorem sV {kvs:List (List Key × V)} (ok:gW P w H h) (e:Rd H a (.dT kvs)):kvs.length<=sizeLine/\(a == sysModules)=false /\
  ∃ xs,qE H kvs xs/\h.DictOfH (tupleKind (cV P w)) a xs:=by
 obtain ⟨z,y,xs,r,o,es,ep,h1,h2,h3,h4,h5⟩:=(show dO P w H h a (.dT kvs) from MF ok e)
 refine ⟨z,y,xs,r,o,es,ep,h1,h2,h3,h4,fun x hx=>?_,h5⟩
 have all:∀ {l:List (List Key × V)} {m:List (List Key × Addr × Value)},qE H l m->∀ x∈m,(tupleKind (cV P w)).is h x.1 x.2.1:=by
  intro l m q
  induction q with
  | nil=>intro x hx;exact nomatch hx
  | @cons p q ps qs hq t ih =>
   intro x hx
   rcases List.mem_cons.mp hx with e | hx
   ·subst e
    exact rY ok (by rw [<- hq.1];exact hq.2.1)
   ·exact ih x hx
 exact all r x hx
theorem Rz {kvs:List (List Key × V)} (ok:gW P w H h) (e:H a=some (.dT kvs)):kvs.length<=sizeLine/\(a == sysModules)=false /\
  ∃ xs,qE H kvs xs/\h.DictOfH (tupleKind (cV P w)) a xs:=sV ok (.inl e)
end
def rN (H:Hp) (a:Addr) (y:V) (r:Option V):Prop :=
 (∃ kvs k,Rd H a (.dK kvs)/\y=kV k/\r=mE kvs k)\/∃ kvs k b,Rd H a (.dT kvs)/\y=.ref b/\H b=some (.tup (k.map kV))/\r=mE kvs k
noncomputable def Bh (H:Hp) (a:Addr) (y v:V) (H':Hp):Prop :=
 (∃ kvs k,H a=some (.dK kvs)/\y=kV k/\kvs.length < sizeLine/\H'=upd H a (.dK (putK kvs k v))) \/
 ∃ kvs k b,H a=some (.dT kvs)/\y=.ref b/\H b=some (.tup (k.map kV))/\kvs.length < sizeLine/\H'=upd H a (.dT (putK kvs k v))
theorem Bh.k {H:Hp} {a:Addr} {kvs:List (Key × V)} {k:Key} {v:V} (e:H a=some (.dK kvs)) (hl:kvs.length < sizeLine):Bh H a (kV k) v (upd H a (.dK (putK kvs k v))):=.inl ⟨kvs,k,e,rfl,hl,rfl⟩
theorem Bh.t {H:Hp} {a b:Addr} {kvs:List (List Key × V)} {k:List Key} {v:V} (e:H a=some (.dT kvs)) (eb:H b=some (.tup (k.map kV))) (hl:kvs.length < sizeLine) :
  Bh H a (.ref b) v (upd H a (.dT (putK kvs k v))):=.inr ⟨kvs,k,b,e,rfl,eb,hl,rfl⟩
section
variable {X:Cx} {pins:List (Addr × Obj)} {σ:St} {H:Hp} {s:Shared} {a:Addr} {y v:V} {u r:Value} {o:Option V} {A:Around} {E:Value->Shared->Prop}
theorem Inv.big (I:Inv X pins σ H s):sysModules < s.heap.objs.size:=by
 have h:mainGlobals < s.heap.objs.size:=(I.mod.glob.keeps I.bk).lt
 exact Nat.lt_trans (by decide) h
theorem JE {Q:Value->Shared->Prop} (hu:A.units + 1 < cLine) (I:Inv X pins σ H s) (g:rN H a y (some v)) (ry:RelV y u) (h:∀ w' s',Inv X pins σ H s'->RelV v w'->Q w' s') :
  wpAny (model X.prog X.w) A (getItem (.ref a) u) Q E s:=by
 rcases g with ⟨kvs,k,e,ey,l⟩ | ⟨kvs,k,b,e,ey,eb,l⟩
 ·subst ey
  obtain ⟨z,hd,vs,rel,dd⟩:=tI I.hok e
  obtain ⟨w',hw,rw'⟩:=oD.some_of (v:=v) (o:=valueAt vs k) (by rw [l];exact rel.val k)
  exact wpAny_getItem_of (t5 ry) dd.mapOf hw (h w' _ (I.tok _) rw')
 ·subst ey
  cases (show u=Value.ref b from ry)
  obtain ⟨z,hd,xs,rel,dd⟩:=sV I.hok e
  obtain ⟨w',hw,rw'⟩:=oD.some_of (v:=v) (o:=(atKey xs k).map (·.2)) (by rw [l];exact rel.val k)
  obtain ⟨p,hp,hp2⟩:=Option.map_eq_some_iff.mp hw
  refine wpAny_getItem_heap (tupleKind_room_in1 hu) (rY I.hok eb) dd hp ?_
  rw [hp2]
  exact h w' _ (I.tok _) rw'
theorem Sj {Q:Value->Shared->Prop} (hu:A.units + 1 < cLine) (I:Inv X pins σ H s) (g:rN H a y o) (ry:RelV y u) (h:∀ s',Inv X pins σ H s'->Q (.bool o.isSome) s') :
  wpAny (model X.prog X.w) A (compareOp .In u (.ref a)) Q E s:=by
 rcases g with ⟨kvs,k,e,ey,l⟩ | ⟨kvs,k,b,e,ey,eb,l⟩
 ·subst ey
  obtain ⟨z,hd,vs,rel,dd⟩:=tI I.hok e
  refine wpAny_in_of (t5 ry) hd dd.mapOf ?_
  rw [<- (rel.val k).isSome_eq,<- l]
  exact h _ (I.tok _)
 ·subst ey
  cases (show u=Value.ref b from ry)
  obtain ⟨z,hd,xs,rel,dd⟩:=sV I.hok e
  refine wpAny_in_heap (tupleKind_room_in1 hu) (rY I.hok eb) hd dd ?_
  have q:=(rel.val k).isSome_eq
  rw [Option.isSome_map] at q
  rw [<- q,<- l]
  exact h _ (I.tok _)
theorem Ou {Q:Value->Shared->Prop} (hu:A.units + 1 < cLine) (I:Inv X pins σ H s) (g:rN H a y o) (ry:RelV y u) (h:∀ s',Inv X pins σ H s'->Q (.bool (!o.isSome)) s') :
  wpAny (model X.prog X.w) A (compareOp .NotIn u (.ref a)) Q E s:=by
 rcases g with ⟨kvs,k,e,ey,l⟩ | ⟨kvs,k,b,e,ey,eb,l⟩
 ·subst ey
  obtain ⟨z,hd,vs,rel,dd⟩:=tI I.hok e
  refine wpAny_notIn_of (t5 ry) hd dd.mapOf ?_
  rw [<- (rel.val k).isSome_eq,<- l]
  exact h _ (I.tok _)
 ·subst ey
  cases (show u=Value.ref b from ry)
  obtain ⟨z,hd,xs,rel,dd⟩:=sV I.hok e
  refine wpAny_notIn_heap (tupleKind_room_in1 hu) (rY I.hok eb) hd dd ?_
  have q:=(rel.val k).isSome_eq
  rw [Option.isSome_map] at q
  rw [<- q,<- l]
  exact h _ (I.tok _)
theorem ET {h':Heap} {t':Nat} {ob:HO} (I:Inv X pins σ H s) (mu:HM (H a)) (hs:Heap.SameBut a s.heap h') (he:∃ q,h'.get? a=some q) (new:dO X.prog X.w (upd H a ob) h' a ob) :
  Inv X pins σ (upd H a ob) { s with heap:=h',toks:=t' } :=
 I.write (x:=a) (e:=a) mu (.inl rfl) (fun b q hb z=>(hs.2 b hb).trans z) he new
theorem Rg {P:Program} {w:World} {H':Hp} {h':Heap} {kvs:List (Key × V)} {vs:List (Key × Value)} (z:kvs.length<=sizeLine) (hd:(a == sysModules)=false) (rel:KV kvs vs) (dd:h'.DictOf (cV P w) a vs) :
  dO P w H' h' a (.dK kvs):=⟨z,hd,vs,rel,dd⟩
theorem Jn {H':Hp} {Q:Unit->Shared->Prop} (hu:A.units + 1 < cLine) (I:Inv X pins σ H s) (g:Bh H a y v H') (ry:RelV y u) (rv:RelV v r) (h:∀ s',Inv X pins σ H' s'->Q () s') :
  wpAny (model X.prog X.w) A (setItem (.ref a) u r) Q E s:=by
 rcases g with ⟨kvs,k,e,ey,l,eH⟩ | ⟨kvs,k,b,e,ey,eb,l,eH⟩
 ·subst ey eH
  obtain ⟨z,hd,vs,rel,dd⟩:=Rw I.hok e
  have hz:vs.length<=sizeLine:=by rw [<- rel.length];exact z
  have hl:(putK kvs k v).length<=sizeLine:=by have:=rO kvs k v;omega
  refine wpAny_setItem_pairs (hsz:=hz) (t5 ry) dd fun h' dd' hs=>h _ ?_
  have he:∃ q,h'.get? a=some q:=let ⟨q,_,_,hq,_⟩:=dd';⟨q,hq⟩
  exact ET I (by rw [e];exact True.intro) hs he (Rg hl hd (rel.put k rv) dd')
 ·subst ey eH
  cases (show u=Value.ref b from ry)
  obtain ⟨z,hd,xs,rel,dd⟩:=Rz I.hok e
  have hz:xs.length<=sizeLine:=by rw [<- Paired.length rel];exact z
  have hl:(putK kvs k v).length<=sizeLine:=by have:=rO kvs k v;omega
  refine wpAny_setItem_heap (hsz:=hz) (tupleKind_room_in1 hu) (rY I.hok eb) dd fun h' dd' hs=>h _ ?_
  obtain ⟨q,es,ep,hq,h2,h3,h4,_,h5⟩:=dd'
  refine ET I (by rw [e];exact True.intro) hs ⟨q,hq⟩ ⟨hl,hd,_,(rel.put k eb rv).keeps fun c ys ec=>?_,q,es,ep,hq,h2,h3,h4,h5⟩
  rw [bI (Rp ec e (fun z=>nomatch z))]
  exact ec
end
section
variable {X:Cx} {pins:List (Addr × Obj)} {σ:St} {H:Hp} {s:Shared} {a:Addr} {kvs:List (Key × V)} {k:Key} {u:Value} {A:Around} {E:Value->Shared->Prop}
end
noncomputable def LO (i:Expr):Prop:=∀ ov iv,subscripted i false ov iv=operate [ov,iv] (getItem ov iv)
theorem MQ {prog:Program} {w:World} {A:Around} {E:Value->Shared->Prop} {s:Shared} {env:Env} {value slice:Expr} {pos:Pos} {T id:String} {Q:Value->Shared->Prop}
  (hl:typeLookup (.type T) "__getitem__"=pure (some (.builtin id))) (hs:LO slice)
  (h:wpAny (model prog w) A (eval value env) (fun o s₁=>wpAny (model prog w) A (eval slice env) (fun i s₂=>s₂.TypeIs o T/\wpAny (model prog w) A (getItem o i) Q E s₂) E s₁) E s) :
  wpAny (model prog w) A (eval (.Subscript value slice pos) env) Q E s:=by
 refine Subscript_ (wpAny_mono h (fun o s₁ h₁=>wpAny_mono h₁ (fun i s₂ h₂=>?_) fun _ _ x=>x) fun _ _ x=>x)
 obtain ⟨hT,h₂⟩:=h₂
 unfold subscriptTail
 refine wpAny_bind ?_
 rw [getitemInPython_of_ne hT.not_modules]
 refine wpAny_bind (wpAny_specialOf hT hl ?_)
 have fin:wpAny (model prog w) A (subscripted slice false o i) (fun r s₃=>wpAny (model prog w) A (letTemporaryGo value o r >>= fun _=>pure r) Q E s₃) E s₂:=by
  rw [hs o i]
  exact wpAny_operating (wpAny_mono h₂ (fun r s₃ h₃=>wpAny_bind (wpAny_letTemporaryGo (wpAny_pure h₃))) fun _ _ x=>x)
 first
  | exact wpAny_pure (wpAny_bind fin)
  | exact wpAny_bind (wpAny_pure (wpAny_bind fin))
  | exact wpAny_bind fin
theorem Ej {X:Cx} {pins:List (Addr × Obj)} {σ:St} {H:Hp} {s:Shared} {a:Addr} {y:V} {o:Option V} (I:Inv X pins σ H s) (g:rN H a y o):s.TypeIs (.ref a) "dict":=by
 rcases g with ⟨kvs,k,e,_,_⟩ | ⟨kvs,k,b,e,_,_,_⟩
 ·obtain ⟨_,_,vs,_,dd⟩:=tI I.hok e
  exact dd.typeIs
 ·obtain ⟨_,_,xs,_,dd⟩:=sV I.hok e
  exact dd.typeIs
noncomputable def RC (td ty:TE):TE:=fun σ H Q=>td σ H fun x H1=>ty σ H1 fun y H2=>∃ a v,x=.ref a/\rN H2 a y (some v)/\Q v H2
noncomputable def Ry (td ty tv:TE):TS:=fun D σ H=>tv σ H fun v H1=>td σ H1 fun x H2=>ty σ H2 fun y H3=>∃ a H4,x=.ref a/\Bh H3 a y v H4/\D.nx σ H4
section
variable {X:Cx} {o i e value:Expr} {pos pos' tpos:Pos} {td ty tv:TE}
theorem OG (hu:X.A.units + 1 < cLine) (ho:PE X o td) (hi:PE X i ty) (hs:LO i):PE X (.Subscript o i pos) (RC td ty):=by
 intro pins s σ H Q I h
 refine MQ PySem.F.slot_dict_getitem.lookup hs (bF (ho pins s σ H _ I h) fun u s1 ⟨x,H1,I1,rx,q1⟩=>bF (hi pins s1 σ H1 _ I1 q1) fun iv s2 ⟨y,H2,I2,ry,a,v,ex,g,q2⟩=>?_)
 subst ex
 obtain rfl:u=Value.ref a:=rx
 exact ⟨Ej I2 g,JE hu I2 g ry fun w' s3 I3 rw'=>⟨v,H2,I3,rw',q2⟩⟩
theorem NT (hu:X.A.units + 1 < cLine) (ho:PE X o td) (hi:PE X i ty) (hv:PE X value tv) (hs:swapsWith value (some (.Subscript o i pos')) pos.line X.env=pure false) :
  PS X (.Assign [.Subscript o i pos'] value pos) (Ry td ty tv):=by
 intro pins s σ H D I h
 refine wpAny_Assign_Subscript (bF (hv pins s σ H _ I h) fun r s1 ⟨v,H1,I1,rv,q1⟩=>bF (ho pins s1 σ H1 _ I1 q1) fun u s2 ⟨x,H2,I2,rx,q2⟩=>bF (hi pins s2 σ H2 _ I2 q2) fun iv s3 ⟨y,H3,I3,ry,a,H4,ex,g,q3⟩=>?_) hs
 subst ex
 obtain rfl:u=Value.ref a:=rx
 exact Jn hu I3 g ry rv fun s4 I4=>⟨σ,H4,I4,q3⟩
end
theorem JU {P:Program} {w:World} {H:Hp} (h:Heap) (hb:sysModules < h.objs.size):dO P w H (h.push { cls:=.type "dict",data:=.dict #[] }) h.objs.size (.dK []) :=
 ⟨Nat.zero_le _,beq_eq_false_iff_ne.mpr (Ne.symm (Nat.ne_of_lt hb)),[],.nil,Heap.DictOf.new h⟩
theorem KW {P:Program} {w:World} {H:Hp} (h:Heap) (hb:sysModules < h.objs.size):dO P w H (h.push { cls:=.type "dict",data:=.dict #[] }) h.objs.size (.dT []) :=
 ⟨Nat.zero_le _,beq_eq_false_iff_ne.mpr (Ne.symm (Nat.ne_of_lt hb)),[],.nil,_,#[],0,Heap.get?_push_size _ rfl,⟨rfl,rfl,rfl⟩,rfl,rfl,List.nodup_nil⟩
noncomputable def HS:TE:=fun _ H Q=>∀ p,H p=none->Q (.ref p) (upd H p (.dK []))
noncomputable def HJ:TE:=fun _ H Q=>∀ p,H p=none->Q (.ref p) (upd H p (.dT []))
section
variable {X:Cx} {pos:Pos}
theorem Kk:PE X (.Dict [] [] pos) HS:=fun pins s σ H Q I h =>
 wpAny_Dict_empty ⟨.ref s.heap.objs.size,_,I.laid (a:=s.heap.objs.size) (o:=.dK []) (t':=s.toks) (fun _ _ q=>Heap.get?_push_of_some _ q) (Nat.le_refl _) (JU s.heap I.big),rfl,h _ (I.hok.fresh (Nat.le_refl _))⟩
theorem LP:PE X (.Dict [] [] pos) HJ:=fun pins s σ H Q I h =>
 wpAny_Dict_empty ⟨.ref s.heap.objs.size,_,I.laid (a:=s.heap.objs.size) (o:=.dT []) (t':=s.toks) (fun _ _ q=>Heap.get?_push_of_some _ q) (Nat.le_refl _) (KW s.heap I.big),rfl,h _ (I.hok.fresh (Nat.le_refl _))⟩
end
abbrev VV:List (V × V)->List (Value × Value)->Prop:=Paired fun p q=>RelV p.1 q.1/\RelV p.2 q.2
def n4 (kvs more:List (Key × V)):List (Key × V):=more.foldl (fun acc kv=>putK acc kv.1 kv.2) kvs
theorem KV.merge:∀ {more:List (Key × V)} {rs:List (Key × Value)} {kvs:List (Key × V)} {vs:List (Key × Value)},KV more rs->KV kvs vs->KV (n4 kvs more) (merged vs rs):=by
 intro more rs kvs vs r
 unfold KV at r
 induction r generalizing kvs vs with
 | nil=>intro q;exact q
 | @cons p q ps qs h t ih =>
  intro r0
  have e:KV (putK kvs p.1 p.2) (stored vs q.1 q.2):=by
   have:=r0.put p.1 h.2
   rw [<- h.1];exact this
  exact ih e
theorem uS:∀ (more kvs:List (Key × V)),(n4 kvs more).length<=kvs.length + more.length
 | [],kvs=>by show kvs.length<=kvs.length + 0;omega
 | p :: r,kvs=>by
  have h1:=uS r (putK kvs p.1 p.2)
  have h2:=rO kvs p.1 p.2
  show (n4 (putK kvs p.1 p.2) r).length<=_
  rw [List.length_cons];omega
structure M1 (X:Cx) (o:Expr) (m:Str) (apos:Pos) (e:Expr) (cpos:Pos):Prop where
 base:attributeBase o m X.env (eval o X.env)=eval o X.env
 few:((backTo cpos (starEach [e] X.env)).all (fun x=>!x.1) && (backToKw cpos (keywordEach [] X.env)).all (fun x=>x.1.isSome)
  && decide (([e]:List Expr).length + ([]:List Keyword).length + (if ([]:List Keyword).isEmpty then 0 else 1) < 30))=true
 line:(apos.endLine == cpos.line)=true
 trees:backTo cpos (starEach [e] X.env)=[(false,eval e X.env)]
noncomputable def QA (H:Hp) (a:Addr):Prop:=(∃ kvs,Rd H a (.dK kvs))\/∃ kvs,Rd H a (.dT kvs)
theorem P9 {X:Cx} {pins:List (Addr × Obj)} {σ:St} {H:Hp} {s:Shared} {a:Addr} (I:Inv X pins σ H s) (d:QA H a) :
  s.TypeIs (.ref a) "dict"/\(∀ b,Value.ref a=.ref b->∃ ob,s.heap.get? b=some ob/\ob.dict=none)/\(a == sysModules)=false:=by
 rcases d with ⟨kvs,e⟩ | ⟨kvs,e⟩
 ·obtain ⟨_,hd,vs,_,dd⟩:=tI I.hok e
  refine ⟨dd.typeIs,fun b q=>?_,hd⟩
  cases q
  obtain ⟨ob,_,_,h1,h2,_⟩:=dd
  exact ⟨ob,h1,h2.2.1⟩
 ·obtain ⟨_,hd,xs,_,dd⟩:=sV I.hok e
  refine ⟨dd.typeIs,fun b q=>?_,hd⟩
  cases q
  obtain ⟨ob,_,_,h1,h2,_⟩:=dd
  exact ⟨ob,h1,h2.2.1⟩
section
variable {X:Cx} {pins:List (Addr × Obj)} {σ:St} {H:Hp} {s:Shared} {a:Addr} {y d:V} {u r:Value} {o:Option V} {A:Around} {E:Value->Shared->Prop}
theorem QN {Q:Value->Shared->Prop} (hu:A.units + 1 < cLine) (I:Inv X pins σ H s) (g:rN H a y o) (ry:RelV y u) (h:∀ w' s',Inv X pins σ H s'->RelV (o.getD .non) w'->Q w' s') :
  wpAny (model X.prog X.w) A (call (.builtin "dict.get") [.ref a,u]) Q E s:=by
 rcases g with ⟨kvs,k,e,ey,l⟩ | ⟨kvs,k,b,e,ey,eb,l⟩
 ·subst ey
  obtain ⟨z,hd,vs,rel,dd⟩:=tI I.hok e
  refine call_meetsIn PySem.F.slot_dict_get dd.typeIs PySem.F.entry_dict_get (PySem.F.args_dict_get_2 _ _) (meets_dict_get (cV X.prog X.w) a (t5 ry) hd) ⟨_,dd.mapOf,h _ _ (I.tok _) ?_⟩
  rw [l]
  exact (rel.val k).getD rfl
 ·subst ey
  cases (show u=Value.ref b from ry)
  obtain ⟨z,hd,xs,rel,dd⟩:=sV I.hok e
  refine call_meetsIn PySem.F.slot_dict_get dd.typeIs PySem.F.entry_dict_get (PySem.F.args_dict_get_2 _ _) (meetsH_dict_get (tupleKind (cV X.prog X.w)) a b hd) ⟨tupleKind_room_in1 hu,k,xs,rY I.hok eb,dd,h _ _ (I.tok _) ?_⟩
  rw [l]
  exact (rel.val k).getD rfl
end
noncomputable def O7 (td ty:TE):TE:=fun σ H Q=>td σ H fun x H1=>∃ a,x=.ref a/\QA H1 a/\ty σ H1 fun y H2=>∃ o,rN H2 a y o/\Q (o.getD .non) H2
section
variable {X:Cx} {o e f:Expr} {apos cpos:Pos} {td ty tx:TE}
theorem Kc (hu:X.A.units + 1 < cLine) (ho:PE X o td) (he:PE X e ty) (m:M1 X o "get" apos e cpos):PE X (.Call (.Attribute o "get" apos) [e] [] cpos) (O7 td ty):=by
 intro pins s σ H Q I h
 refine wpAny_Call_method m.base m.few m.line PySem.F.plainAttrs_dict PySem.F.slot_dict_get PySem.F.type_dict_get (bF (ho pins s σ H _ I h) fun u s1 ⟨x,H1,I1,rx,a,ex,d,q1⟩=>?_)
 subst ex
 obtain rfl:u=Value.ref a:=rx
 obtain ⟨t1,t2,_⟩:=P9 I1 d
 refine ⟨t1,t2,?_⟩
 rw [m.trees]
 refine Calls.callWith_builtin rfl (Calls.evalArgs_plain (Calls.spliced_cons (bF (he pins s1 σ H1 _ I1 q1) fun iv s2 ⟨y,H2,I2,ry,ov,g,q2⟩=>Calls.spliced_nil ?_)))
 exact QN hu I2 g ry fun w' s3 I3 rw'=>⟨_,H2,I3,rw',q2⟩
end
section
variable {X:Cx} {pins:List (Addr × Obj)} {σ:St} {H:Hp} {s:Shared} {a:Addr} {kvs:List (Key × V)} {A:Around} {E:Value->Shared->Prop}
end
section
variable {X:Cx} {pins:List (Addr × Obj)} {σ:St} {H:Hp} {s:Shared} {a:Addr} {y:V} {u:Value} {A:Around} {E:Value->Shared->Prop}
end
section
variable {X:Cx}
end
section
variable {κ:Type} [DecidableEq κ]
theorem Sd {p:κ × V} {r:List (κ × V)} {k:κ} (e:p.1=k):uL (p :: r) k=uL r k:=by
 unfold uL
 rw [List.filter_cons,if_neg (by simp [e])]
theorem Jo {p:κ × V} {r:List (κ × V)} {k:κ} (e:¬ p.1=k):uL (p :: r) k=p :: uL r k:=by
 unfold uL
 rw [List.filter_cons,if_pos (by simp [e])]
theorem LC:∀ {kvs:List (κ × V)} {k:κ},¬ k∈kvs.map (·.1)->uL kvs k=kvs
 | [],_,_=>rfl
 | p :: r,k,h=>by
  have h':¬ k∈r.map (·.1):=fun m=>by
   obtain ⟨q,hq,e⟩:=List.mem_map.mp m
   exact h (List.mem_map.mpr ⟨q,List.mem_cons.mpr (Or.inr hq),e⟩)
  rw [Jo fun e=>h (List.mem_map.mpr ⟨p,List.mem_cons.mpr (Or.inl rfl),e⟩),LC h']
end
end L2
namespace L2
open PySem PySem.Spec PyProof.Rows PySem.F
noncomputable def iO (h:Heap) (d:Addr) (es:Array DictEntry) (ep:Nat):Prop:=∃ o,h.get? d=some o/\o.ExactDict/\o.data=.dict es ep
theorem iO.ty {s:Shared} {d:Addr} {es:Array DictEntry} {ep:Nat} (r:iO s.heap d es ep):s.TypeIs (.ref d) "dict":=let ⟨o,e,c,_⟩:=r;⟨o,e,c.1⟩
theorem iO.at {h h':Heap} {d:Addr} {es:Array DictEntry} {ep:Nat} (r:iO h d es ep) (k:∀ o,h.get? d=some o->h'.get? d=some o):iO h' d es ep:=let ⟨o,e,c⟩:=r;⟨o,k o e,c⟩
theorem iO.lt {h:Heap} {d:Addr} {es:Array DictEntry} {ep:Nat} (r:iO h d es ep):d < h.objs.size:=let ⟨_,e,_⟩:=r;Heap.lt_size e
section
variable {prog:Program} {w:World} {A:Around} {E:Value->Shared->Prop} {s:Shared} {d it vw:Addr} {es:Array DictEntry} {ep i:Nat} {e:DictEntry}
theorem Ku {Q:Value->Shared->Prop} (lo:(d == sysModules)=false) (r:iO s.heap d es ep)
  (q:Q (.ref s.heap.objs.size) { s with heap:=s.heap.push { cls:=.type "dict_keyiterator",data:=.fields #[.ref d,.int 0 0,.int es.size 0,.int ep 0] } }):wpAny (model prog w) A (pyIter (.ref d)) Q E s:=by
 obtain ⟨o,g,c,dd⟩:=id r
 refine wpAny_pyIter_slot r.ty slot_dict_iter (wpAny_call_entry slot_dict_iter r.ty entry_dict_iter ?_ (args_dict_iter_1 _))
 unfold Builtin.«dict.__iter__»;refine wpAny_bind ?_
 unfold Builtin.Dict.dictSlotNone;refine wpAny_bind (wpAny_notOrdered_dict r.ty ?_)
 show wpAny (model prog w) _ (pure (Value.ref d)) _ _ s;refine wpAny_pure ?_
 show wpAny (model prog w) _ (Builtin.Dict.showsAll d >>= _) _ _ s;unfold Builtin.Dict.showsAll
 rw [if_neg (by rw [lo];decide)];refine wpAny_bind (wpAny_pure (wpAny_bind (wpAny_dictEntries g dd (wpAny_bind (wpAny_dictEpoch g dd ?_)))))
 refine wpAny_bind (wpAny_newObj_type (wpAny_pure ⟨_,rfl,"dict_keyiterator",_,⟨_,Heap.get?_push_size _ rfl,rfl⟩,slot_dict_keyiterator_next.lookup,?_⟩))
 simpa [rawInt] using q
theorem LU {Q:Option Value->Shared->Prop} (hit:s.heap.IsKeyIter it d i es.size ep) (r:iO s.heap d es ep) (hx:es[i]?=some e)
  (q:∀ h',h'.IsKeyIter it d (i + 1) es.size ep->Heap.SameBut it s.heap h'->Q (some e.key) { s with heap:=h' }):wpAny (model prog w) A (pyNext (.ref it)) Q E s:=by
 obtain ⟨oi,gi,ci,di⟩:=id hit
 obtain ⟨o,g,c,dd⟩:=id r
 have T:=hit.typeIs
 have lt:i < es.size:=(Array.getElem?_eq_some_iff.mp hx).1
 unfold pyNext
 refine wpAny_bind (wpAny_attempt (wpAny_callSpecial?_slot (name:=Str.ofString "__next__") T slot_dict_keyiterator_next (wpAny_call_entry slot_dict_keyiterator_next T entry_dict_keyiterator_next ?_ (args_dict_keyiterator_next_1 _))))
 refine wpAny_bind (wpAny_pure (wpAny_bind (wpAny_bind ?_)))
 first | refine wpAny_bind (wpAny_typeNameOfWhole_keyiter T (wpAny_pure (wpAny_bind (wpAny_fieldsOf gi di ?_)))) | refine wpAny_bind (wpAny_typeNameOf_keyiter T (wpAny_pure (wpAny_bind (wpAny_fieldsOf gi di ?_))))
 simp only [show Builtin.Dict_items.ownsTuple "dict_keyiterator"=false by decide,Bool.false_eq_true,if_false]
 show wpAny (model prog w) _ (if (Value.ref d == Value.none)=true then _ else _) _ _ s
 rw [if_neg (show ¬ ((Value.ref d == Value.none)=true) from Bool.false_ne_true)];refine wpAny_bind (wpAny_pure (wpAny_bind (wpAny_dictEntries g dd ?_)))
 rw [if_neg (by simp)];refine wpAny_bind (wpAny_pure (wpAny_bind (wpAny_dictEpoch g dd ?_)));rw [if_neg (by simp)];refine wpAny_pure ?_
 simp only [show ¬ ((i:Int) < 0) by omega,if_false,Int.toNat_natCast,hx];refine wpAny_bind ?_
 first | refine wpAny_bind (wpAny_typeNameOfWhole_keyiter T (wpAny_pure (wpAny_bind (wpAny_isOneOf_keyiter T ?_)))) | refine wpAny_bind (wpAny_typeNameOf_keyiter T (wpAny_pure (wpAny_bind (wpAny_isOneOf_keyiter T ?_))))
 show wpAny (model prog w) _ (setField (.ref it) 1 (rawInt ((i:Int) + 1)) >>= _) _ _ s
 refine wpAny_bind (wpAny_setField gi di (by simp) ?_)
 have hit':(s.heap.update it (Obj.mapFields (·.setIfInBounds 1 (rawInt ((i:Int) + 1))))).IsKeyIter it d (i + 1) es.size ep :=
  ⟨_,Heap.get?_update_self _ gi (Obj.isFreed_of_fields (Obj.data_mapFields di _)),(Obj.cls_mapFields ..).trans ci,by rw [Obj.data_mapFields di];simp [rawInt]⟩
 refine wpAny_bind (wpAny_holding (wpAny_bind (wpAny_isOneOf_keyiter (s:={ s with heap:=s.heap.update it (Obj.mapFields (·.setIfInBounds 1 (rawInt ((i:Int) + 1)))) }) hit'.typeIs ?_)))
 show wpAny (model prog w) _ (pure e.key) _ _ _
 exact wpAny_pure (wpAny_pure ⟨_,rfl,wpAny_pure (q _ hit' (Heap.SameBut.update ..))⟩)
theorem Og {Q:Option Value->Shared->Prop} (hh:A.handled=none) (hit:s.heap.IsKeyIter it d i es.size ep) (r:iO s.heap d es ep) (hx:es[i]?=none)
  (q:∀ h',Heap.ExtBut it s.heap h'->Q none { s with heap:=h' }):wpAny (model prog w) A (pyNext (.ref it)) Q E s:=by
 obtain ⟨oi,gi,ci,di⟩:=id hit
 obtain ⟨o,g,c,dd⟩:=id r
 have T:=hit.typeIs
 unfold pyNext
 refine wpAny_bind (wpAny_attempt (wpAny_callSpecial?_slot (name:=Str.ofString "__next__") T slot_dict_keyiterator_next (wpAny_call_entry slot_dict_keyiterator_next T entry_dict_keyiterator_next ?_ (args_dict_keyiterator_next_1 _))))
 refine wpAny_bind (wpAny_pure (wpAny_bind (wpAny_bind ?_)))
 first | refine wpAny_bind (wpAny_typeNameOfWhole_keyiter T (wpAny_pure (wpAny_bind (wpAny_fieldsOf gi di ?_)))) | refine wpAny_bind (wpAny_typeNameOf_keyiter T (wpAny_pure (wpAny_bind (wpAny_fieldsOf gi di ?_))))
 simp only [show Builtin.Dict_items.ownsTuple "dict_keyiterator"=false by decide,Bool.false_eq_true,if_false]
 show wpAny (model prog w) _ (if (Value.ref d == Value.none)=true then _ else _) _ _ s
 rw [if_neg (show ¬ ((Value.ref d == Value.none)=true) from Bool.false_ne_true)];refine wpAny_bind (wpAny_pure (wpAny_bind (wpAny_dictEntries g dd ?_)))
 rw [if_neg (by simp)];refine wpAny_bind (wpAny_pure (wpAny_bind (wpAny_dictEpoch g dd ?_)));rw [if_neg (by simp)];refine wpAny_pure ?_
 simp only [show ¬ ((i:Int) < 0) by omega,if_false,Int.toNat_natCast,hx];refine wpAny_bind ?_
 first | refine wpAny_bind (wpAny_typeNameOfWhole_keyiter T (wpAny_pure ?_)) | refine wpAny_bind (wpAny_typeNameOf_keyiter T (wpAny_pure ?_))
 show wpAny (model prog w) _ (setField (.ref it) 0 .none >>= _) _ _ s
 refine wpAny_bind (wpAny_setField gi di (by simp) ?_)
 show wpAny (model prog w) _ (newExc (.type "StopIteration") [] >>= _) _ _ _
 refine wpAny_bind ?_;simp only [newExc,newTuple];refine wpAny_bind (wpAny_newObj_type ?_ (by size_fits))
 refine wpAny_bind (m:=firstArgMember _ _) (wpAny_of_eq (a:=Value.none) (by first | rfl | (simp only [firstArgMember];rfl)) (wpAny_newObj_type ?_ (by size_fits)))
 simp only [raiseNew];refine wpAny_bind (wpAny_handled ?_);rw [show A.in1.handled=none from hh]
 refine wpAny_bind (wpAny_pure (wpAny_throw ?_));refine wpAny_bind (wpAny_isInstance (T:="StopIteration") (b:=true) ⟨_,Heap.get?_push_size _ rfl,rfl⟩ isSubtype_stop ?_)
 exact wpAny_pure (q _ (((Heap.SameBut.update ..).extBut.push _).push _))
theorem HN (d:Addr) (lo:(d == sysModules)=false):MeetsIn prog w (Builtin.«dict.items» ⟨[.ref d],[]⟩) (fun _ R s=>(∃ es ep,iO s.heap d es ep)/\R (.ok (.ret (.ref s.heap.objs.size))) { s with heap:=s.heap.push { cls:=.type "dict_items",data:=.fields #[.ref d] } }) :=
 .of_wp fun A R s ⟨⟨es,ep,r⟩,h⟩=>by
  unfold Builtin.«dict.items»;refine wpAny_bind ?_
  unfold Builtin.Dict.noArgs;refine wpAny_bind (wpAny_notOrdered_dict r.ty ?_)
  show wpAny (model prog w) _ (pure d) _ _ s;refine wpAny_pure ?_
  show wpAny (model prog w) _ (Builtin.Dict.showsAll d >>= _) _ _ s;unfold Builtin.Dict.showsAll
  rw [if_neg (by rw [lo];decide)];exact wpAny_bind (wpAny_pure (wpAny_bind (wpAny_newObj_type (wpAny_pure ⟨_,rfl,h⟩))))
theorem Ct {Q:Value->Shared->Prop} (hv:s.heap.IsItemsView vw d) (r:iO s.heap d es ep)
  (q:Q (.ref s.heap.objs.size) { s with heap:=s.heap.push { cls:=.type "dict_itemiterator",data:=.fields #[.none,.bool false,.ref d,.int 0 0,.int es.size 0,.int ep 0,.none,.none] } }):wpAny (model prog w) A (pyIter (.ref vw)) Q E s:=by
 obtain ⟨ov,gv,cv,dv⟩:=id hv
 obtain ⟨o,g,c,dd⟩:=id r
 refine wpAny_pyIter_slot hv.typeIs slot_dict_items_iter (wpAny_call_entry slot_dict_items_iter hv.typeIs entry_dict_items_iter ?_ (args_dict_items_iter_1 _))
 unfold Builtin.«dict_items.__iter__»;refine wpAny_bind (wpAny_pure (wpAny_bind ?_))
 unfold Builtin.Dict_items.dictOf;refine wpAny_bind (wpAny_field gv dv (x:=.ref d) rfl (wpAny_pure (wpAny_bind ?_)))
 unfold Builtin.Dict_items.newIterator;refine wpAny_bind (wpAny_dictEntries g dd (wpAny_bind (wpAny_dictEpoch g dd ?_)))
 simp only [show Builtin.Dict_items.ownsTuple "dict_itemiterator"=true by decide,if_true]
 refine wpAny_newObj_type (wpAny_pure ⟨_,rfl,"dict_itemiterator",_,⟨_,Heap.get?_push_size _ rfl,rfl⟩,slot_dict_itemiterator_next.lookup,?_⟩) (by simp only [sizeOk,Builtin.Dict_items.ownedTupleFields,List.size_toArray,List.length_append,List.length_cons,List.length_nil,sizeLine_eq];omega)
 simpa [rawInt,Builtin.Dict_items.ownedTupleFields] using q
theorem Cw {ok ov:Value} {Q:Option Value->Shared->Prop} (hh:A.handled=none) (hit:IsItemIter s.heap it d i es.size ep ok ov) (r:iO s.heap d es ep) (hx:es[i]?=none)
  (q:∀ h',Heap.ExtBut it s.heap h'->Q none { s with heap:=h' }):wpAny (model prog w) A (pyNext (.ref it)) Q E s:=by
 obtain ⟨o,g,c,dd⟩:=id r
 have T:s.TypeIs (.ref it) "dict_itemiterator":=⟨_,hit,rfl⟩
 unfold pyNext
 refine wpAny_bind (wpAny_attempt (wpAny_callSpecial?_slot (name:=Str.ofString "__next__") T slot_dict_itemiterator_next (wpAny_call_entry slot_dict_itemiterator_next T entry_dict_itemiterator_next ?_ (args_dict_itemiterator_next_1 _))))
 refine wpAny_bind (wpAny_pure (wpAny_bind (wpAny_bind ?_)))
 first | refine wpAny_bind (wpAny_typeNameOfWhole_itemiter T (wpAny_pure (wpAny_bind (wpAny_fieldsOf hit rfl ?_)))) | refine wpAny_bind (wpAny_typeNameOf_itemiter T (wpAny_pure (wpAny_bind (wpAny_fieldsOf hit rfl ?_))))
 simp only [show Builtin.Dict_items.ownsTuple "dict_itemiterator"=true by decide,if_true]
 show wpAny (model prog w) _ (if (Value.ref d == Value.none)=true then _ else _) _ _ s
 rw [if_neg (show ¬ ((Value.ref d == Value.none)=true) from Bool.false_ne_true)];refine wpAny_bind (wpAny_pure (wpAny_bind (wpAny_dictEntries g dd ?_)))
 rw [if_neg (by simp)];refine wpAny_bind (wpAny_pure (wpAny_bind (wpAny_dictEpoch g dd ?_)));rw [if_neg (by simp)];refine wpAny_pure ?_
 simp only [show ¬ ((i:Int) < 0) by omega,if_false,Int.toNat_natCast,hx];refine wpAny_bind ?_
 first | refine wpAny_bind (wpAny_typeNameOfWhole_itemiter T (wpAny_pure ?_)) | refine wpAny_bind (wpAny_typeNameOf_itemiter T (wpAny_pure ?_))
 show wpAny (model prog w) _ (setField (.ref it) 2 .none >>= _) _ _ s
 refine wpAny_bind (wpAny_setField hit rfl (by simp) ?_)
 show wpAny (model prog w) _ (newExc (.type "StopIteration") [] >>= _) _ _ _
 refine wpAny_bind ?_;simp only [newExc,newTuple];refine wpAny_bind (wpAny_newObj_type ?_ (by size_fits))
 refine wpAny_bind (m:=firstArgMember _ _) (wpAny_of_eq (a:=Value.none) (by first | rfl | (simp only [firstArgMember];rfl)) (wpAny_newObj_type ?_ (by size_fits)))
 simp only [raiseNew];refine wpAny_bind (wpAny_handled ?_);rw [show A.in1.handled=none from hh]
 refine wpAny_bind (wpAny_pure (wpAny_throw ?_));refine wpAny_bind (wpAny_isInstance (T:="StopIteration") (b:=true) ⟨_,Heap.get?_push_size _ rfl,rfl⟩ isSubtype_stop ?_)
 exact wpAny_pure (q _ (((Heap.SameBut.update ..).extBut.push _).push _))
theorem Ce {ok ov:Value} {Q:Option Value->Shared->Prop} (hit:IsItemIter s.heap it d i es.size ep ok ov) (r:iO s.heap d es ep) (hx:es[i]?=some e)
  (q:∀ h',IsItemIterOut h' it d (i + 1) es.size ep e.key e.val s.heap.objs.size->h'.get? s.heap.objs.size=some { cls:=.type "tuple",data:=.seq #[e.key,e.val] }->h'.objs.size=s.heap.objs.size + 1 ->
   (∀ b o,b≠it->s.heap.get? b=some o->h'.get? b=some o)->Q (some (.ref s.heap.objs.size)) { s with heap:=h' }):wpAny (model prog w) A (pyNext (.ref it)) Q E s:=by
 obtain ⟨hp,gs,dr,tk,os⟩:=s
 obtain ⟨o,g,c,dd⟩:=id r
 have T:Shared.TypeIs ⟨hp,gs,dr,tk,os⟩ (.ref it) "dict_itemiterator":=⟨_,hit,rfl⟩
 unfold pyNext
 refine wpAny_bind (wpAny_attempt (wpAny_callSpecial?_slot (name:=Str.ofString "__next__") T slot_dict_itemiterator_next (wpAny_call_entry slot_dict_itemiterator_next T entry_dict_itemiterator_next ?_ (args_dict_itemiterator_next_1 _))))
 refine wpAny_bind (wpAny_pure (wpAny_bind (wpAny_bind ?_)))
 first | refine wpAny_bind (wpAny_typeNameOfWhole_itemiter T (wpAny_pure (wpAny_bind (wpAny_fieldsOf hit rfl ?_)))) | refine wpAny_bind (wpAny_typeNameOf_itemiter T (wpAny_pure (wpAny_bind (wpAny_fieldsOf hit rfl ?_))))
 simp only [show Builtin.Dict_items.ownsTuple "dict_itemiterator"=true by decide,if_true]
 show wpAny (model prog w) _ (if (Value.ref d == Value.none)=true then _ else _) _ _ _
 rw [if_neg (show ¬ ((Value.ref d == Value.none)=true) from Bool.false_ne_true)];refine wpAny_bind (wpAny_pure (wpAny_bind (wpAny_dictEntries g dd ?_)))
 rw [if_neg (by simp)];refine wpAny_bind (wpAny_pure (wpAny_bind (wpAny_dictEpoch g dd ?_)));rw [if_neg (by simp)];refine wpAny_pure ?_
 simp only [show ¬ ((i:Int) < 0) by omega,if_false,Int.toNat_natCast,hx];refine wpAny_bind ?_
 first | refine wpAny_bind (wpAny_typeNameOfWhole_itemiter T (wpAny_pure (wpAny_bind (wpAny_isOneOf_itemiter T ?_)))) | refine wpAny_bind (wpAny_typeNameOf_itemiter T (wpAny_pure (wpAny_bind (wpAny_isOneOf_itemiter T ?_))))
 show wpAny (model prog w) _ (setField (.ref it) 3 (rawInt ((i:Int) + 1)) >>= _) _ _ ⟨hp,gs,dr,tk,os⟩
 refine wpAny_bind (wpAny_setField_rec hit (by simp) fun h₁ x₁ y₁=>?_)
 replace y₁:Heap.SameBut it hp h₁:=y₁
 replace x₁:IsItemIter h₁ it d (i + 1) es.size ep ok ov:=by
  unfold IsItemIter;rw [show ((i + 1:Nat):Int)=(i:Int) + 1 by omega];simpa [rawInt] using x₁
 have T₁:Shared.TypeIs ⟨h₁,gs,dr,tk,os⟩ (.ref it) "dict_itemiterator":=⟨_,x₁,rfl⟩
 refine wpAny_bind (wpAny_holding (wpAny_bind (wpAny_isOneOf_itemiter T₁ (wpAny_bind (wpAny_isOneOf_itemiter T₁ ?_)))))
 show wpAny (model prog w) _ (Builtin.Dict_items.pairFromOwner (.ref it) 6 e.key e.val) _ _ ⟨h₁,gs,dr,tk,os⟩
 unfold Builtin.Dict_items.pairFromOwner;refine wpAny_bind (wpAny_newTuple ?_)
 have x₂:IsItemIter (h₁.push { cls:=.type "tuple",data:=.seq #[e.key,e.val] }) it d (i + 1) es.size ep ok ov:=Heap.get?_push_of_some _ x₁
 generalize eq₂:h₁.push { cls:=.type "tuple",data:=.seq #[e.key,e.val] }=h₂ at x₂
 have z₁:h₁.objs.size=hp.objs.size:=y₁.1
 have il:it < hp.objs.size:=Heap.lt_size hit
 have t₂:h₂.get? hp.objs.size=some { cls:=.type "tuple",data:=.seq #[e.key,e.val] }:=by rw [<- eq₂,<- z₁];exact Heap.get?_push_size _ rfl
 have z₂:h₂.objs.size=hp.objs.size + 1:=by rw [<- eq₂,Heap.size_push,z₁]
 have k₂:∀ b o,b≠it->hp.get? b=some o->h₂.get? b=some o:=fun b o hb z=>by rw [<- eq₂];exact Heap.get?_push_of_some _ (y₁.extBut b o hb z)
 show wpAny (model prog w) _ (Builtin.Dict_items.ownedTupleIsFree (.ref it) >>= _) _ _ ⟨h₂,gs,dr,tk,os⟩
 rw [z₁];clear eq₂ x₁ y₁ T₁ z₁ h₁;refine wpAny_bind ?_
 unfold Builtin.Dict_items.ownedTupleIsFree;refine wpAny_bind (wpAny_field x₂ rfl (x:=.none) rfl (wpAny_pure ?_));simp only [if_true]
 refine wpAny_bind (wpAny_field x₂ rfl (x:=ok) rfl (wpAny_bind (wpAny_field x₂ rfl (x:=ov) rfl (wpAny_bind (wpAny_setField_rec x₂ (by simp) fun h₃ x₃ y₃=>?_)))))
 replace y₃:Heap.SameBut it h₂ h₃:=y₃
 replace x₃:IsItemIter h₃ it d (i + 1) es.size ep e.key ov:=x₃
 refine wpAny_bind (wpAny_setField_rec x₃ (by simp) fun h₄ x₄ y₄=>?_)
 replace y₄:Heap.SameBut it h₃ h₄:=y₄
 replace x₄:IsItemIter h₄ it d (i + 1) es.size ep e.key e.val:=x₄
 refine wpAny_bind (wpAny_setField_rec x₄ (by simp) fun h₅ x₅ y₅=>?_)
 replace y₅:Heap.SameBut it h₄ h₅:=y₅
 replace x₅:IsItemIterOut h₅ it d (i + 1) es.size ep e.key e.val hp.objs.size:=x₅
 refine wpAny_bind (wpAny_setField_rec x₅ (by simp) fun h₆ x₆ y₆=>?_)
 replace y₆:Heap.SameBut it h₅ h₆:=y₆
 replace x₆:IsItemIterOut h₆ it d (i + 1) es.size ep e.key e.val hp.objs.size:=x₆
 refine wpAny_bind (wpAny_letGo (wpAny_pure (wpAny_pure ⟨_,rfl,wpAny_pure (q h₆ x₆ ?_ ?_ ?_)⟩)))
 ·have n:=Nat.ne_of_gt il
  exact y₆.extBut _ _ n (y₅.extBut _ _ n (y₄.extBut _ _ n (y₃.extBut _ _ n t₂)))
 ·show h₆.objs.size=hp.objs.size + 1;rw [y₆.1,y₅.1,y₄.1,y₃.1,z₂]
 ·exact fun b o hb z=>y₆.extBut b o hb (y₅.extBut b o hb (y₄.extBut b o hb (y₃.extBut b o hb (k₂ b o hb z))))
end
end L2
namespace U2
open PySem L2
inductive U where
 | non | bl (b:Bool) | int (i:Int) | str (x:Str) | tup (us:List U) | lst (us:List U) | ref (a:Addr) | ty (n:String) | dic (ks:List (List Key)) (tk:Bool) (us:List U)
inductive MO where
 | lst (us:List U) | dK (kvs:List (Key × U)) | dT (kvs:List (List Key × U)) | tbl (q:Str)
abbrev aE:=Addr->Option MO
def mup (M:aE) (a:Addr) (o:MO):aE:=fun b=>if b=a then some o else M b
theorem aG {M:aE} {a:Addr} {o:MO}:mup M a o a=some o:=by unfold mup;rw [if_pos rfl]
theorem aM {M:aE} {a b:Addr} {o:MO} (h:b≠a):mup M a o b=M b:=by unfold mup;rw [if_neg h]
theorem bN {M:aE} {a:Addr} {o u:MO}:mup (mup M a o) a u=mup M a u:=by
 funext b;unfold mup;split <;> rfl
noncomputable def KL (K:PySem.W.Frag) (a:Addr) (xs:List V):Prop :=
 ∃ (o:Obj) (its:Array Value) (n:Nat),K.lookup a=some o/\o.cls=.type "list"/\o.dict=none/\o.data=.seq its n/\its.size<=sizeLine/\Vals xs its.toList
noncomputable def Ay (H:Hp) (a:Addr) (ks:List (List Key)) (tk:Bool) (vs:List V):Prop:=match tk with
 | true=>∃ ws,Rd H a (.dT ws)/\ks=ws.map (·.1)/\vs=ws.map (·.2)
 | false=>∃ ws,Rd H a (.dK ws)/\ks=ws.map (fun p=>[p.1])/\vs=ws.map (·.2)
mutual
noncomputable def aK (K:PySem.W.Frag) (H:Hp) (M:aE):U->V->Prop
 | .non,v=>v=.non
 | .bl b,v=>v=.bl b
 | .int i,v=>v=.int i
 | .str x,v=>v=.str x
 | .ty n,v=>v=.ty n
 | .ref a,v=>v=.ref a
 | .tup us,v=>∃ a vs,v=.ref a/\(M a=none/\H a=some (.tup vs))/\aJ K H M us vs
 | .dic ks tk us,v=>∃ a vs,v=.ref a/\M a=none/\Ay H a ks tk vs/\aJ K H M us vs
 | .lst us,v=>∃ a vs,v=.ref a/\((M a=none/\Rd H a (.lst vs))\/KL K a vs)/\aJ K H M us vs
noncomputable def aJ (K:PySem.W.Frag) (H:Hp) (M:aE):List U->List V->Prop
 | [],vs=>vs=[]
 | u :: us,vs=>∃ v vs',vs=v :: vs'/\aK K H M u v/\aJ K H M us vs'
end
def uZ:HO->Bool
 | .dK _=>true
 | .dT _=>true
 | _=>false
noncomputable def aS (H:Hp) (M:aE) (H1:Hp) (M1:aE):Prop:=∀ b o,H b=some o->M b=none->(H1 b=some o\/(uZ o=true/\∃ ob,H1 b=some (.frz ob o)))/\M1 b=none
theorem aS.by' {H H1:Hp} {M M1:aE} (h:∀ b o,H b=some o->M b=none->H1 b=some o/\M1 b=none):aS H M H1 M1:=fun b o e m=>⟨.inl (h b o e m).1,(h b o e m).2⟩
theorem aS.to {H H1:Hp} {M M1:aE} (st:aS H M H1 M1) {b:Addr} {o:HO} (e:H b=some o) (m:M b=none) (n:uZ o=false:=by rfl):H1 b=some o/\M1 b=none:=by
 obtain ⟨h | ⟨h,_⟩,m1⟩:=st b o e m
 ·exact ⟨h,m1⟩
 ·rw [n] at h;cases h
theorem aS.refl (H:Hp) (M:aE):aS H M H M:=.by' fun _ _ h m=>⟨h,m⟩
theorem aS.trans {H H1 H2:Hp} {M M1 M2:aE} (a:aS H M H1 M1) (b:aS H1 M1 H2 M2):aS H M H2 M2:=fun c o h m=>by
 obtain ⟨h1 | ⟨d,ob,h1⟩,m1⟩:=a c o h m
 ·exact b c o h1 m1
 ·obtain ⟨h2,m2⟩:=b.to h1 m1
  exact ⟨.inr ⟨d,ob,h2⟩,m2⟩
theorem Rd.stp {H H1:Hp} {M M1:aE} {a:Addr} {u:HO} (st:aS H M H1 M1) (m:M a=none) (h:Rd H a u):M1 a=none/\Rd H1 a u:=by
 rcases h with h | ⟨o,h⟩
 ·obtain ⟨x | ⟨_,ob,x⟩,y⟩:=st a _ h m
  ·exact ⟨y,.inl x⟩
  ·exact ⟨y,.inr ⟨ob,x⟩⟩
 ·obtain ⟨x,y⟩:=st.to h m;exact ⟨y,.inr ⟨o,x⟩⟩
theorem Ay.stp {H H1:Hp} {M M1:aE} {a:Addr} {ks:List (List Key)} {tk:Bool} {vs:List V} (st:aS H M H1 M1) (m:M a=none) (h:Ay H a ks tk vs):M1 a=none/\Ay H1 a ks tk vs:=by
 cases tk with
 | true=>obtain ⟨ws,e,r⟩:=h;exact ⟨(Rd.stp st m e).1,ws,(Rd.stp st m e).2,r⟩
 | false=>obtain ⟨ws,e,r⟩:=h;exact ⟨(Rd.stp st m e).1,ws,(Rd.stp st m e).2,r⟩
mutual
theorem aK.stp {K:PySem.W.Frag} {H H1:Hp} {M M1:aE} (st:aS H M H1 M1):∀ {u:U} {v:V},aK K H M u v->aK K H1 M1 u v
 | .non,_,h=>by simpa only [aK] using h
 | .bl _,_,h=>by simpa only [aK] using h
 | .int _,_,h=>by simpa only [aK] using h
 | .str _,_,h=>by simpa only [aK] using h
 | .ty _,_,h=>by simpa only [aK] using h
 | .ref _,_,h=>by simpa only [aK] using h
 | .tup us,_,h=>by
  simp only [aK] at h ⊢
  obtain ⟨a,vs,e,h1,h2⟩:=h
  refine ⟨a,vs,e,?_,aJ.stp st h2⟩
  obtain ⟨m,r⟩:=h1
  exact ⟨(st.to r m).2,(st.to r m).1⟩
 | .dic ks tk us,_,h=>by
  simp only [aK] at h ⊢
  obtain ⟨a,vs,e,m,h1,h2⟩:=h
  have q:=Ay.stp st m h1
  exact ⟨a,vs,e,q.1,q.2,aJ.stp st h2⟩
 | .lst us,_,h=>by
  simp only [aK] at h ⊢
  obtain ⟨a,vs,e,h1,h2⟩:=h
  refine ⟨a,vs,e,?_,aJ.stp st h2⟩
  rcases h1 with ⟨m,r⟩ | k
  ·exact .inl (Rd.stp st m r)
  ·exact .inr k
theorem aJ.stp {K:PySem.W.Frag} {H H1:Hp} {M M1:aE} (st:aS H M H1 M1):∀ {us:List U} {vs:List V},aJ K H M us vs->aJ K H1 M1 us vs
 | [],_,h=>by simpa only [aJ] using h
 | u :: us,_,h=>by
  simp only [aJ] at h ⊢
  obtain ⟨v,vs',e,h1,h2⟩:=h
  exact ⟨v,vs',e,aK.stp st h1,aJ.stp st h2⟩
end
theorem aS.less {H:Hp} {M M1:aE} (h:∀ b,M b=none->M1 b=none):aS H M H M1:=.by' fun b o e m=>⟨e,h b m⟩
noncomputable def bX {κ:Type} (K:PySem.W.Frag) (H:Hp) (M:aE):List (κ × U)->List (κ × V)->Prop:=Paired fun p q=>p.1=q.1/\aK K H M p.2 q.2
theorem bX.stp {κ:Type} {K:PySem.W.Frag} {H H1:Hp} {M M1:aE} (st:aS H M H1 M1):∀ {us:List (κ × U)} {vs:List (κ × V)},bX K H M us vs->bX K H1 M1 us vs
 | _,_,.nil=>.nil
 | _,_,.cons h t=>.cons ⟨h.1,h.2.stp st⟩ (bX.stp st t)
def zD (K:PySem.W.Frag) (H:Hp) (M:aE) (a:Addr):MO->Prop
 | .lst us=>∃ vs,H a=some (.lst vs)/\aJ K H M us vs
 | .dK kvs=>∃ ws,H a=some (.dK ws)/\bX K H M kvs ws
 | .dT kvs=>∃ ws,H a=some (.dT ws)/\bX K H M kvs ws
 | .tbl q=>(∀ b,M b=some (.tbl q)->b=a)/\∃ ps,H a=some (.tbl ps)/\TriplesOk ps.toList/\∀ pos c,codeAmong pos ps.toList=some c->∃ c' oc vs t,c=.ref c'/\H c'=some (.frz oc (.own 0))/\M c'=none/\oc.data=.fields vs/\vs[1]?=some (.str q t)
noncomputable def RelM (K:PySem.W.Frag) (H:Hp) (M:aE):Prop:=∀ a mo,M a=some mo->zD K H M a mo
theorem zD.stp {K:PySem.W.Frag} {H H1:Hp} {M M1:aE} {a:Addr} {mo:MO} (hu:∀ b q,M1 b=some (.tbl q)->M b=some (.tbl q)) (st:aS H M H1 M1) (e:H1 a=H a) (h:zD K H M a mo):zD K H1 M1 a mo:=by
 cases mo with
 | lst us=>obtain ⟨vs,x,y⟩:=h;exact ⟨vs,e.trans x,y.stp st⟩
 | dK us=>obtain ⟨vs,x,y⟩:=h;exact ⟨vs,e.trans x,y.stp st⟩
 | dT us=>obtain ⟨vs,x,y⟩:=h;exact ⟨vs,e.trans x,y.stp st⟩
 | tbl q =>
  obtain ⟨un,ps,x,y,z⟩:=h
  refine ⟨fun b hb=>un b (hu b q hb),ps,e.trans x,y,fun pos c hc=>?_⟩
  obtain ⟨c',oc,vs,t,h1,h2,h3,h4⟩:=z pos c hc
  exact ⟨c',oc,vs,t,h1,(st.to h2 h3).1,(st.to h2 h3).2,h4⟩
theorem RelM.ex {K:PySem.W.Frag} {H:Hp} {M:aE} (r:RelM K H M) {a:Addr} {mo:MO} (h:M a=some mo):∃ o,H a=some o:=by
 have:=r a mo h
 cases mo with
 | lst us=>obtain ⟨vs,x,y⟩:=this;exact ⟨_,x⟩
 | dK us=>obtain ⟨vs,x,y⟩:=this;exact ⟨_,x⟩
 | dT us=>obtain ⟨vs,x,y⟩:=this;exact ⟨_,x⟩
 | tbl q=>obtain ⟨_,ps,x,_⟩:=this;exact ⟨_,x⟩
theorem RelM.no {K:PySem.W.Frag} {H:Hp} {M:aE} (r:RelM K H M) {a:Addr} (h:H a=none):M a=none:=by
 cases e:M a with
 | none=>rfl
 | some mo=>obtain ⟨o,q⟩:=r.ex e;rw [h] at q;cases q
theorem aS.laid {K:PySem.W.Frag} {H:Hp} {M:aE} {p:Addr} {o:HO} (r:RelM K H M) (h:H p=none):aS H M (upd H p o) M:=.by' fun b u e m=>⟨by rw [bI (cJ e h)];exact e,m⟩
theorem RelM.laid {K:PySem.W.Frag} {H:Hp} {M:aE} {p:Addr} {o:HO} (r:RelM K H M) (h:H p=none):RelM K (upd H p o) M:=fun a mo e=>by
 obtain ⟨u,q⟩:=r.ex e
 exact (r a mo e).stp (fun _ _ z=>z) (aS.laid r h) (bI (cJ q h))
theorem aS.own {K:PySem.W.Frag} {H:Hp} {M:aE} {p:Addr} {o:HO} {mo:MO} (r:RelM K H M) (h:H p=none):aS H M (upd H p o) (mup M p mo):=.by' fun b u e m=>by
 have n:=cJ e h
 exact ⟨by rw [bI n];exact e,by rw [aM n];exact m⟩
theorem RelM.put {K:PySem.W.Frag} {H:Hp} {M:aE} {p:Addr} {o:HO} {mo:MO} (r:RelM K H M) (st:aS H M (upd H p o) (mup M p mo)) (new:zD K (upd H p o) (mup M p mo) p mo) (hm:∀ q,mo≠.tbl q:=by intro q z;cases z):RelM K (upd H p o) (mup M p mo):=fun a m e=>by
 by_cases ha:a=p
 ·subst ha;rw [aG] at e;cases e;exact new
 ·rw [aM ha] at e
  refine (r a m e).stp (fun b q z=>?_) st (bI ha)
  by_cases hb:b=p
  ·subst hb;rw [aG] at z;exact absurd (Option.some.inj z) (hm q)
  ·rw [aM hb] at z;exact z
theorem aS.write {H:Hp} {M:aE} {p:Addr} {o:HO} {mo m0:MO} (h:M p=some m0):aS H M (upd H p o) (mup M p mo):=.by' fun b u e m=>by
 have n:b≠p:=fun z=>by subst z;rw [h] at m;cases m
 exact ⟨by rw [bI n];exact e,by rw [aM n];exact m⟩
section
variable {K:PySem.W.Frag} {H:Hp} {M:aE}
theorem aJ.nil:aJ K H M [] []:=by simp only [aJ]
theorem aJ.cons {u:U} {v:V} {us:List U} {vs:List V} (h:aK K H M u v) (t:aJ K H M us vs):aJ K H M (u :: us) (v :: vs):=by simp only [aJ];exact ⟨v,vs,rfl,h,t⟩
theorem aJ.length:∀ {us:List U} {vs:List V},aJ K H M us vs->us.length=vs.length
 | [],_,h=>by simp only [aJ] at h;subst h;rfl
 | u :: us,_,h=>by
  simp only [aJ] at h
  obtain ⟨v,vs',rfl,_,t⟩:=h
  simp [aJ.length t]
theorem aJ.inv_cons {u:U} {us:List U} {vs:List V} (h:aJ K H M (u :: us) vs):∃ v vs',vs=v :: vs'/\aK K H M u v/\aJ K H M us vs':=by simpa only [aJ] using h
theorem aJ.inv_nil {vs:List V} (h:aJ K H M [] vs):vs=[]:=by simpa only [aJ] using h
theorem aJ.append:∀ {us ws:List U} {vs zs:List V},aJ K H M us vs->aJ K H M ws zs->aJ K H M (us++ws) (vs++zs)
 | [],_,_,_,h,t=>by cases h.inv_nil;exact t
 | u :: us,_,_,_,h,t=>by
  obtain ⟨v,vs',rfl,a,b⟩:=h.inv_cons
  exact .cons a (aJ.append b t)
theorem aJ.get:∀ {us:List U} {vs:List V} {i:Nat} {u:U},aJ K H M us vs->us[i]?=some u->∃ v,vs[i]?=some v/\aK K H M u v
 | [],_,_,_,_,e=>by simp at e
 | u :: us,_,0,_,h,e=>by
  obtain ⟨v,vs',rfl,a,b⟩:=h.inv_cons
  simp at e;subst e;exact ⟨v,rfl,a⟩
 | u :: us,_,i + 1,_,h,e=>by
  obtain ⟨v,vs',rfl,a,b⟩:=h.inv_cons
  simp at e
  obtain ⟨w,x,y⟩:=aJ.get b e
  exact ⟨w,by simpa using x,y⟩
theorem aJ.drop:∀ {us:List U} {vs:List V} (n:Nat),aJ K H M us vs->aJ K H M (us.drop n) (vs.drop n)
 | _,_,0,h=>h
 | [],_,_ + 1,h=>by cases h.inv_nil;exact .nil
 | u :: us,_,n + 1,h=>by
  obtain ⟨v,vs',rfl,a,b⟩:=h.inv_cons
  exact aJ.drop n b
theorem aJ.take:∀ {us:List U} {vs:List V} (n:Nat),aJ K H M us vs->aJ K H M (us.take n) (vs.take n)
 | _,_,0,_=>by simp only [List.take_zero];exact .nil
 | [],_,_ + 1,h=>by cases h.inv_nil;exact .nil
 | u :: us,_,n + 1,h=>by
  obtain ⟨v,vs',rfl,a,b⟩:=h.inv_cons
  exact .cons a (aJ.take n b)
theorem aJ.set {u:U} {v:V} (r:aK K H M u v):∀ {us:List U} {vs:List V} (i:Nat),aJ K H M us vs->aJ K H M (us.set i u) (vs.set i v)
 | [],_,_,h=>by cases h.inv_nil;exact .nil
 | w :: us,_,0,h=>by
  obtain ⟨z,vs',rfl,a,b⟩:=h.inv_cons
  exact .cons r b
 | w :: us,_,i + 1,h=>by
  obtain ⟨z,vs',rfl,a,b⟩:=h.inv_cons
  exact .cons a (aJ.set r i b)
theorem aJ.reverse:∀ {us:List U} {vs:List V},aJ K H M us vs->aJ K H M us.reverse vs.reverse
 | [],_,h=>by cases h.inv_nil;exact .nil
 | u :: us,_,h=>by
  obtain ⟨v,vs',rfl,a,b⟩:=h.inv_cons
  rw [List.reverse_cons,List.reverse_cons]
  exact (aJ.reverse b).append (.cons a .nil)
theorem aJ.dropLast {us:List U} {vs:List V} (h:aJ K H M us vs):aJ K H M us.dropLast vs.dropLast:=by
 rw [List.dropLast_eq_take,List.dropLast_eq_take,h.length];exact h.take _
end
abbrev SU:=List (Option U)
abbrev UK:=U->aE->Prop
abbrev UE:=SU->aE->UK->Prop
abbrev UT:=SU->aE->(Bool->aE->Prop)->Prop
abbrev UA:=SU->aE->(List U->aE->Prop)->Prop
structure q8 where
 nx:SU->aE->Prop
 rt:UK
 bk:SU->aE->Prop:=fun _ _=>False
 ct:SU->aE->Prop:=fun _ _=>False
abbrev US:=q8->SU->aE->Prop
noncomputable def eK (K:PySem.W.Frag) (H:Hp) (M:aE) (σ:St) (τ:SU):Prop:=τ.length=σ.length/\∀ (i:Nat) u,τ[i]?=some (some u)->∃ v,σ[i]?=some (some v)/\aK K H M u v
theorem eK.stp {K:PySem.W.Frag} {H H1:Hp} {M M1:aE} {σ:St} {τ:SU} (st:aS H M H1 M1) (r:eK K H M σ τ):eK K H1 M1 σ τ:=⟨r.1,fun i u e=>let ⟨v,a,b⟩:=r.2 i u e;⟨v,a,b.stp st⟩⟩
theorem eK.set {K:PySem.W.Frag} {H:Hp} {M:aE} {σ:St} {τ:SU} {i:Nat} {u:U} {v:V} (r:eK K H M σ τ) (h:aK K H M u v):eK K H M (σ.set i (some v)) (τ.set i (some u)):=by
 refine ⟨by simp [r.1],fun j w e=>?_⟩
 rw [List.getElem?_set] at e ⊢
 split at e
 ·rename_i hij
  subst hij
  split at e
  ·rename_i hl
   cases e
   rw [if_pos rfl,if_pos (by rw [<- r.1];exact hl)]
   exact ⟨v,rfl,h⟩
  ·cases e
 ·rename_i hij
  rw [if_neg hij]
  exact r.2 j w e
noncomputable def cF (K:PySem.W.Frag) (t:TE) (t':UE):Prop:=∀ (σ:St) (τ:SU) (H:Hp) (M:aE) (Q':UK),eK K H M σ τ->RelM K H M->t' τ M Q' ->
 ∀ Q:VK,(∀ u v M1 H1,aS H M H1 M1->RelM K H1 M1->aK K H1 M1 u v->Q' u M1->Q v H1)->t σ H Q
noncomputable def kI (K:PySem.W.Frag) (t:TT) (t':UT):Prop:=∀ (σ:St) (τ:SU) (H:Hp) (M:aE) (Q':Bool->aE->Prop),eK K H M σ τ->RelM K H M->t' τ M Q' ->
 ∀ Q:Bool->Hp->Prop,(∀ b M1 H1,aS H M H1 M1->RelM K H1 M1->Q' b M1->Q b H1)->t σ H Q
noncomputable def lH (K:PySem.W.Frag) (t:TA) (t':UA):Prop:=∀ (σ:St) (τ:SU) (H:Hp) (M:aE) (Q':List U->aE->Prop),eK K H M σ τ->RelM K H M->t' τ M Q' ->
 ∀ Q:List V->Hp->Prop,(∀ us vs M1 H1,aS H M H1 M1->RelM K H1 M1->aJ K H1 M1 us vs->Q' us M1->Q vs H1)->t σ H Q
structure G2 (K:PySem.W.Frag) (H:Hp) (M:aE) (D:Ends) (D':q8):Prop where
 nx:∀ σ τ H1 M1,aS H M H1 M1->RelM K H1 M1->eK K H1 M1 σ τ->D'.nx τ M1->D.nx σ H1
 rt:∀ u v H1 M1,aS H M H1 M1->RelM K H1 M1->aK K H1 M1 u v->D'.rt u M1->D.rt v H1
 bk:∀ σ τ H1 M1,aS H M H1 M1->RelM K H1 M1->eK K H1 M1 σ τ->D'.bk τ M1->D.bk σ H1
 ct:∀ σ τ H1 M1,aS H M H1 M1->RelM K H1 M1->eK K H1 M1 σ τ->D'.ct τ M1->D.ct σ H1
theorem G2.stp {K:PySem.W.Frag} {H H1:Hp} {M M1:aE} {D:Ends} {D':q8} (d:G2 K H M D D') (st:aS H M H1 M1):G2 K H1 M1 D D' :=
 ⟨fun σ τ H2 M2 s=>d.nx σ τ H2 M2 (st.trans s),fun u v H2 M2 s=>d.rt u v H2 M2 (st.trans s),fun σ τ H2 M2 s=>d.bk σ τ H2 M2 (st.trans s),fun σ τ H2 M2 s=>d.ct σ τ H2 M2 (st.trans s)⟩
noncomputable def kS (K:PySem.W.Frag) (t:TS) (t':US):Prop:=∀ (σ:St) (τ:SU) (H:Hp) (M:aE) (D':q8),eK K H M σ τ->RelM K H M->t' D' τ M->∀ D:Ends,G2 K H M D D'->t D σ H
end U2
namespace U2
open PySem L2
abbrev eB:=U->U->aE->UK->Prop
noncomputable def d7 (K:PySem.W.Frag) (H:Hp) (M:aE) (Q':UK) (Q:VK):Prop:=∀ u v M1 H1,aS H M H1 M1->RelM K H1 M1->aK K H1 M1 u v->Q' u M1->Q v H1
theorem d7.stp {K:PySem.W.Frag} {H H1:Hp} {M M1:aE} {Q':UK} {Q:VK} (c:d7 K H M Q' Q) (st:aS H M H1 M1):d7 K H1 M1 Q' Q:=fun u v M2 H2 s=>c u v M2 H2 (st.trans s)
theorem d7.here {K:PySem.W.Frag} {H:Hp} {M:aE} {Q':UK} {Q:VK} {u:U} {v:V} (c:d7 K H M Q' Q) (rm:RelM K H M) (r:aK K H M u v) (q:Q' u M):Q v H:=c u v M H (aS.refl H M) rm r q
noncomputable def eA (K:PySem.W.Frag) (r:R2) (r':eB):Prop:=∀ (x y:V) (u w:U) (H:Hp) (M:aE) (Q':UK),RelM K H M->aK K H M u x->aK K H M w y->r' u w M Q'->∀ Q:VK,d7 K H M Q' Q->r x y H Q
noncomputable def Rk (K:PySem.W.Frag) (r:V->Hp->VK->Prop) (r':U->aE->UK->Prop):Prop:=∀ (x:V) (u:U) (H:Hp) (M:aE) (Q':UK),RelM K H M->aK K H M u x->r' u M Q'->∀ Q:VK,d7 K H M Q' Q->r x H Q
def zW (K:PySem.W.Frag) (r:List V->Hp->VK->Prop) (r':List U->aE->UK->Prop):Prop:=∀ (xs:List V) (us:List U) (H:Hp) (M:aE) (Q':UK),RelM K H M->aJ K H M us xs->r' us M Q'->∀ Q:VK,d7 K H M Q' Q->r xs H Q
def zI (K:PySem.W.Frag) (r:V->List V->Hp->VK->Prop) (r':U->List U->aE->UK->Prop):Prop:=∀ (x:V) (xs:List V) (u:U) (us:List U) (H:Hp) (M:aE) (Q':UK),RelM K H M->aK K H M u x->aJ K H M us xs->r' u us M Q'->∀ Q:VK,d7 K H M Q' Q->r x xs H Q
section
variable {K:PySem.W.Frag} {H:Hp} {M:aE} {v:V}
theorem aK.non (h:aK K H M .non v):v=.non:=by simpa only [aK] using h
theorem aK.bl {b:Bool} (h:aK K H M (.bl b) v):v=.bl b:=by simpa only [aK] using h
theorem aK.int {i:Int} (h:aK K H M (.int i) v):v=.int i:=by simpa only [aK] using h
theorem aK.str {x:Str} (h:aK K H M (.str x) v):v=.str x:=by simpa only [aK] using h
theorem aK.ty {n:String} (h:aK K H M (.ty n) v):v=.ty n:=by simpa only [aK] using h
theorem aK.ref {a:Addr} (h:aK K H M (.ref a) v):v=.ref a:=by simpa only [aK] using h
theorem aK.tup {us:List U} (h:aK K H M (.tup us) v):∃ a vs,v=.ref a/\fH K H a vs/\aJ K H M us vs:=by
 simp only [aK] at h
 obtain ⟨a,vs,e,h1,h2⟩:=h
 refine ⟨a,vs,e,?_,h2⟩
 exact .inl (.inl h1.2)
theorem aK.lst {us:List U} (h:aK K H M (.lst us) v):∃ a vs,v=.ref a/\eC K H a vs/\aJ K H M us vs:=by
 simp only [aK] at h
 obtain ⟨a,vs,e,h1,h2⟩:=h
 refine ⟨a,vs,e,?_,h2⟩
 rcases h1 with ⟨_,r⟩ | k
 ·exact .inl r
 ·exact .inr k
theorem nA:aK K H M .non .non:=by simp only [aK]
theorem fA {b:Bool}:aK K H M (.bl b) (.bl b):=by simp only [aK]
theorem fE {i:Int}:aK K H M (.int i) (.int i):=by simp only [aK]
theorem nH {x:Str}:aK K H M (.str x) (.str x):=by simp only [aK]
theorem m6 {a:Addr}:aK K H M (.ref a) (.ref a):=by simp only [aK]
theorem uD {a:Addr} {us:List U} {vs:List V} (m:M a=none) (h:H a=some (.tup vs)) (r:aJ K H M us vs):aK K H M (.tup us) (.ref a):=by
 simp only [aK];exact ⟨a,vs,rfl,⟨m,h⟩,r⟩
theorem yU {a:Addr} {us:List U} {vs:List V} (m:M a=none) (h:H a=some (.lst vs)) (r:aJ K H M us vs):aK K H M (.lst us) (.ref a):=by
 simp only [aK];exact ⟨a,vs,rfl,.inl ⟨m,.inl h⟩,r⟩
theorem d7.tup {Q':UK} {Q:VK} {us:List U} {vs:List V} {p:Addr} (c:d7 K H M Q' Q) (rm:RelM K H M) (r:aJ K H M us vs) (hp:H p=none) (q:Q' (.tup us) M):Q (.ref p) (upd H p (.tup vs)) :=
 c _ _ M _ (aS.laid rm hp) (rm.laid hp) (uD (rm.no hp) cK (r.stp (aS.laid rm hp))) q
noncomputable def iL (o:Bool) (us:List U) (M:aE) (Q:UK):Prop:=match o with
 | true=>∀ p,M p=none->Q (.ref p) (mup M p (.lst us))
 | false=>Q (.lst us) M
theorem d7.lst {o:Bool} {Q':UK} {Q:VK} {us:List U} {vs:List V} {p:Addr} (c:d7 K H M Q' Q) (rm:RelM K H M) (r:aJ K H M us vs) (hp:H p=none) (q:iL o us M Q'):Q (.ref p) (upd H p (.lst vs)):=by
 cases o with
 | false=>exact c _ _ M _ (aS.laid rm hp) (rm.laid hp) (yU (rm.no hp) cK (r.stp (aS.laid rm hp))) q
 | true =>
  have st:aS H M (upd H p (.lst vs)) (mup M p (.lst us)):=aS.own rm hp
  exact c (.ref p) _ _ _ st (rm.put st ⟨vs,cK,r.stp st⟩) m6 (q p (rm.no hp))
end
noncomputable def view (M:aE):U->U
 | .ref a=>match M a with
  | some (.lst us)=>.lst us
  | _=>.ref a
 | u=>u
theorem kP {M:aE} {a:Addr} {us:List U} (h:M a=some (.lst us)):view M (.ref a)=.lst us:=by simp only [view,h]
theorem eO {K:PySem.W.Frag} {H:Hp} {M:aE} {u:U} {v:V} {us:List U} (rm:RelM K H M) (r:aK K H M u v) (h:view M u=.lst us):∃ a vs,v=.ref a/\eC K H a vs/\aJ K H M us vs:=by
 cases u with
 | lst ws=>simp only [view] at h;cases h;exact r.lst
 | ref a =>
  simp only [view] at h
  split at h
  ·rename_i ws e
   cases h
   obtain ⟨vs,h1,h2⟩:=rm a _ e
   exact ⟨a,vs,r.ref,.inl (.inl h1),h2⟩
  ·cases h
 | _=>simp [view] at h
section
variable {K:PySem.W.Frag} {t ta tb tc:TE} {t' ta' tb' tc':UE}
def rG (i:Nat):UE:=fun τ M Q=>match τ[i]? with
 | some (some u)=>Q u M
 | _=>False
theorem EI (i:Nat):cF K (K1 i) (rG i):=fun σ τ H M Q' rs rm h Q c=>by
 unfold rG at h
 split at h
 ·rename_i u e
  obtain ⟨v,e2,r⟩:=rs.2 i u e
  exact ⟨v,e2,c u v M H (aS.refl _ _) rm r h⟩
 ·exact h.elim
def uC (u:U):UE:=fun _ M Q=>Q u M
theorem Ao {u:U} {v:V} (h:∀ H M,aK K H M u v):cF K (tC v) (uC u):=fun σ τ H M Q' rs rm q Q c=>c u v M H (aS.refl _ _) rm (h H M) q
theorem Oe {i:Int}:cF K (tC (.int i)) (uC (.int i)):=Ao fun _ _=>fE
theorem QO {i:Bool}:cF K (tC (.bl i)) (uC (.bl i)):=Ao fun _ _=>fA
theorem Nt {i:Str}:cF K (tC (.str i)) (uC (.str i)):=Ao fun _ _=>nH
theorem Nn:cF K (tC .non) (uC .non):=Ao fun _ _=>nA
theorem NY {a:Addr}:cF K (tC (.ref a)) (uC (.ref a)):=Ao fun _ _=>m6
noncomputable def l5 (r:eB) (ta tb:UE):UE:=fun τ M Q=>ta τ M fun x M1=>tb τ M1 fun y M2=>r x y M2 Q
theorem vI {r:R2} {r':eB} (hr:eA K r r') (ha:cF K ta ta') (hb:cF K tb tb'):cF K (ES r ta tb) (l5 r' ta' tb'):=fun σ τ H M Q' rs rm h Q c =>
 ha σ τ H M _ rs rm h _ fun u v M1 H1 s1 rm1 ru h1=>hb σ τ H1 M1 _ (rs.stp s1) rm1 h1 _ fun w x M2 H2 s2 rm2 rw h2=>hr v x u w H2 M2 Q' rm2 (ru.stp s2) rw h2 Q (d7.stp c (s1.trans s2))
noncomputable def B3 (r:U->aE->UK->Prop) (ta:UE):UE:=fun τ M Q=>ta τ M fun x M1=>r x M1 Q
theorem PM {r:V->Hp->VK->Prop} {r':U->aE->UK->Prop} (hr:Rk K r r') (ha:cF K ta ta'):cF K (R1 r ta) (B3 r' ta'):=fun σ τ H M Q' rs rm h Q c =>
 ha σ τ H M _ rs rm h _ fun u v M1 H1 s1 rm1 ru h1=>hr v u H1 M1 Q' rm1 ru h1 Q (d7.stp c s1)
def oI (t:UE):UT:=fun τ M Q=>t τ M fun u M1=>match u with
 | .bl b=>Q b M1
 | _=>False
theorem Kx (h:cF K t t'):kI K (MD t) (oI t'):=fun σ τ H M Q' rs rm q Q c=>h σ τ H M _ rs rm q _ fun u v M1 H1 s1 rm1 ru h1=>by
 cases u with
 | bl b=>exact ⟨b,ru.bl,c b M1 H1 s1 rm1 h1⟩
 | _=>exact h1.elim
def v9 (t:UE):UT:=fun τ M Q=>t τ M fun u M1=>match view M1 u with
 | .non=>Q false M1
 | .bl b=>Q b M1
 | .int i=>Q (i != 0) M1
 | .str x=>x.length<=sizeLine/\Q ((x.length:Int) != 0) M1
 | .tup us=>Q (!us.isEmpty) M1
 | .lst us=>Q (!us.isEmpty) M1
 | _=>False
theorem xJ {H:Hp} {M:aE} {us:List U} {vs:List V} (r:aJ K H M us vs):us.isEmpty=vs.isEmpty:=by
 have:=r.length
 cases us <;> cases vs <;> simp_all
theorem Ol (h:cF K t t'):kI K (fun σ H Q=>t σ H fun x H'=>∃ k,Lx K x H' k/\Q k H') (v9 t'):=fun σ τ H M Q' rs rm q Q c=>h σ τ H M _ rs rm q _ fun u v M1 H1 s1 rm1 ru h1=>by
 split at h1
 ·rename_i e
  cases u with
  | non=>exact ⟨false,by rw [ru.non];rfl,c _ M1 H1 s1 rm1 h1⟩
  | ref a=>simp only [view] at e;split at e <;> cases e
  | _=>simp [view] at e
 ·rename_i b e
  cases u with
  | bl b'=>simp only [view] at e;cases e;exact ⟨b,by rw [ru.bl];rfl,c _ M1 H1 s1 rm1 h1⟩
  | ref a=>simp only [view] at e;split at e <;> cases e
  | _=>simp [view] at e
 ·rename_i b e
  cases u with
  | int b'=>simp only [view] at e;cases e;exact ⟨b != 0,by rw [ru.int];rfl,c _ M1 H1 s1 rm1 h1⟩
  | ref a=>simp only [view] at e;split at e <;> cases e
  | _=>simp [view] at e
 ·rename_i b e
  cases u with
  | str b'=>simp only [view] at e;cases e;exact ⟨(b.length:Int) != 0,by rw [ru.str];exact ⟨h1.1,rfl⟩,c _ M1 H1 s1 rm1 h1.2⟩
  | ref a=>simp only [view] at e;split at e <;> cases e
  | _=>simp [view] at e
 ·rename_i us e
  cases u with
  | tup us' =>
   simp only [view] at e;cases e
   obtain ⟨a,vs,rfl,r1,r2⟩:=ru.tup
   exact ⟨!vs.isEmpty,.inr (.inl ⟨vs,r1,rfl⟩),c _ M1 H1 s1 rm1 (by rw [<- xJ r2];exact h1)⟩
  | ref a=>simp only [view] at e;split at e <;> cases e
  | _=>simp [view] at e
 ·rename_i us e
  obtain ⟨a,vs,rfl,r1,r2⟩:=eO rm1 ru e
  exact ⟨!vs.isEmpty,.inl ⟨vs,r1,rfl⟩,c _ M1 H1 s1 rm1 (by rw [<- xJ r2];exact h1)⟩
 ·exact h1.elim
def vK (t u:UT):UT:=fun τ M Q=>t τ M fun c M1=>if c=true then u τ M1 Q else Q false M1
noncomputable def B4 (t u:UT):UT:=fun τ M Q=>t τ M fun c M1=>if c=true then Q true M1 else u τ M1 Q
def u7 (t:UT):UT:=fun τ M Q=>t τ M fun c M1=>Q (!c) M1
theorem Nk {t u:TT} {t' u':UT} (h:kI K t t') (k:kI K u u'):kI K (PU t u) (vK t' u'):=fun σ τ H M Q' rs rm q Q c=>h σ τ H M _ rs rm q _ fun b M1 H1 s1 rm1 h1=>by
 cases b with
 | true=>exact k σ τ H1 M1 Q' (rs.stp s1) rm1 h1 Q fun b M2 H2 s2=>c b M2 H2 (s1.trans s2)
 | false=>exact c _ M1 H1 s1 rm1 h1
theorem QZ {t u:TT} {t' u':UT} (h:kI K t t') (k:kI K u u'):kI K (R5 t u) (B4 t' u'):=fun σ τ H M Q' rs rm q Q c=>h σ τ H M _ rs rm q _ fun b M1 H1 s1 rm1 h1=>by
 cases b with
 | false=>exact k σ τ H1 M1 Q' (rs.stp s1) rm1 h1 Q fun b M2 H2 s2=>c b M2 H2 (s1.trans s2)
 | true=>exact c _ M1 H1 s1 rm1 h1
theorem Ob {t:TT} {t':UT} (h:kI K t t'):kI K (Qc t) (u7 t'):=fun σ τ H M Q' rs rm q Q c=>h σ τ H M _ rs rm q _ fun b M1 H1 s1 rm1 h1=>c _ M1 H1 s1 rm1 h1
def qI (ta tb:UE):UE:=fun τ M Q=>ta τ M fun x M1=>match x with
 | .bl c=>if c=true then tb τ M1 Q else Q (.bl false) M1
 | _=>False
noncomputable def Be (ta tb:UE):UE:=fun τ M Q=>ta τ M fun x M1=>match x with
 | .bl c=>if c=true then Q (.bl true) M1 else tb τ M1 Q
 | _=>False
def wO (ta:UE):UE:=fun τ M Q=>ta τ M fun x M1=>match x with
 | .bl c=>Q (.bl (!c)) M1
 | _=>False
theorem Lh (h:cF K ta ta') (k:cF K tb tb'):cF K (Mu ta tb) (qI ta' tb'):=fun σ τ H M Q' rs rm q Q c=>h σ τ H M _ rs rm q _ fun u v M1 H1 s1 rm1 ru h1=>by
 cases u with
 | bl b =>
  refine ⟨b,ru.bl,?_⟩
  cases b with
  | true=>exact k σ τ H1 M1 Q' (rs.stp s1) rm1 h1 Q (d7.stp c s1)
  | false=>exact c _ _ M1 H1 s1 rm1 fA h1
 | _=>exact h1.elim
noncomputable def BW (t:UT) (ta tb:UE):UE:=fun τ M Q=>t τ M fun c M1=>if c=true then ta τ M1 Q else tb τ M1 Q
theorem Q6 {t:TT} {t':UT} (h:kI K t t') (k:cF K ta ta') (l:cF K tb tb'):cF K (R4 t ta tb) (BW t' ta' tb'):=fun σ τ H M Q' rs rm q Q c=>h σ τ H M _ rs rm q _ fun b M1 H1 s1 rm1 h1=>by
 cases b with
 | true=>exact k σ τ H1 M1 Q' (rs.stp s1) rm1 h1 Q (d7.stp c s1)
 | false=>exact l σ τ H1 M1 Q' (rs.stp s1) rm1 h1 Q (d7.stp c s1)
def nU (r r':eB) (ta tb tc:UE):UE:=fun τ M Q=>ta τ M fun x M1=>tb τ M1 fun y M2=>r x y M2 fun z M3=>match z with
 | .bl k=>if k=true then tc τ M3 fun w M4=>r' y w M4 Q else Q (.bl false) M3
 | _=>False
theorem IJ {r r':R2} {s s':eB} (hr:eA K r s) (hr':eA K r' s') (ha:cF K ta ta') (hb:cF K tb tb') (hc:cF K tc tc'):cF K (IP r r' ta tb tc) (nU s s' ta' tb' tc'):=fun σ τ H M Q' rs rm h Q c =>
 ha σ τ H M _ rs rm h _ fun u v M1 H1 s1 rm1 ru h1=>hb σ τ H1 M1 _ (rs.stp s1) rm1 h1 _ fun w x M2 H2 s2 rm2 rw h2 =>
  hr v x u w H2 M2 _ rm2 (ru.stp s2) rw h2 _ fun z zv M3 H3 s3 rm3 rz h3=>by
   cases z with
   | bl k =>
    refine ⟨k,rz.bl,?_⟩
    cases k with
    | true=>exact hc σ τ H3 M3 _ ((rs.stp s1).stp (s2.trans s3)) rm3 h3 _ fun w2 x2 M4 H4 s4 rm4 rw4 h4=>hr' x x2 w w2 H4 M4 Q' rm4 (rw.stp (s3.trans s4)) rw4 h4 Q (d7.stp c (((s1.trans s2).trans s3).trans s4))
    | false=>exact c _ _ M3 H3 ((s1.trans s2).trans s3) rm3 fA h3
   | _=>exact h3.elim
def v7:UA:=fun _ M Q=>Q [] M
def qT (ta:UE) (tr:UA):UA:=fun τ M Q=>ta τ M fun x M1=>tr τ M1 fun xs M2=>Q (x :: xs) M2
theorem NA:lH K OL v7:=fun σ τ H M Q' rs rm q Q c=>c [] [] M H (aS.refl _ _) rm .nil q
theorem K6 {tr:TA} {tr':UA} (ha:cF K ta ta') (hr:lH K tr tr'):lH K (Md ta tr) (qT ta' tr'):=fun σ τ H M Q' rs rm h Q c =>
 ha σ τ H M _ rs rm h _ fun u v M1 H1 s1 rm1 ru h1=>hr σ τ H1 M1 _ (rs.stp s1) rm1 h1 _ fun us vs M2 H2 s2 rm2 rus h2=>c (u :: us) (v :: vs) M2 H2 (s1.trans s2) rm2 (.cons (ru.stp s2) rus) h2
def vU (t:UA):UE:=fun τ M Q=>t τ M fun us M1=>us.length<=sizeLine/\Q (.tup us) M1
def wD (o:Bool) (t:UA):UE:=fun τ M Q=>t τ M fun us M1=>us.length<=sizeLine/\iL o us M1 Q
theorem OC {t:TA} {t':UA} (h:lH K t t'):cF K (OP t) (vU t'):=fun σ τ H M Q' rs rm q Q c =>
 h σ τ H M _ rs rm q _ fun us vs M1 H1 s1 rm1 r h1=>⟨by rw [<- r.length];exact h1.1,fun p hp=>(d7.stp c s1).tup rm1 r hp h1.2⟩
theorem Oh {o:Bool} {t:TA} {t':UA} (h:lH K t t'):cF K (QS t) (wD o t'):=fun σ τ H M Q' rs rm q Q c =>
 h σ τ H M _ rs rm q _ fun us vs M1 H1 s1 rm1 r h1=>⟨by rw [<- r.length];exact h1.1,fun p hp=>(d7.stp c s1).lst rm1 r hp h1.2⟩
def zZ (r:List U->aE->UK->Prop) (t:UA):UE:=fun τ M Q=>t τ M fun us M1=>r us M1 Q
theorem Ij {r:List V->Hp->VK->Prop} {r':List U->aE->UK->Prop} {t:TA} {t':UA} (hr:zW K r r') (h:lH K t t'):cF K (Pm r t) (zZ r' t'):=fun σ τ H M Q' rs rm q Q c =>
 h σ τ H M _ rs rm q _ fun us vs M1 H1 s1 rm1 ru h1=>hr vs us H1 M1 Q' rm1 ru h1 Q (d7.stp c s1)
end
end U2
namespace U2
open PySem L2
section
variable {K:PySem.W.Frag}
def qB (g:Int->Int->U):eB:=fun x y M Q=>match x,y with
 | .int i,.int j=>Q (g i j) M
 | _,_=>False
def uI (C:Int->Int->Prop) (g:Int->Int->U):eB:=fun x y M Q=>match x,y with
 | .int i,.int j=>C i j/\Q (g i j) M
 | _,_=>False
theorem Jv {g:Int->Int->V} {g':Int->Int->U} (hg:∀ H M i j,aK K H M (g' i j) (g i j)):eA K (uP g) (qB g'):=fun x y u w H M Q' rm ru rw h Q c=>by
 cases u with
 | int i=>cases w with
  | int j=>exact ⟨i,j,ru.int,rw.int,c _ _ M H (aS.refl _ _) rm (hg H M i j) h⟩
  | _=>exact h.elim
 | _=>exact h.elim
theorem RM {C:Int->Int->Prop} {g:Int->Int->V} {g':Int->Int->U} (hg:∀ H M i j,aK K H M (g' i j) (g i j)):eA K (rI C g) (uI C g'):=fun x y u w H M Q' rm ru rw h Q c=>by
 cases u with
 | int i=>cases w with
  | int j=>exact ⟨i,j,ru.int,rw.int,h.1,c _ _ M H (aS.refl _ _) rm (hg H M i j) h.2⟩
  | _=>exact h.elim
 | _=>exact h.elim
theorem C7 {f:Int->Int->Int}:eA K (uP fun i j=>.int (f i j)) (qB fun i j=>.int (f i j)):=Jv fun _ _ _ _=>fE
theorem qX {f:Int->Int->Bool}:eA K (uP fun i j=>.bl (f i j)) (qB fun i j=>.bl (f i j)):=Jv fun _ _ _ _=>fA
theorem qN {C:Int->Int->Prop} {f:Int->Int->Int}:eA K (rI C fun i j=>.int (f i j)) (uI C fun i j=>.int (f i j)):=RM fun _ _ _ _=>fE
noncomputable def RG:eB:=fun x y M Q=>match x,y with
 | .str i,.str j=>i.length + j.length<=sizeLine/\Q (.str (i++j)) M
 | _,_=>False
theorem L3:eA K (fun x y H Q=>∃ i j,x=.str i/\y=.str j/\i.length + j.length<=sizeLine/\Q (.str (i++j)) H) RG:=fun x y u w H M Q' rm ru rw h Q c=>by
 cases u with
 | str i=>cases w with
  | str j=>exact ⟨i,j,ru.str,rw.str,h.1,c _ _ M H (aS.refl _ _) rm nH h.2⟩
  | _=>exact h.elim
 | _=>exact h.elim
noncomputable def Dj (K:PySem.W.Frag):R2:=fun x y H Q=>∃ a b xs ys,x=.ref a/\y=.ref b/\fH K H a xs/\fH K H b ys/\xs.length + ys.length<=sizeLine /\
 (xs=[]->Q (.ref b) H)/\(xs≠[]->ys=[]->Q (.ref a) H)/\(xs≠[]->ys≠[]->∀ p,H p=none->Q (.ref p) (upd H p (.tup (xs++ys))))
noncomputable def Rj:eB:=fun x y M Q=>match x,y with
 | .tup us,.tup ws=>us.length + ws.length<=sizeLine/\Q (.tup (us++ws)) M
 | _,_=>False
theorem Lv:eA K (Dj K) Rj:=fun x y u w H M Q' rm ru rw h Q c=>by
 cases u with
 | tup us=>cases w with
  | tup ws =>
   obtain ⟨h2,h3⟩:=h
   obtain ⟨a,xs,rfl,s1,r1⟩:=ru.tup
   obtain ⟨b,ys,rfl,s2,r2⟩:=rw.tup
   refine ⟨a,b,xs,ys,rfl,rfl,s1,s2,by rw [<- r1.length,<- r2.length];exact h2,fun e=>?_,fun _ e=>?_,fun _ _ p hp=>c.tup rm (r1.append r2) hp h3⟩
   ·subst e
    have e2:us=[]:=List.length_eq_zero_iff.mp r1.length
    subst e2
    exact c _ _ M H (aS.refl _ _) rm rw h3
   ·subst e
    have e2:ws=[]:=List.length_eq_zero_iff.mp r2.length
    subst e2
    exact c _ _ M H (aS.refl _ _) rm ru (by rw [List.append_nil] at h3;exact h3)
  | _=>exact h.elim
 | _=>exact h.elim
def oM (o:Bool):eB:=fun x y M Q=>match view M x,view M y with
 | .lst us,.lst ws=>us.length + ws.length<=sizeLine/\iL o (us++ws) M Q
 | _,_=>False
noncomputable def G9 (K:PySem.W.Frag):R2:=fun x y H Q=>∃ l b xs zs,x=.ref l/\y=.ref b/\eC K H l xs/\eC K H b zs/\xs.length + zs.length<=sizeLine/\∀ p,H p=none->Q (.ref p) (upd H p (.lst (xs++zs)))
theorem KQ {o:Bool}:eA K (G9 K) (oM o):=fun x y u w H M Q' rm ru rw h Q c=>by
 unfold oM at h
 split at h
 ·rename_i us ws e1 e2
  obtain ⟨a,xs,rfl,s1,r1⟩:=eO rm ru e1
  obtain ⟨b,ys,rfl,s2,r2⟩:=eO rm rw e2
  exact ⟨a,b,xs,ys,rfl,rfl,s1,s2,by rw [<- r1.length,<- r2.length];exact h.1,fun p hp=>c.lst rm (r1.append r2) hp h.2⟩
 ·exact h.elim
theorem EV {H:Hp} {M:aE} {us:List U} {vs:List V} {i:Int} {u:U} (r:aJ K H M us vs) (h:fQ us i=some u):∃ v,fQ vs i=some v/\aK K H M u v:=by
 unfold fQ at h ⊢
 rw [<- r.length]
 cases e:u6 us.length i with
 | none=>rw [e] at h;cases h
 | some j=>rw [e] at h;exact r.get h
noncomputable def AD:eB:=fun x y M Q=>match view M x,y with
 | .lst us,.int i=>∃ u,fQ us i=some u/\Q u M
 | .tup us,.int i=>∃ u,fQ us i=some u/\Q u M
 | .str z,.int i=>z.length<=sizeLine/\∃ c,fQ z.cps.toList i=some c/\Q (.str ⟨#[c]⟩) M
 | _,_=>False
theorem p5 {M:aE} {u:U} {us:List U} (h:view M u=.tup us):u=.tup us:=by
 cases u with
 | ref a=>simp only [view] at h;split at h <;> cases h
 | _=>simpa [view] using h
theorem yO {M:aE} {u:U} {x:Str} (h:view M u=.str x):u=.str x:=by
 cases u with
 | ref a=>simp only [view] at h;split at h <;> cases h
 | _=>simpa [view] using h
theorem PL:eA K (R7 K) AD:=fun x y u w H M Q' rm ru rw h Q c=>by
 unfold AD at h
 split at h
 ·rename_i us i e
  obtain ⟨z,h1,h2⟩:=h
  obtain ⟨a,xs,rfl,s1,r1⟩:=eO rm ru e
  obtain ⟨v,h3,h4⟩:=EV r1 h1
  exact .inl ⟨a,xs,i,v,rfl,rw.int,s1,h3,c _ _ M H (aS.refl _ _) rm h4 h2⟩
 ·rename_i us i e
  obtain ⟨z,h1,h2⟩:=h
  have e':=p5 e
  subst e'
  obtain ⟨a,xs,rfl,s1,r1⟩:=ru.tup
  obtain ⟨v,h3,h4⟩:=EV r1 h1
  exact .inr (.inl ⟨a,xs,i,v,rfl,rw.int,s1,h3,c _ _ M H (aS.refl _ _) rm h4 h2⟩)
 ·rename_i z i e
  obtain ⟨h0,d,h1,h2⟩:=h
  have e':=yO e
  subst e'
  exact .inr (.inr ⟨z,i,d,ru.str,rw.int,h0,h1,c _ _ M H (aS.refl _ _) rm nH h2⟩)
 ·exact h.elim
abbrev UO:=SU->aE->(Option Int->aE->Prop)->Prop
noncomputable def Dz (K:PySem.W.Frag) (t:TO) (t':UO):Prop:=∀ (σ:St) (τ:SU) (H:Hp) (M:aE) (Q':Option Int->aE->Prop),eK K H M σ τ->RelM K H M->t' τ M Q' ->
 ∀ Q:Option Int->Hp->Prop,(∀ o M1 H1,aS H M H1 M1->RelM K H1 M1->Q' o M1->Q o H1)->t σ H Q
noncomputable def l0:UO:=fun _ M Q=>Q none M
def qK (t:UE):UO:=fun τ M Q=>t τ M fun x M1=>match x with
 | .int i=>Q (some i) M1
 | _=>False
theorem Gj:Dz K EL l0:=fun σ τ H M Q' rs rm q Q c=>c none M H (aS.refl _ _) rm q
theorem Kp {t:TE} {t':UE} (h:cF K t t'):Dz K (My t) (qK t'):=fun σ τ H M Q' rs rm q Q c=>h σ τ H M _ rs rm q _ fun u v M1 H1 s1 rm1 ru h1=>by
 cases u with
 | int i=>exact ⟨i,ru.int,c _ M1 H1 s1 rm1 h1⟩
 | _=>exact h1.elim
noncomputable def i7 {α:Type} (xs:List α) (lo hi:Option Int):List α:=(xs.drop (HT.bK xs.length 0 lo)).take (HT.bK xs.length xs.length hi - HT.bK xs.length 0 lo)
theorem Fe {H:Hp} {M:aE} {us:List U} {vs:List V} (r:aJ K H M us vs) (lo hi:Option Int):aJ K H M (i7 us lo hi) (rK vs lo hi):=by
 unfold i7 rK
 rw [r.length]
 exact (r.drop _).take _
noncomputable def QK (K:PySem.W.Frag):V->Option Int->Option Int->Hp->VK->Prop:=fun x lo hi H Q =>
 (∃ a xs,x=.ref a/\eC K H a xs/\∀ p,H p=none->Q (.ref p) (upd H p (.lst (rK xs lo hi)))) \/
 (∃ a xs,x=.ref a/\fH K H a xs/\¬ (HT.bK xs.length 0 lo=0/\HT.bK xs.length xs.length hi=xs.length)/\∀ p,H p=none->Q (.ref p) (upd H p (.tup (rK xs lo hi)))) \/
 (∃ z:Str,x=.str z/\z.length<=sizeLine/\Q (.str (Txt.slice z lo hi)) H)
noncomputable def SK (o:Bool) (te:UE) (tl th:UO):UE:=fun τ M Q=>te τ M fun x M1=>tl τ M1 fun l M2=>th τ M2 fun h M3=>match view M3 x with
 | .lst us=>iL o (i7 us l h) M3 Q
 | .tup us=>¬ (HT.bK us.length 0 l=0/\HT.bK us.length us.length h=us.length)/\Q (.tup (i7 us l h)) M3
 | .str z=>z.length<=sizeLine/\Q (.str (Txt.slice z l h)) M3
 | _=>False
end
section
variable {K:PySem.W.Frag} {t u:TS} {t' u':US} {te:TE} {te':UE}
noncomputable def eW:US:=fun D τ M=>D.nx τ M
def vR (t u:US):US:=fun D τ M=>t { D with nx:=u D } τ M
noncomputable def P5:US:=fun D τ M=>D.bk τ M
noncomputable def RK:US:=fun D τ M=>D.ct τ M
noncomputable def kY (te:UE):US:=fun D τ M=>te τ M fun _ M1=>D.nx τ M1
noncomputable def fD (te:UE):US:=fun D τ M=>te τ M D.rt
noncomputable def RJ:US:=fun D _ M=>D.rt .non M
def tO (c:UT) (t u:US):US:=fun D τ M=>c τ M fun b M1=>if b=true then t D τ M1 else u D τ M1
theorem LQ:kS K MH eW:=fun σ τ H M D' rs rm h D d=>d.nx σ τ H M (aS.refl _ _) rm rs h
theorem Ov (h1:kS K t t') (h2:kS K u u'):kS K (Qn t u) (vR t' u'):=fun σ τ H M D' rs rm h D d =>
 h1 σ τ H M _ rs rm h _ ⟨fun σ1 τ1 H1 M1 s rm1 rs1 q=>h2 σ1 τ1 H1 M1 D' rs1 rm1 q D (d.stp s),d.rt,d.bk,d.ct⟩
theorem LH (h1:cF K te te'):kS K (Mz te) (kY te'):=fun σ τ H M D' rs rm h D d=>h1 σ τ H M _ rs rm h _ fun u v M1 H1 s rm1 ru q=>d.nx σ τ H1 M1 s rm1 (rs.stp s) q
theorem Oy (h1:cF K te te'):kS K (Pa te) (fD te'):=fun σ τ H M D' rs rm h D d=>h1 σ τ H M _ rs rm h _ fun u v M1 H1 s rm1 ru q=>d.rt u v H1 M1 s rm1 ru q
theorem Nb {c:TT} {c':UT} (hc:kI K c c') (h1:kS K t t') (h2:kS K u u'):kS K (Pb c t u) (tO c' t' u'):=fun σ τ H M D' rs rm h D d=>hc σ τ H M _ rs rm h _ fun b M1 H1 s rm1 q=>by
 cases b with
 | true=>exact h1 σ τ H1 M1 D' (rs.stp s) rm1 q D (d.stp s)
 | false=>exact h2 σ τ H1 M1 D' (rs.stp s) rm1 q D (d.stp s)
abbrev UG:=U->SU->aE->(SU->aE->Prop)->Prop
abbrev Ae:=List U->SU->aE->(SU->aE->Prop)->Prop
def xV (K:PySem.W.Frag) (g:TG) (g':UG):Prop:=∀ (u:U) (v:V) (σ:St) (τ:SU) (H:Hp) (M:aE) (Q':SU->aE->Prop),aK K H M u v->eK K H M σ τ->RelM K H M->g' u τ M Q' ->
 ∀ Q:St->Hp->Prop,(∀ σ1 τ1 H1 M1,aS H M H1 M1->RelM K H1 M1->eK K H1 M1 σ1 τ1->Q' τ1 M1->Q σ1 H1)->g v σ H Q
def zU (K:PySem.W.Frag) (g:pT) (g':Ae):Prop:=∀ (us:List U) (vs:List V) (σ:St) (τ:SU) (H:Hp) (M:aE) (Q':SU->aE->Prop),aJ K H M us vs->eK K H M σ τ->RelM K H M->g' us τ M Q' ->
 ∀ Q:St->Hp->Prop,(∀ σ1 τ1 H1 M1,aS H M H1 M1->RelM K H1 M1->eK K H1 M1 σ1 τ1->Q' τ1 M1->Q σ1 H1)->g vs σ H Q
noncomputable def hName (i:Nat):UG:=fun u τ M Q=>Q (τ.set i (some u)) M
theorem rA (i:Nat):xV K (qM i) (hName i):=fun u v σ τ H M Q' ru rs rm h Q c=>c _ _ H M (aS.refl _ _) rm (rs.set ru) h
noncomputable def j6:Ae:=fun us τ M Q=>match us with
 | []=>Q τ M
 | _=>False
noncomputable def gU (g:UG) (r:Ae):Ae:=fun us τ M Q=>match us with
 | u :: us=>g u τ M fun τ1 M1=>r us τ1 M1 Q
 | _=>False
theorem Lp:zU K DB j6:=fun us vs σ τ H M Q' ru rs rm h Q c=>by
 cases us with
 | nil=>exact ⟨ru.inv_nil,c σ τ H M (aS.refl _ _) rm rs h⟩
 | cons _ _=>exact h.elim
theorem Jq {g:TG} {g':UG} {r:pT} {r':Ae} (h1:xV K g g') (h2:zU K r r'):zU K (yY g r) (gU g' r'):=fun us vs σ τ H M Q' ru rs rm h Q c=>by
 cases us with
 | nil=>exact h.elim
 | cons u us =>
  obtain ⟨v,vs',rfl,a,b⟩:=ru.inv_cons
  exact ⟨v,vs',rfl,h1 u v σ τ H M _ a rs rm h _ fun σ1 τ1 H1 M1 s rm1 rs1 q=>h2 us vs' σ1 τ1 H1 M1 Q' (b.stp s) rs1 rm1 q Q fun σ2 τ2 H2 M2 s2=>c σ2 τ2 H2 M2 (s.trans s2)⟩
noncomputable def jB (n:Nat) (r:Ae):UG:=fun u τ M Q=>match u with
 | .tup us=>us.length=n/\r us τ M Q
 | _=>False
theorem KY {n:Nat} {r:pT} {r':Ae} (h2:zU K r r'):xV K (D7 K n r) (jB n r'):=fun u v σ τ H M Q' ru rs rm h Q c=>by
 cases u with
 | tup us =>
  obtain ⟨a,vs,rfl,s1,r1⟩:=ru.tup
  exact ⟨a,vs,rfl,s1,by rw [<- r1.length];exact h.1,h2 us vs σ τ H M Q' r1 rs rm h.2 Q c⟩
 | _=>exact h.elim
noncomputable def bC (te:UE) (g:UG):US:=fun D τ M=>te τ M fun x M1=>g x τ M1 D.nx
theorem Bk {g:TG} {g':UG} (h1:cF K te te') (h2:xV K g g'):kS K (G1 te g) (bC te' g'):=fun σ τ H M D' rs rm h D d =>
 h1 σ τ H M _ rs rm h _ fun u v M1 H1 s rm1 ru q=>h2 u v σ τ H1 M1 _ ru (rs.stp s) rm1 q _ fun σ1 τ1 H2 M2 s2 rm2 rs2 q2=>d.nx σ1 τ1 H2 M2 (s.trans s2) rm2 rs2 q2
noncomputable def Du (c:UT) (tb:US):US:=fun D τ M=>∃ (P:SU->aE->Prop) (μ:SU->aE->Nat),P τ M/\∀ τ M,P τ M->c τ M fun b M1=>if b=true then tb { D with nx:=fun τ' M'=>P τ' M'/\μ τ' M' < μ τ M,ct:=fun τ' M'=>P τ' M'/\μ τ' M' < μ τ M,bk:=D.nx } τ M1 else D.nx τ M1
theorem Hu {c:TT} {c':UT} (hc:kI K c c') (h1:kS K t t'):kS K (IA c t) (Du c' t'):=fun σ τ H M D' rs rm h D d=>by
 obtain ⟨P,μ,p0,turn⟩:=h
 refine ⟨fun m σ1 H1=>∃ τ1 M1,aS H M H1 M1/\RelM K H1 M1/\eK K H1 M1 σ1 τ1/\P τ1 M1/\m=μ τ1 M1,⟨_,τ,M,aS.refl _ _,rm,rs,p0,rfl⟩,?_⟩
 rintro m σ1 H1 ⟨τ1,M1,s1,rm1,rs1,p1,rfl⟩
 refine hc σ1 τ1 H1 M1 _ rs1 rm1 (turn τ1 M1 p1) _ fun b M2 H2 s2 rm2 q=>?_
 cases b with
 | true =>
  refine ⟨fun σ3 H3=>∃ τ3 M3,aS H M H3 M3/\RelM K H3 M3/\eK K H3 M3 σ3 τ3/\P τ3 M3/\μ τ3 M3 < μ τ1 M1,?_,?_⟩
  ·rintro σ3 H3 ⟨τ3,M3,s3,rm3,rs3,p3,lt⟩
   exact ⟨_,lt,τ3,M3,s3,rm3,rs3,p3,rfl⟩
  ·have d2:=d.stp (s1.trans s2)
   exact h1 σ1 τ1 H2 M2 _ (rs1.stp s2) rm2 q _ ⟨fun σ3 τ3 H3 M3 s3 rm3 rs3 q3=>⟨τ3,M3,(s1.trans s2).trans s3,rm3,rs3,q3.1,q3.2⟩,d2.rt,d2.nx,fun σ3 τ3 H3 M3 s3 rm3 rs3 q3=>⟨τ3,M3,(s1.trans s2).trans s3,rm3,rs3,q3.1,q3.2⟩⟩
 | false=>exact d.nx σ1 τ1 H2 M2 (s1.trans s2) rm2 (rs1.stp s2) q
structure Src where
 own:Option Addr
 xs:List U
def Src.ok (S:Src) (M:aE):Prop:=∀ a,S.own=some a->M a=some (.lst S.xs)
structure Walk (K:PySem.W.Frag) (J:It) (S:Src) (H:Hp) (M:aE):Prop where
 step:∀ H1 M1,aS H M H1 M1->RelM K H1 M1->S.ok M1->∀ (i:Nat) u,S.xs[i]?=some u->J.go i H1/\∀ x H2,J.yld i H1 x H2->aS H1 M1 H2 M1/\RelM K H2 M1/\aK K H2 M1 u x
 stop:∀ H1 M1,aS H M H1 M1->RelM K H1 M1->S.ok M1->J.stop S.xs.length H1
abbrev UI:=SU->aE->(Src->aE->Prop)->Prop
def rJ (K:PySem.W.Frag) (t:TI) (t':UI):Prop:=∀ (σ:St) (τ:SU) (H:Hp) (M:aE) (R':Src->aE->Prop),eK K H M σ τ->RelM K H M->t' τ M R' ->
 ∀ R:It->Hp->Prop,(∀ J S M1 H1,aS H M H1 M1->RelM K H1 M1->Walk K J S H1 M1->R' S M1->R J H1)->t σ H R
noncomputable def Dg (wi:UI) (g:UG) (tb:US):US:=fun D τ M=>wi τ M fun S M1=>∃ P:Nat->SU->aE->Prop,P 0 τ M1/\(∀ i τ M,P i τ M->S.ok M) /\
 (∀ i x τ M,S.xs[i]?=some x->P i τ M->g x τ M fun τ2 M2=>tb { D with nx:=P (i + 1),ct:=P (i + 1),bk:=D.nx } τ2 M2)/\∀ τ M,P S.xs.length τ M->D.nx τ M
theorem ML {wi:TI} {wi':UI} {g:TG} {g':UG} (hi:rJ K wi wi') (hg:xV K g g') (h1:kS K t t'):kS K (PY wi g t) (Dg wi' g' t'):=fun σ τ H M D' rs rm h D d=>by
 refine hi σ τ H M _ rs rm h _ fun J S M0 H0 s0 rm0 w h=>?_
 obtain ⟨P,p0,hok,turn,fin⟩:=h
 refine ⟨fun i m σ1 H1=>∃ τ1 M1,aS H0 M0 H1 M1/\RelM K H1 M1/\eK K H1 M1 σ1 τ1/\P i τ1 M1/\i<=S.xs.length/\m=S.xs.length - i,⟨_,τ,M0,aS.refl _ _,rm0,rs.stp s0,p0,Nat.zero_le _,rfl⟩,?_⟩
 rintro i m σ1 H1 ⟨τ1,M1,s1,rm1,rs1,p1,hle,rfl⟩
 have ok1:=hok i τ1 M1 p1
 by_cases hlt:i < S.xs.length
 ·obtain ⟨go,yl⟩:=w.step H1 M1 s1 rm1 ok1 i S.xs[i] (by simp [hlt])
  refine .inr ⟨go,fun σ3 H3=>∃ τ3 M3,aS H0 M0 H3 M3/\RelM K H3 M3/\eK K H3 M3 σ3 τ3/\P (i + 1) τ3 M3,?_,fun x H2 y=>?_⟩
  ·rintro σ3 H3 ⟨τ3,M3,s3,rm3,rs3,p3⟩
   exact ⟨S.xs.length - (i + 1),by omega,τ3,M3,s3,rm3,rs3,p3,hlt,rfl⟩
  ·obtain ⟨s2,rm2,ru⟩:=yl x H2 y
   refine hg _ x σ1 τ1 H2 M1 _ ru (rs1.stp s2) rm2 (turn i S.xs[i] τ1 M1 (by simp [hlt]) p1) _ fun σ3 τ3 H3 M3 s3 rm3 rs3 q3=>?_
   have d3:=d.stp (((s0.trans s1).trans s2).trans s3)
   exact h1 σ3 τ3 H3 M3 _ rs3 rm3 q3 _ ⟨fun σ4 τ4 H4 M4 s4 rm4 rs4 q4=>⟨τ4,M4,((s1.trans s2).trans s3).trans s4,rm4,rs4,q4⟩,d3.rt,d3.nx,fun σ4 τ4 H4 M4 s4 rm4 rs4 q4=>⟨τ4,M4,((s1.trans s2).trans s3).trans s4,rm4,rs4,q4⟩⟩
 ·have e:i=S.xs.length:=by omega
  subst e
  exact .inl ⟨w.stop H1 M1 s1 rm1 ok1,d.nx σ1 τ1 H1 M1 (s0.trans s1) rm1 rs1 (fin τ1 M1 p1)⟩
end
end U2
namespace U2
open PySem L2
section
variable {K:PySem.W.Frag}
theorem Ju {a:Addr} {us:List U} {vs:List V} {H:Hp} {M:aE} (m:(M a=none/\Rd H a (.lst vs))\/KL K a vs) (r:aJ K H M us vs):Walk K (Mg K a) ⟨none,us⟩ H M:=by
 have sq:∀ H1 M1,aS H M H1 M1->eC K H1 a vs:=fun H1 M1 s=>by
  rcases m with ⟨m,h⟩ | k
  ·exact .inl (Rd.stp s m h).2
  ·exact .inr k
 refine ⟨fun H1 M1 s rm _ i u e=>?_,fun H1 M1 s rm _=>⟨vs,sq H1 M1 s,by rw [r.length];exact Nat.le_refl _⟩⟩
 obtain ⟨v,e2,ru⟩:=r.get e
 refine ⟨⟨vs,v,sq H1 M1 s,e2⟩,fun x H2 y=>?_⟩
 obtain ⟨rfl,y⟩:=y
 have:=y vs (sq _ M1 s)
 rw [e2] at this;cases this
 exact ⟨aS.refl _ _,rm,ru.stp s⟩
theorem Kz {a:Addr} {us:List U} {vs:List V} {H:Hp} {M:aE} (m:M a=none/\H a=some (.tup vs)) (r:aJ K H M us vs):Walk K (Pf K a) ⟨none,us⟩ H M:=by
 have sq:∀ H1 M1,aS H M H1 M1->fH K H1 a vs:=fun H1 M1 s=>by
  exact .inl (.inl (s.to m.2 m.1).1)
 refine ⟨fun H1 M1 s rm _ i u e=>?_,fun H1 M1 s rm _=>⟨vs,sq H1 M1 s,by rw [r.length];exact Nat.le_refl _⟩⟩
 obtain ⟨v,e2,ru⟩:=r.get e
 refine ⟨⟨vs,v,sq H1 M1 s,e2⟩,fun x H2 y=>?_⟩
 obtain ⟨rfl,y⟩:=y
 have:=y vs (sq _ M1 s)
 rw [e2] at this;cases this
 exact ⟨aS.refl _ _,rm,ru.stp s⟩
theorem KU {a:Addr} {us:List U} {H:Hp} {M:aE}:Walk K (Mg K a) ⟨some a,us⟩ H M:=by
 refine ⟨fun H1 M1 s rm ok i u e=>?_,fun H1 M1 s rm ok=>?_⟩
 ·obtain ⟨vs,h1,r⟩:=rm a _ (ok a rfl)
  obtain ⟨v,e2,ru⟩:=r.get e
  refine ⟨⟨vs,v,.inl (.inl h1),e2⟩,fun x H2 y=>?_⟩
  obtain ⟨rfl,y⟩:=y
  have:=y vs (.inl (.inl h1))
  rw [e2] at this;cases this
  exact ⟨aS.refl _ _,rm,ru⟩
 ·obtain ⟨vs,h1,r⟩:=rm a _ (ok a rfl)
  exact ⟨vs,.inl (.inl h1),by rw [r.length];exact Nat.le_refl _⟩
noncomputable def OU (z:Str):It:=⟨fun i _=>i < z.cps.size,fun i H x H'=>H'=H/\∃ c,z.cps[i]?=some c/\x=.str ⟨#[c]⟩,fun i _=>i=z.cps.size⟩
noncomputable def chars (z:Str):List U:=z.cps.toList.map fun c=>.str ⟨#[c]⟩
theorem K5 {z:Str} {H:Hp} {M:aE}:Walk K (OU z) ⟨none,chars z⟩ H M:=by
 refine ⟨fun H1 M1 s rm _ i u e=>?_,fun H1 M1 s rm _=>?_⟩
 ·have hi:i < z.cps.size:=by
   have:=(List.getElem?_eq_some_iff.mp e).1
   simpa [chars] using this
  refine ⟨hi,fun x H2 y=>?_⟩
  obtain ⟨rfl,c,h1,rfl⟩:=y
  have:u=.str ⟨#[c]⟩:=by
   simp only [chars,List.getElem?_map,Array.getElem?_toList,h1,Option.map_some] at e
   exact (Option.some.inj e).symm
  subst this
  exact ⟨aS.refl _ _,rm,nH⟩
 ·show (chars z).length=z.cps.size
  simp [chars]
noncomputable def Q7 (K:PySem.W.Frag) (tl:TE):TI:=fun σ H R=>tl σ H fun x H1 =>
 (∃ a,x=.ref a/\(∃ xs,eC K H1 a xs)/\R (Mg K a) H1)\/(∃ a,x=.ref a/\(∃ xs,fH K H1 a xs)/\R (Pf K a) H1)\/(∃ z,x=.str z/\R (OU z) H1)
def qV (te:UE):UI:=fun τ M R=>te τ M fun u M1=>match u with
 | .lst us=>R ⟨none,us⟩ M1
 | .tup us=>R ⟨none,us⟩ M1
 | .str z=>R ⟨none,chars z⟩ M1
 | .ref a=>match M1 a with
  | some (.lst us)=>R ⟨some a,us⟩ M1
  | _=>False
 | _=>False
theorem Kb {te:TE} {te':UE} (h:cF K te te'):rJ K (Q7 K te) (qV te'):=fun σ τ H M R' rs rm q R c=>h σ τ H M _ rs rm q _ fun u v M1 H1 s1 rm1 ru h1=>by
 cases u with
 | lst us =>
  simp only [aK] at ru
  obtain ⟨a,vs,rfl,m,r⟩:=ru
  refine .inl ⟨a,rfl,⟨vs,?_⟩,c _ _ M1 H1 s1 rm1 (Ju m r) h1⟩
  rcases m with ⟨_,m⟩ | k
  ·exact .inl m
  ·exact .inr k
 | tup us =>
  simp only [aK] at ru
  obtain ⟨a,vs,rfl,m,r⟩:=ru
  refine .inr (.inl ⟨a,rfl,⟨vs,?_⟩,c _ _ M1 H1 s1 rm1 (Kz m r) h1⟩)
  exact .inl (.inl m.2)
 | str z=>exact .inr (.inr ⟨z,ru.str,c _ _ M1 H1 s1 rm1 K5 h1⟩)
 | ref a =>
  dsimp only at h1
  split at h1
  ·rename_i us e
   obtain ⟨vs,h2,r⟩:=rm1 a _ e
   exact .inl ⟨a,ru.ref,⟨vs,.inl (.inl h2)⟩,c _ _ M1 H1 s1 rm1 KU h1⟩
  ·exact h1.elim
 | _=>exact h1.elim
noncomputable def iR (lo:Int) (n:Nat):List U:=(List.range n).map fun (k:Nat)=>U.int (lo + (k:Int))
theorem GX {lo:Int} {n:Nat} {H:Hp} {M:aE}:Walk K (BX lo n) ⟨none,iR lo n⟩ H M:=by
 refine ⟨fun H1 M1 s rm _ i u e=>?_,fun H1 M1 s rm _=>?_⟩
 ·have hi:i < n:=by
   have:=(List.getElem?_eq_some_iff.mp e).1
   simpa [iR] using this
  refine ⟨hi,fun x H2 y=>?_⟩
  obtain ⟨rfl,rfl⟩:=y
  have:u=.int (lo + i):=by
   simp only [iR,List.getElem?_map,List.getElem?_range hi,Option.map_some] at e
   exact (Option.some.inj e).symm
  subst this
  exact ⟨aS.refl _ _,rm,fE⟩
 ·show n<=(iR lo n).length
  simp [iR]
def qO (ta:UA):UI:=fun τ M R=>ta τ M fun us M1=>match us with
 | [.int j]=>-(2 ^ 62)<=j/\j < 2 ^ 62/\R ⟨none,iR 0 j.toNat⟩ M1
 | _=>False
def wM (ta:UA):UI:=fun τ M R=>ta τ M fun us M1=>match us with
 | [.int i,.int j]=>(-(2 ^ 62)<=i/\i < 2 ^ 62/\-(2 ^ 62)<=j/\j < 2 ^ 62)/\R ⟨none,iR i (j - i).toNat⟩ M1
 | _=>False
theorem JV {ta:TA} {ta':UA} (h:lH K ta ta'):rJ K (L8 ta) (qO ta'):=fun σ τ H M R' rs rm q R c=>h σ τ H M _ rs rm q _ fun us vs M1 H1 s1 rm1 ru h1=>by
 split at h1
 ·rename_i j
  obtain ⟨v,vs',rfl,a,b⟩:=ru.inv_cons
  cases b.inv_nil
  cases a.int
  exact ⟨j,rfl,h1.1,h1.2.1,c _ _ M1 H1 s1 rm1 GX h1.2.2⟩
 ·exact h1.elim
abbrev dB:=List U->aE->UK->Prop
noncomputable def jF (K:PySem.W.Frag) (sp:dB):Sp:=fun vs H Q _=>∃ us M Q',RelM K H M/\aJ K H M us vs/\sp us M Q'/\d7 K H M Q' Q
def qS (sp:dB) (dus:List U) (t:UA):UE:=fun τ M Q=>t τ M fun us M1=>sp (us++dus) M1 Q
theorem Ln {sp:dB} {dus:List U} {dvs:List V} {E:XK} {t:TA} {t':UA} (hd:∀ H M,aJ K H M dus dvs) (h:lH K t t'):cF K (Gd (jF K sp) dvs E t) (qS sp dus t'):=fun σ τ H M Q' rs rm q Q c =>
 h σ τ H M _ rs rm q _ fun us vs M1 H1 s1 rm1 ru h1=>⟨us++dus,M1,Q',rm1,ru.append (hd _ _),h1,d7.stp c s1⟩
noncomputable def Sub (M' M1:aE):Prop:=∀ b mo,M' b=some mo->M1 b=some mo
theorem Sub.refl (M:aE):Sub M M:=fun _ _ h=>h
theorem Sub.mup {M M1:aE} {p:Addr} {o:MO} (h:Sub M M1) (hp:M p=none):Sub M (mup M1 p o):=fun b mo e=>by
 have:b≠p:=fun z=>by subst z;rw [hp] at e;cases e
 rw [aM this];exact h b mo e
theorem Sub.less {M M1:aE} (h:Sub M M1) {H:Hp}:aS H M1 H M:=aS.less fun b e=>by
 cases q:M b with
 | none=>rfl
 | some mo=>rw [h b mo q] at e;cases e
theorem RelM.sub {H:Hp} {M M1:aE} (rm:RelM K H M1) (h:Sub M M1):RelM K H M:=fun a mo e=>(rm a mo (h a mo e)).stp (fun b q z=>h b _ z) (h.less) rfl
noncomputable def Out (M1 M':aE) (u u':U):Prop:=u'=u\/∃ a us,u=.ref a/\M1 a=some (.lst us)/\M' a=none/\u'=.lst us
def sJ (Q:UK):UK:=fun u M1=>∃ u' M',Sub M' M1/\Out M1 M' u u'/\Q u' M'
theorem sJ.ok {H H1:Hp} {M M1:aE} {Q':UK} {Q:VK} {u:U} {v:V} (c:d7 K H M Q' Q) (s:aS H M H1 M1) (rm:RelM K H1 M1) (ru:aK K H1 M1 u v) (h:sJ Q' u M1):Q v H1:=by
 obtain ⟨u',M',sb,o,q⟩:=h
 have s':aS H1 M1 H1 M':=sb.less
 refine c u' v M' H1 (s.trans s') (rm.sub sb) ?_ q
 rcases o with rfl | ⟨a,us,rfl,h1,h2,rfl⟩
 ·exact ru.stp s'
 ·obtain ⟨vs,h3,h4⟩:=rm a _ h1
  cases ru.ref
  exact yU h2 h3 (h4.stp s')
noncomputable def iM (N:List Str) (us:List U):SU:=us.map some++List.replicate (N.length - us.length) none
noncomputable def IB (M:aE) (x:U):Prop:=∃ us,view M x=.lst us
noncomputable def Ab (r:U->List U->aE->UK->Prop) (to:UE) (t:UA):UE:=fun τ M Q=>to τ M fun x M1=>IB M1 x/\t τ M1 fun xs M2=>r x xs M2 Q
def wA (r:U->List U->aE->UK->Prop) (to:UE):UE:=fun τ M Q=>to τ M fun x M1=>IB M1 x/\r x [] M1 Q
theorem IB.ty {H:Hp} {M:aE} {u:U} {v:V} (rm:RelM K H M) (ru:aK K H M u v) (h:IB M u):MA K "list" v H:=by
 obtain ⟨us,h⟩:=h
 obtain ⟨a,vs,rfl,s,_⟩:=eO rm ru h
 exact .inl ⟨rfl,vs,s⟩
theorem Hx {r:V->List V->Hp->VK->Prop} {r':U->List U->aE->UK->Prop} {to:TE} {to':UE} {t:TA} {t':UA} (hr:zI K r r') (ho:cF K to to') (h:lH K t t') :
  cF K (Sa K "list" r to t) (Ab r' to' t'):=fun σ τ H M Q' rs rm q Q c =>
 ho σ τ H M _ rs rm q _ fun u v M1 H1 s1 rm1 ru h1=>⟨h1.1.ty rm1 ru,h σ τ H1 M1 _ (rs.stp s1) rm1 h1.2 _ fun us vs M2 H2 s2 rm2 rus h2=>hr v vs u us H2 M2 Q' rm2 (ru.stp s2) rus h2 Q (d7.stp c (s1.trans s2))⟩
theorem NJ {r:V->List V->Hp->VK->Prop} {r':U->List U->aE->UK->Prop} {to:TE} {to':UE} (hr:zI K r r') (ho:cF K to to') :
  cF K (QU K "list" r to) (wA r' to'):=fun σ τ H M Q' rs rm q Q c =>
 ho σ τ H M _ rs rm q _ fun u v M1 H1 s1 rm1 ru h1=>⟨h1.1.ty rm1 ru,hr v [] u [] H1 M1 Q' rm1 ru .nil h1.2 Q (d7.stp c s1)⟩
theorem d7.write {H:Hp} {M:aE} {Q':UK} {Q:VK} {a:Addr} {us us':List U} {xs':List V} {r:U} {v:V} (c:d7 K H M Q' Q) (rm:RelM K H M) (e:M a=some (.lst us)) (r1:aJ K H M us' xs') (r2:aK K H M r v) (q:Q' r (mup M a (.lst us'))):Q v (upd H a (.lst xs')):=by
 have st:aS H M (upd H a (.lst xs')) (mup M a (.lst us')):=aS.write e
 exact c _ _ _ _ st (rm.put st ⟨xs',cK,r1.stp st⟩) (r2.stp st) q
noncomputable def k7:U->List U->aE->UK->Prop:=fun x ws M Q=>match x,ws with
 | .ref a,[w]=>match M a with
  | some (.lst us)=>us.length < sizeLine/\Q .non (mup M a (.lst (us++[w])))
  | _=>False
 | _,_=>False
theorem FT:zI K Fd k7:=fun x xs u us H M Q' rm ru rus h Q c=>by
 unfold k7 at h
 split at h
 ·rename_i a w
  split at h
  ·rename_i ws e
   obtain ⟨vs,h1,r⟩:=rm a _ e
   obtain ⟨v,vs',rfl,a1,b⟩:=rus.inv_cons
   cases b.inv_nil
   cases ru.ref
   exact ⟨a,vs,v,rfl,rfl,h1,by rw [<- r.length];exact h.1,c.write rm e (r.append (.cons a1 .nil)) nA h.2⟩
  ·exact h.elim
 ·exact h.elim
def tZ:U->List U->aE->UK->Prop:=fun x ws M Q=>match x,ws with
 | .ref a,[]=>match M a with
  | some (.lst us)=>match us.getLast? with
   | some w=>Q w (mup M a (.lst us.dropLast))
   | none=>False
  | _=>False
 | _,_=>False
theorem N8:zI K Qh tZ:=fun x xs u us H M Q' rm ru rus h Q c=>by
 unfold tZ at h
 split at h
 ·rename_i a
  split at h
  ·rename_i ws e
   split at h
   ·rename_i w e2
    obtain ⟨vs,h1,r⟩:=rm a _ e
    cases rus.inv_nil
    cases ru.ref
    rw [List.getLast?_eq_getElem?] at e2
    obtain ⟨v,h3,h4⟩:=r.get e2
    exact ⟨a,vs,v,rfl,rfl,h1,by rw [<- r.length];exact h3,c.write rm e r.dropLast h4 h⟩
   ·exact h.elim
  ·exact h.elim
 ·exact h.elim
noncomputable def C8 (K:PySem.W.Frag):V->List V->Hp->VK->Prop:=fun x vs H Q=>∃ l b xs zs,x=.ref l/\vs=[.ref b]/\H l=some (.lst xs)/\eC K H b zs/\xs.length + zs.length<=sizeLine/\Q .non (upd H l (.lst (xs++zs)))
noncomputable def kW:U->List U->aE->UK->Prop:=fun x ws M Q=>match x,ws with
 | .ref a,[w]=>match M a,view M w with
  | some (.lst us),.lst zs=>us.length + zs.length<=sizeLine/\Q .non (mup M a (.lst (us++zs)))
  | _,_=>False
 | _,_=>False
theorem Gb:zI K (C8 K) kW:=fun x xs u us H M Q' rm ru rus h Q c=>by
 unfold kW at h
 split at h
 ·rename_i a w
  split at h
  ·rename_i ws zs e e2
   obtain ⟨vs,h1,r⟩:=rm a _ e
   obtain ⟨v,vs',rfl,a1,b⟩:=rus.inv_cons
   cases b.inv_nil
   cases ru.ref
   obtain ⟨b,zvs,rfl,s2,r2⟩:=eO rm a1 e2
   exact ⟨a,b,vs,zvs,rfl,rfl,h1,s2,by rw [<- r.length,<- r2.length];exact h.1,c.write rm e (r.append r2) nA h.2⟩
  ·exact h.elim
 ·exact h.elim
def rP:U->List U->aE->UK->Prop:=fun x ws M Q=>match x,ws with
 | .ref a,[]=>match M a with
  | some (.lst us)=>Q .non (mup M a (.lst []))
  | _=>False
 | _,_=>False
def uM:List U->aE->UK->Prop:=fun us M Q=>match us with
 | [x]=>match view M x with
  | .lst ws=>Q (.int ws.length) M
  | .tup ws=>Q (.int ws.length) M
  | .str z=>z.length<=sizeLine/\Q (.int z.length) M
  | _=>False
 | _=>False
theorem NP:zW K (fun xs H Q=>∃ x n,xs=[x]/\QX K x H n/\Q (.int n) H) uM:=fun xs us H M Q' rm rus h Q c=>by
 unfold uM at h
 split at h
 ·rename_i x
  obtain ⟨v,vs',rfl,a1,b⟩:=rus.inv_cons
  cases b.inv_nil
  split at h
  ·rename_i ws e
   obtain ⟨b,zvs,rfl,s2,r2⟩:=eO rm a1 e
   exact ⟨_,zvs.length,rfl,.inl ⟨zvs,s2,rfl⟩,c.here rm fE (by rw [<- r2.length];exact h)⟩
  ·rename_i ws e
   have e':=p5 e
   subst e'
   obtain ⟨b,zvs,rfl,s2,r2⟩:=a1.tup
   exact ⟨_,zvs.length,rfl,.inr ⟨zvs,s2,rfl⟩,c.here rm fE (by rw [<- r2.length];exact h)⟩
  ·rename_i z e
   have e':=yO e
   subst e'
   cases a1.str
   exact ⟨_,z.length,rfl,⟨h.1,rfl⟩,c.here rm fE h.2⟩
  ·exact h.elim
 ·exact h.elim
def wG (C:Int->Prop) (g:Int->U):List U->aE->UK->Prop:=fun us M Q=>match us with
 | [.int i]=>C i/\Q (g i) M
 | _=>False
def w4 (g:Int->Int->U):List U->aE->UK->Prop:=fun us M Q=>match us with
 | [.int i,.int j]=>Q (g i j) M
 | _=>False
theorem aJ.one {H:Hp} {M:aE} {u:U} {vs:List V} (h:aJ K H M [u] vs):∃ v,vs=[v]/\aK K H M u v:=by
 obtain ⟨v,vs',rfl,a1,b⟩:=h.inv_cons
 cases b.inv_nil
 exact ⟨v,rfl,a1⟩
def oQ (o:Bool):List U->aE->UK->Prop:=fun us M Q=>match us with
 | [x]=>match view M x with
  | .lst ws=>iL o ws M Q
  | .tup ws=>iL o ws M Q
  | _=>False
 | _=>False
def mG:List U->aE->UK->Prop:=fun us M Q=>match us with
 | [x]=>match view M x with
  | .lst ws=>Q (.tup ws) M
  | .tup ws=>Q (.tup ws) M
  | _=>False
 | _=>False
theorem Kr {o:Bool}:zW K (fun xs H Q=>∃ p ys,xs=[.ref p]/\(eC K H p ys\/fH K H p ys)/\∀ l,H l=none->Q (.ref l) (upd H l (.lst ys))) (oQ o):=fun xs us H M Q' rm rus h Q c=>by
 unfold oQ at h
 split at h
 ·rename_i x
  obtain ⟨v,rfl,a1⟩:=rus.one
  split at h
  ·rename_i ws e
   obtain ⟨b,zvs,rfl,s2,r2⟩:=eO rm a1 e
   exact ⟨b,zvs,rfl,.inl s2,fun l hl=>c.lst rm r2 hl h⟩
  ·rename_i ws e
   have e':=p5 e
   subst e'
   obtain ⟨b,zvs,rfl,s2,r2⟩:=a1.tup
   exact ⟨b,zvs,rfl,.inr s2,fun l hl=>c.lst rm r2 hl h⟩
  ·exact h.elim
 ·exact h.elim
theorem Ho:zW K (fun xs H Q=>∃ p ys,xs=[.ref p]/\((eC K H p ys/\∀ l,H l=none->Q (.ref l) (upd H l (.tup ys)))\/(fH K H p ys/\Q (.ref p) H))) mG:=fun xs us H M Q' rm rus h Q c=>by
 unfold mG at h
 split at h
 ·rename_i x
  obtain ⟨v,rfl,a1⟩:=rus.one
  split at h
  ·rename_i ws e
   obtain ⟨b,zvs,rfl,s2,r2⟩:=eO rm a1 e
   exact ⟨b,zvs,rfl,.inl ⟨s2,fun l hl=>c.tup rm r2 hl h⟩⟩
  ·rename_i ws e
   have e':=p5 e
   subst e'
   have a2:=a1
   obtain ⟨b,zvs,rfl,s2,r2⟩:=a1.tup
   exact ⟨b,zvs,rfl,.inr ⟨s2,c.here rm a2 h⟩⟩
  ·exact h.elim
 ·exact h.elim
noncomputable def yB (M:aE) (x:U):Option String:=match x with
 | .non=>some "NoneType"
 | .bl _=>some "bool"
 | .int _=>some "int"
 | .str _=>some "str"
 | .tup _=>some "tuple"
 | .lst _=>some "list"
 | .ref a=>match M a with
  | some (.lst _)=>some "list"
  | some (.dK _)=>some "dict"
  | some (.dT _)=>some "dict"
  | _=>none
 | .dic _ _ _=>some "dict"
 | .ty _=>none
noncomputable def IZ:U->U->Option Bool
 | .non,.non=>some true
 | .non,.int _=>some false | .int _,.non=>some false | .non,.bl _=>some false | .bl _,.non=>some false | .non,.str _=>some false | .str _,.non=>some false
 | .int i,.int j=>some (decide (i=j))
 | .bl i,.bl j=>some (decide (i=j))
 | .str i,.str j=>some (decide (i=j))
 | .int _,.str _=>some false | .str _,.int _=>some false | .bl _,.str _=>some false | .str _,.bl _=>some false
 | _,_=>none
noncomputable def Bp:eB:=fun x y M Q=>match IZ x y with
 | some b=>Q (.bl b) M
 | none=>False
noncomputable def AR:eB:=fun x y M Q=>match IZ x y with
 | some b=>Q (.bl (!b)) M
 | none=>False
theorem E3 {H:Hp} {M:aE} {x y:V} {u w:U} {b:Bool} (ru:aK K H M u x) (rw:aK K H M w y) (h:IZ u w=some b):Hd x y=true/\decide (x=y)=b:=by
 cases u <;> cases w <;> simp only [IZ,Option.some.injEq,reduceCtorEq] at h <;> subst h <;>
  (first
   | (cases ru.non) | (cases ru.bl) | (cases ru.int) | (cases ru.str)) <;>
  (first
   | (cases rw.non) | (cases rw.bl) | (cases rw.int) | (cases rw.str)) <;> simp [Hd]
noncomputable def gT:U->Bool
 | .non=>true
 | _=>false
def t4:eB:=fun x y M Q=>match y with
 | .non=>Q (.bl (gT x)) M
 | _=>False
def oG:eB:=fun x y M Q=>match y with
 | .non=>Q (.bl (!gT x)) M
 | _=>False
theorem E1 {H:Hp} {M:aE} {x:V} {u:U} (ru:aK K H M u x):decide (x=.non)=gT u:=by
 cases u with
 | non=>cases ru.non;simp [gT]
 | bl b=>cases ru.bl;simp [gT]
 | int b=>cases ru.int;simp [gT]
 | str b=>cases ru.str;simp [gT]
 | ty b=>cases ru.ty;simp [gT]
 | ref b=>cases ru.ref;simp [gT]
 | tup b=>obtain ⟨a,vs,rfl,_⟩:=ru.tup;simp [gT]
 | lst b=>obtain ⟨a,vs,rfl,_⟩:=ru.lst;simp [gT]
 | dic ks tk us=>simp only [aK] at ru;obtain ⟨a,vs,rfl,_⟩:=ru;simp [gT]
theorem Od:eA K (fun x y H Q=>y=.non/\Q (.bl (decide (x=.non))) H) t4:=fun x y u w H M Q' rm ru rw h Q c=>by
 unfold t4 at h
 split at h
 ·exact ⟨rw.non,c.here rm (by rw [E1 ru];exact fA) h⟩
 ·exact h.elim
theorem KS:eA K (fun x y H Q=>y=.non/\Q (.bl (!decide (x=.non))) H) oG:=fun x y u w H M Q' rm ru rw h Q c=>by
 unfold oG at h
 split at h
 ·exact ⟨rw.non,c.here rm (by rw [E1 ru];exact fA) h⟩
 ·exact h.elim
end
end U2
namespace U2
open PySem L2
noncomputable def cY {α:Type} (k:Nat) (ix:List Nat) (σ:List (Option α)):List (Option α):=List.replicate k none++ix.map fun i=>(σ[i]?).getD none
def wK (k:Nat) (ix:List Nat) (wi:TI) (g:TG) (tc:TT) (te:TE):TE:=fun σ H Q=>wi σ H fun J H1=>∀ D,H1 D=none->∃ W:Nat->Nat->Hp->Prop,(∃ m,W 0 m (upd H1 D (.lst [])))/\∀ i m H,W i m H ->
 (J.stop i H/\Q (.ref D) H)\/(J.go i H/\∀ x H',J.yld i H x H'->g x (cY k ix σ) H' fun σ2 H2=>tc σ2 H2 fun ok H3 =>
  if ok=true then te σ2 H3 fun y H4=>∃ ys,H4 D=some (.lst ys)/\ys.length < sizeLine/\∃ m',m' < m/\W (i + 1) m' (upd H4 D (.lst (ys++[y]))) else ∃ m',m' < m/\W (i + 1) m' H3)
noncomputable def Pe (o:Bool) (Q:UK) (D:Addr) (ys:List U) (M:aE):Prop:=match o with
 | true=>Q (.ref D) M
 | false=>∃ M',Sub M' M/\M' D=none/\Q (.lst ys) M'
def qQ (o:Bool) (k:Nat) (ix:List Nat) (wi:UI) (g:UG) (tc:UT) (te:UE):UE:=fun τ M Q=>wi τ M fun S M1=>S.xs.length<=sizeLine/\∀ D,M1 D=none->∃ P:Nat->List U->aE->Prop,P 0 [] (mup M1 D (.lst [])) /\
 (∀ i ys M,P i ys M->S.ok M/\M D=some (.lst ys)/\ys.length<=i) /\
 (∀ i x ys M,S.xs[i]?=some x->P i ys M->g x (cY k ix τ) M fun τ2 M2=>tc τ2 M2 fun ok M3=>if ok=true then te τ2 M3 fun y M4=>M4 D=some (.lst ys)/\P (i + 1) (ys++[y]) (mup M4 D (.lst (ys++[y]))) else P (i + 1) ys M3) /\
 ∀ ys M,P S.xs.length ys M->Pe o Q D ys M
section
variable {K:PySem.W.Frag}
theorem Kn {H:Hp} {M:aE} {σ:St} {τ:SU} (k:Nat) (ix:List Nat) (r:eK K H M σ τ):eK K H M (cY k ix σ) (cY k ix τ):=by
 refine ⟨by simp [cY],fun i u e=>?_⟩
 unfold cY at e ⊢
 by_cases hi:i < k
 ·rw [List.getElem?_append_left (by simpa using hi),List.getElem?_replicate] at e
  split at e <;> cases e
 ·rw [List.getElem?_append_right (by simpa using Nat.le_of_not_lt hi),List.getElem?_map] at e ⊢
  simp only [List.length_replicate] at e ⊢
  cases q:ix[i - k]? with
  | none=>rw [q] at e;cases e
  | some j =>
   rw [q] at e
   simp only [Option.map_some,Option.some.injEq] at e ⊢
   cases z:τ[j]? with
   | none=>rw [z] at e;cases e
   | some w =>
    rw [z] at e
    simp only [Option.getD_some] at e
    subst e
    obtain ⟨v,h1,h2⟩:=r.2 j u z
    exact ⟨v,by rw [h1];rfl,h2⟩
theorem x8 {o:Bool} {k:Nat} {ix:List Nat} {wi:TI} {wi':UI} {g:TG} {g':UG} {tc:TT} {tc':UT} {te:TE} {te':UE} (hi:rJ K wi wi') (hg:xV K g g') (hc:kI K tc tc') (he:cF K te te') :
  cF K (wK k ix wi g tc te) (qQ o k ix wi' g' tc' te'):=fun σ τ H M Q' rs rm h Q c=>by
 refine hi σ τ H M _ rs rm h _ fun J S M1 H1 s1 rm1 w h=>?_
 obtain ⟨hz,h⟩:=h
 intro D hD
 obtain ⟨P,p0,inv,turn,fin⟩:=h D (rm1.no hD)
 have sD:aS H1 M1 (upd H1 D (.lst [])) (mup M1 D (.lst [])):=aS.own rm1 hD
 have rmD:RelM K (upd H1 D (.lst [])) (mup M1 D (.lst [])):=rm1.put sD ⟨[],cK,.nil⟩
 refine ⟨fun i m H2=>∃ M2 ys,aS H1 M1 H2 M2/\RelM K H2 M2/\P i ys M2/\i<=S.xs.length/\m=S.xs.length - i,⟨_,_,[],sD,rmD,p0,Nat.zero_le _,rfl⟩,?_⟩
 rintro i m H2 ⟨M2,ys,s2,rm2,p2,hle,rfl⟩
 obtain ⟨ok2,d2,l2⟩:=inv i ys M2 p2
 by_cases hlt:i < S.xs.length
 ·obtain ⟨go,yl⟩:=w.step H2 M2 s2 rm2 ok2 i S.xs[i] (by simp [hlt])
  refine .inr ⟨go,fun x H3 y=>?_⟩
  obtain ⟨s3,rm3,ru⟩:=yl x H3 y
  have rs3:eK K H3 M2 (cY k ix σ) (cY k ix τ):=Kn k ix (((rs.stp s1).stp s2).stp s3)
  refine hg _ x _ _ H3 M2 _ ru rs3 rm3 (turn i S.xs[i] ys M2 (by simp [hlt]) p2) _ fun σ4 τ4 H4 M4 s4 rm4 rs4 q4=>?_
  refine hc σ4 τ4 H4 M4 _ rs4 rm4 q4 _ fun b M5 H5 s5 rm5 q5=>?_
  have s25:aS H1 M1 H5 M5:=((s2.trans s3).trans s4).trans s5
  cases b with
  | false =>
   exact ⟨S.xs.length - (i + 1),by omega,M5,ys,s25,rm5,q5,hlt,rfl⟩
  | true =>
   refine he σ4 τ4 H5 M5 _ (rs4.stp s5) rm5 q5 _ fun u v M6 H6 s6 rm6 ru6 q6=>?_
   obtain ⟨d6,p6⟩:=q6
   obtain ⟨vs,h6,r6⟩:=rm6 D _ d6
   have l6:vs.length < sizeLine:=by rw [<- r6.length];omega
   have s7:aS H6 M6 (upd H6 D (.lst (vs++[v]))) (mup M6 D (.lst (ys++[u]))):=aS.write d6
   exact ⟨vs,h6,l6,S.xs.length - (i + 1),by omega,_,ys++[u],(s25.trans s6).trans s7,rm6.put s7 ⟨_,cK,(r6.append (.cons ru6 .nil)).stp s7⟩,p6,hlt,rfl⟩
 ·have e:i=S.xs.length:=by omega
  subst e
  refine .inl ⟨w.stop H2 M2 s2 rm2 ok2,?_⟩
  have q:=fin ys M2 p2
  cases o with
  | true=>exact c _ _ M2 H2 (s1.trans s2) rm2 m6 q
  | false =>
   obtain ⟨M',sb,n,q⟩:=q
   obtain ⟨vs,h6,r6⟩:=rm2 D _ d2
   have s':aS H2 M2 H2 M':=sb.less
   exact c _ _ M' H2 ((s1.trans s2).trans s') (rm2.sub sb) (yU n h6 (r6.stp s')) q
end
theorem JQ {o:Bool} {k:Nat} {ix:List Nat} {wi:UI} {g:UG} {tc:UT} {te:UE} {τ:SU} {M1:aE} {Q:UK} {S:Src} (f:U->Option U) (hz:S.xs.length<=sizeLine) (hs:S.ok M1)
  (h:∀ x∈S.xs,∀ M,Sub M1 M->∀ R:Option U->aE->Prop,R (f x) M->g x (cY k ix τ) M fun τ2 M2=>tc τ2 M2 fun ok M3=>if ok=true then te τ2 M3 fun y M4=>R (some y) M4 else R none M3)
  (q:iL o (S.xs.filterMap f) M1 Q):S.xs.length<=sizeLine/\∀ D,M1 D=none->∃ P:Nat->List U->aE->Prop,P 0 [] (mup M1 D (.lst [])) /\
 (∀ i ys M,P i ys M->S.ok M/\M D=some (.lst ys)/\ys.length<=i) /\
 (∀ i x ys M,S.xs[i]?=some x->P i ys M->g x (cY k ix τ) M fun τ2 M2=>tc τ2 M2 fun ok M3=>if ok=true then te τ2 M3 fun y M4=>M4 D=some (.lst ys)/\P (i + 1) (ys++[y]) (mup M4 D (.lst (ys++[y]))) else P (i + 1) ys M3) /\
 ∀ ys M,P S.xs.length ys M->Pe o Q D ys M:=by
 refine ⟨hz,fun D hD=>⟨fun i ys M=>ys=(S.xs.take i).filterMap f/\M=mup M1 D (.lst ys)/\i<=S.xs.length,⟨by simp,rfl,Nat.zero_le _⟩,?_,?_,?_⟩⟩
 ·rintro i ys M ⟨rfl,rfl,hi⟩
  refine ⟨fun a e=>?_,aG,?_⟩
  ·have:=hs a e
   rw [aM (fun z=>by subst z;rw [hD] at this;cases this)]
   exact this
  ·refine Nat.le_trans (List.length_filterMap_le _ _) ?_
   rw [List.length_take];omega
 ·rintro i x ys M e ⟨rfl,rfl,hi⟩
  have hlt:i < S.xs.length:=(List.getElem?_eq_some_iff.mp e).1
  have hx:x∈S.xs:=List.mem_of_getElem? e
  have tk:(S.xs.take (i + 1)).filterMap f=(S.xs.take i).filterMap f++(f x).toList:=by
   rw [List.take_add_one,e,List.filterMap_append]
   cases q:f x <;> simp [q]
  refine h x hx (mup M1 D (.lst ((S.xs.take i).filterMap f))) ((Sub.refl M1).mup hD) (fun r M4=>match r with
   | some y=>M4 D=some (.lst ((S.xs.take i).filterMap f))/\((S.xs.take i).filterMap f++[y]=(S.xs.take (i + 1)).filterMap f/\mup M4 D (.lst ((S.xs.take i).filterMap f++[y]))=mup M1 D (.lst ((S.xs.take i).filterMap f++[y]))/\i + 1<=S.xs.length)
   | none=>(S.xs.take i).filterMap f=(S.xs.take (i + 1)).filterMap f/\M4=mup M1 D (.lst ((S.xs.take i).filterMap f))/\i + 1<=S.xs.length) ?_
  rw [tk]
  cases f x with
  | none=>exact ⟨by simp,rfl,hlt⟩
  | some y=>exact ⟨aG,rfl,bN,hlt⟩
 ·rintro ys M ⟨rfl,rfl,hi⟩
  rw [List.take_length]
  cases o with
  | true=>exact q D hD
  | false=>exact ⟨M1,(Sub.refl M1).mup hD,hD,q⟩
end U2
namespace U2
open PySem PySem.Spec PyProof.Rows L2
theorem Di {P:Program} {w:World} {K:PySem.W.Frag} {tg:Expr} {ty:String} (z:Str) (t:Tok) (it:Addr)
  (W:∀ A':Around,A'.handled=none->Walks P w A' it [it] [it] z.cps.size (SignAt z) (fun i h=>h.IsStrIter it ty z t i))
  (hty:["enumerate","zip","dict_itemiterator","dict_reverseitemiterator","odict_iterator","itertools.zip_longest","itertools.pairwise"].contains ty=false)
  (self:∀ (A:Around) (i:Nat) (s:Shared) (Q:Value->Shared->Prop) (E:Value->Shared->Prop),s.heap.IsStrIter it ty z t i->Q (.ref it) s->wpAny (model P w) A (pyIter (.ref it)) Q E s) :
  Turn P w K tg (OU z) [it] it (fun i h=>h.IsStrIter it ty z t i) where
 mem:=by simp
 obj:=fun i h st b hb=>by
  have e:b=it:=by simpa using hb
  subst e
  obtain ⟨o,e,c,d⟩:=st
  exact ⟨o,e,fun v z=>by rw [d] at z;cases z⟩
 keep:=fun i h h' st k=>let ⟨o,ho,r⟩:=st;⟨o,k it (by simp) o ho,r⟩
 item:=by
  intro X hP hw hK hc i pins s σ H E I hf st hg
  subst hP hw hK
  obtain ⟨f0,f1,f2,f3,f4,f5⟩:=hf it (by simp)
  refine (W X.A (I.ok.hd hc)).item i s _ E hg st fun v h' tk hv st' k=>?_
  obtain ⟨c,u,hc',rfl⟩:=hv
  have I1:Inv X pins σ H { s with heap:=h',toks:=tk }:=I.turned (t':=tk) (fun b o hb e=>k b o (by simpa using hb) e) f0 f1 f3 f4 f5
  obtain ⟨o,e,cl,d⟩:=id st'
  exact ⟨_,rfl,AF (s:={ s with heap:=h',toks:=tk }) e cl d hty ⟨.str ⟨#[c]⟩,H,I1,⟨_,rfl⟩,⟨rfl,c,hc',rfl⟩,st',fun b hb=>(hf b hb).1⟩⟩
 done:=by
  intro X hP hw hK hc i pins s σ H E I hf st hg
  subst hP hw hK
  have hg':i=z.cps.size:=hg
  subst hg'
  obtain ⟨f0,f1,f2,f3,f4,f5⟩:=hf it (by simp)
  exact (W X.A (I.ok.hd hc)).done s _ E st fun h' tk k=>⟨rfl,I.turned (t':=tk) (fun b o hb e=>k b o (by simpa using hb) e) f0 f1 f3 f4 f5⟩
 self:=self
section
variable {X:Cx} {tg:Expr}
theorem PJ {l:Expr} {tl:TE} (hl:PE X l tl):PI X tg l (Q7 X.K tl):=by
 intro pins s σ H R I h
 refine bF (hl pins s σ H _ I h) fun v s1 ⟨x,H1,I1,r1,q1⟩=>?_
 have fp:∀ b∈[s1.heap.objs.size],rE X pins H1 b:=fun b hb=>by
  have e:b=s1.heap.objs.size:=by simpa using hb
  subst e
  exact I1.fpOk (Nat.le_refl _) (I1.hok.fresh (Nat.le_refl _))
 rcases q1 with ⟨a,rfl,⟨xs,hq⟩,q⟩ | ⟨a,rfl,⟨xs,hq⟩,q⟩ | ⟨z,rfl,q⟩
 ·cases r1
  obtain ⟨its,rv,p,hz⟩:=I1.list hq
  refine wpAny_pyIter_list p.isList ?_
  exact ⟨s1.heap.objs.size,[s1.heap.objs.size],_,_,H1,rfl,I1.kept (t':=s1.toks) fun b o e=>Heap.get?_push_of_some _ e,Jz a _,⟨_,Heap.get?_push_size _ rfl,rfl,rfl⟩,fp,q⟩
 ·cases r1
  obtain ⟨its,rv,p,hz⟩:=I1.tuple hq
  refine wpAny_pyIter_tuple (show s1.heap.IsTuple a its.toArray from p) ?_
  exact ⟨s1.heap.objs.size,[s1.heap.objs.size],_,_,H1,rfl,I1.kept (t':=s1.toks) fun b o e=>Heap.get?_push_of_some _ e,GD a _,⟨_,Heap.get?_push_size _ rfl,rfl,rfl⟩,fp,q⟩
 ·obtain ⟨t,rfl⟩:=r1
  cases ha:z.cps.all (· < 128)
  ·refine wpAny_pyIter_wide ha ?_
   exact ⟨s1.heap.objs.size,[s1.heap.objs.size],_,_,H1,rfl,I1.kept (t':=s1.toks) fun b o e=>Heap.get?_push_of_some _ e,
    Di z t _ (fun A' hA=>Walks.strWide hA _ z t) (by decide) (fun A i s Q E st h=>wpAny_pyIter_striter_wide st h),⟨_,Heap.get?_push_size _ rfl,rfl,rfl⟩,fp,q⟩
  ·refine wpAny_pyIter_ascii ha ?_
   exact ⟨s1.heap.objs.size,[s1.heap.objs.size],_,_,H1,rfl,I1.kept (t':=s1.toks) fun b o e=>Heap.get?_push_of_some _ e,
    Di z t _ (fun A' hA=>Walks.strAscii hA _ z t) (by decide) (fun A i s Q E st h=>wpAny_pyIter_striter_ascii st h),⟨_,Heap.get?_push_size _ rfl,rfl,rfl⟩,fp,q⟩
end
section
variable {prog:Program} {w:World} {A:Around} {R:Result->Shared->Prop} {s:Shared}
theorem xO {elt target iter:Expr} {ifs:List Expr} {scope:Scope} {pos:Pos} {it acc:Value} {env:Env} (I:Nat->Shared->Prop)
  (turn:∀ n s,I n s->wpAny (model prog w) A (pyNext it) (fun r s₁=>match r with
   | none=>R (.ok .next) s₁
   | some v=>wpAny (model prog w) A (letOwnedTupleGo target it v) (fun _ s₀=>wpAny (model prog w) A (assign target env v) (fun _ s₂ =>
     wpAny (model prog w) A (forIn ifs true fun c r=>if r=true then do let ok <- isTrue c env (eval c env);pure (ForInStep.yield ok) else pure (ForInStep.yield r)) (fun ok s₃ =>
      if ok=true then wpAny (model prog w) A (eval elt env) (fun x s₄ =>
       wpAny (model prog w) A (call (.builtin "list.append") [acc,x]) (fun _ s₅=>∃ m,m < n/\I m s₅) (fun _ _=>False) s₄) (fun _ _=>False) s₃
      else ∃ m,m < n/\I m s₃) (fun _ _=>False) s₂) (fun _ _=>False) s₀) (fun _ _=>False) s₁) (fun _ _=>False) s)
  (n:Nat) (h:I n s) :
  codeAny (model prog w) A (.compLoop (.ListComp elt [⟨target,iter,ifs,0⟩] scope pos) 0 it acc env) R s:=by
 refine codeAny_loop rfl I (fun n s hI=>?_) n h
 show wpAny _ A ((compTurn (.ListComp elt [⟨target,iter,ifs,0⟩] scope pos) 0 it acc env).onRaise (fun x=>do noteFrame x env;theTreesLotGoes x)) _ _ s
 refine wpAny_noted ?_
 rw [compTurn_list]
 refine wpAny_bind (wpAny_standAt (wpAny_bind (wpAny_mono (turn n s hI) (fun r s₁ h₁=>?_) fun _ _ h'=>h'.elim)))
 cases r with
 | none=>exact wpAny_pure h₁
 | some v =>
  refine wpAny_bind (wpAny_mono h₁ (fun _ s₀ h₀=>?_) fun _ _ h'=>h'.elim)
  refine wpAny_bind (wpAny_mono h₀ (fun _ s₂ h₂=>wpAny_bind (wpAny_mono h₂ (fun ok s₃ h₃=>?_) fun _ _ h'=>h'.elim)) fun _ _ h'=>h'.elim)
  cases ok with
  | false=>exact wpAny_pure ⟨rfl,h₃⟩
  | true =>
   exact wpAny_bind (wpAny_bind (wpAny_mono h₃ (fun x s₄ h₄=>wpAny_bind (wpAny_mono h₄ (fun _ s₅ h₅=>wpAny_pure (wpAny_pure ⟨rfl,h₅⟩)) fun _ _ h'=>h'.elim)) fun _ _ h'=>h'.elim))
theorem t9 {env:Env}:∀ (names:List (Str × NameKind)) (cs:List (Str × Addr)),(∀ x∈names,x.2=.free->∃ c,env.cells.lookup x.1=some c) ->
  (∀ x c,cs.lookup x=some c->env.cells.lookup x=some c) ->
  ∃ cl,(forIn names cs fun (x:Str × NameKind) (cs:List (Str × Addr))=>(if (x.2 == NameKind.free)=true then do let c <- cellOf env x.1;pure (ForInStep.yield ((x.1,c) :: cs)) else pure (ForInStep.yield cs):Sem (ForInStep (List (Str × Addr)))))=pure cl /\
   (∀ x c,cl.lookup x=some c->env.cells.lookup x=some c)/\(∀ x,(∃ c,cs.lookup x=some c)\/(x,NameKind.free)∈names->∃ c,cl.lookup x=some c)
 | [],cs,_,h=>⟨cs,rfl,h,fun x hx=>by rcases hx with hx | hx;exact hx;cases hx⟩
 | (n,k) :: r,cs,hf,h=>by
  rw [List.forIn_cons]
  by_cases hk:k=.free
  ·subst hk
   obtain ⟨c,hc⟩:=hf (n,.free) List.mem_cons_self rfl
   have e:cellOf env n=pure c:=by unfold cellOf;rw [hc]
   simp only [beq_self_eq_true,if_true,e,pure_bind]
   obtain ⟨cl,h1,h2,h3⟩:=t9 r ((n,c) :: cs) (fun x hx=>hf x (List.mem_cons_of_mem _ hx)) (fun x d q=>by
    rw [List.lookup_cons] at q
    split at q
    ·rename_i e;cases q;rw [beq_iff_eq.mp e];exact hc
    ·exact h x d q)
   refine ⟨cl,h1,h2,fun x hx=>h3 x ?_⟩
   rcases hx with ⟨d,hd⟩ | hx
   ·left
    rw [List.lookup_cons]
    split
    ·exact ⟨_,rfl⟩
    ·exact ⟨d,hd⟩
   ·rcases List.mem_cons.mp hx with e | hx
    ·left;cases e;exact ⟨c,by simp [List.lookup_cons]⟩
    ·exact .inr hx
  ·have hb:(k == NameKind.free)=false:=by simpa using hk
   simp only [hb,Bool.false_eq_true,if_false,pure_bind]
   obtain ⟨cl,h1,h2,h3⟩:=t9 r cs (fun x hx=>hf x (List.mem_cons_of_mem _ hx)) h
   refine ⟨cl,h1,h2,fun x hx=>h3 x ?_⟩
   rcases hx with hx | hx
   ·exact .inl hx
   ·rcases List.mem_cons.mp hx with e | hx
    ·cases e;exact absurd rfl hk
    ·exact .inr hx
theorem zS {env:Env} {scope:Scope} (hf:∀ x∈scope.names,x.2=.free->∃ c,env.cells.lookup x.1=some c) :
  ∃ cl,closureFor scope env=pure cl/\(∀ x c,cl.lookup x=some c->env.cells.lookup x=some c)/\(∀ x,(x,NameKind.free)∈scope.names->∃ c,cl.lookup x=some c):=by
 obtain ⟨cl,h1,h2,h3⟩:=t9 (env:=env) scope.names [] hf (fun x c h=>by cases h)
 refine ⟨cl,?_,h2,fun x hx=>h3 x (.inr hx)⟩
 unfold closureFor
 first
  | exact h1
  | (have:_:=h1;simpa using this)
end
noncomputable def eI (X:Cx) (N:List Str) (scope:Scope) (cl:List (Str × Addr)) (C:Addr) (s:Shared) (H:Hp) (fp:List Addr):Cx where
 prog:=X.prog
 w:=X.w
 K:=X.K
 mg:=X.mg
 base:=X.base
 A:=X.A
 N:=N
 s₀:=s
 H₀:=H
 env:=compEnvC scope cl C X.env
 outer:=X.stack
 stack:=X.stack
 ex:=fp
 fn:=fun _=>false
 calm:=X.calm
 pn:=[]
 xe:=fun _ _=>False
noncomputable def DE (X:Cx) (ifs:List Expr) (t:TT):Prop :=
 ∀ (pins:List (Addr × Obj)) (s:Shared) (σ:L2.St) (H:Hp) (Q:Bool->Hp->Prop),Inv X pins σ H s->t σ H Q ->
  wpAny (model X.prog X.w) X.A (forIn ifs true fun c r=>if r=true then do let ok <- isTrue c X.env (eval c X.env);pure (ForInStep.yield ok) else pure (ForInStep.yield r)) (TP X pins σ Q) X.xe s
noncomputable def KJ:TT:=fun _ H Q=>Q true H
theorem EM {X:Cx}:DE X [] KJ:=fun pins s σ H Q I h=>wpAny_tests_nil ⟨H,I,h⟩
theorem OE {X:Cx} {c:Expr} {t:TT} (h:PT X c t):DE X [c] t:=fun pins s σ H Q I q=>wpAny_tests_one (h pins s σ H Q I q)
noncomputable def GK (k:Nat) (g:TG):Prop:=∀ x σ H Q,g x σ H Q->g x σ H (fun σ2 H2=>(∀ j,k<=j->σ2[j]?=σ[j]?)/\Q σ2 H2)
noncomputable def Ie (k:Nat) (g:pT):Prop:=∀ xs σ H Q,g xs σ H Q->g xs σ H (fun σ2 H2=>(∀ j,k<=j->σ2[j]?=σ[j]?)/\Q σ2 H2)
theorem EF {k i:Nat} (h:i < k):GK k (qM i):=fun x σ H Q q=>⟨fun j hj=>by rw [List.getElem?_set,if_neg (by omega)],q⟩
theorem Q3 {k:Nat}:Ie k DB:=fun xs σ H Q q=>⟨q.1,fun j _=>rfl,q.2⟩
theorem OA {k:Nat} {g:TG} {r:pT} (h1:GK k g) (h2:Ie k r) (m2:∀ xs σ H Q Q',(∀ σ2 H2,Q σ2 H2->Q' σ2 H2)->r xs σ H Q->r xs σ H Q') (m1:∀ x σ H Q Q',(∀ σ2 H2,Q σ2 H2->Q' σ2 H2)->g x σ H Q->g x σ H Q'):Ie k (yY g r):=fun xs σ H Q q=>by
 obtain ⟨v,r',rfl,q⟩:=q
 refine ⟨v,r',rfl,m1 _ _ _ _ _ (fun σ2 H2 z=>?_) (h1 _ _ _ _ q)⟩
 exact m2 _ _ _ _ _ (fun σ3 H3 y=>⟨fun j hj=>(y.1 j hj).trans (z.1 j hj),y.2⟩) (h2 _ _ _ _ z.2)
theorem Ra {i:Nat}:∀ x σ H (Q Q':L2.St->Hp->Prop),(∀ σ2 H2,Q σ2 H2->Q' σ2 H2)->qM i x σ H Q->qM i x σ H Q':=fun x σ H Q Q' h q=>h _ _ q
theorem RN:∀ xs σ H (Q Q':L2.St->Hp->Prop),(∀ σ2 H2,Q σ2 H2->Q' σ2 H2)->DB xs σ H Q->DB xs σ H Q':=fun x σ H Q Q' h q=>⟨q.1,h _ _ q.2⟩
theorem Qr {g:TG} {r:pT} (m1:∀ x σ H Q Q',(∀ σ2 H2,Q σ2 H2->Q' σ2 H2)->g x σ H Q->g x σ H Q') (m2:∀ xs σ H Q Q',(∀ σ2 H2,Q σ2 H2->Q' σ2 H2)->r xs σ H Q->r xs σ H Q') :
  ∀ xs σ H (Q Q':L2.St->Hp->Prop),(∀ σ2 H2,Q σ2 H2->Q' σ2 H2)->yY g r xs σ H Q->yY g r xs σ H Q':=fun xs σ H Q Q' h q=>by
 obtain ⟨v,r',rfl,q⟩:=q
 exact ⟨v,r',rfl,m1 _ _ _ _ _ (fun σ2 H2 z=>m2 _ _ _ _ _ h z) q⟩
theorem Qo {K:PySem.W.Frag} {k n:Nat} {r:pT} (h:Ie k r):GK k (D7 K n r):=fun x σ H Q q=>by
 obtain ⟨a,xs,rfl,h1,h2,q⟩:=q
 exact ⟨a,xs,rfl,h1,h2,h _ _ _ _ q⟩
theorem Ru {K:PySem.W.Frag} {n:Nat} {r:pT} (m2:∀ xs σ H Q Q',(∀ σ2 H2,Q σ2 H2->Q' σ2 H2)->r xs σ H Q->r xs σ H Q') :
  ∀ x σ H (Q Q':L2.St->Hp->Prop),(∀ σ2 H2,Q σ2 H2->Q' σ2 H2)->D7 K n r x σ H Q->D7 K n r x σ H Q':=fun x σ H Q Q' h q=>by
 obtain ⟨a,xs,rfl,h1,h2,q⟩:=q
 exact ⟨a,xs,rfl,h1,h2,m2 _ _ _ _ _ h q⟩
theorem BV {X:Cx} {tg elt iter:Expr} {ifs:List Expr} {scope:Scope} {pos:Pos} {N:List Str} {k:Nat} {ix:List Nat} {wi:TI} {g:TG} {tc:TT} {te:TE}
  (hc:X.calm=true) (hi:PI X tg iter wi) (gk:GK k g)
  (hk:scope.kind=.function) (hcell:∀ y∈scope.names,y.2≠.cell) (hnames:∀ y∈scope.names,y.2=.local->scope.names.lookup y.1=some .local)
  (hfree:∀ y∈scope.names,y.2=.free->X.env.kindOf y.1=some .cell\/X.env.kindOf y.1=some .free)
  (hone:∀ y∈scope.names,y.2=.free->scope.names.lookup y.1=some .free)
  (hN:∀ (j:Nat) x,N[k + j]?=some x->∃ i,ix[j]?=some i/\X.N[i]?=some x)
  (hcap:∀ (j:Nat) x,N[k + j]?=some x->scope.names.lookup x=some .free)
  (hlen:N.length=k + ix.length)
  (hg:∀ cl C s H fp,PG (eI X N scope cl C s H fp) tg g)
  (hif:∀ cl C s H fp,DE (eI X N scope cl C s H fp) ifs tc)
  (he:∀ cl C s H fp,PE (eI X N scope cl C s H fp) elt te)
  (hs:∀ x,foldedSetIterable iter X.env x=pure x) {pins:List (Addr × Obj)} {s:Shared} {σ:L2.St} {H:Hp} {Q:VK} (I:L2.Inv X pins σ H s) (h:wK k ix wi g tc te σ H Q) {pos':Pos} {use:Option (Value->Sem Unit)} {QQ:Value->Shared->Prop}
  (end_:∀ (D C:Addr) (H3:Hp) (s4:Shared),L2.Inv X pins σ H3 s4->(∃ m,s4.heap.Ns C m)->H3 C=none->C≠X.env.locals->X.s₀.heap.objs.size<=C->(∀ x c,X.env.cells.lookup x=some c->c≠C)->(∀ p∈X.pn++pins,p.1≠C) ->
   (∀ h':Heap,Heap.SameBut C s4.heap h'->L2.Inv X pins σ H3 { s4 with heap:=h' })->Q (.ref D) H3->compPost (model X.prog X.w) X.A X.xe use QQ (.ref D) C (.ok .next) s4) :
  wpAny (model X.prog X.w) X.A (comprehension (.ListComp elt [⟨tg,iter,ifs,0⟩] scope pos) scope X.env pos' (newList []) false (eval iter X.env) use) QQ X.xe s:=by
 obtain ⟨cl,hclos,hcl,hcl2⟩:=zS (env:=X.env) (scope:=scope) (fun x hx e=>I.ok.has x.1 (hfree x hx e))
 refine wpAny_comprehension_free (use:=use) rfl hs hclos hk hnames (bF (hi pins s σ H _ I h) fun v s1 h1=>bF h1 fun itv s2 h2=>?_)
 obtain ⟨it,fp,tn,J,H2,rfl,I2,T,cT,f2,h2⟩:=h2
 refine wpAny_newObj_type (wpAny_newFunctionEnv hcell (by intro y hy;simp at hy) (fun h₁ hns₁ hsb₁=>?_) hk)
 dsimp only at hns₁ hsb₁ ⊢
 generalize hP:s2.heap.push { cls:=.type "list",dict:=none,data:=.seq ([]:List Value).toArray }=P2 at hns₁ hsb₁ ⊢
 have hCs:P2.objs.size=s2.heap.objs.size + 1:=by rw [<- hP,Heap.size_push]
 have below:∀ b,b < s2.heap.objs.size->b≠P2.objs.size:=fun b hb=>by rw [hCs];omega
 have old:∀ b o,s2.heap.get? b=some o->h₁.get? b=some o:=fun b o e=>hsb₁.extBut b o (below b (Heap.lt_size e)) (Heap.get?_push_of_some _ (hP ▸ Heap.get?_push_of_some _ e))
 have hacc:h₁.get? s2.heap.objs.size=some { cls:=.type "list",dict:=none,data:=.seq ([]:List Value).toArray }:=hsb₁.extBut _ _ (show s2.heap.objs.size≠P2.objs.size by rw [hCs];exact Nat.ne_of_lt (Nat.lt_succ_self _)) (Heap.get?_push_of_some _ (hP ▸ Heap.get?_push_size _ rfl))
 obtain ⟨W,⟨m0,w0⟩,turn⟩:=h2 s2.heap.objs.size (I2.hok.fresh (Nat.le_refl _))
 have fpl:∀ b∈fp,b < s2.heap.objs.size:=fun b hb=>let ⟨o,e,_⟩:=T.obj _ _ cT b hb;Heap.lt_size e
 have σl:(cY k ix σ).length=N.length:=by rw [hlen];simp [cY]
 have i2:=I2.ok
 have ok':(eI X N scope cl P2.objs.size s2 H2 fp).Ok:=by
  refine ⟨i2.mod,hk,i2.glob,i2.blt,(by show s2.heap.objs.size<=P2.objs.size;rw [hCs];exact Nat.le_succ _),fun x y c e1 e2=>i2.inj x y c (hcl x c e1) (hcl y c e2),fun x hx=>?_,(fun x c e=>by cases e),i2.hd,i2.frames,.inl rfl,fun b hb=>?_,fun b o e=>I2.bs b o e,Nat.le_trans i2.bsz I2.sz,fun b o e hb=>?_,fun b hb hb2=>?_,I2.stack,I2.stkFree⟩
  ·
   have hx':(relabel scope X.env).names.lookup x=some .cell\/(relabel scope X.env).names.lookup x=some .free:=hx
   have key:∀ (names:List (Str × NameKind)),(∀ y∈names,y.2≠.cell)->((names.map fun (n,k)=>if (k == NameKind.free && X.env.scope.kind == .function && X.env.kindOf n == some .cell) then (n,NameKind.cell) else (n,k)).lookup x=some .cell \/
     (names.map fun (n,k)=>if (k == NameKind.free && X.env.scope.kind == .function && X.env.kindOf n == some .cell) then (n,NameKind.cell) else (n,k)).lookup x=some .free)->(x,NameKind.free)∈names:=by
    intro names
    induction names with
    | nil=>intro _ h;rcases h with h | h <;> cases h
    | cons y r ih =>
     obtain ⟨n,kd⟩:=y
     intro hnc h
     by_cases hxn:x=n
     ·subst hxn
      have hkc:kd≠.cell:=hnc (x,kd) List.mem_cons_self
      by_cases hkf:kd=.free
      ·subst hkf;exact List.mem_cons_self
      ·exfalso
       have hb:(kd == NameKind.free)=false:=by simpa using hkf
       simp only [List.map_cons,hb,Bool.false_and,Bool.false_eq_true,if_false,List.lookup_cons,beq_self_eq_true] at h
       rcases h with h | h
       ·exact hkc (Option.some.inj h)
       ·exact hkf (Option.some.inj h)
     ·have hb:(x == n)=false:=by simpa using hxn
      refine List.mem_cons_of_mem _ (ih (fun y hy=>hnc y (List.mem_cons_of_mem _ hy)) ?_)
      have e1:∀ z:NameKind,List.lookup x (((n,z)) :: (r.map fun (n,k)=>if (k == NameKind.free && X.env.scope.kind == .function && X.env.kindOf n == some .cell) then (n,NameKind.cell) else (n,k)))=List.lookup x (r.map fun (n,k)=>if (k == NameKind.free && X.env.scope.kind == .function && X.env.kindOf n == some .cell) then (n,NameKind.cell) else (n,k)):=fun z=>by rw [List.lookup_cons,hb]
      rw [List.map_cons] at h
      dsimp only at h
      split at h
      ·rw [e1] at h;exact h
      ·rw [e1] at h;exact h
   exact hcl2 x (key scope.names hcell hx')
  ·exact ⟨below b (fpl b hb),fun x c e=>(f2 b hb).2.2.2.2.1 x c (hcl x c e)⟩
  ·rcases (f2 b hb).2.2.2.1 with z | z
   ·exact i2.noex b o e z
   ·exact absurd (Nat.lt_of_lt_of_le (Heap.lt_size e) (Nat.le_trans i2.bsz z)) (Nat.lt_irrefl _)
  ·rcases List.mem_cons.mp (I2.stkSub b hb2) with z | z
   ·exact (f2 b hb).2.1 z
   ·exact (f2 b hb).2.2.1 z
 have stat:∀ {H':Hp},(∀ b∈fp,H' b=none)->∀ b∈fp,rE (eI X N scope cl P2.objs.size s2 H2 fp) [] H' b:=fun hn b hb =>
  ⟨hn b hb,below b (fpl b hb),fun z=>ok'.exfs b hb z,.inl hb,fun x c e=>(f2 b hb).2.2.2.2.1 x c (hcl x c e),(fun p hp=>by cases hp)⟩
 have hD:H2 s2.heap.objs.size=none:=I2.hok.fresh (Nat.le_refl _)
 have relf:∀ x,scope.names.lookup x=some .free->(X.env.kindOf x=some .cell\/X.env.kindOf x=some .free)->((relabel scope X.env).names.lookup x=some .cell\/(relabel scope X.env).names.lookup x=some .free):=by
  intro x hx hkx
  have key:∀ (names:List (Str × NameKind)),names.lookup x=some .free->((names.map fun (n,k)=>if (k == NameKind.free && X.env.scope.kind == .function && X.env.kindOf n == some .cell) then (n,NameKind.cell) else (n,k)).lookup x=some .cell \/
    (names.map fun (n,k)=>if (k == NameKind.free && X.env.scope.kind == .function && X.env.kindOf n == some .cell) then (n,NameKind.cell) else (n,k)).lookup x=some .free):=by
   intro names
   induction names with
   | nil=>intro h;cases h
   | cons y r ih =>
    obtain ⟨n,kd⟩:=y
    intro h
    rw [List.lookup_cons] at h
    by_cases hxn:x=n
    ·subst hxn
     simp only [beq_self_eq_true] at h
     cases h
     rw [List.map_cons]
     dsimp only
     split
     ·left;simp [List.lookup_cons]
     ·right;simp [List.lookup_cons]
    ·have hb:(x == n)=false:=by simpa using hxn
     rw [hb] at h
     have:=ih h
     rw [List.map_cons]
     dsimp only
     split
     ·rw [List.lookup_cons,hb];exact this
     ·rw [List.lookup_cons,hb];exact this
  exact key scope.names hx
 have Istart:∀ tk,Inv (eI X N scope cl P2.objs.size s2 H2 fp) [] (cY k ix σ) (upd H2 s2.heap.objs.size (.lst [])) { s2 with heap:=h₁,toks:=tk }:=fun tk=>by
  refine ⟨ok',rfl,I2.bare,Un.laid old (Nat.le_refl _) hD,⟨_,hns₁,fun i x v e1 e2 e3=>?_⟩,fun x c e=>?_,?_,fun x c e=>?_,(fun p hp=>by cases hp),I2.hok.laid old (Nat.le_refl _) ⟨Nat.zero_le _,[],_,.nil,hacc⟩,σl⟩
  ·by_cases hik:i < k
   ·exfalso
    unfold cY at e2
    rw [List.getElem?_append_left (by simpa using hik),List.getElem?_replicate] at e2
    split at e2 <;> cases e2
   ·have ej:i=k + (i - k):=by omega
    have e1':N[k + (i - k)]?=some x:=by rw [<- ej];exact e1
    obtain ⟨i0,hi0,hXN⟩:=hN (i - k) x e1'
    have hfx:=hcap (i - k) x e1'
    have hmem:(x,NameKind.free)∈scope.names:=PySem.mem_of_lookup hfx
    have hkx:=hfree _ hmem rfl
    have e4:σ[i0]?=some (some v):=by
     unfold cY at e2
     rw [List.getElem?_append_right (by simpa using Nat.le_of_not_lt hik),List.getElem?_map] at e2
     simp only [List.length_replicate,hi0,Option.map_some,Option.some.injEq] at e2
     cases z:σ[i0]? with
     | none=>rw [z] at e2;cases e2
     | some y=>rw [z] at e2;simp only [Option.getD_some] at e2;rw [e2]
    obtain ⟨m2,hn2,hl2⟩:=I2.loc
    obtain ⟨u,ru,lk⟩:=hl2 i0 x v hXN e4 (by rcases hkx with z | z;exact .inr (.inl z);exact .inr (.inr z))
    rcases lk with ⟨z,_⟩ | ⟨_,c,hc1,hc2⟩
    ·exfalso
     have z':X.env.kindOf x=some .local:=z
     rcases hkx with y | y <;> (rw [z'] at y;cases y)
    ·obtain ⟨c',hc'⟩:=hcl2 x hmem
     have e5:=hcl x c' hc'
     rw [hc1] at e5;cases e5
     obtain ⟨o,ho,hd⟩:=hc2
     exact ⟨u,ru,.inr ⟨relf x hfx hkx,c,hc',o,old _ _ ho,hd⟩⟩
  ·obtain ⟨v,o,ho,hd⟩:=I2.cell x c (hcl x c e)
   exact ⟨v,o,old _ _ ho,hd⟩
  ·show upd H2 s2.heap.objs.size (.lst []) P2.objs.size=none
   rw [bI (show P2.objs.size≠s2.heap.objs.size by rw [hCs];exact Nat.succ_ne_self _)]
   exact I2.hok.fresh (show s2.heap.objs.size<=P2.objs.size by rw [hCs];exact Nat.le_succ _)
  ·have e':=hcl x c e
   obtain ⟨v,o,ho,hd⟩:=I2.cell x c e'
   rw [bI (Nat.ne_of_lt (Heap.lt_size ho))]
   exact I2.freeC x c e'
 have st1:tn 0 h₁:=T.keep 0 _ _ cT fun b hb o e=>old b o e
 have fr1:∀ b∈fp,upd H2 s2.heap.objs.size (.lst []) b=none:=fun b hb=>by rw [bI (Nat.ne_of_lt (fpl b hb))];exact (f2 b hb).1
 have fin:∀ (H3:Hp) (s4:Shared),Inv (eI X N scope cl P2.objs.size s2 H2 fp) [] (cY k ix σ) H3 s4->∀ h':Heap,Heap.SameBut P2.objs.size s4.heap h'->Inv X pins σ H3 { s4 with heap:=h' }:=fun H3 s4 I4 h' sb=>by
  have kp:∀ b o,b < s2.heap.objs.size->s4.heap.get? b=some o->h'.get? b=some o:=fun b o hb e=>sb.extBut b o (below b hb) e
  have u:Un (rT X.stack) fp H2 H3 s2.heap s4.heap:=I4.base
  refine I2.call' (ch:=fp) (H':=H3) I4.os ⟨fun b o q n hb hx=>kp b o (Heap.lt_size q) (u.keep b o q n hb hx),fun b o q n hb hx=>?_,u.free,fun b o q hx=>?_,u.tups,u.frzs,u.tbls⟩ (fun a o e=>?_) I4.bare fun b hb=>⟨(f2 b hb).2.2.2.1,(f2 b hb).2.1,(f2 b hb).2.2.2.2.1,(f2 b hb).2.2.2.2.2⟩
  ·obtain ⟨sl,e⟩:=u.slot b o q n hb hx
   exact ⟨sl,kp b _ (Heap.lt_size q) e⟩
  ·obtain ⟨o',e⟩:=u.there b o q hx
   exact ⟨o',kp b _ (Heap.lt_size q) e⟩
  ·have nC:H3 P2.objs.size=none:=I4.free
   refine (I4.hok a o e).stay (fun b z hb q=>sb.extBut b z ?_ q) (fun _ q=>q) fun _ _ q=>q
   rcases hb with rfl | hb
   ·exact cJ e nC
   ·exact cJ hb nC
 have loop:∀ tk,codeAny (model X.prog X.w) X.A (.compLoop (.ListComp elt [⟨tg,iter,ifs,0⟩] scope pos) 0 (.ref it) (.ref s2.heap.objs.size) (compEnvC scope cl P2.objs.size X.env))
   (compPost (model X.prog X.w) X.A X.xe use QQ (.ref s2.heap.objs.size) P2.objs.size) { s2 with heap:=h₁,toks:=tk }:=fun tk=>by
  refine xO (fun n s'=>∃ i H',Inv (eI X N scope cl P2.objs.size s2 H2 fp) [] (cY k ix σ) H' s'/\tn i s'.heap/\(∀ b∈fp,H' b=none)/\W i n H') ?_ m0 ⟨0,_,Istart tk,st1,fr1,w0⟩
  rintro n s3 ⟨i,H3,I3,st3,fr3,w3⟩
  rcases turn i n H3 w3 with ⟨stop,q⟩ | ⟨go,step⟩
  ·refine bF (T.done (eI X N scope cl P2.objs.size s2 H2 fp) rfl rfl rfl hc i [] s3 _ H3 (fun _ _=>False) I3 (stat fr3) st3 stop) fun r s4 ⟨hr,I4⟩=>?_
   subst hr
   obtain ⟨m,hn,_⟩:=I4.loc
   refine end_ s2.heap.objs.size P2.objs.size H3 s4 (fin H3 s4 I4 s4.heap (Heap.SameBut.refl ..)) ⟨m,hn⟩ I4.free (Ne.symm (below _ I2.lt)) (Nat.le_trans I2.sz (show s2.heap.objs.size<=P2.objs.size by rw [hCs];exact Nat.le_succ _)) (fun x c e=>?_) (fun p hp=>below _ (Heap.lt_size (I2.pin p hp).1)) (fin H3 s4 I4) q
   obtain ⟨v,o,ho,_⟩:=I2.cell x c e
   exact below _ (Heap.lt_size ho)
  ·refine bF (T.item (eI X N scope cl P2.objs.size s2 H2 fp) rfl rfl rfl hc i [] s3 _ H3 (fun _ _=>False) I3 (stat fr3) st3 go) fun r s4 ⟨u,hr,h4⟩=>?_
   subst hr
   refine bF h4 fun _ s5 ⟨x,H5,I5,r5,y5,st5,fr5⟩=>?_
   have I5':=I5.pinned (stat fr5) (T.obj _ _ st5)
   refine bF (hg cl P2.objs.size s2 H2 fp _ s5 _ H5 x u _ I5' r5 (gk _ _ _ _ (step x H5 y5))) fun _ s6 ⟨σ6,H6,I6,ag,q6⟩=>?_
   have again:∀ {s7:Shared} {H7:Hp} {m':Nat},Inv (eI X N scope cl P2.objs.size s2 H2 fp) ([]++sP fp s5.heap) σ6 H7 s7->m' < n->W (i + 1) m' H7->∃ m,m < n/\∃ i H',Inv (eI X N scope cl P2.objs.size s2 H2 fp) [] (cY k ix σ) H' s7/\tn i s7.heap/\(∀ b∈fp,H' b=none)/\W i m H':=fun {s7 H7 m'} I7 hm w7=>by
    refine ⟨m',hm,i + 1,H7,(I7.unpinned).weak (by rw [σl];exact (I7.len).symm) (fun j v e=>?_),T.keep _ _ _ st5 fun b hb o e=>(I7.pin (b,o) (List.mem_append_right _ (List.mem_append_right _ (k8 hb e)))).1,fun b hb=>?_,w7⟩
    ·by_cases hj:j < k
     ·exfalso
      unfold cY at e
      rw [List.getElem?_append_left (by simpa using hj),List.getElem?_replicate] at e
      split at e <;> cases e
     ·rw [ag j (by omega)];exact e
    ·obtain ⟨o,e,d⟩:=T.obj _ _ st5 b hb
     exact (I7.pin (b,o) (List.mem_append_right _ (List.mem_append_right _ (k8 hb e)))).2.1
   refine bF (hif cl P2.objs.size s2 H2 fp _ s6 σ6 H6 _ I6 q6) fun ok s7 ⟨H7,I7,q7⟩=>?_
   cases ok with
   | false =>
    obtain ⟨m',hm,w7⟩:=q7
    exact again I7 hm w7
   | true =>
    refine bF (he cl P2.objs.size s2 H2 fp _ s7 σ6 H7 _ I7 q7) fun y s8 ⟨yv,H8,I8,r8,ys,hD8,hz8,m',hm,w8⟩=>?_
    refine bF (vW _ s8 σ6 H8 (.ref s2.heap.objs.size) [yv] (.ref s2.heap.objs.size) [y] (fun v H9=>H9=upd H8 s2.heap.objs.size (.lst (ys++[yv]))) I8 rfl (.cons r8 .nil) ⟨_,ys,yv,rfl,rfl,hD8,hz8,rfl⟩) fun _ s9 ⟨_,H9,I9,_,e9⟩=>?_
    subst e9
    exact again I9 hm w8
 exact codeAny_compStart_list (loop _) (T.self _ 0 _ _ _ st1 (loop _))
theorem Nv {X:Cx} {tg elt iter:Expr} {ifs:List Expr} {scope:Scope} {pos:Pos} {N:List Str} {k:Nat} {ix:List Nat} {wi:TI} {g:TG} {tc:TT} {te:TE}
  (hc:X.calm=true) (hi:PI X tg iter wi) (gk:GK k g)
  (hk:scope.kind=.function) (hcell:∀ y∈scope.names,y.2≠.cell) (hnames:∀ y∈scope.names,y.2=.local->scope.names.lookup y.1=some .local)
  (hfree:∀ y∈scope.names,y.2=.free->X.env.kindOf y.1=some .cell\/X.env.kindOf y.1=some .free)
  (hone:∀ y∈scope.names,y.2=.free->scope.names.lookup y.1=some .free)
  (hN:∀ (j:Nat) x,N[k + j]?=some x->∃ i,ix[j]?=some i/\X.N[i]?=some x)
  (hcap:∀ (j:Nat) x,N[k + j]?=some x->scope.names.lookup x=some .free)
  (hlen:N.length=k + ix.length)
  (hg:∀ cl C s H fp,PG (eI X N scope cl C s H fp) tg g)
  (hif:∀ cl C s H fp,DE (eI X N scope cl C s H fp) ifs tc)
  (he:∀ cl C s H fp,PE (eI X N scope cl C s H fp) elt te)
  (hs:∀ x,foldedSetIterable iter X.env x=pure x:=by intro _;rfl) :
  PE X (.ListComp elt [⟨tg,iter,ifs,0⟩] scope pos) (wK k ix wi g tc te):=by
 intro pins s σ H Q I h
 rw [eval_ListComp]
 refine BV (use:=none) hc hi gk hk hcell hnames hfree hone hN hcap hlen hg hif he hs I h fun D C H3 s4 I4 ⟨m,hn⟩ _ _ _ _ _ fin q=>?_
 exact ⟨m,hn,fun h' sb=>⟨.ref D,H3,fin h' sb,rfl,q⟩⟩
theorem NQ {X:Cx} {tg elt iter:Expr} {ifs:List Expr} {scope:Scope} {pos spos py:Pos} {N:List Str} {k:Nat} {ix:List Nat} {wi:TI} {g:TG} {tc:TT} {te:TE} {i:Nat} {y:Str}
  (hc:X.calm=true) (hi:PI X tg iter wi) (gk:GK k g)
  (hk:scope.kind=.function) (hcell:∀ y∈scope.names,y.2≠.cell) (hnames:∀ y∈scope.names,y.2=.local->scope.names.lookup y.1=some .local)
  (hfree:∀ y∈scope.names,y.2=.free->X.env.kindOf y.1=some .cell\/X.env.kindOf y.1=some .free)
  (hone:∀ y∈scope.names,y.2=.free->scope.names.lookup y.1=some .free)
  (hN:∀ (j:Nat) x,N[k + j]?=some x->∃ i,ix[j]?=some i/\X.N[i]?=some x)
  (hcap:∀ (j:Nat) x,N[k + j]?=some x->scope.names.lookup x=some .free)
  (hlen:N.length=k + ix.length)
  (hg:∀ cl C s H fp,PG (eI X N scope cl C s H fp) tg g)
  (hif:∀ cl C s H fp,DE (eI X N scope cl C s H fp) ifs tc)
  (he:∀ cl C s H fp,PE (eI X N scope cl C s H fp) elt te)
  (hs:∀ x,foldedSetIterable iter X.env x=pure x) (hsw:swapsWith (.ListComp elt [⟨tg,iter,ifs,0⟩] scope pos) (some (.Name y py)) spos.line X.env=pure true)
  (hNd:X.N.Nodup) (hiy:X.N[i]?=some y) (hy:Loc X.env.scope y) (hf:X.fn y=true\/X.env.scope.names.lookup y=some .local) :
  PS X (.Assign [.Name y py] (.ListComp elt [⟨tg,iter,ifs,0⟩] scope pos) spos) (G1 (wK k ix wi g tc te) (qM i)):=by
 intro pins s σ H D I h
 rw [exec_Assign_Name_used _ _ _ _ hsw]
 refine wpAny_bind (wpAny_standAt (wpAny_bind ?_))
 show wpAny _ X.A (do let _ <- comprehension (.ListComp elt [⟨tg,iter,ifs,0⟩] scope pos) scope X.env _ (newList []) false (eval iter X.env) (some (assign (.Name y py) X.env))) _ _ s
 refine wpAny_bind (wpAny_mono (BV (use:=some (assign (.Name y py) X.env)) (QQ:=fun _ s'=>SP X pins D .next s') hc hi gk hk hcell hnames hfree hone hN hcap hlen hg hif he hs I h fun A C H3 s4 I4 hn nC nL sC cC pC fin q=>?_) (fun _ s' hq=>wpAny_pure (wpAny_pure hq)) fun _ _ e=>e)
 show wpAny _ X.A (assign (.Name y py) X.env (.ref A)) _ _ _
 refine wpAny_assign_Name (BG (i:=i) (v:=.ref A) I4 hNd hiy hy rfl (fun s5 I5 ⟨a,sb,ha⟩=>?_) hf)
 obtain ⟨m,hn⟩:=hn
 have aC:C≠a:=by
  rcases ha with z | z
  ·rw [z];exact nL
  ·exact fun e=>cC y a z e.symm
 refine ⟨m,hn.at' fun o e=>sb.extBut C o aC e,fun h' sb'=>?_⟩
 exact ⟨_,H3,I5.turned (t':=s5.toks) (fun b o hb e=>sb'.extBut b o hb e) nC nL (.inr sC) cC pC,q⟩
section
variable {X:Cx}
theorem MV:dW X (binaryOp .Add) (G9 X.K):=by
 intro pins s σ H x y v u Q I rx ry h
 obtain ⟨l,b,xs,zs,rfl,rfl,hH,hB,hz,q⟩:=h
 cases rx
 cases ry
 obtain ⟨its,r,p,hl⟩:=I.list hH
 obtain ⟨its2,r2,p2,hl2⟩:=I.list hB
 obtain ⟨⟨cls,dd,data,sl⟩,n,ho,hc,_,hd⟩:=p
 obtain ⟨⟨cls2,dd2,data2,sl2⟩,n2,ho2,hc2,_,hd2⟩:=p2
 simp only at hc hd hc2 hd2
 subst hc hd hc2 hd2
 have q1:=r.length
 have q2:=r2.length
 have e:its.toArray++its2.toArray=(its++its2).toArray:=by simp
 refine concat_meets ⟨_,ho,rfl⟩ ⟨_,ho2,rfl⟩ noFill_list_add seq_list_add PySem.F.slot_list_add PySem.F.entry_list_add (PySem.F.args_list_add_2 _ _) (list_addW l b its.toArray its2.toArray n n2 dd dd2 sl sl2 (by rw [List.size_toArray,List.size_toArray];omega)) ⟨ho,ho2,?_⟩
 rw [e]
 exact ⟨.ref _,_,I.lnew (t':=s.toks) (r.append r2) (by rw [List.length_append];omega),rfl,q _ I.fresh⟩
theorem J0:dW X (binaryOp .Add) (Dj X.K):=by
 intro pins s σ H x y v u Q I rx ry h
 obtain ⟨a,b,xs,ys,rfl,rfl,ha,hb,hz,q0,q1,q2⟩:=h
 by_cases hx:xs=[]
 ·cases rx
  cases ry
  obtain ⟨its,r1,p1,_⟩:=I.tuple ha
  obtain ⟨its2,r2,p2,_⟩:=I.tuple hb
  obtain ⟨⟨cls,dd,data,sl⟩,ho,hc,n,hd⟩:=p1
  obtain ⟨⟨cls2,dd2,data2,sl2⟩,ho2,hc2,n2,hd2⟩:=p2
  simp only at hc hd hc2 hd2
  subst hc hd hc2 hd2
  have e:its=[]:=r1.nil_iff.mpr hx
  exact concat_meets ⟨_,ho,rfl⟩ ⟨_,ho2,rfl⟩ noFill_tuple_add seq_tuple_add PySem.F.slot_tuple_add PySem.F.entry_tuple_add (PySem.F.args_tuple_add_2 _ _) (tuple_addW0 a b its.toArray its2.toArray n n2 dd dd2 sl sl2 (by rw [e];rfl)) ⟨ho,ho2,.ref b,H,I,rfl,q0 hx⟩
 ·exact MY pins s σ H _ _ v u Q I rx ry ⟨a,b,xs,ys,rfl,rfl,ha,hb,hx,hz,q1 hx,q2 hx⟩
theorem QL:xR X (fun x lo hi H Q=>∃ z:Str,x=.str z/\z.length<=sizeLine/\Q (.str (Txt.slice z lo hi)) H):=by
 intro pins s σ H x v vl vu lo hi sl Q I rx hs pl pu h
 obtain ⟨z,rfl,hz,q⟩:=h
 obtain ⟨t,rfl⟩:=rx
 refine ⟨"str",_,F.slot_str_getitem.lookup,typeIs_str _ _ _,?_⟩
 have fin:∀ t' k,EP X pins σ Q (.str (Txt.slice z lo hi) t') { s with toks:=k }:=fun t' k=>⟨.str (Txt.slice z lo hi),H,I.tok k,⟨t',rfl⟩,q⟩
 cases pl with
 | none=>cases pu with
  | none=>exact wpAny_getItem_str_slice (l:=none) (u:=none) (st:=none) hs rfl (post_val_or_str ⟨Nat.le_trans (Txt.slice_le z _ _) hz,fun t' k=>fin t' k⟩)
  | int j uj=>exact wpAny_getItem_str_slice (l:=none) (u:=some (j,uj)) (st:=none) hs rfl (post_val_or_str ⟨Nat.le_trans (Txt.slice_le z _ _) hz,fun t' k=>fin t' k⟩)
 | int i ui=>cases pu with
  | none=>exact wpAny_getItem_str_slice (l:=some (i,ui)) (u:=none) (st:=none) hs rfl (post_val_or_str ⟨Nat.le_trans (Txt.slice_le z _ _) hz,fun t' k=>fin t' k⟩)
  | int j uj=>exact wpAny_getItem_str_slice (l:=some (i,ui)) (u:=some (j,uj)) (st:=none) hs rfl (post_val_or_str ⟨Nat.le_trans (Txt.slice_le z _ _) hz,fun t' k=>fin t' k⟩)
theorem Qv:xR X (QK X.K):=Nl.or (OZ.or QL)
theorem Js (hc:X.calm=true):mF X (.builtin "all") (fun xs H Q=>∃ (p:Addr) (bs:List Bool),xs=[.ref p]/\eC X.K H p (bs.map V.bl)/\Q (.bl (bs.all fun b=>b)) H):=by
 intro pins s σ H xs us Q I r h
 obtain ⟨a,bs,rfl,ha,q⟩:=h
 obtain ⟨u,rfl,ru⟩:=vals1 r
 cases ru
 obtain ⟨its,rv,p,hz⟩:=I.list ha
 have hl:=rv.length
 have hne:a≠s.heap.objs.size:=by
  obtain ⟨o,n,e,_⟩:=p
  exact Nat.ne_of_lt (Heap.lt_size e)
 refine call_all_walk (wpAny_pyIter_list p.isList ?_)
 refine ⟨s.heap.objs.size,_,_,_,_,_,fun i=>(bs[i]?).getD false,rfl,Walks.list (show X.A.in1.handled=none from I.ok.hd hc) s.heap.objs.size a hne its.toArray,⟨⟨_,Heap.get?_push_size _ rfl,rfl,rfl⟩,?_⟩,?_,fun h' tk k=>?_⟩
 ·obtain ⟨o,n,e,c,d,z⟩:=p
  exact ⟨o,Heap.get?_push_of_some _ e,c,n,z⟩
 ·intro i v s' Q' E' hP hQ
  have hv:its[i]?=some v:=by simpa using hP
  have hi:i < bs.length:=by
   have:=(List.getElem?_eq_some_iff.mp hv).1
   rw [<- hl] at this;simpa using this
  obtain ⟨u,hu,ru⟩:=rv.get (i:=i) (x:=.bl bs[i]) (by simp [hi])
  rw [hv] at hu;cases hu
  cases ru
  refine wpAny_truthy_bool ?_
  have:(bs[i]?).getD false=bs[i]:=by simp [hi]
  rw [<- this];exact hQ
 ·have e:(List.range its.toArray.size).all (fun i=>(bs[i]?).getD false)=bs.all fun b=>b:=by
   have:its.toArray.size=bs.length:=by rw [List.size_toArray,<- hl,List.length_map]
   rw [this]
   clear this hl rv p hz k
   rw [Bool.eq_iff_iff]
   simp only [List.all_eq_true,List.mem_range]
   constructor
   ·intro h b hb
    obtain ⟨i,hi,rfl⟩:=List.mem_iff_getElem.mp hb
    have:=h i hi
    simpa [hi] using this
   ·intro h i hi
    have:=h bs[i] (List.getElem_mem hi)
    simpa [hi] using this
  rw [e]
  exact ⟨.bl _,H,I.kept (t':=tk) (fun b o e=>k b o (fun z=>Nat.lt_irrefl _ (Nat.lt_of_lt_of_le (Heap.lt_size e) (Nat.le_of_eq (show s.heap.objs.size=b from (List.mem_singleton.mp z).symm)))) (Heap.get?_push_of_some _ e)),rfl,q⟩
end
end U2
namespace U2
open PySem PySem.Spec PyProof.Rows L2
structure Dat where
 prog:Program
 w:World
 K:PySem.W.Frag
 mg:Str->Option Value
 base:Heap
 N:List Str
 sc:Scope
 k:Nat
 fn:Bool
 cod:Value:=.none
 qual:Str:=""
structure lB (D:Dat) (X:Cx):Prop where
 prog:X.prog=D.prog
 w:X.w=D.w
 K:X.K=D.K
 mg:X.mg=D.mg
 base:X.base=D.base
 N:X.N=D.N
 sc:X.env.scope=D.sc
 room:eU D.k X.A
 calm:X.calm=true
 xe:X.xe=fun _ _=>False
 fn:D.fn=true->∀ x,X.fn x=true
 cod:D.cod≠.none->X.env.code=D.cod/\X.env.qual=D.qual
noncomputable def bB (D:Dat) (e:Expr) (t':UE):Prop:=∃ t,(∀ X,lB D X->PE X e t)/\cF D.K t t'
def q9 (D:Dat) (e:Expr) (t':UT):Prop:=∃ t,(∀ X,lB D X->PT X e t)/\kI D.K t t'
def pK (D:Dat) (e:Expr) (t':UT):Prop:=∃ t,(∀ X,lB D X->PW X e t)/\kI D.K t t'
def mT (D:Dat) (es:List Expr) (t':UA):Prop:=∃ t,(∀ X,lB D X->PA X es t)/\lH D.K t t'
def pG (D:Dat) (s:Stmt) (t':US):Prop:=∃ t,(∀ X,lB D X->PS X s t)/\kS D.K t t'
def pD (D:Dat) (s:List Stmt) (t':US):Prop:=∃ t,(∀ X,lB D X->qU X s t)/\kS D.K t t'
noncomputable def Cr (D:Dat) (k:Nat) (e:Expr) (g':UG):Prop:=∃ g,(∀ X,lB D X->PG X e g)/\xV D.K g g'/\GK k g/\∀ x σ H Q Q',(∀ σ2 H2,Q σ2 H2->Q' σ2 H2)->g x σ H Q->g x σ H Q'
noncomputable def Gy (D:Dat) (k:Nat) (es:List Expr) (g':Ae):Prop:=∃ g,(∀ X,lB D X->Jb X es g)/\zU D.K g g'/\Ie k g/\∀ x σ H Q Q',(∀ σ2 H2,Q σ2 H2->Q' σ2 H2)->g x σ H Q->g x σ H Q'
def v5 (D:Dat) (tg e:Expr) (t':UI):Prop:=∃ t,(∀ X,lB D X->PI X tg e t)/\rJ D.K t t'
noncomputable def Me (D:Dat) (e:Option Expr) (t':UO):Prop:=∃ t,(∀ X,lB D X->PO X e t)/\Dz D.K t t'
noncomputable def GV (D:Dat) (es:List Expr) (t':UT):Prop:=∃ t,(∀ X,lB D X->DE X es t)/\kI D.K t t'
section
variable {D:Dat} {a b c e o:Expr} {ta tb tc te:UE} {pos:Pos}
theorem uv (i:Nat) {x:Str} (hN:D.N[i]?=some x:=by rfl) (hv:JI D.sc x:=by first | exact Or.inl rfl | exact Or.inr (Or.inl rfl) | exact Or.inr (Or.inr rfl)) (hd:(x == ("__debug__":Str))=false:=by decide)
  (hcd:(x == ("__classdict__":Str))=false:=by decide):bB D (.Name x pos) (rG i) :=
 ⟨_,fun X h=>Jd (by rw [h.N];exact hN) (by rw [h.sc];exact hv) hd hcd,EI i⟩
theorem aP {i j}:bB D (.Constant (.int i) j pos) (uC (.int i)):=⟨_,fun X h=>O5,Oe⟩
theorem B0 {i j}:bB D (.Constant (.bool i) j pos) (uC (.bl i)):=⟨_,fun X h=>Rv,QO⟩
theorem dI {i j}:bB D (.Constant (.str i) j pos) (uC (.str i)):=⟨_,fun X h=>PX,Nt⟩
theorem Cu {j}:bB D (.Constant .none j pos) (uC .non):=⟨_,fun X h=>Qf,Nn⟩
theorem DX {x:Str} {f:Addr} (hm:D.mg x=some (.ref f)) (hg:D.sc.names.lookup x=some .globalImplicit:=by rfl) (hd:(x == ("__debug__":Str))=false:=by decide):bB D (.Name x pos) (uC (.ref f)) :=
 ⟨_,fun X h=>MM (v:=.ref f) (by show X.env.scope.names.lookup x=_;rw [h.sc];exact hg) (by rw [h.mg];exact hm) rfl hd,NY⟩
theorem wY {op:Operator} {r:R2} {r':eB} (ho:∀ X,lB D X->dW X (binaryOp op) r) (hr:eA D.K r r') (ha:bB D a ta) (hb:bB D b tb):bB D (.BinOp a op b pos) (l5 r' ta tb):=by
 obtain ⟨x,p,s⟩:=ha;obtain ⟨y,q,r⟩:=hb
 exact ⟨_,fun X h=>RH (ho X h) (p X h) (q X h),vI hr s r⟩
theorem vG (ha:bB D a ta) (hb:bB D b tb):bB D (.BinOp a .Sub b pos) (l5 (qB fun i j=>.int (i - j)) ta tb):=wY (fun _ _=>O1) C7 ha hb
theorem mL (ha:bB D a ta) (hb:bB D b tb):bB D (.BinOp a .Mod b pos) (l5 (uI (fun _ j=>0 < j) fun i j=>.int (i % j)) ta tb):=wY (fun _ _=>QC) qN ha hb
theorem HY (ha:bB D a ta) (hb:bB D b tb):bB D (.BinOp a .Pow b pos) (l5 (uI K2 fun i j=>.int (i ^ j.toNat)) ta tb):=wY (fun _ _=>Qp) qN ha hb
def tB (o:Bool):eB:=fun x y M Q=>match x,y with
 | .int i,.int j=>Q (.int (i + j)) M
 | .str i,.str j=>i.length + j.length<=sizeLine/\Q (.str (i++j)) M
 | .tup us,.tup ws=>us.length + ws.length<=sizeLine/\Q (.tup (us++ws)) M
 | x,y=>oM o x y M Q
noncomputable def MC (K:PySem.W.Frag):R2:=fun x y H Q=>uP (fun i j=>.int (i + j)) x y H Q\/((∃ i j,x=.str i/\y=.str j/\i.length + j.length<=sizeLine/\Q (.str (i++j)) H)\/(Dj K x y H Q\/G9 K x y H Q))
theorem N2 {K:PySem.W.Frag} {o:Bool}:eA K (MC K) (tB o):=fun x y u w H M Q' rm ru rw h Q c=>by
 unfold tB at h
 split at h
 ·exact .inl (C7 x y _ _ H M Q' rm ru rw h Q c)
 ·exact .inr (.inl (L3 x y _ _ H M Q' rm ru rw h Q c))
 ·exact .inr (.inr (.inl (Lv x y _ _ H M Q' rm ru rw h Q c)))
 ·exact .inr (.inr (.inr (KQ x y _ _ H M Q' rm ru rw h Q c)))
theorem cG (own:Bool:=false) (ha:bB D a ta) (hb:bB D b tb):bB D (.BinOp a .Add b pos) (l5 (tB own) ta tb) :=
 wY (r:=MC D.K) (fun X h=>by have:=O6.or (GU.or ((J0 (X:=X)).or (MV (X:=X))));rw [h.K] at this;exact this) N2 ha hb
theorem HZ (ha:bB D a ta):bB D (.UnaryOp .USub a pos) (B3 (fun x M Q=>match x with | .int i=>Q (.int (-i)) M | _=>False) ta):=by
 obtain ⟨x,p,s⟩:=ha
 refine ⟨_,fun X h=>Rn Qt (p X h),PM (fun x u H M Q' rm ru h Q c=>?_) s⟩
 cases u with
 | int i=>exact ⟨i,ru.int,c.here rm fE h⟩
 | _=>exact h.elim
theorem Q5 {op:CmpOp} {r:R2} {r':eB} (ho:∀ X,lB D X->dW X (compareOp op) r) (hr:eA D.K r r') (ha:bB D a ta) (hb:bB D b tb) (hm:behindInMarks op b=false):bB D (.Compare a [op] [b] pos) (l5 r' ta tb):=by
 obtain ⟨x,p,s⟩:=ha;obtain ⟨y,q,r⟩:=hb
 exact ⟨_,fun X h=>N9 (ho X h) (p X h) (q X h) hm,vI hr s r⟩
theorem PH {op:CmpOp} {r:R2} {r':eB} (ho:∀ X,lB D X->dW X (compareOp op) r) (hr:eA D.K r r') (ha:bB D a ta) (hb:bB D b tb) (hm:behindInMarks op b=false):q9 D (.Compare a [op] [b] pos) (oI (l5 r' ta tb)):=by
 obtain ⟨x,p,s⟩:=ha;obtain ⟨y,q,r⟩:=hb
 exact ⟨_,fun X h=>NX (ho X h) (p X h) (q X h) hm,Kx (vI hr s r)⟩
abbrev FK:eB:=qB fun i j=>.bl (decide (i < j))
abbrev DH:eB:=qB fun i j=>.bl (decide (i<=j))
abbrev CU:eB:=qB fun i j=>.bl (decide (j < i))
abbrev C9:eB:=qB fun i j=>.bl (decide (j<=i))
structure mS (D:Dat) (op:CmpOp) (r':eB):Prop where
 ex:∃ r:R2,(∀ X,lB D X->dW X (compareOp op) r)/\eA D.K r r'
theorem OR:mS D .LtE DH:=⟨⟨_,fun _ _=>RD,qX⟩⟩
theorem Su:mS D .Gt CU:=⟨⟨_,fun _ _=>Ro,qX⟩⟩
theorem Py:mS D .GtE C9:=⟨⟨_,fun _ _=>RB,qX⟩⟩
theorem Mw:mS D .Is t4:=⟨⟨_,fun _ _=>PK,Od⟩⟩
theorem PR:mS D .IsNot oG:=⟨⟨_,fun _ _=>Ni,KS⟩⟩
noncomputable def AV (neg:Bool):eB:=fun x y M Q=>match x,y with
 | .str i,.str j=>Q (.bl (if neg then !(!(Builtin.Str.occurrences j i 0 j.length 1).isEmpty) else !(Builtin.Str.occurrences j i 0 j.length 1).isEmpty)) M
 | _,_=>False
theorem yJ {op:CmpOp} {r':eB} (k:mS D op r') (ha:bB D a ta) (hb:bB D b tb) (hm:behindInMarks op b=false:=by first | exact Jh _ | with_unfolding_all rfl):bB D (.Compare a [op] [b] pos) (l5 r' ta tb) :=
 let ⟨_,h1,h2⟩:=k.ex;Q5 h1 h2 ha hb hm
theorem dC {op:CmpOp} {r':eB} (k:mS D op r') (ha:bB D a ta) (hb:bB D b tb) (hm:behindInMarks op b=false:=by first | exact Jh _ | with_unfolding_all rfl):q9 D (.Compare a [op] [b] pos) (oI (l5 r' ta tb)) :=
 let ⟨_,h1,h2⟩:=k.ex;PH h1 h2 ha hb hm
theorem RP {op op':CmpOp} {r r':eB} (k:mS D op r) (k':mS D op' r') (ha:bB D a ta) (hb:bB D b tb) (hc:bB D c tc) (hm:lastMarks [op,op'] [b,c]=false:=by with_unfolding_all rfl) :
  bB D (.Compare a [op,op'] [b,c] pos) (nU r r' ta tb tc):=by
 obtain ⟨x,p,s⟩:=ha;obtain ⟨y,q,r⟩:=hb;obtain ⟨z,u,v⟩:=hc
 obtain ⟨_,h1,h2⟩:=k.ex
 obtain ⟨_,h3,h4⟩:=k'.ex
 exact ⟨_,fun X h=>J1 (h1 X h) (h3 X h) (p X h) (q X h) (u X h) hm,IJ h2 h4 s r v⟩
theorem rR (ha:bB D a ta) (he:∀ env whole,isTrue a env whole=(do let v <- whole;standAt a.pos;holding [v] (truthy v)):=by intro _ _;rfl):q9 D a (v9 ta):=by
 obtain ⟨x,p,s⟩:=ha
 refine ⟨_,fun X h=>?_,Ol s⟩
 have:=Km (p X h) (he X.env)
 rw [h.K] at this
 exact this
theorem pK.pt {t:UT} (h:pK D a t):q9 D a t:=let ⟨_,p,s⟩:=h;⟨_,fun X h=>(p X h).pt,s⟩
variable {rest:List Expr} {tA tB':UT}
theorem Fn (ha:q9 D a tA):pK D (.BoolOp .And [a] pos) tA:=let ⟨_,p,s⟩:=ha;⟨_,fun X h=>N4 (p X h),s⟩
theorem vX (ha:q9 D a tA):pK D (.BoolOp .Or [a] pos) tA:=let ⟨_,p,s⟩:=ha;⟨_,fun X h=>Rh (p X h),s⟩
theorem Ik (ha:q9 D a tA) (hb:pK D (.BoolOp .And (b :: rest) pos) tB'):pK D (.BoolOp .And (a :: b :: rest) pos) (vK tA tB'):=let ⟨_,p,s⟩:=ha;let ⟨_,q,r⟩:=hb;⟨_,fun X h=>Pk (p X h) (q X h),Nk s r⟩
theorem wJ (ha:q9 D a tA) (hb:pK D (.BoolOp .Or (b :: rest) pos) tB'):pK D (.BoolOp .Or (a :: b :: rest) pos) (B4 tA tB'):=let ⟨_,p,s⟩:=ha;let ⟨_,q,r⟩:=hb;⟨_,fun X h=>Rx (p X h) (q X h),QZ s r⟩
theorem P8 (ha:q9 D a tA):q9 D (.UnaryOp .Not a pos) (u7 tA):=let ⟨_,p,s⟩:=ha;⟨_,fun X h=>OQ (p X h),Ob s⟩
theorem Pq {op} (ha:bB D a ta):bB D (.BoolOp op [a] pos) ta:=let ⟨_,p,s⟩:=ha;⟨_,fun X h=>Qs (p X h),s⟩
theorem Qa (ha:bB D a ta) (hb:bB D (.BoolOp .And (b :: rest) pos) tb):bB D (.BoolOp .And (a :: b :: rest) pos) (qI ta tb):=let ⟨_,p,s⟩:=ha;let ⟨_,q,r⟩:=hb;⟨_,fun X h=>Qm (p X h) (q X h),Lh s r⟩
theorem Cq (hc:q9 D c tA) (ha:bB D a ta) (hb:bB D b tb):bB D (.IfExp c a b pos) (BW tA ta tb):=let ⟨_,p,s⟩:=ha;let ⟨_,q,r⟩:=hb;let ⟨_,u,v⟩:=hc;⟨_,fun X h=>JZ (u X h) (p X h) (q X h),Q6 v s r⟩
variable {es:List Expr} {tas:UA}
theorem aB:mT D [] v7:=⟨_,fun X h=>OX,NA⟩
theorem aA (ha:bB D e te) (hr:mT D es tas) (hs:∀ env,starEach (e :: es) env=(false,eval e env) :: starEach es env:=by intro _;rfl):mT D (e :: es) (qT te tas):=let ⟨_,p,s⟩:=ha;let ⟨_,q,r⟩:=hr;⟨_,fun X h=>Oi (p X h) (q X h) (hs _),K6 s r⟩
theorem bD {x1} (h:mT D es tas):bB D (.Tuple es x1 pos) (vU tas):=let ⟨_,p,s⟩:=h;⟨_,fun X h=>Qy (p X h),OC s⟩
theorem i9 (own:Bool:=false) (h:mT D es tas):bB D (.List es pos) (wD own tas):=let ⟨_,p,s⟩:=h;⟨_,fun X h=>QM (p X h),Oh s⟩
theorem aQ (ha:bB D a ta) (hb:bB D b tb) (hs:Fu b:=by intro _ _;rfl):bB D (.Subscript a b pos) (l5 AD ta tb):=by
 obtain ⟨x,p,s⟩:=ha;obtain ⟨y,q,r⟩:=hb
 refine ⟨_,fun X h=>?_,vI PL s r⟩
 have:=Rm (pos:=pos) Pz (p X h) (q X h) hs
 rw [h.K] at this
 exact this
theorem sG:Me D none l0:=⟨_,fun X h=>Oq,Gj⟩
theorem sM (h:bB D e te):Me D (some e) (qK te):=let ⟨_,p,s⟩:=h;⟨_,fun X h=>NB (p X h),Kp s⟩
variable {st:Stmt} {sts body body2:List Stmt} {t u:US}
theorem cQ:pD D [] eW:=⟨_,fun X h=>N3,LQ⟩
theorem aD (h1:pG D st t) (h2:pD D sts u):pD D (st :: sts) (vR t u):=let ⟨_,p,s⟩:=h1;let ⟨_,q,r⟩:=h2;⟨_,fun X h=>KD (p X h) (q X h),Ov s r⟩
theorem aI (h1:pG D st t):pD D [st] t:=let ⟨_,p,s⟩:=h1;⟨_,fun X h=>M7 (p X h),s⟩
theorem iD (he:bB D e te) (hs:∀ env,swapsWith e none pos.line env=pure false:=by intro _;rfl):pG D (.Expr e pos) (kY te):=let ⟨_,p,s⟩:=he;⟨_,fun X h=>MZ (p X h) (hs _),LH s⟩
theorem bJ (he:bB D e te):pG D (.Return (some e) pos) (fD te):=let ⟨_,p,s⟩:=he;⟨_,fun X h=>Pc (p X h),Oy s⟩
theorem dX {c:Expr} {tc:UT} (hc:q9 D c tc) (ha:pD D body t) (hb:pD D body2 u):pG D (.If c body body2 pos) (tO tc t u):=let ⟨_,p,s⟩:=ha;let ⟨_,q,r⟩:=hb;let ⟨_,x,y⟩:=hc;⟨_,fun X h=>RV (x X h) (p X h) (q X h),Nb y s r⟩
theorem yN {c:Expr} {tc:UT} (hc:q9 D c tc) (hb:pD D body t):pG D (.While c body [] pos) (Du tc t):=by
 obtain ⟨_,p,s⟩:=hb;obtain ⟨_,x,y⟩:=hc
 exact ⟨_,fun X h=>LI (by rw [h.xe];exact PassesOwn.never) (x X h) (p X h),Hu y s⟩
variable {k:Nat} {g:UG} {gs:Ae}
theorem aN (i:Nat) {x:Str} (hN:D.N.Nodup) (hi:D.N[i]?=some x:=by rfl) (hx:Loc D.sc x:=by first | exact Or.inl rfl | exact Or.inr rfl) (hik:i < k:=by decide) (hf:D.fn=true\/D.sc.names.lookup x=some .local:=by first | exact .inl rfl | exact .inr rfl):Cr D k (.Name x pos) (hName i) :=
 ⟨_,fun X h=>FP (i:=i) (by rw [h.N];exact hN) (by rw [h.N];exact hi) (by rw [h.sc];exact hx) (by rcases hf with z | z;exact .inl (h.fn z x);exact .inr (by rw [h.sc];exact z)),rA i,EF hik,Ra⟩
theorem dQ:Gy D k [] j6:=⟨_,fun X h=>NG,Lp,Q3,RN⟩
theorem aV (h1:Cr D k e g) (h2:Gy D k es gs) (hs:∀ env,(assignEach (e :: es) env).map (·.2)=assign e env :: (assignEach es env).map (·.2):=by intro _;rfl):Gy D k (e :: es) (gU g gs) :=
 let ⟨_,p,s,x,y⟩:=h1;let ⟨_,q,r,z,w⟩:=h2;⟨_,fun X h=>K9 (p X h) (q X h) (hs _),Jq s r,OA x z w y,Qr y w⟩
theorem eN {kk:Nat} {n:Nat} (h:Gy D k es gs) (hn:∀ env,(assignEach es env).length=n:=by intro _;rfl) (hst:∀ env,(assignEach es env).findIdx? (·.1)=none:=by intro _;rfl):Cr D k (.Tuple es kk pos) (jB n gs):=by
 obtain ⟨_,p,s,x,y⟩:=h
 refine ⟨_,fun X h=>?_,KY s,Qo x,Ru y⟩
 have:=Qk (pos:=pos) (k:=kk) h.calm (p X h) (hn _) (hst _)
 rw [h.K] at this
 exact this
theorem zJ {tg:Expr} (he:bB D e te) (hg:Cr D k tg g) (hs:∀ env,swapsWithSole [tg] e pos.line env=pure false:=by intro _;rfl) (hw:∀ env,swappedStores [tg] e env=pure none:=by intro _;rfl)
  (h1:∀ env,(assignEach [tg] env).map (·.2)=[assign tg env]:=by intro _;rfl):pG D (.Assign [tg] e pos) (bC te g):=let ⟨_,p,s⟩:=he;let ⟨_,q,r,_⟩:=hg;⟨_,fun X h=>Hn (p X h) (q X h) (hs _) (hw _) (h1 _),Bk s r⟩
theorem aU (i:Nat) {x:Str} {pos':Pos} (hN:D.N.Nodup) (he:bB D e te) (hi:D.N[i]?=some x:=by rfl) (hx:Loc D.sc x:=by first | exact Or.inl rfl | exact Or.inr rfl) (hs:∀ env,swapsWith e (some (.Name x pos')) pos.line env=pure false:=by intro _;rfl)
  (hf:D.fn=true\/D.sc.names.lookup x=some .local:=by first | exact .inl rfl | exact .inr rfl):pG D (.Assign [.Name x pos'] e pos) (bC te (hName i)):=by
 obtain ⟨_,p,s⟩:=he
 exact ⟨_,fun X h=>Qq (i:=i) (by rw [h.N];exact hN) (by rw [h.N];exact hi) (by rw [h.sc];exact hx) (p X h) (hs _) (by rcases hf with z | z;exact .inl (h.fn z x);exact .inr (by rw [h.sc];exact z)),Bk s (rA i)⟩
variable {tg iter:Expr} {wi:UI}
theorem dN (h:bB D e te):v5 D tg e (qV te):=by
 obtain ⟨_,p,s⟩:=h
 refine ⟨_,fun X h=>?_,Kb s⟩
 have:=PJ (tg:=tg) (p X h)
 rw [h.K] at this
 exact this
theorem A7 {p:Pos} {ta:UA} (hm:D.mg "range"=none) (ha:mT D [a] ta) (hg:D.sc.names.lookup ("range":Str)=some .globalImplicit:=by rfl) (hs:∀ env,starEach [a] env=[(false,eval a env)]:=by intro _;rfl):v5 D tg (.Call (.Name "range" p) [a] [] pos) (qO ta):=by
 obtain ⟨_,q,s⟩:=ha
 exact ⟨_,fun X h=>Jr (by show X.env.scope.names.lookup _=_;rw [h.sc];exact hg) (by rw [h.mg];exact hm) (q X h) (hs _),JV s⟩
theorem eL (hi:v5 D tg iter wi) (hg:Cr D k tg g) (hb:pD D body t) (hs:∀ env x,foldedSetIterable iter env x=pure x:=by intro _ _;rfl):pG D (.For tg iter body [] pos) (Dg wi g t):=by
 obtain ⟨_,p,s⟩:=hi;obtain ⟨_,q,r,_⟩:=hg;obtain ⟨_,x,y⟩:=hb
 exact ⟨_,fun X h=>QE (by rw [h.xe];exact PassesOwn.never) h.calm (p X h) (q X h) (x X h) (hs _),ML s r y⟩
end
end U2
namespace U2
open PySem PySem.Spec PyProof.Rows L2
structure Callee (P:Program) (w:World) (K:PySem.W.Frag) (mg:Str->Option Value) (base:Heap) (j:Nat) (x:Str) (sp:dB) (dus:List U):Prop where
 ex:∃ f fd ps dvs ds,j7 P w K mg base sN j f fd ps (jF K sp)/\mg x=some (.ref f)/\PySem.W.keepIn K (.ref f)=true/\Binds K fd ps ds/\Vals dvs ds/\∀ H M,aJ K H M dus dvs
abbrev Sw (D:Dat):=Callee D.prog D.w D.K D.mg D.base
section
variable {D:Dat} {a b c e o:Expr} {ta tb tc te:UE} {pos p:Pos} {es:List Expr} {tas:UA} {x:Str}
theorem aR {sp:dB} {dus:List U} {j:Nat} (F:Sw D j x sp dus) (ha:mT D (e :: es) tas) (hj:j<=D.k:=by first | exact Nat.le_refl _ | (dsimp only;omega) | omega | (dsimp only [bM];omega)) (hg:D.sc.names.lookup x=some .globalImplicit:=by rfl) (hdb:(x == ("__debug__":Str))=false:=by decide)
  (he:∀ env,starEach (e :: es) env=(false,eval e env) :: starEach es env:=by intro _;rfl) (hpl:∀ env,(backTo pos (starEach es env)).any (·.1)=false:=by intro _;rfl):bB D (.Call (.Name x p) (e :: es) [] pos) (qS sp dus tas):=by
 obtain ⟨f,fd,ps,dvs,ds,F,hm,kp,hb,hd,hr⟩:=F.ex
 obtain ⟨_,q,s⟩:=ha
 refine ⟨Gd (jF D.K sp) dvs E0 _,fun X h=>?_,Ln hr s⟩
 have F':j7 X.prog X.w X.K X.mg X.base sN j f fd ps (jF D.K sp):=by rw [h.prog,h.w,h.K,h.mg,h.base];exact F
 exact OF F' (h.room.mono hj) (by show X.env.scope.names.lookup x=_;rw [h.sc];exact hg) (by rw [h.mg];exact hm) (by rw [h.K];exact kp) (by rw [h.K];exact hb) hd Mo (q X h) hdb (he _) (hpl _)
structure xG (D:Dat) (f:Value) (r':List U->aE->UK->Prop):Prop where
 ex:∃ r,(∀ X,lB D X->mF X f r)/\zW D.K r r'
theorem tL {id:String} {r':List U->aE->UK->Prop} (k:xG D (.builtin id) r') (hm:D.mg x=none) (ha:mT D (e :: es) tas) (hv:bootBuiltins x=some (.builtin id):=by kernel_rfl) (hg:D.sc.names.lookup x=some .globalImplicit:=by rfl) (hn:x≠"__name__":=by decide) (hdb:(x == ("__debug__":Str))=false:=by decide)
  (he:∀ env,starEach (e :: es) env=(false,eval e env) :: starEach es env:=by intro _;rfl) (hpl:∀ env,(backTo pos (starEach es env)).any (·.1)=false:=by intro _;rfl):bB D (.Call (.Name x p) (e :: es) [] pos) (zZ r' tas):=by
 obtain ⟨r,h1,h2⟩:=k.ex
 obtain ⟨_,q,s⟩:=ha
 exact ⟨_,fun X h=>LA (h1 X h) (by show X.env.scope.names.lookup x=_;rw [h.sc];exact hg) (by rw [h.mg];exact hm) hv (q X h) hn hdb (he _) (hpl _),Ij h2 s⟩
theorem vE {T:String} {r':List U->aE->UK->Prop} (k:xG D (.type T) r') (hm:D.mg x=none) (ha:mT D (e :: es) tas) (hv:bootBuiltins x=some (.type T):=by kernel_rfl) (hg:D.sc.names.lookup x=some .globalImplicit:=by rfl) (hn:x≠"__name__":=by decide) (hdb:(x == ("__debug__":Str))=false:=by decide)
  (he:∀ env,starEach (e :: es) env=(false,eval e env) :: starEach es env:=by intro _;rfl) (hpl:∀ env,(backTo pos (starEach es env)).any (·.1)=false:=by intro _;rfl):bB D (.Call (.Name x p) (e :: es) [] pos) (zZ r' tas):=by
 obtain ⟨r,h1,h2⟩:=k.ex
 obtain ⟨_,q,s⟩:=ha
 exact ⟨_,fun X h=>Ib (h1 X h) (by show X.env.scope.names.lookup x=_;rw [h.sc];exact hg) (by rw [h.mg];exact hm) hv (q X h) hn hdb (he _) (hpl _),Ij h2 s⟩
theorem Aw:xG D (.builtin "len") uM:=⟨⟨_,fun X h=>by have:=J6 (X:=X);rw [h.K] at this;exact this,NP⟩⟩
theorem Qu (own:Bool:=false):xG D (.type "list") (oQ own):=⟨⟨_,fun X h=>by have:=DG (X:=X);rw [h.K] at this;exact this,Kr⟩⟩
theorem Fi:xG D (.type "tuple") mG:=⟨⟨_,fun X h=>by have:=Ca (X:=X);rw [h.K] at this;exact this,Ho⟩⟩
noncomputable def PV:List (String × String × Bool):=[("NoneType","bool",false),("NoneType","int",false),("NoneType","str",false),("NoneType","tuple",false),("NoneType","list",false),("NoneType","dict",false),("bool","bool",true),("bool","int",true),("bool","str",false),("bool","tuple",false),("bool","list",false),("bool","dict",false),("int","bool",false),("int","int",true),("int","str",false),("int","tuple",false),("int","list",false),("int","dict",false),("str","bool",false),("str","int",false),("str","str",true),("str","tuple",false),("str","list",false),("str","dict",false),("tuple","bool",false),("tuple","int",false),("tuple","str",false),("tuple","tuple",true),("tuple","list",false),("tuple","dict",false),("list","bool",false),("list","int",false),("list","str",false),("list","tuple",false),("list","list",true),("list","dict",false),("dict","bool",false),("dict","int",false),("dict","str",false),("dict","tuple",false),("dict","list",false),("dict","dict",true)]
noncomputable def bG (t T:String):Option Bool:=(PV.find? fun r=>r.1 == t && r.2.1 == T).map (·.2.2)
def wV:List U->aE->UK->Prop:=fun us M Q=>match us with
 | [x,.ty T]=>match yB M x with
  | some t=>match bG t T with
   | some b=>Q (.bl b) M
   | none=>False
  | none=>False
 | _=>False
noncomputable def yA:List U->Option (List Bool)
 | []=>some []
 | .bl b :: r=>(yA r).map (b :: ·)
 | _=>none
def vL:List U->aE->UK->Prop:=fun us M Q=>match us with
 | [x]=>match view M x with
  | .lst ws=>match yA ws with
   | some bs=>Q (.bl (bs.all fun b=>b)) M
   | none=>False
  | _=>False
 | _=>False
theorem Dy {K:PySem.W.Frag} {H:Hp} {M:aE}:∀ {us:List U} {vs:List V} {bs:List Bool},aJ K H M us vs->yA us=some bs->vs=bs.map V.bl
 | [],_,_,r,h=>by cases h;exact r.inv_nil
 | u :: us,_,bs,r,h=>by
  obtain ⟨v,vs',rfl,a,b⟩:=r.inv_cons
  cases u with
  | bl y =>
   simp only [yA] at h
   cases e:yA us with
   | none=>rw [e] at h;cases h
   | some cs =>
    rw [e] at h
    cases h
    rw [Dy b e,a.bl];rfl
  | _=>cases h
theorem RU:xG D (.builtin "all") vL:=⟨⟨_,fun X h=>by have:=Js (X:=X) h.calm;rw [h.K] at this;exact this,fun xs us H M Q' rm rus h Q c=>by
 unfold vL at h
 split at h
 ·rename_i x
  obtain ⟨v,rfl,a1⟩:=rus.one
  split at h
  ·rename_i ws e
   split at h
   ·rename_i bs e2
    obtain ⟨b,zvs,rfl,s2,r2⟩:=eO rm a1 e
    rw [Dy r2 e2] at s2
    exact ⟨b,bs,rfl,s2,c.here rm fA h⟩
   ·exact h.elim
  ·exact h.elim
 ·exact h.elim⟩⟩
theorem qP {apos:Pos} (ho:bB D o ta) (ha:mT D [e] tas) (hbase:∀ env,attributeBase o "append" env (eval o env)=eval o env:=by intro _;rfl)
  (hfew:∀ env,((backTo pos (starEach [e] env)).all (fun x=>!x.1) && (backToKw pos (keywordEach [] env)).all (fun x=>x.1.isSome) && decide ([e].length + ([]:List Keyword).length + (if ([]:List Keyword).isEmpty then 0 else 1) < 30))=true:=by intro _;rfl)
  (hline:(apos.endLine == pos.line)=true:=by rfl) (hs:∀ env,starEach [e] env=[(false,eval e env)]:=by intro _;rfl):bB D (.Call (.Attribute o "append" apos) [e] [] pos) (Ab k7 ta tas):=by
 obtain ⟨_,p,s⟩:=ho;obtain ⟨_,q,r⟩:=ha
 refine ⟨_,fun X h=>?_,Hx FT s r⟩
 have:=Mn (cpos:=pos) (apos:=apos) PySem.F.plainAttrs_list PySem.F.slot_list_append PySem.F.type_list_append vW (p X h) (q X h) (hbase _) (hfew _) hline (hs _) (by rfl)
 rw [h.K] at this
 exact this
theorem HA {apos:Pos} (ho:bB D o ta) (hbase:∀ env,attributeBase o "pop" env (eval o env)=eval o env:=by intro _;rfl)
  (hline:(apos.endLine == pos.line)=true:=by rfl):bB D (.Call (.Attribute o "pop" apos) [] [] pos) (wA tZ ta):=by
 obtain ⟨_,p,s⟩:=ho
 refine ⟨_,fun X h=>?_,NJ N8 s⟩
 have:=Pr (cpos:=pos) (apos:=apos) PySem.F.plainAttrs_list PySem.F.slot_list_pop PySem.F.type_list_pop Pl (p X h) (hbase _) hline
 rw [h.K] at this
 exact this
noncomputable def bW (scope sc:Scope):Scope :=
 { scope with names:=scope.names.map fun (n,k)=>if (k == .free && sc.kind == .function && sc.names.lookup n == some .cell) then (n,.cell) else (n,k) }
noncomputable def bM (D:Dat) (N:List Str) (scope:Scope):Dat:={ D with N:=N,sc:=bW scope D.sc,fn:=false,cod:=.none }
theorem lB.comp {X:Cx} (h:lB D X) (N:List Str) (scope:Scope) (cl:List (Str × Addr)) (C:Addr) (s:Shared) (H:Hp) (fp:List Addr):lB (bM D N scope) (eI X N scope cl C s H fp) :=
 ⟨h.prog,h.w,h.K,h.mg,h.base,rfl,by show bW scope X.env.scope=bW scope D.sc;rw [h.sc],h.room,h.calm,rfl,(fun z=>by cases z),(fun z=>absurd rfl z)⟩
theorem gK:GV D [] (fun _ M Q=>Q true M):=⟨KJ,fun X h=>EM,fun σ τ H M Q' rs rm q Q c=>c true M H (aS.refl _ _) rm q⟩
theorem E8 {t:UT} (h:q9 D c t):GV D [c] t:=let ⟨_,p,s⟩:=h;⟨_,fun X h=>OE (p X h),s⟩
theorem k5 (own:Bool) (N:List Str) (k:Nat) (ix:List Nat) {scope:Scope} {tg iter elt:Expr} {ifs:List Expr} {wi:UI} {g:UG} {tcs:UT} (hi:v5 D tg iter wi) (hg:Cr (bM D N scope) k tg g) (hif:GV (bM D N scope) ifs tcs) (he:bB (bM D N scope) elt te)
  (hk:scope.kind=.function:=by rfl) (hcell:∀ y∈scope.names,y.2≠.cell:=by first | decide +kernel | (dsimp only;decide +kernel) | (dsimp only [bM,bW];decide +kernel)) (hnames:∀ y∈scope.names,y.2=.local->scope.names.lookup y.1=some .local:=by first | decide +kernel | (dsimp only;decide +kernel) | (dsimp only [bM,bW];decide +kernel))
  (hfree:∀ y∈scope.names,y.2=.free->D.sc.names.lookup y.1=some .cell\/D.sc.names.lookup y.1=some .free:=by first | decide +kernel | (dsimp only;decide +kernel) | (dsimp only [bM,bW];decide +kernel)) (hone:∀ y∈scope.names,y.2=.free->scope.names.lookup y.1=some .free:=by first | decide +kernel | (dsimp only;decide +kernel) | (dsimp only [bM,bW];decide +kernel))
  (hN:ix.map (fun i=>D.N[i]?)=(N.drop k).map some:=by rfl) (hcap:∀ x∈N.drop k,scope.names.lookup x=some .free:=by first | decide +kernel | (dsimp only;decide +kernel) | (dsimp only [bM,bW];decide +kernel)) (hlen:N.length=k + ix.length:=by rfl)
  (hs:∀ env x,foldedSetIterable iter env x=pure x:=by intro _ _;rfl):bB D (.ListComp elt [⟨tg,iter,ifs,0⟩] scope pos) (qQ own k ix wi g tcs te):=by
 obtain ⟨_,p1,s1⟩:=hi;obtain ⟨_,p2,s2,gk,_⟩:=hg;obtain ⟨_,p3,s3⟩:=hif;obtain ⟨_,p4,s4⟩:=he
 have hN':∀ (j:Nat) x,N[k + j]?=some x->∃ i,ix[j]?=some i/\D.N[i]?=some x:=fun j x e=>by
  have e1:((N.drop k).map some)[j]?=some (some x):=by rw [List.getElem?_map,List.getElem?_drop,e];rfl
  rw [<- hN,List.getElem?_map] at e1
  cases q:ix[j]? with
  | none=>rw [q] at e1;cases e1
  | some i=>rw [q] at e1;exact ⟨i,rfl,Option.some.inj e1⟩
 have hcap':∀ (j:Nat) x,N[k + j]?=some x->scope.names.lookup x=some .free:=fun j x e=>hcap x (List.mem_of_getElem? (i:=j) (by rw [List.getElem?_drop];exact e))
 refine ⟨_,fun X h=>Nv (N:=N) (k:=k) (ix:=ix) h.calm (p1 X h) gk hk hcell hnames (fun y hy e=>by show X.env.scope.names.lookup y.1=_\/X.env.scope.names.lookup y.1=_;rw [h.sc];exact hfree y hy e) hone (fun j x e=>by rw [h.N];exact hN' j x e) hcap' hlen
  (fun cl C s H fp=>p2 _ (h.comp N scope cl C s H fp)) (fun cl C s H fp=>p3 _ (h.comp N scope cl C s H fp)) (fun cl C s H fp=>p4 _ (h.comp N scope cl C s H fp)) (hs _),x8 s1 s2 s3 s4⟩
theorem LD {elt:Expr} {gens:List Comprehension} {scope:Scope} {pos py:Pos} {y:Str} {line:Nat} {env:Env} (h1:env.scope.kind=.function) (h2:env.scope.names.lookup y=some .local) (h3:(py.line == pos.line && !(scope.names.any fun (n,k)=>n == y && (k == .local || k == .cell)))=true) :
  swapsWith (.ListComp elt gens scope pos) (some (.Name y py)) line env=pure true:=by
 have e1:(env.blockKind == .function)=true:=by first | (unfold Env.blockKind;rw [h1];rfl) | (unfold Env.blockKind;simp [h1])
 have e2:(env.kindOf y == some .local)=true:=by unfold Env.kindOf;rw [h2];rfl
 show pure (env.blockKind == .function && env.kindOf y == some .local && py.line == pos.line && !(scope.names.any fun (n,k)=>n == y && (k == .local || k == .cell)))=pure true
 rw [e1,e2]
 simp only [Bool.and_eq_true] at h3
 rw [h3.1,h3.2]
 rfl
theorem oW (i:Nat) {y:Str} {spos py:Pos} (hNd:D.N.Nodup) (own:Bool) (N:List Str) (k:Nat) (ix:List Nat) {scope:Scope} {tg iter elt:Expr} {ifs:List Expr} {wi:UI} {g:UG} {tcs:UT} (hi:v5 D tg iter wi) (hg:Cr (bM D N scope) k tg g) (hif:GV (bM D N scope) ifs tcs) (he:bB (bM D N scope) elt te)
  (hk:scope.kind=.function:=by rfl) (hcell:∀ y∈scope.names,y.2≠.cell:=by first | decide +kernel | (dsimp only;decide +kernel) | (dsimp only [bM,bW];decide +kernel)) (hnames:∀ y∈scope.names,y.2=.local->scope.names.lookup y.1=some .local:=by first | decide +kernel | (dsimp only;decide +kernel) | (dsimp only [bM,bW];decide +kernel))
  (hfree:∀ y∈scope.names,y.2=.free->D.sc.names.lookup y.1=some .cell\/D.sc.names.lookup y.1=some .free:=by first | decide +kernel | (dsimp only;decide +kernel) | (dsimp only [bM,bW];decide +kernel)) (hone:∀ y∈scope.names,y.2=.free->scope.names.lookup y.1=some .free:=by first | decide +kernel | (dsimp only;decide +kernel) | (dsimp only [bM,bW];decide +kernel))
  (hN:ix.map (fun i=>D.N[i]?)=(N.drop k).map some:=by rfl) (hcap:∀ x∈N.drop k,scope.names.lookup x=some .free:=by first | decide +kernel | (dsimp only;decide +kernel) | (dsimp only [bM,bW];decide +kernel)) (hlen:N.length=k + ix.length:=by rfl)
  (hs:∀ env x,foldedSetIterable iter env x=pure x:=by intro _ _;rfl) (hl1:D.sc.kind=.function:=by rfl) (hl2:D.sc.names.lookup y=some .local:=by rfl) (hl3:(py.line == pos.line && !(scope.names.any fun (n,k)=>n == y && (k == .local || k == .cell)))=true:=by decide +kernel)
  (hiy:D.N[i]?=some y:=by rfl) (hy:Loc D.sc y:=by first | exact Or.inl rfl | exact Or.inr rfl) (hf:D.fn=true\/D.sc.names.lookup y=some .local:=by first | exact .inl rfl | exact .inr rfl):pG D (.Assign [.Name y py] (.ListComp elt [⟨tg,iter,ifs,0⟩] scope pos) spos) (bC (qQ own k ix wi g tcs te) (hName i)):=by
 obtain ⟨_,p1,s1⟩:=hi;obtain ⟨_,p2,s2,gk,_⟩:=hg;obtain ⟨_,p3,s3⟩:=hif;obtain ⟨_,p4,s4⟩:=he
 have hN':∀ (j:Nat) x,N[k + j]?=some x->∃ i,ix[j]?=some i/\D.N[i]?=some x:=fun j x e=>by
  have e1:((N.drop k).map some)[j]?=some (some x):=by rw [List.getElem?_map,List.getElem?_drop,e];rfl
  rw [<- hN,List.getElem?_map] at e1
  cases q:ix[j]? with
  | none=>rw [q] at e1;cases e1
  | some i=>rw [q] at e1;exact ⟨i,rfl,Option.some.inj e1⟩
 have hcap':∀ (j:Nat) x,N[k + j]?=some x->scope.names.lookup x=some .free:=fun j x e=>hcap x (List.mem_of_getElem? (i:=j) (by rw [List.getElem?_drop];exact e))
 refine ⟨_,fun X h=>NQ (i:=i) (N:=N) (k:=k) (ix:=ix) h.calm (p1 X h) gk hk hcell hnames (fun y hy e=>by show X.env.scope.names.lookup y.1=_\/X.env.scope.names.lookup y.1=_;rw [h.sc];exact hfree y hy e) hone (fun j x e=>by rw [h.N];exact hN' j x e) hcap' hlen
  (fun cl C s H fp=>p2 _ (h.comp N scope cl C s H fp)) (fun cl C s H fp=>p3 _ (h.comp N scope cl C s H fp)) (fun cl C s H fp=>p4 _ (h.comp N scope cl C s H fp)) (hs _) (LD (by rw [h.sc];exact hl1) (by rw [h.sc];exact hl2) hl3) (by rw [h.N];exact hNd) (by rw [h.N];exact hiy) (by rw [h.sc];exact hy) (by rcases hf with z | z;exact .inl (h.fn z y);exact .inr (by rw [h.sc];exact z)),Bk (x8 s1 s2 s3 s4) (rA i)⟩
end
section
variable {P:Program} {w:World} {K:PySem.W.Frag} {mg:Str->Option Value} {base:Heap}
theorem BE {H:Hp} {M:aE} {N:List Str} {us:List U} {vs:List V} (r:aJ K H M us vs):eK K H M (L2.start N vs) (iM N us):=by
 have hl:=r.length
 refine ⟨by simp [L2.start,iM,hl],fun i u e=>?_⟩
 unfold iM at e
 unfold L2.start
 by_cases hi:i < us.length
 ·rw [List.getElem?_append_left (by simpa using hi),List.getElem?_map] at e
  cases q:us[i]? with
  | none=>rw [q] at e;cases e
  | some u' =>
   rw [q] at e
   cases e
   obtain ⟨v,h1,h2⟩:=r.get q
   exact ⟨v,by rw [List.getElem?_append_left (by rw [List.length_map];omega),List.getElem?_map,h1];rfl,h2⟩
 ·rw [List.getElem?_append_right (by simpa using hi),List.getElem?_replicate] at e
  split at e <;> cases e
theorem FG {x:Str} {st:Stmt} {f:Addr} {fd:FuncData} {N ps:List Str} {k:Nat} {sp:dB} {t:US} (F:dM K x x st f fd) (S:bE N ps (aT st))
  (len:∀ us M Q,sp us M Q->us.length=ps.length)
  (h:pD ⟨P,w,K,mg,base,N,aT st,k,true,.none,""⟩ (gG st) t)
  (q:∀ us M Q,sp us M Q->t { nx:=fun _ M'=>sJ Q .non M',rt:=sJ Q } (iM N us) M):j7 P w K mg base sN (k + 1) f fd ps (jF K sp):=by
 obtain ⟨t0,h1,h2⟩:=h
 refine F.ok S (fun vs H Q E ⟨us,M,Q',_,r,hs,_⟩=>by rw [<- r.length];exact len us M Q' hs) (fun cdv A outer s H vs Q E hr ⟨us,M,Q',rm,r,hs,c⟩=>?_)
 refine ⟨t0,h1 _ ⟨rfl,rfl,rfl,rfl,rfl,rfl,rfl,hr,rfl,rfl,fun _ _=>rfl,fun h=>absurd rfl h⟩,?_⟩
 refine h2 _ (iM N us) H M _ (BE r) rm (q us M Q' hs) _ ⟨fun σ τ H1 M1 s1 rm1 rs1 q1=>?_,fun u v H1 M1 s1 rm1 ru q1=>sJ.ok c s1 rm1 ru q1,fun _ _ _ _ _ _ _ z=>z.elim,fun _ _ _ _ _ _ _ z=>z.elim⟩
 exact sJ.ok c s1 rm1 nA q1
theorem IL {x:Str} {st:Stmt} {f:Addr} {fd:FuncData} {N ps:List Str} {k:Nat} {sp:dB} {t:US} (F:dM K x x st f fd) (hm:mg x=some (.ref f)) (S:bE N ps (aT st))
  (bind:∀ (kV doc pm:Value) (an:Option Addr) (cdv ct:Value) (us:List Value),us.length=ps.length->bindArgs (PySem.W.fnOf x x (k9 st) (gG st) (aT st) .none kV doc pm an cdv ct) ⟨us,[]⟩=pure (ps.zip us))
  (len:∀ us M Q,sp us M Q->us.length=ps.length)
  (h:pD ⟨P,w,K,mg,base,N,aT st,k,true,.none,""⟩ (gG st) t)
  (q:∀ us M Q,sp us M Q->t { nx:=fun _ M'=>sJ Q .non M',rt:=sJ Q } (iM N us) M):Callee P w K mg base (k + 1) x sp []:=by
 obtain ⟨t0,h1,h2⟩:=h
 refine ⟨f,fd,ps,[],[],F.ok S (fun vs H Q E ⟨us,M,Q',_,r,hs,_⟩=>by rw [<- r.length];exact len us M Q' hs) (fun cdv A outer s H vs Q E hr ⟨us,M,Q',rm,r,hs,c⟩=>?_),hm,F.kp,F.binds bind,.nil,fun H M=>.nil⟩
 refine ⟨t0,h1 _ ⟨rfl,rfl,rfl,rfl,rfl,rfl,rfl,hr,rfl,rfl,fun _ _=>rfl,fun h=>absurd rfl h⟩,?_⟩
 refine h2 _ (iM N us) H M _ (BE r) rm (q us M Q' hs) _ ⟨fun σ τ H1 M1 s1 rm1 rs1 q1=>?_,fun u v H1 M1 s1 rm1 ru q1=>sJ.ok c s1 rm1 ru q1,fun _ _ _ _ _ _ _ z=>z.elim,fun _ _ _ _ _ _ _ z=>z.elim⟩
 exact sJ.ok c s1 rm1 nA q1
end
end U2
namespace U2
open PySem L2
theorem eP:bG "NoneType" "bool"=some false:=by decide +kernel
theorem fF:bG "NoneType" "int"=some false:=by decide +kernel
theorem fC:bG "NoneType" "str"=some false:=by decide +kernel
theorem eG:bG "NoneType" "tuple"=some false:=by decide +kernel
theorem eT:bG "NoneType" "list"=some false:=by decide +kernel
theorem eQ:bG "NoneType" "dict"=some false:=by decide +kernel
theorem iC:bG "bool" "bool"=some true:=by decide +kernel
theorem jA:bG "bool" "int"=some true:=by decide +kernel
theorem jH:bG "bool" "str"=some false:=by decide +kernel
theorem gL:bG "bool" "tuple"=some false:=by decide +kernel
theorem iA:bG "bool" "list"=some false:=by decide +kernel
theorem hZ:bG "bool" "dict"=some false:=by decide +kernel
theorem jG:bG "int" "bool"=some false:=by decide +kernel
theorem jS:bG "int" "int"=some true:=by decide +kernel
theorem jT:bG "int" "str"=some false:=by decide +kernel
theorem iE:bG "int" "tuple"=some false:=by decide +kernel
theorem jC:bG "int" "list"=some false:=by decide +kernel
theorem i8:bG "int" "dict"=some false:=by decide +kernel
theorem jE:bG "str" "bool"=some false:=by decide +kernel
theorem jU:bG "str" "int"=some false:=by decide +kernel
theorem jW:bG "str" "str"=some true:=by decide +kernel
theorem gZ:bG "str" "tuple"=some false:=by decide +kernel
theorem i4:bG "str" "list"=some false:=by decide +kernel
theorem i5:bG "str" "dict"=some false:=by decide +kernel
theorem gJ:bG "tuple" "bool"=some false:=by decide +kernel
theorem hX:bG "tuple" "int"=some false:=by decide +kernel
theorem iI:bG "tuple" "str"=some false:=by decide +kernel
theorem fR:bG "tuple" "tuple"=some true:=by decide +kernel
theorem gM:bG "tuple" "list"=some false:=by decide +kernel
theorem gN:bG "tuple" "dict"=some false:=by decide +kernel
theorem hJ:bG "list" "bool"=some false:=by decide +kernel
theorem iZ:bG "list" "int"=some false:=by decide +kernel
theorem iY:bG "list" "str"=some false:=by decide +kernel
theorem gI:bG "list" "tuple"=some false:=by decide +kernel
theorem iG:bG "list" "list"=some true:=by decide +kernel
theorem hC:bG "list" "dict"=some false:=by decide +kernel
theorem gY:bG "dict" "bool"=some false:=by decide +kernel
theorem iW:bG "dict" "int"=some false:=by decide +kernel
theorem jD:bG "dict" "str"=some false:=by decide +kernel
theorem gH:bG "dict" "tuple"=some false:=by decide +kernel
theorem iF:bG "dict" "list"=some false:=by decide +kernel
theorem iH:bG "dict" "dict"=some true:=by decide +kernel
theorem aY {Q:UK} {u:U} {M:aE} (q:Q u M):sJ Q u M:=⟨u,M,Sub.refl M,.inl rfl,q⟩
theorem GA {o:Bool} {k:Nat} {ix:List Nat} {wi:UI} {g:UG} {tc:UT} {te:UE} {τ:SU} {M M1:aE} {Q:UK} {S:Src} (f:U->Option U) (hw:∀ R:Src->aE->Prop,R S M1->wi τ M R) (hz:S.xs.length<=sizeLine) (hs:S.ok M1)
  (h:∀ x∈S.xs,∀ M,Sub M1 M->∀ R:Option U->aE->Prop,R (f x) M->g x (cY k ix τ) M fun τ2 M2=>tc τ2 M2 fun ok M3=>if ok=true then te τ2 M3 fun y M4=>R (some y) M4 else R none M3)
  (q:iL o (S.xs.filterMap f) M1 Q):qQ o k ix wi g tc te τ M Q:=hw _ (JQ (wi:=wi) f hz hs h q)
theorem fL {wi:UI} {g:UG} {tb:US} {D:q8} {τ:SU} {M M1:aE} {S:Src} (hw:∀ R:Src->aE->Prop,R S M1->wi τ M R) (P:Nat->SU->aE->Prop) (h0:P 0 τ M1) (hok:∀ i τ M,P i τ M->S.ok M)
  (turn:∀ i x τ M,S.xs[i]?=some x->P i τ M->g x τ M fun τ2 M2=>tb { D with nx:=P (i + 1),ct:=P (i + 1),bk:=D.nx } τ2 M2) (fin:∀ τ M,P S.xs.length τ M->D.nx τ M):Dg wi g tb D τ M:=hw _ ⟨P,h0,hok,turn,fin⟩
theorem xX {c:UT} {tb:US} {D:q8} {τ:SU} {M:aE} (P:SU->aE->Prop) (μ:SU->aE->Nat) (h0:P τ M)
  (turn:∀ τ M,P τ M->c τ M fun b M1=>if b=true then tb { D with nx:=fun τ' M'=>P τ' M'/\μ τ' M' < μ τ M,ct:=fun τ' M'=>P τ' M'/\μ τ' M' < μ τ M,bk:=D.nx } τ M1 else D.nx τ M1):Du c tb D τ M:=⟨P,μ,h0,turn⟩
theorem Ax {lo:Int} {n i:Nat} {x:U} (h:(iR lo n)[i]?=some x):x=.int (lo + i)/\i < n:=by
 have hi:i < n:=by
  have:=(List.getElem?_eq_some_iff.mp h).1
  simpa [iR] using this
 simp only [iR,List.getElem?_map,List.getElem?_range hi,Option.map_some] at h
 exact ⟨(Option.some.inj h).symm,hi⟩
theorem tT (lo:Int) (n:Nat):(iR lo n).length=n:=by simp [iR]
end U2
namespace U2
open PySem PySem.Spec PyProof.Rows L2
inductive Fl where
 | int (i:Int) | str (x:Str)
noncomputable def Fl.d:Fl->PyData
 | .int i=>.int i
 | .str x=>.str x
noncomputable def Fl.u:Fl->U
 | .int i=>.int i
 | .str x=>.str x
noncomputable def Kd (T:List (Str × Fl)):List (PyData × PyData):=T.map fun p=>(PyData.str p.1,p.2.d)
noncomputable def eE:List (Str × Fl)->Str->Option Fl
 | [],_=>none
 | (a,b) :: r,z=>if a=z then some b else eE r z
structure zT (P:Program) (w:World) (K:PySem.W.Frag) (d:Addr) (T:List (Str × Fl)):Prop where
 at_:∀ h:Heap,K.In h->StrTab P w h d (Kd T)
theorem RE (a b:Str):same (.str a) (.str b)=decide (a=b):=by
 by_cases h:a=b <;> simp [same,h]
theorem lookup_tab:∀ (T:List (Str × Fl)) (z:Str),PySem.Spec.lookup (.str z) (Kd T)=(eE T z).map Fl.d
 | [],_=>rfl
 | (a,b) :: r,z=>by
  have ih:=lookup_tab r z
  show (if same (.str a) (.str z)=true then some b.d else PySem.Spec.lookup (.str z) (Kd r))=((if a=z then some b else eE r z).map Fl.d)
  rw [RE]
  by_cases e:a=z
  ·rw [if_pos (decide_eq_true e),if_pos e];rfl
  ·rw [if_neg (by simpa using e),if_neg e,ih]
noncomputable def Bf (T:List (Str × Fl)):List (Str × PyData):=T.map fun p=>(p.1,p.2.d)
theorem tab_of {P:Program} {w:World} {K:PySem.W.Frag} {d:Addr} {T:List (Str × Fl)} (n:((Bf T).map (·.1)).Nodup) (e:KTD.tabLook KTD.flatLooks (fun b=>K.lookup b) d (Bf T)=true) (q:KTD.hashesOf (fun b=>K.lookup b) d=(Bf T).map fun p=>(PySem.strKind P w).hash p.1):zT P w K d T:=⟨fun h hK=>by
 have:=PySem.W.kt_tab_in P w hK e n q
 unfold Bf at this
 rw [List.map_map] at this
 exact this⟩
section
variable {X:Cx} {d:Addr} {T:List (Str × Fl)}
theorem Le (t:zT X.prog X.w X.K d T):dW X (compareOp .In) (fun x y H Q=>∃ z,x=.str z/\y=.ref d/\Q (.bl (eE T z).isSome) H):=by
 intro pins s σ H x y v u Q I rx ry h
 obtain ⟨z,rfl,rfl,q⟩:=h
 obtain ⟨tk,rfl⟩:=rx
 cases ry
 refine in_strTab (t.at_ _ I.kIn) ?_
 rw [lookup_tab,Option.isSome_map]
 exact ⟨.bl _,H,I.tok _,rfl,q⟩
end
section
variable {D:Dat} {d:Addr} {T:List (Str × Fl)}
abbrev Tab (D:Dat):=zT D.prog D.w D.K
def uA (d:Addr) (T:List (Str × Fl)) (neg:Bool):eB:=fun x y M Q=>match x with
 | .str z=>y=.ref d/\Q (.bl (if neg then !(eE T z).isSome else (eE T z).isSome)) M
 | _=>False
theorem Nj (t:Tab D d T):mS D .In (uA d T false):=⟨⟨_,fun X h=>Le (by rw [h.prog,h.w,h.K];exact t),fun x y u w H M Q' rm ru rw h Q c=>by
 cases u with
 | str z=>obtain ⟨rfl,h⟩:=h;exact ⟨z,ru.str,rw.ref,c.here rm fA h⟩
 | _=>exact h.elim⟩⟩
def xB (d:Addr) (T:List (Str × Fl)):eB:=fun x y M Q=>match y with
 | .str z=>x=.ref d/\match eE T z with
  | some f=>Q f.u M
  | none=>False
 | _=>False
noncomputable def JH (i:Nat) (f:Addr) (sp:Sp) (t:TA):TE:=fun σ H Q=>K1 i σ H fun v H1=>v=.ref f/\t σ H1 fun vs H2=>sp vs H2 Q E0
theorem KZ {X:Cx} {x:Str} {p pos:Pos} {e:Expr} {es:List Expr} {i k:Nat} {f:Addr} {fd:FuncData} {ps:List Str} {sp:Sp} {t:TA} (hN:X.N[i]?=some x) (hv:JI X.env.scope x) (F:j7 X.prog X.w X.K X.mg X.base sN k f fd ps sp) (hr:eU k X.A) (hk:PySem.W.keepIn X.K (.ref f)=true) (hb:Binds X.K fd ps [])
  (ha:PA X (e :: es) t) (hd:(x == ("__debug__":Str))=false) (hcd:(x == ("__classdict__":Str))=false) (he:starEach (e :: es) X.env=(false,eval e X.env) :: starEach es X.env) (hpl:(backTo pos (starEach es X.env)).any (·.1)=false) :
  PE X (.Call (.Name x p) (e :: es) [] pos) (JH i f sp t):=by
 intro pins s σ H Q I h
 refine wpAny_Call_Name_kw (bF (Jd (i:=i) hN hv hd hcd pins s σ H _ I h) fun v s1 ⟨x',H1,I1,r1,e1,q1⟩=>?_)
 subst e1
 cases r1
 refine PySem.W.callWith_K (h₀:=X.base) I1.ok.mod.kin hk (bF (ha pos pins s1 σ H1 _ I1 q1) fun us s2 ⟨vs,H2,I2,r,q⟩=>⟨I2.kIn,?_⟩) he hpl
 exact IT (dvs:=[]) F hr hb .nil Mo I2 r (by rw [List.append_nil];exact q)
structure uE (P:Program) (w:World) (K:PySem.W.Frag) (mg:Str->Option Value) (base:Heap) (j:Nat) (f:Addr) (sp:dB):Prop where
 ex:∃ fd ps,j7 P w K mg base sN j f fd ps (jF K sp)/\PySem.W.keepIn K (.ref f)=true/\Binds K fd ps []
def pB (i:Nat) (f:Addr) (sp:dB) (t:UA):UE:=fun τ M Q=>rG i τ M fun v M1=>v=.ref f/\t τ M1 fun us M2=>sp us M2 Q
theorem Lc (i:Nat) {x:Str} {p pos:Pos} {e:Expr} {es:List Expr} {j:Nat} {f:Addr} {sp:dB} {tas:UA} (F:uE D.prog D.w D.K D.mg D.base j f sp) (ha:mT D (e :: es) tas) (hN:D.N[i]?=some x:=by rfl) (hv:JI D.sc x:=by first | exact Or.inl rfl | exact Or.inr (Or.inl rfl) | exact Or.inr (Or.inr rfl))
  (hj:j<=D.k:=by first | exact Nat.le_refl _ | (dsimp only;omega) | omega | (dsimp only [bM];omega)) (hd:(x == ("__debug__":Str))=false:=by decide) (hcd:(x == ("__classdict__":Str))=false:=by decide)
  (he:∀ env,starEach (e :: es) env=(false,eval e env) :: starEach es env:=by intro _;rfl) (hpl:∀ env,(backTo pos (starEach es env)).any (·.1)=false:=by intro _;rfl):bB D (.Call (.Name x p) (e :: es) [] pos) (pB i f sp tas):=by
 obtain ⟨fd,ps,F,kp,hb⟩:=F.ex
 obtain ⟨t,q,s⟩:=ha
 refine ⟨JH i f (jF D.K sp) t,fun X h=>?_,fun σ τ H M Q' rs rm h Q c=>?_⟩
 ·have F':j7 X.prog X.w X.K X.mg X.base sN j f fd ps (jF D.K sp):=by rw [h.prog,h.w,h.K,h.mg,h.base];exact F
  exact KZ (by rw [h.N];exact hN) (by rw [h.sc];exact hv) F' (h.room.mono hj) (by rw [h.K];exact kp) (by rw [h.K];exact hb) (q X h) hd hcd (he _) (hpl _)
 ·refine EI i σ τ H M _ rs rm h _ fun u v M1 H1 s1 rm1 ru h1=>?_
  obtain ⟨rfl,h1⟩:=h1
  refine ⟨ru.ref,s σ τ H1 M1 _ (rs.stp s1) rm1 h1 _ fun us vs M2 H2 s2 rm2 rus h2=>?_⟩
  exact ⟨us,M2,Q',rm2,rus,h2,d7.stp c (s1.trans s2)⟩
end
end U2
namespace U2
open PySem PySem.Spec PyProof.Rows L2
noncomputable def half (j:Int):Nat:=((j + 1) / 2).toNat
theorem Sf {j:Int} (h:0<=j):Builtin.Range.rangeSize 0 j 2=(half j:Nat):=by
 unfold Builtin.Range.rangeSize half
 simp only [show (2:Int) > 0 by decide,if_true]
 split <;> omega
noncomputable def EX (n:Nat):List U:=(List.range n).map fun (k:Nat)=>U.int ((k:Int) * 2)
theorem Ri (n:Nat):(EX n).length=n:=by simp [EX]
end U2
namespace U2
open PySem PySem.Spec PyProof.Rows L2
noncomputable def Co:List U->Option (List Str)
 | []=>some []
 | .str b :: r=>(Co r).map (b :: ·)
 | _=>none
theorem Ih {K:PySem.W.Frag} {H:Hp} {M:aE}:∀ {us:List U} {vs:List V} {bs:List Str},aJ K H M us vs->Co us=some bs->vs=bs.map V.str
 | [],_,_,r,h=>by cases h;exact r.inv_nil
 | u :: us,_,bs,r,h=>by
  obtain ⟨v,vs',rfl,a,b⟩:=r.inv_cons
  cases u with
  | str y =>
   simp only [Co] at h
   cases e:Co us with
   | none=>rw [e] at h;cases h
   | some cs =>
    rw [e] at h
    cases h
    rw [Ih b e,a.str];rfl
  | _=>cases h
end U2
namespace U2
open PySem L2
theorem FN {α:Type} {a:α} {r:List α}:fQ (a :: r) 0=some a:=gO (j:=0) rfl
theorem Fh {α:Type} {a b:α} {r:List α}:fQ (a :: b :: r) 1=some b:=gO (j:=1) rfl
theorem at2 {α:Type} {a b c:α} {r:List α}:fQ (a :: b :: c :: r) 2=some c:=gO (j:=2) rfl
theorem EG {α:Type} {a b c d:α} {r:List α}:fQ (a :: b :: c :: d :: r) 3=some d:=gO (j:=3) rfl
theorem Qw {α:Type} (l:List α) (i:Int) (h0:0<=i) (h1:i < l.length):∃ c,fQ l i=some c:=by
 have hl:i.toNat < l.length:=by omega
 refine ⟨l[i.toNat],?_⟩
 have e:((i.toNat:Nat):Int)=i:=by omega
 have q:=gO (xs:=l) (j:=i.toNat) (v:=l[i.toNat]) (by simp [hl])
 rw [e] at q
 exact q
theorem Qx {α:Type} (l:List α) (a:α):fQ (l++[a]) (-1)=some a:=K8 l a
theorem PQ {α:Type} (l:List α) (a:α):(l++[a]).getLast?=some a:=by simp
theorem P0 {α:Type} (l:List α) (a:α):(l++[a]).dropLast=l:=List.dropLast_concat
theorem Si {α:Type} (a:α) (r:List α):i7 (a :: r) (some 1) none=r:=by
 unfold i7
 simp [HT.bK]
 try omega
theorem sR {M:aE}:view M .non=.non:=rfl
theorem l8 {M:aE} {x:Bool}:view M (.bl x)=.bl x:=rfl
theorem sL {M:aE} {x:Int}:view M (.int x)=.int x:=rfl
theorem sO {M:aE} {x:Str}:view M (.str x)=.str x:=rfl
theorem sH {M:aE} {x:List U}:view M (.tup x)=.tup x:=rfl
theorem pO {M:aE} {x:List U}:view M (.lst x)=.lst x:=rfl
theorem pR {M:aE} {p:Addr} {us:List U}:view (mup M p (.lst us)) (.ref p)=.lst us:=kP aG
theorem w9 {M:aE} {p:Addr} {us:List U}:IB (mup M p (.lst us)) (.ref p):=⟨us,pR⟩
theorem Sub.none {M M':aE} {p:Addr} (h:Sub M M') (hp:M' p=none):M p=none:=by
 cases e:M p with
 | none=>rfl
 | some o=>rw [h p o e] at hp;cases hp
theorem dE {o:Bool} {k:Nat} {ix:List Nat} {wi:UI} {g:UG} {te:UE} {τ:SU} {M M1:aE} {Q:UK} {S:Src} (zs:List U) (hw:∀ R:Src->aE->Prop,R S M1->wi τ M R) (hl:zs.length=S.xs.length) (hz:S.xs.length<=sizeLine) (hs:S.ok M1)
  (h:∀ (i:Nat) x y,S.xs[i]?=some x->zs[i]?=some y->∀ M,Sub M1 M->∀ R:UK,R y M->g x (cY k ix τ) M fun τ2 M2=>te τ2 M2 R)
  (q:iL o zs M1 Q):qQ o k ix wi g (fun _ M Q=>Q true M) te τ M Q:=by
 refine hw _ ⟨hz,fun D hD=>⟨fun i ys M=>ys=zs.take i/\M=mup M1 D (.lst ys)/\i<=S.xs.length,⟨by simp,rfl,Nat.zero_le _⟩,?_,?_,?_⟩⟩
 ·rintro i ys M ⟨rfl,rfl,hi⟩
  refine ⟨fun a e=>?_,aG,?_⟩
  ·have:=hs a e
   rw [aM (fun z=>by subst z;rw [hD] at this;cases this)]
   exact this
  ·rw [List.length_take];omega
 ·rintro i x ys M e ⟨rfl,rfl,hi⟩
  have hlt:i < S.xs.length:=(List.getElem?_eq_some_iff.mp e).1
  have hy:zs[i]?=some zs[i]:=by simp [show i < zs.length by omega]
  have tk:zs.take (i + 1)=zs.take i++[zs[i]]:=by rw [List.take_add_one,hy];rfl
  refine h i x zs[i] e hy (mup M1 D (.lst (zs.take i))) ((Sub.refl M1).mup hD) (fun y M4=>M4 D=some (.lst (zs.take i))/\(zs.take i++[y]=zs.take (i + 1)/\mup M4 D (.lst (zs.take i++[y]))=mup M1 D (.lst (zs.take i++[y]))/\i + 1<=S.xs.length)) ?_
  exact ⟨aG,tk.symm,bN,hlt⟩
 ·rintro ys M ⟨rfl,rfl,hi⟩
  rw [show zs.take S.xs.length=zs by rw [<- hl];exact List.take_length]
  cases o with
  | true=>exact q D hD
  | false=>exact ⟨M1,(Sub.refl M1).mup hD,hD,q⟩
end U2
namespace U2
open PySem PySem.Spec PyProof.Rows L2
section
variable {prog:Program} {w:World} {A:Around} {E:Value->Shared->Prop} {s:Shared}
theorem xF {it t:Addr} {i:Nat} {items} {x:Value} {Q:Value->Shared->Prop} (hit:s.heap.IsTupleIter it t i)
  (ht:s.heap.IsTuple t items) (hx:items[i]?=some x)
  (hQ:∀ h',h'.IsTupleIter it t (i + 1)->Heap.SameBut it s.heap h'->Q x { s with heap:=h' }) :
  wpAny (model prog w) A (Builtin.SmallTypes.nextOf (.ref it)) Q E s:=by
 obtain ⟨o,ho,hc,hd⟩:=id hit
 obtain ⟨ol,hol,_,nl,hdl⟩:=ht
 unfold Builtin.SmallTypes.nextOf
 refine wpAny_bind (wpAny_callSpecial?_slot (name:=Str.ofString "__next__") hit.typeIs PySem.F.slot_tuple_iterator_next
  (wpAny_call_entry PySem.F.slot_tuple_iterator_next hit.typeIs PySem.F.entry_tuple_iterator_next ?_ (PySem.F.args_tuple_iterator_next_1 _)))
 show wpAny _ _ (field (.ref it) 0 >>= _) _ _ s
 refine wpAny_bind (wpAny_field ho hd (x:=.ref t) rfl ?_)
 show wpAny _ _ (if (Value.ref t == Value.none)=true then _ else _) _ _ s
 rw [if_neg (show ¬ ((Value.ref t == Value.none)=true) from Bool.false_ne_true)]
 show wpAny _ _ (field (.ref it) 1 >>= _) _ _ s
 refine wpAny_bind (wpAny_field ho hd (x:=.int i 0) rfl ?_)
 show wpAny _ _ (seqItems? (.ref t) >>= _) _ _ s
 refine wpAny_bind (wpAny_seqItems hol hdl ?_)
 simp only [Int.toNat_natCast,hx]
 refine wpAny_bind (wpAny_setField ho hd (by simp) (wpAny_pure ⟨x,rfl,wpAny_pure (hQ _ ?_ (Heap.SameBut.update ..))⟩))
 exact ⟨_,Heap.get?_update_self _ ho (Obj.isFreed_of_fields (Obj.data_mapFields hd _)),(Obj.cls_mapFields ..).trans hc,by
  rw [Obj.data_mapFields hd];simp [rawInt]⟩
theorem x9 {it t:Addr} {i:Nat} {items} {Q:Value->Shared->Prop} (hh:A.handled=none)
  (hit:s.heap.IsTupleIter it t i) (ht:s.heap.IsTuple t items) (hx:items[i]?=none)
  (hE:∀ h' e,Heap.ExtBut it s.heap h'->(∃ o,h'.get? e=some o/\o.cls=.type "StopIteration")->E (.ref e) { s with heap:=h' }) :
  wpAny (model prog w) A (Builtin.SmallTypes.nextOf (.ref it)) Q E s:=by
 obtain ⟨o,ho,hc,hd⟩:=id hit
 obtain ⟨ol,hol,_,nl,hdl⟩:=ht
 unfold Builtin.SmallTypes.nextOf
 refine wpAny_bind (wpAny_callSpecial?_slot (name:=Str.ofString "__next__") hit.typeIs PySem.F.slot_tuple_iterator_next
  (wpAny_call_entry PySem.F.slot_tuple_iterator_next hit.typeIs PySem.F.entry_tuple_iterator_next ?_ (PySem.F.args_tuple_iterator_next_1 _)))
 show wpAny _ _ (field (.ref it) 0 >>= _) _ _ s
 refine wpAny_bind (wpAny_field ho hd (x:=.ref t) rfl ?_)
 show wpAny _ _ (if (Value.ref t == Value.none)=true then _ else _) _ _ s
 rw [if_neg (show ¬ ((Value.ref t == Value.none)=true) from Bool.false_ne_true)]
 show wpAny _ _ (field (.ref it) 1 >>= _) _ _ s
 refine wpAny_bind (wpAny_field ho hd (x:=.int i 0) rfl ?_)
 show wpAny _ _ (seqItems? (.ref t) >>= _) _ _ s
 refine wpAny_bind (wpAny_seqItems hol hdl ?_)
 simp only [Int.toNat_natCast,hx]
 refine wpAny_bind (wpAny_rule (wpAny_bind (wpAny_setField ho hd (by simp) ?_)))
 show wpAny _ _ (newExc (.type "StopIteration") [] >>= _) _ _ _
 refine wpAny_bind ?_
 simp only [newExc,newTuple]
 refine wpAny_bind (wpAny_newObj_type ?_ (by size_fits))
 refine wpAny_bind (m:=firstArgMember _ _) (wpAny_of_eq (a:=Value.none) (by first | rfl | (simp only [firstArgMember];rfl)) ?_)
 refine wpAny_newObj_type ?_ (by size_fits)
 simp only [raiseNew]
 refine wpAny_bind (wpAny_handled ?_)
 first | rw [show A.in1.handled=none from hh] | rw [hh]
 refine wpAny_bind (wpAny_pure (wpAny_throw ?_))
 exact hE _ _ (((Heap.SameBut.update ..).extBut.push _).push _) ⟨_,Heap.get?_push_size _ rfl,rfl⟩
theorem Ew {prog:Program} {w:World} {A:Around} (hh:A.handled=none) (it l:Addr) (hne:l≠it) (items:Array Value) :
  Draws prog w A it [it,l] items.size (fun i v=>items[i]?=some v) (fun i h=>h.IsTupleIter it l i/\h.IsTuple l items) where
 live:=fun _ _ st=>let ⟨o,ho,_⟩:=st.1;⟨o,ho⟩
 frame:=fun _ _ _ st hk=>⟨st.1.at fun o e=>hk it (by simp) o e,let ⟨o,ho,r⟩:=st.2;⟨o,hk l (by simp) o ho,r⟩⟩
 item:=fun i s Q E hi st hQ=>by
  refine xF st.1 st.2 (x:=items[i]) (by simp [hi]) fun h' hit' hs'=>?_
  exact hQ _ h' s.toks (by simp [hi]) ⟨hit',let ⟨o,ho,r⟩:=st.2;⟨o,hs'.extBut l o hne ho,r⟩⟩ hs'
 done:=fun s Q E st hE=>x9 hh st.1 st.2 (by simp) hE
end
def oF (b:Bool) (K:PySem.W.Frag) (H:Hp) (a:Addr) (xs:List V):Prop:=match b with
 | true=>eC K H a xs
 | false=>fH K H a xs
noncomputable def lA (b:Bool) (h:Heap) (a:Addr) (xs:Array Value):Prop:=match b with
 | true=>h.IsList a xs
 | false=>h.IsTuple a xs
def mP (b:Bool) (h:Heap) (it a:Addr) (i:Nat):Prop:=match b with
 | true=>h.IsListIter it a i
 | false=>h.IsTupleIter it a i
noncomputable def R8:Bool->String
 | true=>"list"
 | false=>"tuple"
def uT:Bool->String
 | true=>"list_iterator"
 | false=>"tuple_iterator"
theorem lK {h:Heap} {b b':Addr} {o o':Obj} {n n':String} (x:h.get? b=some o) (y:h.get? b'=some o') (p:o.cls=.type n) (q:o'.cls=.type n') (ne:n≠n'):b≠b':=fun z=>by
 subst z;rw [x] at y;cases y;rw [p] at q;exact ne (Value.type.inj q)
theorem lA.obj {b:Bool} {h:Heap} {a:Addr} {xs:Array Value} (p:lA b h a xs):∃ o n,h.get? a=some o/\o.cls=.type (R8 b)/\o.data=.seq xs n:=by
 cases b <;> (obtain ⟨o,e,c,n,d⟩:=p;exact ⟨o,n,e,c,d⟩)
theorem mP.obj {b:Bool} {h:Heap} {it a:Addr} {i:Nat} (p:mP b h it a i):∃ o,h.get? it=some o/\o.cls=.type (uT b)/\o.data=.fields #[.ref a,.int i 0]:=by
 cases b <;> exact p
theorem mP.of {b:Bool} {h:Heap} {it a:Addr} {i:Nat} {o:Obj} (e:h.get? it=some o) (c:o.cls=.type (uT b)) (d:o.data=.fields #[.ref a,.int i 0]):mP b h it a i:=by
 cases b <;> exact ⟨o,e,c,d⟩
theorem mP.at {b:Bool} {h h':Heap} {it a:Addr} {i:Nat} (p:mP b h it a i) (k:∀ o,h.get? it=some o->h'.get? it=some o):mP b h' it a i :=
 let ⟨o,e,c,d⟩:=p.obj;.of (k o e) c d
theorem lA.ne {b b':Bool} {h:Heap} {a it c:Addr} {xs:Array Value} {i:Nat} (p:lA b h a xs) (q:mP b' h it c i):a≠it :=
 let ⟨_,_,e,c,_⟩:=p.obj;let ⟨_,e',c',_⟩:=q.obj;lK e e' c c' (by cases b <;> cases b' <;> decide)
theorem AB {X:Cx} {pins:List (Addr × Obj)} {σ:L2.St} {H:Hp} {s:Shared} {b:Bool} {a:Addr} {xs:List V} (I:L2.Inv X pins σ H s) (h:oF b X.K H a xs):∃ its:List Value,Vals xs its/\lA b s.heap a its.toArray/\xs.length<=sizeLine:=by
 cases b
 ·exact I.tuple h
 ·obtain ⟨its,r,p,z⟩:=I.list h;exact ⟨its,r,p.isList,z⟩
theorem Pn {X:Cx} {pins:List (Addr × Obj)} {σ:L2.St} {H:Hp} {s:Shared} {b:Bool} {a:Addr} {xs ys:List V} (I:L2.Inv X pins σ H s) (h:oF b X.K H a xs) (h':oF b X.K H a ys):xs=ys:=by
 cases b
 ·exact I.tuple_inj h h'
 ·exact I.list_inj h h'
theorem oX {prog:Program} {w:World} {A:Around} (b:Bool) (hh:A.handled=none) (it l:Addr) (hne:l≠it) (items:Array Value) :
  Draws prog w A it [it,l] items.size (fun i v=>items[i]?=some v) (fun i h=>mP b h it l i/\lA b h l items):=by
 cases b
 ·exact Ew hh it l hne items
 ·exact Draws.list hh it l hne items
noncomputable def Jg (b:Bool) (K:PySem.W.Frag) (H:Hp) (M:aE) (a:Addr) (vs:List V):Prop:=∀ H1 M1,aS H M H1 M1->oF b K H1 a vs
theorem IQ {K:PySem.W.Frag} {H:Hp} {M:aE} {a:Addr} {vs:List V} (m:M a=none/\H a=some (.tup vs)):Jg false K H M a vs:=fun _ _ s=>.inl (.inl (s.to m.2 m.1).1)
theorem L5 {K:PySem.W.Frag} {H:Hp} {M:aE} {a:Addr} {vs:List V} (m:(M a=none/\Rd H a (.lst vs))\/KL K a vs):Jg true K H M a vs:=fun _ _ s=>by
 rcases m with ⟨m,h⟩ | k
 ·exact .inl (Rd.stp s m h).2
 ·exact .inr k
section
variable {prog:Program} {w:World} {A:Around} {E:Value->Shared->Prop} {s:Shared}
theorem yR (l:Addr) (items:Array Value) (n:Nat) (dd:Option Addr) (sl:Array (Option Value)) :
  Meets (Builtin.«enumerate.__new__» ⟨[.type "enumerate",.ref l],[]⟩) (fun _ R s=>s.heap.get? l=some { cls:=.type "tuple",dict:=dd,data:=.seq items n,slots:=sl } /\
   R (.ok (.ret (.ref (s.heap.push { cls:=.type "tuple_iterator",data:=.fields #[.ref l,.int 0 0] }).objs.size)))
    { s with heap:=(s.heap.push { cls:=.type "tuple_iterator",data:=.fields #[.ref l,.int 0 0] }).push { cls:=.type "enumerate",data:=.fields #[.none,.bool false,.ref s.heap.objs.size,rawInt 0,.none,.none] } }) :=
 .of_wp fun prog w A R s h=>by
  obtain ⟨hp,g,d,tk,os⟩:=s;obtain ⟨hl,h⟩:=h
  have hsub:=PySem.sub_enumerate
  have hL:Heap.IsTuple (Shared.heap ⟨hp,g,d,tk,os⟩) l items:=⟨_,hl,rfl,n,rfl⟩
  wp_walk using wpAny_loadPart' hl
  refine wpAny_stack_any fun st=>wpAny_pure ?_
  split
  ·rename_i c _ _ _ _ _
   cases (c == Value.type "enumerate")
   ·wp_walk using wpAny_loadPart' hl,wpAny_pyIter_tuple hL
    exact ⟨_,rfl,h⟩
   ·wp_walk using wpAny_loadPart' hl,wpAny_pyIter_tuple hL
    exact ⟨_,rfl,h⟩
  ·wp_walk using wpAny_loadPart' hl,wpAny_pyIter_tuple hL
   exact ⟨_,rfl,h⟩
theorem Ai (l:Addr) (items:Array Value) (n:Nat) (dd:Option Addr) (sl:Array (Option Value)) :
  Meets (Builtin.«enumerate.__new__» ⟨[.type "enumerate",.ref l],[]⟩) (fun _ R s=>s.heap.get? l=some { cls:=.type "list",dict:=dd,data:=.seq items n,slots:=sl } /\
   R (.ok (.ret (.ref (s.heap.push { cls:=.type "list_iterator",data:=.fields #[.ref l,.int 0 0] }).objs.size)))
    { s with heap:=(s.heap.push { cls:=.type "list_iterator",data:=.fields #[.ref l,.int 0 0] }).push { cls:=.type "enumerate",data:=.fields #[.none,.bool false,.ref s.heap.objs.size,rawInt 0,.none,.none] } }) :=
 .of_wp fun prog w A R s h=>by
  obtain ⟨hp,g,d,tk,os⟩:=s;obtain ⟨hl,h⟩:=h
  have hsub:=PySem.sub_enumerate
  have hL:Heap.IsList (Shared.heap ⟨hp,g,d,tk,os⟩) l items:=⟨_,hl,rfl,n,rfl⟩
  wp_walk using wpAny_loadPart' hl
  refine wpAny_stack_any fun st=>wpAny_pure ?_
  split
  ·rename_i c _ _ _ _ _
   cases (c == Value.type "enumerate")
   ·wp_walk using wpAny_loadPart' hl,wpAny_pyIter_list hL
    exact ⟨_,rfl,h⟩
   ·wp_walk using wpAny_loadPart' hl,wpAny_pyIter_list hL
    exact ⟨_,rfl,h⟩
  ·wp_walk using wpAny_loadPart' hl,wpAny_pyIter_list hL
   exact ⟨_,rfl,h⟩
end
theorem m7 {X:Cx} {pins:List (Addr × Obj)} {σ:L2.St} {H:Hp} {s:Shared} {h':Heap} {ch:List Addr} {T:Addr} {o:HO} {tk:Nat} (I:L2.Inv X pins σ H s) (hf:∀ b∈ch,rE X pins H b)
  (k:∀ b o,b ∉ ch->s.heap.get? b=some o->h'.get? b=some o) (hT:s.heap.objs.size<=T) (new:dO X.prog X.w (upd H T o) h' T o):L2.Inv X pins σ (upd H T o) { s with heap:=h',toks:=tk }:=by
 have hn:H T=none:=I.hok.fresh hT
 refine I.call' (ch:=ch) (H':=upd H T o) rfl ⟨fun b u q n hb hx=>k b u hx q,fun b u q n hb hx=>⟨u.slots,k b u hx q⟩,fun b u q n hx=>?_,fun b u q hx=>⟨u,k b u hx q⟩,fun b xs q=>by rw [bI (cJ q hn)];exact q,fun b u xs q=>by rw [bI (cJ q hn)];exact q,
  fun b ps q=>⟨#[],by rw [bI (cJ q hn),q];simp⟩⟩ (fun a u e=>?_) I.bare fun b hb=>⟨(hf b hb).2.2.2.1,(hf b hb).2.1,(hf b hb).2.2.2.2.1,(hf b hb).2.2.2.2.2⟩
 ·rw [bI (Nat.ne_of_lt (Nat.lt_of_lt_of_le (Heap.lt_size q) hT))];exact n
 ·by_cases ha:a=T
  ·subst ha;rw [cK] at e;cases e;exact new
  ·rw [bI ha] at e
   refine (I.hok a u e).stay (fun b z hb q=>k b z (fun hc=>?_) q) (fun c q=>by rw [bI (cJ q hn)];exact q) fun c xs q=>by rw [bI (cJ q hn)];exact q
   have hnone:=(hf b hc).1
   rcases hb with rfl | hb
   ·rw [hnone] at e;cases e
   ·rw [hnone] at hb;cases hb
noncomputable def Pw (f:Bool) (K:PySem.W.Frag) (a:Addr):It :=
 ⟨fun i H=>∃ xs x,oF f K H a xs/\xs[i]?=some x,fun i H x H'=>∃ p v,(∀ xs,oF f K H a xs->xs[i]?=some v)/\H p=none/\x=.ref p/\H'=upd H p (.tup [.int i,v]),fun i H=>∃ xs,oF f K H a xs/\xs.length=i⟩
theorem JF {P:Program} {w:World} {K:PySem.W.Frag} {elts:List Expr} {kk:Nat} {pos:Pos} (f:Bool) (a it e:Addr):Turn P w K (.Tuple elts kk pos) (Pw f K a) [e,it] e (fun i h=>(∃ old,IsEnum h e it i old)/\mP f h it a i) where
 mem:=by simp
 obj:=fun i h st b hb=>by
  obtain ⟨⟨old,he⟩,hi⟩:=st
  obtain ⟨o,ho,hc,hd⟩:=hi.obj
  have:b=e\/b=it:=by simpa using hb
  rcases this with rfl | rfl
  ·exact ⟨_,he,fun v z=>by
    have z':Data.fields _=Data.cell v:=z
    cases z'⟩
  ·exact ⟨o,ho,fun v z=>by rw [hd] at z;cases z⟩
 keep:=fun i h h' st k=>let ⟨⟨old,he⟩,hi⟩:=st;⟨⟨old,k e (by simp) _ he⟩,hi.at fun o q=>k it (by simp) o q⟩
 item:=by
  intro X hP hw hK hc i pins s σ H E I hf st hg
  subst hP hw hK
  obtain ⟨⟨old,he⟩,hit⟩:=st
  obtain ⟨xs,x,hq,hx⟩:=hg
  obtain ⟨its,rv,p,hz⟩:=AB I hq
  obtain ⟨u,hu,ru⟩:=rv.get hx
  have p':lA f s.heap a its.toArray:=p
  obtain ⟨oi,hoi,hci,hdi⟩:=hit.obj
  obtain ⟨oa,na,hoa,hca,hda⟩:=p'.obj
  have n1:a≠it:=p'.ne hit
  have n2:e≠it:=lK he hoi rfl hci (by cases f <;> decide)
  have n3:e≠a:=lK he hoa rfl hca (by cases f <;> decide)
  have W:=WalksT.enumerateD (prog:=X.prog) (w:=X.w) (A:=X.A) (oX f (A:=X.A.in1) (show X.A.in1.handled=none from I.ok.hd hc) it a n1 its.toArray) e n2 (by simp [n2,n3]) (by simp)
  have hlt:i < its.toArray.size:=by
   have:=(List.getElem?_eq_some_iff.mp hu).1
   simpa using this
  refine W.item i s _ E hlt ⟨⟨old,he⟩,hit,p'⟩ fun T vals h' tk hP hT jB hMid hk=>?_
  refine ⟨.ref T,rfl,W.go elts kk pos i T _ _ E hMid fun h'' hSt hk2=>?_⟩
  obtain ⟨t,y,hy,rfl⟩:=hP
  have hy':y=u:=by
   have h3:its[i]?=some y:=by simpa using hy
   rw [hu] at h3;exact (Option.some.inj h3).symm
  subst hy'
  have hTT:h''.IsTuple T #[.int i t,y]:=let ⟨o,ho,r⟩:=jB;⟨o,hk2 T o (W.apart i T _ hMid) ho,r⟩
  refine ⟨.ref T,upd H T (.tup [.int i,x]),m7 (s:=s) (h':=h'') (tk:=tk) (ch:=[e,it]) I hf (fun b o hb q=>hk2 b o (by simpa using hb) (hk b o (by simpa using hb) q)) hT ⟨by show 2<=sizeLine;decide,[.int i t,y],.cons ⟨t,rfl⟩ (.cons ru .nil),hTT⟩,rfl,⟨T,x,fun ys hy=>by rw [<- Pn I hq hy];exact hx,I.hok.fresh hT,rfl,rfl⟩,⟨by simpa using hSt.1,hSt.2.1⟩,fun b hb=>?_⟩
  have hn:=(hf b hb).1
  rw [bI (Nat.ne_of_lt (Nat.lt_of_lt_of_le ?_ hT))]
  ·exact hn
  ·have:b=e\/b=it:=by simpa using hb
   rcases this with rfl | rfl
   ·exact Heap.lt_size he
   ·exact Heap.lt_size hoi
 done:=by
  intro X hP hw hK hc i pins s σ H E I hf st hg
  subst hP hw hK
  obtain ⟨⟨old,he⟩,hit⟩:=st
  obtain ⟨xs,hq,hx⟩:=hg
  obtain ⟨its,rv,p,hz⟩:=AB I hq
  have p':lA f s.heap a its.toArray:=p
  obtain ⟨oi,hoi,hci,hdi⟩:=hit.obj
  obtain ⟨oa,na,hoa,hca,hda⟩:=p'.obj
  have n1:a≠it:=p'.ne hit
  have n2:e≠it:=lK he hoi rfl hci (by cases f <;> decide)
  have n3:e≠a:=lK he hoa rfl hca (by cases f <;> decide)
  have W:=WalksT.enumerateD (prog:=X.prog) (w:=X.w) (A:=X.A) (oX f (A:=X.A.in1) (show X.A.in1.handled=none from I.ok.hd hc) it a n1 its.toArray) e n2 (by simp [n2,n3]) (by simp)
  have hi:i=its.toArray.size:=by rw [List.size_toArray,<- rv.length];exact hx.symm
  subst hi
  refine W.done s _ E ⟨⟨old,he⟩,hit,p'⟩ fun h' tk hk=>⟨rfl,?_⟩
  have:=I.call' (ch:=[e,it]) (H':=H) (s':={ s with heap:=h',toks:=tk }) rfl ⟨fun b u q n hb hx=>hk b u (by simpa using hx) q,fun b u q n hb hx=>⟨u.slots,hk b u (by simpa using hx) q⟩,fun b u q n hx=>n,fun b u q hx=>⟨u,hk b u (by simpa using hx) q⟩,fun b xs q=>q,fun b u xs q=>q,fun b ps q=>⟨#[],by rw [q];simp⟩⟩
   (fun a u e'=>?_) I.bare fun b hb=>⟨(hf b hb).2.2.2.1,(hf b hb).2.1,(hf b hb).2.2.2.2.1,(hf b hb).2.2.2.2.2⟩
  ·exact this
  ·refine (I.hok a u e').stay (fun b z hb q=>hk b z (fun hc=>?_) q) (fun _ q=>q) fun _ _ q=>q
   have hnone:=(hf b (by simpa using hc)).1
   rcases hb with rfl | hb
   ·rw [hnone] at e';cases e'
   ·rw [hnone] at hb;cases hb
 self:=fun _ _ _ _ _ st h=>let ⟨⟨old,he⟩,_⟩:=st;wpAny_pyIter_enum he h
theorem F1 {prog:Program} {w:World} {A:Around} {E:Value->Shared->Prop} {s:Shared} {f:Bool} {l:Addr} {items:Array Value} {Q:Value->Shared->Prop}
  (hl:lA f s.heap l items)
  (h:∀ h',IsEnum h' (s.heap.objs.size + 1) s.heap.objs.size 0 .none->mP f h' s.heap.objs.size l 0->h'.objs.size=s.heap.objs.size + 2 ->
   (∀ b o,s.heap.get? b=some o->h'.get? b=some o)->Q (.ref (s.heap.objs.size + 1)) { s with heap:=h' }) :
  wpAny (model prog w) A (call (.type "enumerate") [.ref l]) Q E s:=by
 have fin:Q (.ref (s.heap.push { cls:=.type (uT f),data:=.fields #[.ref l,.int 0 0] }).objs.size)
   { s with heap:=(s.heap.push { cls:=.type (uT f),data:=.fields #[.ref l,.int 0 0] }).push { cls:=.type "enumerate",data:=.fields #[.none,.bool false,.ref s.heap.objs.size,rawInt 0,.none,.none] } } /\
   ((s.heap.push { cls:=.type (uT f),data:=.fields #[.ref l,.int 0 0] }).push { cls:=.type "enumerate",data:=.fields #[.none,.bool false,.ref s.heap.objs.size,rawInt 0,.none,.none] }).get? (s.heap.push { cls:=.type (uT f),data:=.fields #[.ref l,.int 0 0] }).objs.size=some { cls:=.type "enumerate",data:=.fields #[.none,.bool false,.ref s.heap.objs.size,rawInt 0,.none,.none] }:=by
  have hz:(s.heap.push { cls:=.type (uT f),data:=.fields #[.ref l,.int 0 0] }).objs.size=s.heap.objs.size + 1:=Heap.size_push ..
  have he:=Heap.get?_push_size (s.heap.push { cls:=.type (uT f),data:=.fields #[.ref l,.int 0 0] })
   (o:={ cls:=.type "enumerate",data:=.fields #[.none,.bool false,.ref s.heap.objs.size,rawInt 0,.none,.none] }) rfl
  refine ⟨?_,he⟩
  rw [hz] at he
  rw [hz]
  exact h _ he (.of (Heap.get?_push_of_some _ (Heap.get?_push_size _ rfl)) rfl rfl) (by rw [Heap.size_push,hz]) fun b o x=>Heap.get?_push_of_some _ (Heap.get?_push_of_some _ x)
 obtain ⟨⟨oc,od,odt,osl⟩,n,ho,hc,hd⟩:=hl.obj
 have hc':oc=.type (R8 f):=hc
 have hd':odt=.seq items n:=hd
 subst hc' hd'
 cases f
 ·exact callType_new F.called_enumerate (by decide) (F.typeCall_enumerate_1 _) (F.newCall_enumerate_1 _) (fun obj=>F.args_object_init_2 obj _) F.entry_enumerate_new
   (yR l items n od osl) ⟨ho,⟨_,fin.2,rfl⟩,fin.1⟩
 ·exact callType_new F.called_enumerate (by decide) (F.typeCall_enumerate_1 _) (F.newCall_enumerate_1 _) (fun obj=>F.args_object_init_2 obj _) F.entry_enumerate_new
   (Ai l items n od osl) ⟨ho,⟨_,fin.2,rfl⟩,fin.1⟩
noncomputable def L4 (f:Bool) (K:PySem.W.Frag) (ta:TA):TI:=fun σ H R=>ta σ H fun vs H1=>∃ a,vs=[.ref a]/\(∃ xs,oF f K H1 a xs)/\R (Pw f K a) H1
theorem M9 {f:Bool} {X:Cx} {elts:List Expr} {kk:Nat} {tpos:Pos} {a:Expr} {ta:TA} {p pos:Pos} (hg:Gl X "enumerate") (hm:X.mg "enumerate"=none) (ha:PA X [a] ta) (hs:starEach [a] X.env=[(false,eval a X.env)]) :
  PI X (.Tuple elts kk tpos) (.Call (.Name "enumerate" p) [a] [] pos) (L4 f X.K ta):=by
 intro pins s σ H R I h
 refine Call_ (nX I hg hm boot_enumerate (PyProof.Rows.callWith_type1 (bF (ha pos pins s σ H _ I h) fun us s1 ⟨vs,H1,I1,r1,q1⟩=>?_) hs rfl))
 obtain ⟨a,e,⟨xs,hq⟩,q⟩:=q1
 subst e
 cases r1 with
 | cons r rr =>
  cases rr
  cases r
  obtain ⟨its,rv,p,hz⟩:=AB I1 hq
  refine F1 p fun h' he hit hsz hk=>?_
  refine wpAny_pyIter_enum (s:={ s1 with heap:=h' }) he ?_
  have I2:L2.Inv X pins σ H1 { s1 with heap:=h',toks:=s1.toks }:=I1.kept hk
  refine ⟨s1.heap.objs.size + 1,[s1.heap.objs.size + 1,s1.heap.objs.size],_,_,H1,rfl,I2,JF f a s1.heap.objs.size (s1.heap.objs.size + 1),⟨⟨_,he⟩,hit⟩,fun b hb=>?_,q⟩
  have e:b=s1.heap.objs.size + 1\/b=s1.heap.objs.size:=by simpa using hb
  rcases e with rfl | rfl
  ·exact I1.fpOk (Nat.le_succ _) (I1.hok.fresh (Nat.le_succ _))
  ·exact I1.fpOk (Nat.le_refl _) (I1.hok.fresh (Nat.le_refl _))
def numbered (us:List U):List U:=us.zipIdx.map fun p=>.tup [.int (p.2:Nat),p.1]
theorem l7 (us:List U):(numbered us).length=us.length:=by simp [numbered]
theorem mK {us:List U} {i:Nat} {x:U} (h:(numbered us)[i]?=some x):∃ u,us[i]?=some u/\x=.tup [.int i,u]:=by
 simp only [numbered,List.getElem?_map,List.getElem?_zipIdx] at h
 cases e:us[i]? with
 | none=>rw [e] at h;simp at h
 | some u=>rw [e] at h;simp at h;exact ⟨u,rfl,h.symm⟩
theorem IS {f:Bool} {K:PySem.W.Frag} {a:Addr} {us:List U} {vs:List V} {H:Hp} {M:aE} (sq:Jg f K H M a vs) (r:aJ K H M us vs):Walk K (Pw f K a) ⟨none,numbered us⟩ H M:=by
 refine ⟨fun H1 M1 s rm _ i u e=>?_,fun H1 M1 s rm _=>⟨vs,sq H1 M1 s,by show vs.length=(numbered us).length;rw [l7,r.length]⟩⟩
 obtain ⟨w,e1,rfl⟩:=mK e
 obtain ⟨v,e2,ru⟩:=r.get e1
 refine ⟨⟨vs,v,sq H1 M1 s,e2⟩,fun x H2 y=>?_⟩
 obtain ⟨p,v',y,hp,rfl,rfl⟩:=y
 have:=y vs (sq _ M1 s)
 rw [e2] at this;cases this
 have st:=aS.laid (o:=.tup [.int i,v]) rm hp
 have rr:aJ K H1 M1 [.int i,w] [.int i,v]:=by
  simp only [aJ]
  exact ⟨_,_,rfl,fE,_,_,rfl,ru.stp s,rfl⟩
 exact ⟨st,rm.laid hp,uD (rm.no hp) cK (rr.stp st)⟩
def qR (ta:UA):UI:=fun τ M R=>ta τ M fun us M1=>match us with
 | [.tup us]=>R ⟨none,numbered us⟩ M1
 | _=>False
theorem JS {K:PySem.W.Frag} {ta:TA} {ta':UA} (h:lH K ta ta'):rJ K (L4 false K ta) (qR ta'):=fun σ τ H M R' rs rm q R c=>h σ τ H M _ rs rm q _ fun us vs M1 H1 s1 rm1 ru h1=>by
 split at h1
 ·rename_i xs
  obtain ⟨v,rfl,a⟩:=ru.one
  simp only [aK] at a
  obtain ⟨a,vs,rfl,m,r⟩:=a
  refine ⟨a,rfl,⟨vs,?_⟩,c _ _ M1 H1 s1 rm1 (IS (IQ m) r) h1⟩
  exact .inl (.inl m.2)
 ·exact h1.elim
theorem pS {D:Dat} {elts:List Expr} {kk:Nat} {tpos:Pos} {a:Expr} {p pos:Pos} {ta:UA} (hm:D.mg "enumerate"=none) (ha:mT D [a] ta) (hg:D.sc.names.lookup ("enumerate":Str)=some .globalImplicit:=by rfl) (hs:∀ env,starEach [a] env=[(false,eval a env)]:=by intro _;rfl):v5 D (.Tuple elts kk tpos) (.Call (.Name "enumerate" p) [a] [] pos) (qR ta):=by
 obtain ⟨_,q,s⟩:=ha
 exact ⟨_,fun X h=>h.K ▸ M9 (by show X.env.scope.names.lookup _=_;rw [h.sc];exact hg) (by rw [h.mg];exact hm) (q X h) (hs _),JS s⟩
def rZ (ta:UA):UI:=fun τ M R=>ta τ M fun us M1=>match us with
 | [.lst us]=>R ⟨none,numbered us⟩ M1
 | _=>False
end U2
namespace U2
open PySem PySem.Spec PyProof.Rows L2
mutual
noncomputable def fZ (K:PySem.W.Frag) (H:Hp):PyData->V->Prop
 | .none,v=>v=.non
 | .bool b,v=>v=.bl b
 | .int i,v=>v=.int i
 | .str z,v=>v=.str z
 | .list ds,v=>∃ a xs,v=.ref a/\eC K H a xs/\d9 K H ds xs
 | .tuple ds,v=>∃ a xs,v=.ref a/\fH K H a xs/\d9 K H ds xs
 | .dict _,_=>False
noncomputable def d9 (K:PySem.W.Frag) (H:Hp):List PyData->List V->Prop
 | [],vs=>vs=[]
 | d :: ds,vs=>∃ v vs',vs=v :: vs'/\fZ K H d v/\d9 K H ds vs'
end
mutual
theorem fZ.reads {X:Cx} {pins:List (Addr × Obj)} {σ:L2.St} {H:Hp} {s:Shared} (I:L2.Inv X pins σ H s):∀ {d:PyData} {v:V} {u:Value},fZ X.K H d v->RelV v u->∃ as,Reads s.heap u d as
 | .none,v,u,h,r=>by simp only [fZ] at h;subst h;cases r;exact ⟨_,.none⟩
 | .bool b,v,u,h,r=>by simp only [fZ] at h;subst h;cases r;exact ⟨_,.bool b⟩
 | .int i,v,u,h,r=>by simp only [fZ] at h;subst h;obtain ⟨t,rfl⟩:=r;exact ⟨_,.int i t⟩
 | .str z,v,u,h,r=>by simp only [fZ] at h;subst h;obtain ⟨t,rfl⟩:=r;exact ⟨_,.str z t⟩
 | .list ds,v,u,h,r=>by
  simp only [fZ] at h
  obtain ⟨a,xs,rfl,q,hs⟩:=h
  cases r
  obtain ⟨its,rv,p,hz⟩:=I.list q
  obtain ⟨as,ra⟩:=d9.reads I hs rv
  obtain ⟨o,h1,h2,n,h3⟩:=p.isList
  exact ⟨_,.list h1 h2 h3 (by simpa using ra)⟩
 | .tuple ds,v,u,h,r=>by
  simp only [fZ] at h
  obtain ⟨a,xs,rfl,q,hs⟩:=h
  cases r
  obtain ⟨its,rv,p,hz⟩:=I.tuple q
  obtain ⟨as,ra⟩:=d9.reads I hs rv
  obtain ⟨o,h1,h2,n,h3⟩:=(show s.heap.IsTuple a its.toArray from p)
  exact ⟨_,.tuple h1 h2 h3 (by simpa using ra)⟩
 | .dict _,v,u,h,r=>by simp only [fZ] at h
theorem d9.reads {X:Cx} {pins:List (Addr × Obj)} {σ:L2.St} {H:Hp} {s:Shared} (I:L2.Inv X pins σ H s):∀ {ds:List PyData} {vs:List V} {us:List Value},d9 X.K H ds vs->Vals vs us->∃ as,ReadsAll s.heap us ds as
 | [],vs,us,h,r=>by simp only [d9] at h;subst h;cases r;exact ⟨_,.nil⟩
 | d :: ds,vs,us,h,r=>by
  simp only [d9] at h
  obtain ⟨v,vs',rfl,h1,h2⟩:=h
  cases r with
  | cons r rr =>
   obtain ⟨as,ra⟩:=fZ.reads I h1 r
   obtain ⟨bs,rb⟩:=d9.reads I h2 rr
   exact ⟨_,.cons ra rb⟩
end
noncomputable def Ko (K:PySem.W.Frag) (neg:Bool):R2:=fun x y H Q=>∃ d d',fZ K H d x/\fZ K H d' y/\d.canLay0=true/\d'.canLay0=true/\min d.depth d'.depth<=64/\Q (.bl (if neg then !PyData.eqv d d' else PyData.eqv d d')) H
theorem Qz {X:Cx} {k:Nat} (hr:eU k X.A):dW X (compareOp .Eq) (Ko X.K false):=by
 intro pins s σ H x y v u Q I rx ry h
 obtain ⟨d,d',h1,h2,c1,c2,hd,q⟩:=h
 obtain ⟨as,ra⟩:=h1.reads I rx
 obtain ⟨bs,rb⟩:=h2.reads I ry
 exact SeqAt.compareEq_reads ra rb c1 c2 (by have:=hr.units;omega) ⟨.bl _,H,I,rfl,q⟩
theorem Pp {X:Cx} {k:Nat} (hr:eU k X.A):dW X (compareOp .NotEq) (Ko X.K true):=by
 intro pins s σ H x y v u Q I rx ry h
 obtain ⟨d,d',h1,h2,c1,c2,hd,q⟩:=h
 obtain ⟨as,ra⟩:=h1.reads I rx
 obtain ⟨bs,rb⟩:=h2.reads I ry
 exact SeqAt.compareNe_reads ra rb c1 c2 (by have:=hr.units;omega) ⟨.bl _,H,I,rfl,q⟩
mutual
noncomputable def toD:U->Option PyData
 | .non=>some .none
 | .bl b=>some (.bool b)
 | .int i=>some (.int i)
 | .str z=>some (.str z)
 | .tup us=>(fX us).map .tuple
 | .lst us=>(fX us).map .list
 | .ty _=>none
 | .ref _=>none
 | .dic _ _ _=>none
noncomputable def fX:List U->Option (List PyData)
 | []=>some []
 | u :: us=>match toD u,fX us with
  | some d,some ds=>some (d :: ds)
  | _,_=>none
end
noncomputable def Bj (M:aE) (u:U):Option PyData:=match u with
 | .ref a=>match M a with
  | some (.lst us)=>(fX us).map .list
  | _=>none
 | u=>toD u
mutual
theorem Ff {K:PySem.W.Frag} {H:Hp} {M:aE}:∀ {u:U} {v:V} {d:PyData},aK K H M u v->toD u=some d->fZ K H d v
 | .non,v,d,r,e=>by simp only [toD,Option.some.injEq] at e;subst e;simp only [fZ];exact r.non
 | .bl b,v,d,r,e=>by simp only [toD,Option.some.injEq] at e;subst e;simp only [fZ];exact r.bl
 | .int i,v,d,r,e=>by simp only [toD,Option.some.injEq] at e;subst e;simp only [fZ];exact r.int
 | .str i,v,d,r,e=>by simp only [toD,Option.some.injEq] at e;subst e;simp only [fZ];exact r.str
 | .tup us,v,d,r,e=>by
  simp only [toD] at e
  cases e2:fX us with
  | none=>rw [e2] at e;simp at e
  | some ds =>
   rw [e2] at e;simp at e;subst e
   obtain ⟨a,vs,rfl,q,rs⟩:=r.tup
   simp only [fZ]
   exact ⟨a,vs,rfl,q,pX rs e2⟩
 | .lst us,v,d,r,e=>by
  simp only [toD] at e
  cases e2:fX us with
  | none=>rw [e2] at e;simp at e
  | some ds =>
   rw [e2] at e;simp at e;subst e
   obtain ⟨a,vs,rfl,q,rs⟩:=r.lst
   simp only [fZ]
   exact ⟨a,vs,rfl,q,pX rs e2⟩
 | .ty _,v,d,r,e=>by simp [toD] at e
 | .ref _,v,d,r,e=>by simp [toD] at e
 | .dic _ _ _,v,d,r,e=>by simp [toD] at e
theorem pX {K:PySem.W.Frag} {H:Hp} {M:aE}:∀ {us:List U} {vs:List V} {ds:List PyData},aJ K H M us vs->fX us=some ds->d9 K H ds vs
 | [],vs,ds,r,e=>by simp only [fX,Option.some.injEq] at e;subst e;simp only [d9];exact r.inv_nil
 | u :: us,vs,ds,r,e=>by
  obtain ⟨v,vs',rfl,a,b⟩:=r.inv_cons
  simp only [fX] at e
  cases e1:toD u with
  | none=>rw [e1] at e;simp at e
  | some d =>
   cases e2:fX us with
   | none=>rw [e1,e2] at e;simp at e
   | some ds' =>
    rw [e1,e2] at e;simp at e;subst e
    simp only [d9]
    exact ⟨v,vs',rfl,Ff a e1,pX b e2⟩
end
theorem yX {K:PySem.W.Frag} {H:Hp} {M:aE} {u:U} {v:V} {d:PyData} (rm:RelM K H M) (r:aK K H M u v) (e:Bj M u=some d):fZ K H d v:=by
 cases u with
 | ref a =>
  simp only [Bj] at e
  split at e
  ·rename_i us hM
   cases e2:fX us with
   | none=>rw [e2] at e;simp at e
   | some ds =>
    rw [e2] at e;simp at e;subst e
    obtain ⟨vs,h1,rs⟩:=rm a _ hM
    cases r.ref
    simp only [fZ]
    exact ⟨a,vs,rfl,.inl (.inl h1),pX rs e2⟩
  ·cases e
 | _=>exact Ff r (by simpa only [Bj] using e)
noncomputable def PD (neg:Bool):eB:=fun x y M Q=>∃ d d',Bj M x=some d/\Bj M y=some d'/\d.canLay0=true/\d'.canLay0=true/\min d.depth d'.depth<=64/\Q (.bl (if neg then !PyData.eqv d d' else PyData.eqv d d')) M
theorem EY {K:PySem.W.Frag} {neg:Bool}:eA K (Ko K neg) (PD neg):=fun x y u w H M Q' rm ru rw h Q c=>by
 obtain ⟨d,d',e1,e2,c1,c2,hd,q⟩:=h
 exact ⟨d,d',yX rm ru e1,yX rm rw e2,c1,c2,hd,c.here rm fA q⟩
variable {D:Dat}
noncomputable def k4:U->Bool
 | .non=>true
 | .bl _=>true
 | .int _=>true
 | .str _=>true
 | _=>false
noncomputable def vD:U->U->Bool
 | .non,.non=>true
 | .bl a,.bl b=>a == b
 | .bl a,.int j=>(if a then 1 else 0) == j
 | .int i,.bl b=>i == (if b then 1 else 0)
 | .int i,.int j=>i == j
 | .str x,.str y=>x == y
 | _,_=>false
noncomputable def items (M:aE):U->Option (List U)
 | .tup us=>some us
 | .lst us=>some us
 | .ref a=>match M a with
  | some (.lst us)=>some us
  | _=>none
 | _=>none
def xI (neg:Bool):eB:=fun x y M Q=>match items M y with
 | some us=>k4 x=true/\us.all k4=true/\Q (.bl (if neg then !us.any (fun u=>vD u x) else us.any (fun u=>vD u x))) M
 | none=>False
theorem CA {K:PySem.W.Frag} {H:Hp} {M:aE} {u:U} {v:V} (r:aK K H M u v) (f:k4 u=true):nS v=true:=by
 cases u with
 | non=>cases r.non;rfl
 | bl b=>cases r.bl;rfl
 | int b=>cases r.int;rfl
 | str b=>cases r.str;rfl
 | _=>exact absurd (show false=true from f) Bool.false_ne_true
theorem Nz {K:PySem.W.Frag} {H:Hp} {M:aE} {u w:U} {v x:V} (r:aK K H M u v) (r':aK K H M w x) (f:k4 u=true) (f':k4 w=true):Ac v x=vD u w:=by
 cases u <;> (first | (cases r.non) | (cases r.bl) | (cases r.int) | (cases r.str) | exact absurd (show false=true from f) Bool.false_ne_true) <;> cases w <;>
  (first | (cases r'.non) | (cases r'.bl) | (cases r'.int) | (cases r'.str) | exact absurd (show false=true from f') Bool.false_ne_true) <;> rfl
theorem BJ {K:PySem.W.Frag} {H:Hp} {M:aE}:∀ {us:List U} {vs:List V},aJ K H M us vs->us.all k4=true->vs.all nS=true
 | [],vs,r,_=>by cases r.inv_nil;rfl
 | u :: us,vs,r,f=>by
  obtain ⟨v,vs',rfl,a,b⟩:=r.inv_cons
  rw [List.all_cons,Bool.and_eq_true] at f ⊢
  exact ⟨CA a f.1,BJ b f.2⟩
theorem EJ {K:PySem.W.Frag} {H:Hp} {M:aE} {w:U} {x:V} (r':aK K H M w x) (f':k4 w=true):∀ {us:List U} {vs:List V},aJ K H M us vs->us.all k4=true->MB x vs=us.any fun u=>vD u w
 | [],vs,r,_=>by cases r.inv_nil;rfl
 | u :: us,vs,r,f=>by
  obtain ⟨v,vs',rfl,a,b⟩:=r.inv_cons
  rw [List.all_cons,Bool.and_eq_true] at f
  have:=EJ r' f' b f.2
  unfold MB at this ⊢
  rw [List.any_cons,List.any_cons,this,Nz a r' f.1 f']
theorem BH {K:PySem.W.Frag} {H:Hp} {M:aE} {u:U} {v:V} {us:List U} (rm:RelM K H M) (r:aK K H M u v) (e:items M u=some us):∃ p xs,v=.ref p/\(eC K H p xs\/fH K H p xs)/\aJ K H M us xs:=by
 cases u with
 | tup us'=>cases e;obtain ⟨a,vs,rfl,q,rs⟩:=r.tup;exact ⟨a,vs,rfl,.inr q,rs⟩
 | lst us'=>cases e;obtain ⟨a,vs,rfl,q,rs⟩:=r.lst;exact ⟨a,vs,rfl,.inl q,rs⟩
 | ref a =>
  simp only [items] at e
  split at e
  ·rename_i us' hM
   cases e
   obtain ⟨vs,h1,rs⟩:=rm a _ hM
   exact ⟨a,vs,r.ref,.inl (.inl (.inl h1)),rs⟩
  ·cases e
 | _=>cases e
theorem HX {K:PySem.W.Frag} {neg:Bool}:eA K (QB K neg) (xI neg):=fun x y u w H M Q' rm ru rw h Q c=>by
 unfold xI at h
 split at h
 ·rename_i us e
  obtain ⟨f,fs,q⟩:=h
  obtain ⟨p,xs,rfl,hs,rs⟩:=BH rm rw e
  refine ⟨p,xs,rfl,hs,CA ru f,BJ rs fs,?_⟩
  rw [EJ ru f rs fs]
  exact c.here rm fA q
 ·exact h.elim
theorem PN:mS D .In (xI false):=⟨⟨_,fun X h=>h.K ▸ Il,HX⟩⟩
theorem N1:mS D .NotIn (xI true):=⟨⟨_,fun X h=>h.K ▸ CJ,HX⟩⟩
noncomputable def A8 (neg:Bool):eB:=fun x y M Q=>match IZ x y with
 | some b=>Q (.bl (if neg then !b else b)) M
 | none=>PD neg x y M Q
theorem gB:mS D .Eq (A8 false):=⟨⟨_,fun X h=>h.K ▸ Rt.or (Qz h.room),fun x y u w H M Q' rm ru rw h Q c=>by
 unfold A8 at h
 split at h
 ·rename_i b e
  obtain ⟨h1,h2⟩:=E3 ru rw e
  exact .inl ⟨h1,c.here rm (by rw [h2];exact fA) h⟩
 ·exact .inr (EY x y u w H M Q' rm ru rw h Q c)⟩⟩
theorem zY:mS D .NotEq (A8 true):=⟨⟨_,fun X h=>h.K ▸ RL.or (Pp h.room),fun x y u w H M Q' rm ru rw h Q c=>by
 unfold A8 at h
 split at h
 ·rename_i b e
  obtain ⟨h1,h2⟩:=E3 ru rw e
  exact .inl ⟨h1,c.here rm (by rw [h2];exact fA) h⟩
 ·exact .inr (EY x y u w H M Q' rm ru rw h Q c)⟩⟩
end U2
namespace U2
open PySem PySem.Spec PyProof.Rows L2
structure Zp (z TI TO i1 i2:Addr) (f1 f2:List Addr):Prop where
 TIz:TI≠z
 TOz:TO≠z
 i1z:i1≠z
 i2z:i2≠z
 TITO:TI≠TO
 TIi1:TI≠i1
 TIi2:TI≠i2
 TOi1:TO≠i1
 TOi2:TO≠i2
 i12:i1≠i2
 zf1:z ∉ f1
 zf2:z ∉ f2
 Tf1:TO ∉ f1
 Tf2:TO ∉ f2
 if2:i1 ∉ f2
 if1:i2 ∉ f1
theorem Draws.same {prog:Program} {w:World} {A:Around} {it:Addr} {fp:List Addr} {n:Nat} {P:Nat->Value->Prop} {St:Nat->Heap->Prop} (D:Draws prog w A it fp n P St) {i:Nat} {h h':Heap} {c:Addr} (st:St i h) (sb:Heap.ExtBut c h h') (hc:c ∉ fp):St i h' :=
 D.frame _ _ _ st fun b hb o e=>sb b o (fun q=>hc (q ▸ hb)) e
section
variable {prog:Program} {w:World} {A:Around} {E:Value->Shared->Prop} {s:Shared} {z TI TO i1 i2:Addr} {f1 f2:List Addr} {n1 n2:Nat} {P1 P2:Nat->Value->Prop} {S1 S2:Nat->Heap->Prop} {i:Nat} {a b:Value}
theorem JX (Z:Zp z TI TO i1 i2 f1 f2) (D1:Draws prog w A i1 f1 n1 P1 S1) (D2:Draws prog w A i2 f2 n2 P2 S2) {Q:Value->Shared->Prop}
  (hz:IsZip s.heap z TI TO .none) (hTI:IsPair s.heap TI (.ref i1) (.ref i2)) (hTO:IsPair s.heap TO a b) (h1:S1 i s.heap) (h2:S2 i s.heap) (l1:i < n1) (l2:i < n2)
  (hQ:∀ x y h' tk,P1 i x->P2 i y->IsZip h' z TI TO (rawInt s.heap.objs.size)->IsPair h' TO x y->S1 (i + 1) h'->S2 (i + 1) h'->IsPair h' s.heap.objs.size x y ->
   (∀ c o,c≠z->c≠TO->c≠i1->c≠i2->s.heap.get? c=some o->h'.get? c=some o)->Q (.ref s.heap.objs.size) { s with heap:=h',toks:=tk }) :
  wpAny (model prog w) A (Builtin.«zip.__next__» ⟨[.ref z],[]⟩) (fun fin s'=>∃ v,fin=.done (.ret v)/\Q v s') E s:=by
 show wpAny _ _ (field (.ref z) 2 >>= _) _ _ _
 refine wpAny_bind (wpAny_field hz rfl (x:=.bool false) rfl ?_)
 show wpAny _ _ (field (.ref z) 3 >>= _) _ _ _
 refine wpAny_bind (wpAny_field hz rfl (x:=.ref TI) rfl ?_)
 refine wpAny_bind (wpAny_seqItems hTI rfl ?_)
 show wpAny _ _ (Builtin.SmallTypes.ownedTupleIsFree (.ref z) >>= _) _ _ _
 refine wpAny_bind ?_
 unfold Builtin.SmallTypes.ownedTupleIsFree
 refine wpAny_bind (wpAny_field hz rfl (x:=.none) rfl (wpAny_pure ?_))
 simp only [if_true]
 refine wpAny_bind (wpAny_rule ?_)
 refine wpAny_bind (wpAny_field hz rfl (x:=.ref TO) rfl ?_)
 refine wpAny_bind (wpAny_setField_rec hz (by simp) fun g1 hz1 hs1=>?_)
 replace hz1:IsZip g1 z TI TO .ellipsis:=hz1
 refine wpAny_bind ?_
 simp only [List.zipIdx_cons,List.zipIdx_nil,List.forIn_cons,List.forIn_nil]
 refine wpAny_bind (wpAny_bind (wpAny_onRaise ?_))
 show wpAny _ _ (Builtin.SmallTypes.nextOf (.ref i1) >>= _) _ _ _
 refine wpAny_bind (D1.item i _ _ _ l1 (Draws.same D1 h1 hs1.extBut Z.zf1) fun x g2 tk2 px cT hs2=>wpAny_pure ?_)
 have hTO2:IsPair g2 TO a b:=hs2.extBut _ _ Z.TOi1 (hs1.extBut _ _ Z.TOz hTO)
 refine wpAny_bind (wpAny_seqItems hTO2 rfl ?_)
 refine wpAny_bind (wpAny_updateSeq_pair hTO2 fun g3 hTO3 hs3=>?_)
 replace hTO3:IsPair g3 TO x b:=hTO3
 refine wpAny_bind (wpAny_letGo (wpAny_pure ?_))
 refine wpAny_bind (wpAny_bind (wpAny_onRaise ?_))
 show wpAny _ _ (Builtin.SmallTypes.nextOf (.ref i2) >>= _) _ _ _
 refine wpAny_bind (D2.item i _ _ _ l2 (Draws.same D2 (Draws.same D2 (Draws.same D2 h2 hs1.extBut Z.zf2) hs2.extBut Z.if2) hs3.extBut Z.Tf2) fun y g4 tk4 py st4 hs4=>wpAny_pure ?_)
 have hTO4:IsPair g4 TO x b:=hs4.extBut _ _ Z.TOi2 hTO3
 refine wpAny_bind (wpAny_seqItems hTO4 rfl ?_)
 refine wpAny_bind (wpAny_updateSeq_pair hTO4 fun g5 hTO5 hs5=>?_)
 replace hTO5:IsPair g5 TO x y:=hTO5
 refine wpAny_bind (wpAny_letGo (wpAny_pure (wpAny_pure ?_)))
 refine wpAny_bind (wpAny_seqItems hTO5 rfl ?_)
 refine wpAny_bind (wpAny_newTuple ?_)
 have hsz:g5.objs.size=s.heap.objs.size:=by rw [hs5.1,hs4.1,hs3.1,hs2.1,hs1.1]
 have hz5:IsZip g5 z TI TO .ellipsis:=hs5.extBut _ _ Z.TOz.symm (hs4.extBut _ _ Z.i2z.symm (hs3.extBut _ _ Z.TOz.symm (hs2.extBut _ _ Z.i1z.symm hz1)))
 have hk5:∀ c o,c≠z->c≠TO->c≠i1->c≠i2->s.heap.get? c=some o->g5.get? c=some o:=fun c o c1 c2 c3 c4 e =>
  hs5.extBut _ _ c2 (hs4.extBut _ _ c4 (hs3.extBut _ _ c2 (hs2.extBut _ _ c3 (hs1.extBut _ _ c1 e))))
 have h15:S1 (i + 1) g5:=Draws.same D1 (Draws.same D1 (Draws.same D1 cT hs3.extBut Z.Tf1) hs4.extBut Z.if1) hs5.extBut Z.Tf1
 have h25:S2 (i + 1) g5:=Draws.same D2 st4 hs5.extBut Z.Tf2
 have hzlt:z < g5.objs.size:=Heap.lt_size hz5
 show wpAny _ _ (Builtin.SmallTypes.ownedTupleHandOut (.ref z) (.ref g5.objs.size) >>= _) _ _ _
 refine wpAny_bind ?_
 unfold Builtin.SmallTypes.ownedTupleHandOut
 have hz6:IsZip (g5.push { cls:=.type "tuple",data:=.seq #[x,y] }) z TI TO .ellipsis:=Heap.get?_push_of_some _ hz5
 refine wpAny_bind (wpAny_setField_rec hz6 (by simp) fun g7 hz7 hs7=>?_)
 replace hz7:IsZip g7 z TI TO (rawInt g5.objs.size):=hz7
 refine wpAny_setField_rec hz7 (by simp) fun g8 hz8 hs8=>?_
 replace hz8:IsZip g8 z TI TO (rawInt g5.objs.size):=hz8
 have up:∀ c o,c≠z->g5.get? c=some o->g8.get? c=some o:=fun c o c1 e=>hs8.extBut _ _ c1 (hs7.extBut _ _ c1 (Heap.get?_push_of_some _ e))
 have hT8:IsPair g8 g5.objs.size x y:=hs8.extBut _ _ (Nat.ne_of_gt hzlt) (hs7.extBut _ _ (Nat.ne_of_gt hzlt) (Heap.get?_push_size _ rfl))
 rw [hsz] at hz8 hT8
 refine wpAny_pure ⟨_,rfl,?_⟩
 show Q (.ref g5.objs.size) _
 rw [hsz]
 exact hQ x y g8 _ px py hz8 (up _ _ Z.TOz hTO5) (D1.frame _ _ _ h15 fun b hb o e=>up b o (fun q=>Z.zf1 (q ▸ hb)) e) (D2.frame _ _ _ h25 fun b hb o e=>up b o (fun q=>Z.zf2 (q ▸ hb)) e) hT8 fun c o c1 c2 c3 c4 e=>up c o c1 (hk5 c o c1 c2 c3 c4 e)
theorem Ot (Z:Zp z TI TO i1 i2 f1 f2) (D1:Draws prog w A i1 f1 n1 P1 S1) (D2:Draws prog w A i2 f2 n2 P2 S2) {Q:Fin->Shared->Prop}
  (hz:IsZip s.heap z TI TO .none) (hTI:IsPair s.heap TI (.ref i1) (.ref i2)) (hTO:IsPair s.heap TO a b) (h1:S1 i s.heap) (h2:S2 i s.heap) (l1:i<=n1) (hi:i=min n1 n2)
  (hE:∀ h' e tk,(∀ c o,c≠z->c≠TO->c≠i1->c≠i2->s.heap.get? c=some o->h'.get? c=some o)->(∃ o,h'.get? e=some o/\o.cls=.type "StopIteration")->E (.ref e) { s with heap:=h',toks:=tk }) :
  wpAny (model prog w) A (Builtin.«zip.__next__» ⟨[.ref z],[]⟩) Q E s:=by
 show wpAny _ _ (field (.ref z) 2 >>= _) _ _ _
 refine wpAny_bind (wpAny_field hz rfl (x:=.bool false) rfl ?_)
 show wpAny _ _ (field (.ref z) 3 >>= _) _ _ _
 refine wpAny_bind (wpAny_field hz rfl (x:=.ref TI) rfl ?_)
 refine wpAny_bind (wpAny_seqItems hTI rfl ?_)
 show wpAny _ _ (Builtin.SmallTypes.ownedTupleIsFree (.ref z) >>= _) _ _ _
 refine wpAny_bind ?_
 unfold Builtin.SmallTypes.ownedTupleIsFree
 refine wpAny_bind (wpAny_field hz rfl (x:=.none) rfl (wpAny_pure ?_))
 simp only [if_true]
 refine wpAny_bind (wpAny_rule ?_)
 refine wpAny_bind (wpAny_field hz rfl (x:=.ref TO) rfl ?_)
 refine wpAny_bind (wpAny_setField_rec hz (by simp) fun g1 hz1 hs1=>?_)
 replace hz1:IsZip g1 z TI TO .ellipsis:=hz1
 refine wpAny_bind ?_
 simp only [List.zipIdx_cons,List.zipIdx_nil,List.forIn_cons,List.forIn_nil]
 refine wpAny_bind (wpAny_bind (wpAny_onRaise ?_))
 show wpAny _ _ (Builtin.SmallTypes.nextOf (.ref i1) >>= _) _ _ _
 have hA:S1 i g1:=Draws.same D1 h1 hs1.extBut Z.zf1
 by_cases hlt:i < n1
 ·have hn2:i=n2:=by omega
  refine wpAny_bind (D1.item i _ _ _ hlt hA fun x g2 tk2 px cT hs2=>wpAny_pure ?_)
  have hTO2:IsPair g2 TO a b:=hs2.extBut _ _ Z.TOi1 (hs1.extBut _ _ Z.TOz hTO)
  refine wpAny_bind (wpAny_seqItems hTO2 rfl ?_)
  refine wpAny_bind (wpAny_updateSeq_pair hTO2 fun g3 hTO3 hs3=>?_)
  refine wpAny_bind (wpAny_letGo (wpAny_pure ?_))
  refine wpAny_bind (wpAny_bind (wpAny_onRaise ?_))
  show wpAny _ _ (Builtin.SmallTypes.nextOf (.ref i2) >>= _) _ _ _
  refine wpAny_bind (D2.done _ _ _ (hn2 ▸ Draws.same D2 (Draws.same D2 (Draws.same D2 h2 hs1.extBut Z.zf2) hs2.extBut Z.if2) hs3.extBut Z.Tf2) fun g4 e hs4 he=>?_)
  obtain ⟨oe,hoe,hce⟩:=he
  have hz4:IsZip g4 z TI TO .ellipsis:=hs4 _ _ Z.i2z.symm (hs3.extBut _ _ Z.TOz.symm (hs2.extBut _ _ Z.i1z.symm hz1))
  have hez:e≠z:=fun x=>by subst x;rw [hz4] at hoe;cases hoe;simp at hce
  exact wpAny_setField_rec hz4 (by simp) fun g5 _ hs5=>hE g5 e _ (fun c o c1 c2 c3 c4 x=>hs5.extBut _ _ c1 (hs4 _ _ c4 (hs3.extBut _ _ c2 (hs2.extBut _ _ c3 (hs1.extBut _ _ c1 x))))) ⟨oe,hs5.extBut _ _ hez hoe,hce⟩
 ·have hn1:i=n1:=by omega
  refine wpAny_bind (D1.done _ _ _ (hn1 ▸ hA) fun g2 e hs2 he=>?_)
  obtain ⟨oe,hoe,hce⟩:=he
  have hz2:IsZip g2 z TI TO .ellipsis:=hs2 _ _ Z.i1z.symm hz1
  have hez:e≠z:=fun x=>by subst x;rw [hz2] at hoe;cases hoe;simp at hce
  exact wpAny_setField_rec hz2 (by simp) fun g3 _ hs3=>hE g3 e _ (fun c o c1 _ c3 _ x=>hs3.extBut _ _ c1 (hs2 _ _ c3 (hs1.extBut _ _ c1 x))) ⟨oe,hs3.extBut _ _ hez hoe,hce⟩
theorem B6 (Z:Zp z TI TO i1 i2 f1 f2) (D1:Draws prog w A.in1 i1 f1 n1 P1 S1) (D2:Draws prog w A.in1 i2 f2 n2 P2 S2) {Q:Option Value->Shared->Prop}
  (hz:IsZip s.heap z TI TO .none) (hTI:IsPair s.heap TI (.ref i1) (.ref i2)) (hTO:IsPair s.heap TO a b) (h1:S1 i s.heap) (h2:S2 i s.heap) (l1:i < n1) (l2:i < n2)
  (hQ:∀ x y h' tk,P1 i x->P2 i y->IsZip h' z TI TO (rawInt s.heap.objs.size)->IsPair h' TO x y->S1 (i + 1) h'->S2 (i + 1) h'->IsPair h' s.heap.objs.size x y ->
   (∀ c o,c≠z->c≠TO->c≠i1->c≠i2->s.heap.get? c=some o->h'.get? c=some o)->Q (some (.ref s.heap.objs.size)) { s with heap:=h',toks:=tk }) :
  wpAny (model prog w) A (pyNext (.ref z)) Q E s:=by
 have hT:s.TypeIs (.ref z) "zip":=⟨_,hz,rfl⟩
 unfold pyNext
 exact wpAny_bind (wpAny_attempt (wpAny_callSpecial?_slot (name:=Str.ofString "__next__") hT PySem.F.slot_zip_next
  (wpAny_call_entry PySem.F.slot_zip_next hT PySem.F.entry_zip_next
   (JX Z D1 D2 hz hTI hTO h1 h2 l1 l2 fun x y h' tk a1 a2 a3 a4 a5 a6 a7 a8=>wpAny_pure (hQ x y h' tk a1 a2 a3 a4 a5 a6 a7 a8)) (PySem.F.args_zip_next_1 _))))
theorem CN (Z:Zp z TI TO i1 i2 f1 f2) (D1:Draws prog w A.in1 i1 f1 n1 P1 S1) (D2:Draws prog w A.in1 i2 f2 n2 P2 S2) {Q:Option Value->Shared->Prop}
  (hz:IsZip s.heap z TI TO .none) (hTI:IsPair s.heap TI (.ref i1) (.ref i2)) (hTO:IsPair s.heap TO a b) (h1:S1 i s.heap) (h2:S2 i s.heap) (l1:i<=n1) (hi:i=min n1 n2)
  (hQ:∀ h' tk,(∀ c o,c≠z->c≠TO->c≠i1->c≠i2->s.heap.get? c=some o->h'.get? c=some o)->Q none { s with heap:=h',toks:=tk }):wpAny (model prog w) A (pyNext (.ref z)) Q E s:=by
 have hT:s.TypeIs (.ref z) "zip":=⟨_,hz,rfl⟩
 unfold pyNext
 refine wpAny_bind (wpAny_attempt (wpAny_callSpecial?_slot (name:=Str.ofString "__next__") hT PySem.F.slot_zip_next
  (wpAny_call_entry PySem.F.slot_zip_next hT PySem.F.entry_zip_next (Ot Z D1 D2 hz hTI hTO h1 h2 l1 hi fun h' e tk hk he=>?_) (PySem.F.args_zip_next_1 _))))
 obtain ⟨o,ho,hc⟩:=he
 refine wpAny_bind (wpAny_isInstance (T:="StopIteration") (b:=true) ⟨o,ho,hc⟩ isSubtype_stop ?_)
 exact wpAny_pure (hQ _ _ hk)
end
noncomputable def PZ (f g:Bool) (K:PySem.W.Frag) (a c:Addr):It :=
  ⟨fun i H=>∃ xs ys x y,oF f K H a xs/\oF g K H c ys/\xs[i]?=some x/\ys[i]?=some y,
   fun i H v H'=>∃ p x y,(∀ xs,oF f K H a xs->xs[i]?=some x)/\(∀ ys,oF g K H c ys->ys[i]?=some y)/\H p=none/\v=.ref p/\H'=upd H p (.tup [x,y]),
   fun i H=>∃ xs ys,oF f K H a xs/\oF g K H c ys/\i=min xs.length ys.length⟩
theorem Mb {f g:Bool} {h:Heap} {z TI TO i1 i2 a c:Addr} {f0 u v:Value} {k1 k2:Nat} {xs ys:Array Value} (hz:IsZip h z TI TO f0) (q:TI≠TO/\i1≠i2/\TO≠a/\TO≠c) (hTI:IsPair h TI (.ref i1) (.ref i2)) (hTO:IsPair h TO u v)
  (h1:mP f h i1 a k1) (h2:mP g h i2 c k2) (ha:lA f h a xs) (hc:lA g h c ys):Zp z TI TO i1 i2 [i1,a] [i2,c]:=by
 have iz:=fun {r:Bool} {i x:Addr} {k:Nat} (p:mP r h i x k)=>let ⟨_,e,c,_⟩:=p.obj;lK e hz c rfl (by cases r <;> decide)
 have az:=fun {r:Bool} {x:Addr} {xs:Array Value} (p:lA r h x xs)=>let ⟨_,_,e,c,_⟩:=p.obj;lK e hz c rfl (by cases r <;> decide)
 have ti:=fun {r:Bool} {i x t:Addr} {u v:Value} {k:Nat} (w:IsPair h t u v) (p:mP r h i x k)=>let ⟨_,e,c,_⟩:=p.obj;lK w e rfl c (by cases r <;> decide)
 refine ⟨lK hTI hz rfl rfl (by decide),lK hTO hz rfl rfl (by decide),iz h1,iz h2,q.1,ti hTI h1,ti hTI h2,ti hTO h1,ti hTO h2,q.2.1,?_,?_,?_,?_,?_,?_⟩ <;> simp only [List.mem_cons,List.not_mem_nil,or_false,not_or]
 ·exact ⟨(iz h1).symm,(az ha).symm⟩
 ·exact ⟨(iz h2).symm,(az hc).symm⟩
 ·exact ⟨ti hTO h1,q.2.2.1⟩
 ·exact ⟨ti hTO h2,q.2.2.2⟩
 ·exact ⟨q.2.1,(hc.ne h1).symm⟩
 ·exact ⟨q.2.1.symm,(ha.ne h2).symm⟩
theorem LY {P:Program} {w:World} {K:PySem.W.Frag} {elts:List Expr} {kk:Nat} {pos:Pos} (f g:Bool) (a c z TI TO i1 i2:Addr) (q:TI≠TO/\i1≠i2/\TO≠a/\TO≠c) :
  Turn P w K (.Tuple elts kk pos) (PZ f g K a c) [z,TI,TO,i1,i2] z (fun i h=>IsZip h z TI TO .none/\IsPair h TI (.ref i1) (.ref i2)/\(∃ u v,IsPair h TO u v)/\mP f h i1 a i/\mP g h i2 c i) where
 mem:=by simp
 obj:=fun i h st b hb=>by
  obtain ⟨hz,hTI,⟨u,v,hTO⟩,h1,h2⟩:=st
  obtain ⟨o1,e1,c1,d1⟩:=h1.obj
  obtain ⟨o2,e2,c2,d2⟩:=h2.obj
  have:b=z\/b=TI\/b=TO\/b=i1\/b=i2:=by simpa using hb
  rcases this with rfl | rfl | rfl | rfl | rfl
  ·exact ⟨_,hz,fun v x=>by
    have x':Data.fields _=Data.cell v:=x
    cases x'⟩
  ·exact ⟨_,hTI,fun v x=>by
    have x':Data.seq _ _=Data.cell v:=x
    cases x'⟩
  ·exact ⟨_,hTO,fun v x=>by
    have x':Data.seq _ _=Data.cell v:=x
    cases x'⟩
  ·exact ⟨_,e1,fun v x=>by rw [d1] at x;cases x⟩
  ·exact ⟨_,e2,fun v x=>by rw [d2] at x;cases x⟩
 keep:=fun i h h' st k=>let ⟨hz,hTI,⟨u,v,hTO⟩,h1,h2⟩:=st
  ⟨k z (by simp) _ hz,k TI (by simp) _ hTI,⟨u,v,k TO (by simp) _ hTO⟩,h1.at fun o e=>k i1 (by simp) o e,h2.at fun o e=>k i2 (by simp) o e⟩
 item:=by
  intro X hP hw hK hc i pins s σ H E I hf st hg
  subst hP hw hK
  obtain ⟨hz,hTI,⟨u,v,hTO⟩,h1,h2⟩:=st
  obtain ⟨xs,ys,x,y,hqx,hqy,hx,hy⟩:=hg
  obtain ⟨its,rv,p,_⟩:=AB I hqx
  obtain ⟨its',rv',p',_⟩:=AB I hqy
  obtain ⟨x',hu,ru⟩:=rv.get hx
  obtain ⟨y',hu',ru'⟩:=rv'.get hy
  have Z:=Mb hz q hTI hTO h1 h2 p p'
  have n1:a≠i1:=p.ne h1
  have n2:c≠i2:=p'.ne h2
  have hd:X.A.in1.handled=none:=I.ok.hd hc
  have lt1:i < its.toArray.size:=by
   have:=(List.getElem?_eq_some_iff.mp hu).1
   simpa using this
  have lt2:i < its'.toArray.size:=by
   have:=(List.getElem?_eq_some_iff.mp hu').1
   simpa using this
  refine B6 Z (oX f hd i1 a n1 its.toArray) (oX g hd i2 c n2 its'.toArray) hz hTI hTO ⟨h1,p⟩ ⟨h2,p'⟩ lt1 lt2 fun x1 y1 h' tk px py hz' hTO' s1 s2 hT hk=>?_
  refine ⟨_,rfl,wpAny_letOwnedTupleGo_zip (s:={ s with heap:=h',toks:=tk }) hz' fun h'' hz'' hs''=>?_⟩
  have ex:x1=x':=by
   have h3:its[i]?=some x1:=by simpa using px
   rw [hu] at h3;exact (Option.some.inj h3).symm
  have ey:y1=y':=by
   have h3:its'[i]?=some y1:=by simpa using py
   rw [hu'] at h3;exact (Option.some.inj h3).symm
  subst ex ey
  have lt:∀ {b o},s.heap.get? b=some o->s.heap.objs.size≠b:=fun e=>Nat.ne_of_gt (Heap.lt_size e)
  have hTT:h''.IsTuple s.heap.objs.size #[x1,y1]:=⟨_,hs''.extBut _ _ (lt hz) hT,rfl,_,rfl⟩
  refine ⟨.ref s.heap.objs.size,upd H s.heap.objs.size (.tup [x,y]),m7 (s:=s) (h':=h'') (tk:=tk) (ch:=[z,TI,TO,i1,i2]) I hf (fun b o hb e=>?_) (Nat.le_refl _) ⟨by show 2<=sizeLine;decide,[x1,y1],.cons ru (.cons ru' .nil),hTT⟩,rfl,
   ⟨s.heap.objs.size,x,y,fun zs hz=>by rw [<- Pn I hqx hz];exact hx,fun zs hz=>by rw [<- Pn I hqy hz];exact hy,I.hok.fresh (Nat.le_refl _),rfl,rfl⟩,⟨hz'',?_,?_,?_,?_⟩,fun b hb=>?_⟩
  ·have hb':¬ (b=z\/b=TI\/b=TO\/b=i1\/b=i2):=by simpa using hb
   simp only [not_or] at hb'
   exact hs''.extBut _ _ hb'.1 (hk b o hb'.1 hb'.2.2.1 hb'.2.2.2.1 hb'.2.2.2.2 e)
  ·exact hs''.extBut _ _ Z.TIz (hk _ _ Z.TIz Z.TITO Z.TIi1 Z.TIi2 hTI)
  ·exact ⟨_,_,hs''.extBut _ _ Z.TOz hTO'⟩
  ·exact s1.1.at fun o e=>hs''.extBut _ _ Z.i1z e
  ·exact s2.1.at fun o e=>hs''.extBut _ _ Z.i2z e
  ·rw [bI (fun e=>?_)]
   ·exact (hf b hb).1
   ·have:b=z\/b=TI\/b=TO\/b=i1\/b=i2:=by simpa using hb
    obtain ⟨o1,e1,_⟩:=h1.obj
    obtain ⟨o2,e2,_⟩:=h2.obj
    rcases this with rfl | rfl | rfl | rfl | rfl
    ·exact lt hz e.symm
    ·exact lt hTI e.symm
    ·exact lt hTO e.symm
    ·exact lt e1 e.symm
    ·exact lt e2 e.symm
 done:=by
  intro X hP hw hK hc i pins s σ H E I hf st hg
  subst hP hw hK
  obtain ⟨hz,hTI,⟨u,v,hTO⟩,h1,h2⟩:=st
  obtain ⟨xs,ys,hqx,hqy,hi⟩:=hg
  obtain ⟨its,rv,p,_⟩:=AB I hqx
  obtain ⟨its',rv',p',_⟩:=AB I hqy
  have Z:=Mb hz q hTI hTO h1 h2 p p'
  have n1:a≠i1:=p.ne h1
  have n2:c≠i2:=p'.ne h2
  have hd:X.A.in1.handled=none:=I.ok.hd hc
  have hi':i=min its.toArray.size its'.toArray.size:=by rw [List.size_toArray,List.size_toArray,<- rv.length,<- rv'.length];exact hi
  refine CN Z (oX f hd i1 a n1 its.toArray) (oX g hd i2 c n2 its'.toArray) hz hTI hTO ⟨h1,p⟩ ⟨h2,p'⟩ (by omega) hi' fun h' tk hk=>⟨rfl,?_⟩
  have kk:∀ b o,b ∉ [z,TI,TO,i1,i2]->s.heap.get? b=some o->h'.get? b=some o:=fun b o hb e=>by
   have hb':¬ (b=z\/b=TI\/b=TO\/b=i1\/b=i2):=by simpa using hb
   simp only [not_or] at hb'
   exact hk b o hb'.1 hb'.2.2.1 hb'.2.2.2.1 hb'.2.2.2.2 e
  have:=I.call' (ch:=[z,TI,TO,i1,i2]) (H':=H) (s':={ s with heap:=h',toks:=tk }) rfl ⟨fun b u q n hb hx=>kk b u hx q,fun b u q n hb hx=>⟨u.slots,kk b u hx q⟩,fun b u q n hx=>n,fun b u q hx=>⟨u,kk b u hx q⟩,fun b xs q=>q,fun b u xs q=>q,fun b ps q=>⟨#[],by rw [q];simp⟩⟩
   (fun a u e'=>?_) I.bare fun b hb=>⟨(hf b hb).2.2.2.1,(hf b hb).2.1,(hf b hb).2.2.2.2.1,(hf b hb).2.2.2.2.2⟩
  ·exact this
  ·refine (I.hok a u e').stay (fun b z hb q=>kk b z (fun hc=>?_) q) (fun _ q=>q) fun _ _ q=>q
   have hnone:=(hf b hc).1
   rcases hb with rfl | hb
   ·rw [hnone] at e';cases e'
   ·rw [hnone] at hb;cases hb
 self:=fun _ _ _ _ _ st h=>wpAny_pyIter_zip st.1 h
abbrev Ma (f:Bool) (h:Heap) (a:Addr):Heap:=h.push { cls:=.type (uT f),data:=.fields #[.ref a,.int 0 0] }
abbrev L6 (f g:Bool) (h:Heap) (a c:Addr):Heap:=(Ma f h a).push { cls:=.type (uT g),data:=.fields #[.ref c,.int 0 0] }
abbrev L7 (f g:Bool) (h:Heap) (a c:Addr):Heap:=(L6 f g h a c).push { cls:=.type "tuple",data:=.seq #[.ref h.objs.size,.ref (Ma f h a).objs.size] }
abbrev ME (f g:Bool) (h:Heap) (a c:Addr):Heap:=(L7 f g h a c).push { cls:=.type "tuple",data:=.seq #[.none,.none] }
abbrev Fp (f g:Bool) (h:Heap) (a c:Addr):Heap:=(ME f g h a c).push { cls:=.type "zip",data:=.fields #[.none,.bool false,.bool false,.ref (L6 f g h a c).objs.size,.ref (L7 f g h a c).objs.size] }
theorem lA.push {f:Bool} {h:Heap} {a:Addr} {xs:Array Value} (p:lA f h a xs) (o:Obj):lA f (h.push o) a xs:=by
 obtain ⟨o',n,e,c,d⟩:=p.obj
 cases f <;> exact ⟨o',Heap.get?_push_of_some _ e,c,n,d⟩
theorem Iu {prog:Program} {w:World} {A:Around} {E:Value->Shared->Prop} {s:Shared} {f:Bool} {l:Addr} {items:Array Value} {Q:Value->Shared->Prop} (hl:lA f s.heap l items)
  (hQ:Q (.ref s.heap.objs.size) { s with heap:=s.heap.push { cls:=.type (uT f),data:=.fields #[.ref l,.int 0 0] } }):wpAny (model prog w) A (pyIter (.ref l)) Q E s:=by
 cases f
 ·exact wpAny_pyIter_tuple hl hQ
 ·exact wpAny_pyIter_list hl hQ
theorem Gi (f g:Bool) (a c:Addr) (xs ys:Array Value) :
  Meets (Builtin.«zip.__new__» ⟨[.type "zip",.ref a,.ref c],[]⟩) (fun _ R s=>lA f s.heap a xs/\lA g s.heap c ys /\
   R (.ok (.ret (.ref (ME f g s.heap a c).objs.size))) { s with heap:=Fp f g s.heap a c }) :=
 .of_wp fun prog w A R s h=>by
  obtain ⟨hp,g',d,tk,os⟩:=s;obtain ⟨h1,h2,h⟩:=h
  have hsub:=sub_zip
  have hL1:lA f (Shared.heap ⟨hp,g',d,tk,os⟩) a xs:=h1
  have hL2:lA g (Shared.heap ⟨hp.push { cls:=.type (uT f),data:=.fields #[.ref a,.int 0 0] },g',d,tk,os⟩) c ys:=h2.push _
  wp_walk using Iu hL1,Iu hL2
  exact ⟨_,rfl,h⟩
theorem Ig {f g:Bool} {prog:Program} {w:World} {A:Around} {E:Value->Shared->Prop} {s:Shared} {a c:Addr} {xs ys:Array Value} {Q:Value->Shared->Prop} (h1:lA f s.heap a xs) (h2:lA g s.heap c ys)
  (h:∀ h',IsZip h' (s.heap.objs.size + 4) (s.heap.objs.size + 2) (s.heap.objs.size + 3) .none->IsPair h' (s.heap.objs.size + 2) (.ref s.heap.objs.size) (.ref (s.heap.objs.size + 1)) ->
   IsPair h' (s.heap.objs.size + 3) .none .none->mP f h' s.heap.objs.size a 0->mP g h' (s.heap.objs.size + 1) c 0 ->
   (∀ b o,s.heap.get? b=some o->h'.get? b=some o)->Q (.ref (s.heap.objs.size + 4)) { s with heap:=h' }) :
  wpAny (model prog w) A (call (.type "zip") [.ref a,.ref c]) Q E s:=by
 refine callType_new PySem.F.called_zip (by decide) (PySem.F.typeCall_zip_2 _ _) (PySem.F.newCall_zip_2 _ _) (fun obj=>PySem.F.args_object_init_3 obj _ _) PySem.F.entry_zip_new
  (Gi f g a c xs ys) ⟨h1,h2,?_⟩
 have z1:(Ma f s.heap a).objs.size=s.heap.objs.size + 1:=Heap.size_push ..
 have z2:(L6 f g s.heap a c).objs.size=s.heap.objs.size + 2:=by rw [Heap.size_push,z1]
 have z3:(L7 f g s.heap a c).objs.size=s.heap.objs.size + 3:=by rw [Heap.size_push,z2]
 have z4:(ME f g s.heap a c).objs.size=s.heap.objs.size + 4:=by rw [Heap.size_push,z3]
 have g5:(Fp f g s.heap a c).get? (ME f g s.heap a c).objs.size=some _:=Heap.get?_push_size _ rfl
 have g4:(Fp f g s.heap a c).get? (L7 f g s.heap a c).objs.size=some _:=Heap.get?_push_of_some _ (Heap.get?_push_size _ rfl)
 have g3:(Fp f g s.heap a c).get? (L6 f g s.heap a c).objs.size=some _:=Heap.get?_push_of_some _ (Heap.get?_push_of_some _ (Heap.get?_push_size _ rfl))
 have g2:(Fp f g s.heap a c).get? (Ma f s.heap a).objs.size=some _:=Heap.get?_push_of_some _ (Heap.get?_push_of_some _ (Heap.get?_push_of_some _ (Heap.get?_push_size _ rfl)))
 have g1:(Fp f g s.heap a c).get? s.heap.objs.size=some _:=Heap.get?_push_of_some _ (Heap.get?_push_of_some _ (Heap.get?_push_of_some _ (Heap.get?_push_of_some _ (Heap.get?_push_size _ rfl))))
 show _/\_
 rw [z2,z3,z4] at g5
 rw [z1,z2] at g3
 rw [z3] at g4
 rw [z1] at g2
 rw [z4]
 exact ⟨⟨_,g5,rfl⟩,h _ g5 g3 g4 (.of g1 rfl rfl) (.of g2 rfl rfl) fun b o x =>
  Heap.get?_push_of_some _ (Heap.get?_push_of_some _ (Heap.get?_push_of_some _ (Heap.get?_push_of_some _ (Heap.get?_push_of_some _ x))))⟩
noncomputable def La (f g:Bool) (K:PySem.W.Frag) (ta:TA):TI:=fun σ H R=>ta σ H fun vs H1=>∃ a c,vs=[.ref a,.ref c]/\(∃ xs,oF f K H1 a xs)/\(∃ ys,oF g K H1 c ys)/\R (PZ f g K a c) H1
theorem Ja {f g:Bool} {X:Cx} {elts:List Expr} {kk:Nat} {tpos:Pos} {a b:Expr} {ta:TA} {p pos:Pos} (hg:Gl X "zip") (hm:X.mg "zip"=none) (ha:PA X [a,b] ta) (hs:starEach [a,b] X.env=[(false,eval a X.env),(false,eval b X.env)]) (hs2:starEach [b] X.env=[(false,eval b X.env)]) :
  PI X (.Tuple elts kk tpos) (.Call (.Name "zip" p) [a,b] [] pos) (La f g X.K ta):=by
 intro pins s σ H R I h
 refine Call_ (nX I hg hm boot_zip (PyProof.Rows.callWith_type1 (bF (ha pos pins s σ H _ I h) fun us s1 ⟨vs,H1,I1,r1,q1⟩=>?_) (by rw [hs,hs2]) (by rw [hs2];rfl)))
 obtain ⟨a,c,e,⟨xs,hq⟩,⟨ys,hq'⟩,q⟩:=q1
 subst e
 cases r1 with
 | cons r rr =>
  cases rr with
  | cons r' rr =>
   cases rr
   cases r
   cases r'
   obtain ⟨its,rv,p,hz⟩:=AB I1 hq
   obtain ⟨its',rv',p',hz'⟩:=AB I1 hq'
   have la:a < s1.heap.objs.size:=by obtain ⟨_,_,e,_⟩:=p.obj;exact Heap.lt_size e
   have lc:c < s1.heap.objs.size:=by obtain ⟨_,_,e,_⟩:=p'.obj;exact Heap.lt_size e
   refine Ig p p' fun h' hz hTI hTO h1 h2 hk=>?_
   refine wpAny_pyIter_zip (s:={ s1 with heap:=h' }) hz ?_
   have I2:L2.Inv X pins σ H1 { s1 with heap:=h',toks:=s1.toks }:=I1.kept hk
   refine ⟨_,_,_,_,H1,rfl,I2,LY f g a c (s1.heap.objs.size + 4) (s1.heap.objs.size + 2) (s1.heap.objs.size + 3) s1.heap.objs.size (s1.heap.objs.size + 1) ⟨Nat.ne_of_lt (Nat.lt_succ_self _),Nat.ne_of_lt (Nat.lt_succ_self _),Nat.ne_of_gt (Nat.lt_of_lt_of_le la (Nat.le_add_right _ _)),Nat.ne_of_gt (Nat.lt_of_lt_of_le lc (Nat.le_add_right _ _))⟩,⟨hz,hTI,⟨_,_,hTO⟩,h1,h2⟩,fun b hb=>?_,q⟩
   have le:s1.heap.objs.size<=b:=by
    have:b=s1.heap.objs.size + 4\/b=s1.heap.objs.size + 2\/b=s1.heap.objs.size + 3\/b=s1.heap.objs.size\/b=s1.heap.objs.size + 1:=by simpa using hb
    rcases this with e | e | e | e | e <;> rw [e]
    ·exact Nat.le_add_right _ _
    ·exact Nat.le_add_right _ _
    ·exact Nat.le_add_right _ _
    ·exact Nat.le_refl _
    ·exact Nat.le_add_right _ _
   exact I1.fpOk le (I1.hok.fresh le)
noncomputable def fM:List U->List U->List U
 | u :: us,w :: ws=>.tup [u,w] :: fM us ws
 | _,_=>[]
theorem Aj:∀ us ws:List U,(fM us ws).length=min us.length ws.length
 | [],ws=>by simp [fM]
 | _ :: _,[]=>by simp [fM]
 | u :: us,w :: ws=>by simp only [fM,List.length_cons,Aj us ws];omega
theorem zN:∀ {us ws:List U} {i:Nat} {x:U},(fM us ws)[i]?=some x->∃ u w,us[i]?=some u/\ws[i]?=some w/\x=.tup [u,w]
 | [],ws,i,x,h=>by simp [fM] at h
 | _ :: _,[],i,x,h=>by simp [fM] at h
 | u :: us,w :: ws,0,x,h=>by simp [fM] at h;exact ⟨u,w,rfl,rfl,h.symm⟩
 | u :: us,w :: ws,i + 1,x,h=>by
  simp only [fM,List.getElem?_cons_succ] at h ⊢
  exact zN h
theorem CB {f g:Bool} {K:PySem.W.Frag} {a c:Addr} {us ws:List U} {vs xs:List V} {H:Hp} {M:aE} (m:Jg f K H M a vs) (m':Jg g K H M c xs) (r:aJ K H M us vs) (r':aJ K H M ws xs):Walk K (PZ f g K a c) ⟨none,fM us ws⟩ H M:=by
 refine ⟨fun H1 M1 s rm _ i u e=>?_,fun H1 M1 s rm _=>⟨vs,xs,m _ _ s,m' _ _ s,by show (fM us ws).length=_;rw [Aj,r.length,r'.length]⟩⟩
 obtain ⟨u,w,e1,e1',rfl⟩:=zN e
 obtain ⟨v,e2,ru⟩:=r.get e1
 obtain ⟨x,e2',ru'⟩:=r'.get e1'
 refine ⟨⟨vs,xs,v,x,m _ _ s,m' _ _ s,e2,e2'⟩,fun y H2 y'=>?_⟩
 obtain ⟨p,v',x',y1,y2,hp,rfl,rfl⟩:=y'
 have:=y1 vs (m _ _ s)
 rw [e2] at this;cases this
 have:=y2 xs (m' _ _ s)
 rw [e2'] at this;cases this
 have st:=aS.laid (o:=.tup [v,x]) rm hp
 have rr:aJ K H1 M1 [u,w] [v,x]:=by
  simp only [aJ]
  exact ⟨_,_,rfl,ru.stp s,_,_,rfl,ru'.stp s,rfl⟩
 exact ⟨st,rm.laid hp,uD (rm.no hp) cK (rr.stp st)⟩
def wC (ta:UA):UI:=fun τ M R=>ta τ M fun us M1=>match us with
 | [.tup us,.tup ws]=>R ⟨none,fM us ws⟩ M1
 | _=>False
theorem NU {K:PySem.W.Frag} {ta:TA} {ta':UA} (h:lH K ta ta'):rJ K (La false false K ta) (wC ta'):=fun σ τ H M R' rs rm q R c=>h σ τ H M _ rs rm q _ fun us vs M1 H1 s1 rm1 ru h1=>by
 split at h1
 ·obtain ⟨v,vs',rfl,a,b⟩:=ru.inv_cons
  obtain ⟨v2,rfl,a2⟩:=b.one
  simp only [aK] at a a2
  obtain ⟨a,vs,rfl,m,r⟩:=a
  obtain ⟨a',vs',rfl,m',r'⟩:=a2
  exact ⟨a,a',rfl,⟨vs,IQ m _ _ (aS.refl _ _)⟩,⟨vs',IQ m' _ _ (aS.refl _ _)⟩,c _ _ M1 H1 s1 rm1 (CB (IQ m) (IQ m') r r') h1⟩
 ·exact h1.elim
theorem QF {D:Dat} {elts:List Expr} {kk:Nat} {tpos:Pos} {a b:Expr} {p pos:Pos} {ta:UA} (hm:D.mg "zip"=none) (ha:mT D [a,b] ta) (hg:D.sc.names.lookup ("zip":Str)=some .globalImplicit:=by rfl) (hs:∀ env,starEach [a,b] env=[(false,eval a env),(false,eval b env)]:=by intro _;rfl) (hs2:∀ env,starEach [b] env=[(false,eval b env)]:=by intro _;rfl):v5 D (.Tuple elts kk tpos) (.Call (.Name "zip" p) [a,b] [] pos) (wC ta):=by
 obtain ⟨_,q,s⟩:=ha
 exact ⟨_,fun X h=>h.K ▸ Ja (by show X.env.scope.names.lookup _=_;rw [h.sc];exact hg) (by rw [h.mg];exact hm) (q X h) (hs _) (hs2 _),NU s⟩
noncomputable def bO (ta:UA):UI:=fun τ M R=>ta τ M fun us M1=>match us with
 | [.tup us,.lst ws]=>R ⟨none,fM us ws⟩ M1
 | _=>False
noncomputable def DC (ta:UA):UI:=fun τ M R=>ta τ M fun us M1=>match us with
 | [.lst us,.lst ws]=>R ⟨none,fM us ws⟩ M1
 | _=>False
theorem Jw {K:PySem.W.Frag} {ta:TA} {ta':UA} (h:lH K ta ta'):rJ K (La true true K ta) (DC ta'):=fun σ τ H M R' rs rm q R c=>h σ τ H M _ rs rm q _ fun us vs M1 H1 s1 rm1 ru h1=>by
 split at h1
 ·obtain ⟨v,vs',rfl,a,b⟩:=ru.inv_cons
  obtain ⟨v2,rfl,a2⟩:=b.one
  simp only [aK] at a a2
  obtain ⟨a,vs,rfl,m,r⟩:=a
  obtain ⟨a',vs',rfl,m',r'⟩:=a2
  exact ⟨a,a',rfl,⟨vs,L5 m _ _ (aS.refl _ _)⟩,⟨vs',L5 m' _ _ (aS.refl _ _)⟩,c _ _ M1 H1 s1 rm1 (CB (L5 m) (L5 m') r r') h1⟩
 ·exact h1.elim
theorem J7 {D:Dat} {elts:List Expr} {kk:Nat} {tpos:Pos} {a b:Expr} {p pos:Pos} {ta:UA} (hm:D.mg "zip"=none) (ha:mT D [a,b] ta) (hg:D.sc.names.lookup ("zip":Str)=some .globalImplicit:=by rfl) (hs:∀ env,starEach [a,b] env=[(false,eval a env),(false,eval b env)]:=by intro _;rfl) (hs2:∀ env,starEach [b] env=[(false,eval b env)]:=by intro _;rfl):v5 D (.Tuple elts kk tpos) (.Call (.Name "zip" p) [a,b] [] pos) (DC ta):=by
 obtain ⟨_,q,s⟩:=ha
 exact ⟨_,fun X h=>h.K ▸ Ja (by show X.env.scope.names.lookup _=_;rw [h.sc];exact hg) (by rw [h.mg];exact hm) (q X h) (hs _) (hs2 _),Jw s⟩
end U2
namespace U2
open PySem PySem.Spec PyProof.Rows L2
theorem Cj (l:Addr) (items:Array Value) (n:Nat) (b:Addr) (items2:Array Value) (n2:Nat) (dd:Option Addr) (sl:Array (Option Value)) (hc0:¬(!items.isEmpty && Builtin.List.listTooLong (items.size + items2.size))=true) (hc1:items.size<=sizeLine) (hs2:items.size + items2.size<=sizeLine + 1) :
  Meets (Builtin.«list.extend» ⟨[.ref l,.ref b],[]⟩) (fun _ R s=>s.heap.get? l=some { cls:=.type "list",dict:=none,data:=.seq items n,slots:=#[] }/\s.heap.get? b=some { cls:=.type "list",dict:=dd,data:=.seq items2 n2,slots:=sl }/\R (.ok (.ret Value.none)) { s with heap:=s.heap.update l (Obj.mapSeq fun x=>x++items2),toks:=s.toks }) :=
 .of_wp fun prog w A R s h=>by
  obtain ⟨hp,g,d,tk,os⟩:=s;obtain ⟨hl,hb,h⟩:=h
  have f1:=PySem.AutoSeq1.idx_int;have f2:=PySem.AutoSeq1.sub_tuple_tuple;have f3:=PySem.AutoSeq1.sub_list_list;have f4:=PySem.AutoSeq1.sub_tuple_list;have f5:=PySem.AutoSeq1.sub_list_tuple
  have hz':(items++items2).size<=sizeLine + 1:=by rw [Array.size_append];exact hs2
  wp_walk using (wpAny_updateSeq hl rfl (hz:=hc1) (_hz':=hz')),wpAny_loadPart' hl,wpAny_loadPart' hb
  exact ⟨_,rfl,h⟩
theorem F4 {X:Cx}:Pj X "list.extend" (C8 X.K):=by
 intro pins s σ H x vs v us Q I rx rv h
 obtain ⟨l,b,xs,zs,rfl,rfl,hH,hB,hz,q⟩:=h
 cases rx
 obtain ⟨u,rfl,ru⟩:=rv.one
 cases ru
 obtain ⟨z,its,n,r,hl,e⟩:=I.lstM hH
 obtain ⟨its2,r2,⟨⟨oc,od,odt,osl⟩,n2,e2,hc,hd,hdt⟩,hl2⟩:=I.list hB
 have hc':oc=.type "list":=hc
 have hdt':odt=.seq its2.toArray n2:=hdt
 subst hc' hdt'
 have l2:=r2.length
 have hsz:its.toArray.size + its2.toArray.size<=sizeLine:=by rw [List.size_toArray,List.size_toArray];omega
 have hlong:¬ (!its.toArray.isEmpty && Builtin.List.listTooLong (its.toArray.size + its2.toArray.size))=true:=by
  rw [D8 hsz,Bool.and_false]
  exact Bool.false_ne_true
 refine call_meets PySem.F.slot_list_extend ⟨_,e,rfl⟩ PySem.F.entry_list_extend (PySem.F.args_list_extend_2 _ _)
  (Cj l its.toArray n b its2.toArray n2 od osl hlong (by rw [List.size_toArray];omega) (by omega)) ⟨e,e2,?_⟩
 refine ⟨.non,_,I.lset (its':=its++its2) hH e (by simp) (r.append r2) ?_,rfl,q⟩
 rw [List.length_append]
 omega
variable {D:Dat} {o e:Expr} {ta:UE} {tas:UA} {pos:Pos}
theorem vT {apos:Pos} (ho:bB D o ta) (ha:mT D [e] tas) (hbase:∀ env,attributeBase o "extend" env (eval o env)=eval o env:=by intro _;rfl)
  (hfew:∀ env,((backTo pos (starEach [e] env)).all (fun x=>!x.1) && (backToKw pos (keywordEach [] env)).all (fun x=>x.1.isSome) && decide ([e].length + ([]:List Keyword).length + (if ([]:List Keyword).isEmpty then 0 else 1) < 30))=true:=by intro _;rfl)
  (hline:(apos.endLine == pos.line)=true:=by rfl) (hs:∀ env,starEach [e] env=[(false,eval e env)]:=by intro _;rfl):bB D (.Call (.Attribute o "extend" apos) [e] [] pos) (Ab kW ta tas):=by
 obtain ⟨_,p,s⟩:=ho;obtain ⟨_,q,r⟩:=ha
 refine ⟨_,fun X h=>?_,Hx Gb s r⟩
 have:=Mn (cpos:=pos) (apos:=apos) PySem.F.plainAttrs_list PySem.F.slot_list_extend PySem.F.type_list_extend F4 (p X h) (q X h) (hbase _) (hfew _) hline (hs _) (by rfl)
 rw [h.K] at this
 exact this
end U2
namespace U2
open PySem PySem.Spec PyProof.Rows L2
noncomputable def intsOf:List U->Option (List Int)
 | []=>some []
 | .int i :: us=>(intsOf us).map (i :: ·)
 | _ :: _=>none
theorem oR {K:PySem.W.Frag} {H:Hp} {M:aE}:∀ {us:List U} {vs:List V} {xs:List Int},aJ K H M us vs->intsOf us=some xs->vs=xs.map V.int
 | [],vs,xs,r,e=>by cases e;exact r.inv_nil
 | u :: us,vs,xs,r,e=>by
  obtain ⟨v,vs',rfl,a,b⟩:=r.inv_cons
  cases u with
  | int i =>
   simp only [intsOf] at e
   cases e2:intsOf us with
   | none=>rw [e2] at e;cases e
   | some ys=>rw [e2] at e;cases e;rw [a.int,oR b e2];rfl
  | _=>cases e
def uY:eB:=fun x y M Q=>match x,y with
 | .int i,.int j=>Q (.bl (decide (i < j))) M
 | .tup us,.tup ws=>∃ xs ys,intsOf us=some xs/\intsOf ws=some ys/\Q (.bl (HT.lexLt xs ys)) M
 | _,_=>False
variable {D:Dat}
theorem zC:mS D .Lt uY:=⟨⟨_,fun X h=>h.K ▸ RW.or (QJ h.room.units0),fun x y u w H M Q' rm ru rw h Q c=>by
 unfold uY at h
 split at h
 ·rename_i i j
  exact .inl (qX (f:=fun i j=>decide (i < j)) x y (.int i) (.int j) H M Q' rm ru rw h Q c)
 ·rename_i us ws
  obtain ⟨xs,ys,e1,e2,q⟩:=h
  obtain ⟨a,vs,rfl,s1,r1⟩:=ru.tup
  obtain ⟨a',vs',rfl,s2,r2⟩:=rw.tup
  cases oR r1 e1
  cases oR r2 e2
  exact .inr ⟨a,a',xs,ys,rfl,rfl,s1,s2,c.here rm fA q⟩
 ·exact h.elim⟩⟩
end U2
namespace U2
open PySem PySem.Spec PyProof.Rows L2
noncomputable def OM:Int->List Int->Int
 | m,[]=>m
 | m,n :: ns=>OM (if n > m then n else m) ns
section
variable {X:Cx}
theorem JG (hc:X.calm=true):mF X (.builtin "sum") (fun xs H Q=>∃ p ns,xs=[.ref p]/\eC X.K H p (ns.map V.int)/\PySem.SumFits ns/\Q (.int ns.sum) H):=by
 intro pins s σ H xs us Q I r h
 obtain ⟨p,ns,rfl,hq,hf,q⟩:=h
 obtain ⟨u,rfl,rx⟩:=vals1 r
 cases rx
 obtain ⟨its,r',pl,hz⟩:=I.list hq
 have hi:IntsAre its ns:=intsAre_of r'
 obtain ⟨ys,e⟩:=hi.allInts.items
 have hns:ns=ys.toList.map (·.1):=by
  rw [<- hi.numsOf,<- nums_intItems,<- e]
 have hl:=pl.isList
 rw [e] at hl
 subst hns
 refine sum_intList (I.ok.hd hc) hl (fun j hj=>?_) fun h' tk t' hk=>?_
 ·rw [numAt_eq,preSum_eq];exact hf j (by simpa using hj)
 ·refine ⟨.int _,H,I.kept hk,⟨t',?_⟩,q⟩
  rw [preSum_eq,List.take_of_length_le (by simp)]
def vO:List U->aE->UK->Prop:=fun us M Q=>match us with
 | [x]=>match view M x with
  | .lst ws=>∃ ns,intsOf ws=some ns/\PySem.SumFits ns/\Q (.int ns.sum) M
  | _=>False
 | _=>False
theorem FY {D:Dat}:xG D (.builtin "sum") vO:=⟨⟨_,fun X h=>by
  have:=(JG (X:=X) h.calm);rw [h.K] at this;exact this,fun xs us H M Q' rm rus h Q c=>by
 unfold vO at h
 split at h
 ·rename_i x
  obtain ⟨v,rfl,a1⟩:=rus.one
  split at h
  ·rename_i ws e
   obtain ⟨ns,e2,hf,q⟩:=h
   obtain ⟨b,zvs,rfl,s2,r2⟩:=eO rm a1 e
   rw [oR r2 e2] at s2
   exact ⟨b,ns,rfl,s2,hf,c.here rm fE q⟩
  ·exact h.elim
 ·exact h.elim⟩⟩
noncomputable def AL:List U->aE->UK->Prop:=fun us M Q=>match us with
 | [.int i,.int j]=>Q (.int (if j > i then j else i)) M
 | [x]=>match view M x with
  | .lst ws=>∃ m ns,intsOf ws=some (m :: ns)/\Q (.int (OM m ns)) M
  | _=>False
 | _=>False
end
end U2
namespace U2
open PySem PySem.Spec PyProof.Rows L2
section
variable {D:Dat} {a b c e o i:Expr} {ta tb tc te to ti:UE} {pos p:Pos} {es:List Expr} {tas:UA} {x:Str}
noncomputable def aF (te to ti:UE):US:=fun D τ M=>te τ M fun v M1=>to τ M1 fun x M2=>ti τ M2 fun y M3=>match x,y with
 | .ref a,.int k=>match M3 a with
  | some (.lst us)=>∃ j,u6 us.length k=some j/\D.nx τ (mup M3 a (.lst (us.set j v)))
  | _=>False
 | _,_=>False
theorem oZ {tpos:Pos} (he:bB D e te) (ho:bB D o to) (hi:bB D i ti) (hs:∀ env,swapsWithSole [.Subscript o i tpos] e pos.line env=pure false:=by intro _;rfl) (hw:∀ env,swappedStores [.Subscript o i tpos] e env=pure none:=by intro _;rfl)
  (h1:∀ env,(assignEach [.Subscript o i tpos] env).map (·.2)=[assign (.Subscript o i tpos) env]:=by intro _;rfl)
  (ha:∀ env v,assign (.Subscript o i tpos) env v=(do
   let ov <- holding [v] (eval o env)
   let iv <- holding [v,ov] (eval i env)
   standAt tpos
   holding [v,ov,iv] (setItem ov iv v)
   release [v,ov,iv] []):=by intro _ _;rfl):pG D (.Assign [.Subscript o i tpos] e pos) (aF te to ti):=by
 obtain ⟨_,p1,s1⟩:=he;obtain ⟨_,p2,s2⟩:=ho;obtain ⟨_,p3,s3⟩:=hi
 refine ⟨_,fun X h=>Hn (p1 X h) (Ph (p2 X h) (p3 X h) set_list (ha _)) (hs _) (hw _) (h1 _),fun σ τ H M D' rs rm h EE d=>?_⟩
 refine s1 σ τ H M _ rs rm h _ fun v vv M1 H1 st1 rm1 rv h1=>?_
 refine s2 σ τ H1 M1 _ (rs.stp st1) rm1 h1 _ fun x vx M2 H2 cT rm2 rx h2=>?_
 refine s3 σ τ H2 M2 _ ((rs.stp st1).stp cT) rm2 h2 _ fun y vy M3 H3 st3 rm3 ry h3=>?_
 split at h3
 ·rename_i a k
  split at h3
  ·rename_i us e
   obtain ⟨j,hj,q⟩:=h3
   cases (rx.stp st3).ref
   cases ry.int
   obtain ⟨vs,hv,rus⟩:=rm3 a _ e
   have rv3:=(rv.stp cT).stp st3
   have st4:aS H3 M3 (upd H3 a (.lst (vs.set j vv))) (mup M3 a (.lst (us.set j v))):=aS.write e
   have rnew:RelM D.K (upd H3 a (.lst (vs.set j vv))) (mup M3 a (.lst (us.set j v))):=rm3.put st4 ⟨_,cK,(aJ.set rv3 j rus).stp st4⟩
   refine ⟨a,vs,k,j,rfl,rfl,hv,by rw [<- rus.length];exact hj,?_⟩
   exact d.nx _ _ _ _ (((st1.trans cT).trans st3).trans st4) rnew ((((rs.stp st1).stp cT).stp st3).stp st4) q
  ·exact h3.elim
 ·exact h3.elim
def sQ:U->List U->aE->UK->Prop:=fun x ws M Q=>match x,ws with
 | .ref a,[.int i]=>match M a with
  | some (.lst us)=>-(2 ^ 63)<=i/\i < 2 ^ 63/\∃ k y,seqIndex? i us.length=some k/\us[k]?=some y/\Q y (mup M a (.lst (us.eraseIdx k)))
  | _=>False
 | _,_=>False
def vY:List U->aE->UK->Prop:=fun us M Q=>match us with
 | [.int i]=>Q (.int i) M
 | [.bl k]=>Q (.int (if k then 1 else 0)) M
 | _=>False
theorem GQ:xG D (.type "int") vY:=⟨⟨_,fun X h=>Hr,fun xs us H M Q' rm rus h Q c=>by
 unfold vY at h
 split at h
 ·rename_i j
  obtain ⟨v,rfl,a⟩:=rus.one
  cases a.int
  exact .inl ⟨j,rfl,c.here rm fE h⟩
 ·rename_i j
  obtain ⟨v,rfl,a⟩:=rus.one
  cases a.bl
  exact .inr ⟨j,rfl,c.here rm fE h⟩
 ·exact h.elim⟩⟩
noncomputable def l9 (i j:Int):Prop:=Lk i j\/(Builtin.Int.intBits i<=60000000/\Builtin.Int.intBits j<=60000000)
theorem l9.ok {i j:Int} (h:l9 i j):IntMulOk i j:=by
 rcases h with h | ⟨h1,h2⟩
 ·exact h.ok
 ·exact IntMulOk.of_le h1 h2 (by decide)
theorem Nw {X:Cx}:dW X (binaryOp .Mult) (rI l9 fun i j=>.int (i * j)):=Mt fun _ _ _ _ _ _ _ hc q=>mul_int q hc.ok
noncomputable def wB (z:Str) (n:Int):Str:=if n < 1 then Str.empty else if (n == 1 || z.length == 0)=true then z else ⟨(List.replicate n.toNat z.cps).foldl (·++·) #[]⟩
theorem MU {X:Cx}:dW X (binaryOp .Mult) (fun x y H Q=>∃ z n,x=.str z/\y=.int n/\-(2 ^ 63)<=n/\n < 2 ^ 20/\z.length<=2 ^ 20/\z.length * n.toNat<=100000/\Q (.str (wB z n)) H):=by
 intro pins s σ H x y v u Q I rx ry h
 obtain ⟨z,n,rfl,rfl,h1,h2,h3,h4,q⟩:=h
 obtain ⟨t,rfl⟩:=rx
 obtain ⟨t',rfl⟩:=ry
 have e1:(decide (n < -(2 ^ 63:Int)) || decide (n ≥ 2 ^ 63))=false:=by
  rw [decide_eq_false (by omega),decide_eq_false (by omega)];rfl
 refine PySem.P.mul_str e1 (fun g1 g2=>?_) (fun g1 g2=>?_) ?_
 ·intro hh
  have hn:(1:Int)<=n:=by omega
  have e3:(z.length:Int) * n=((z.length * n.toNat:Nat):Int):=by
   rw [Int.natCast_mul,Int.toNat_of_nonneg (by omega)]
  have:=Int.le_ediv_of_mul_le (show (0:Int) < n by omega) (show (z.length:Int) * n<=2 ^ 63 - 1 by rw [e3];omega)
  omega
 ·unfold Builtin.Str.tooLong sizeLine
  exact decide_eq_false (by omega)
 ·have hq:∀ (t2:Tok) k,EP X pins σ Q (.str (wB z n) t2) { s with toks:=k }:=fun t2 k=>⟨.str (wB z n),H,I.tok k,⟨t2,rfl⟩,q⟩
  unfold wB at hq
  by_cases g1:n < 1
  ·rw [if_pos g1]
   simp only [if_pos g1] at hq
   exact ⟨by decide,hq _ _⟩
  ·rw [if_neg g1]
   simp only [if_neg g1] at hq
   by_cases g2:(n == 1 || z.length == 0)=true
   ·rw [if_pos g2]
    simp only [if_pos g2] at hq
    exact hq t s.toks
   ·rw [if_neg g2]
    simp only [if_neg g2] at hq
    refine ⟨?_,hq _ _⟩
    have hsz:∀ (k:Nat) (acc:Array Nat),((List.replicate k z.cps).foldl (·++·) acc).size=acc.size + k * z.cps.size:=by
     intro k
     induction k with
     | zero=>intro acc;simp
     | succ k ih=>intro acc;rw [List.replicate_succ,List.foldl_cons,ih,Array.size_append,Nat.succ_mul];omega
    show ((List.replicate n.toNat z.cps).foldl (·++·) #[]).size<=sizeLine
    rw [hsz]
    have h5:n.toNat * z.cps.size<=100000:=by rw [Nat.mul_comm];exact h4
    have:(100000:Nat)<=sizeLine:=by decide
    simp only [Array.size_empty,Nat.zero_add]
    omega
def tP (o:Bool):eB:=fun x y M Q=>match x,y with
 | .int i,.int j=>l9 i j/\Q (.int (i * j)) M
 | .str z,.int n=>-(2 ^ 63)<=n/\n < 2 ^ 20/\z.length<=2 ^ 20/\z.length * n.toNat<=100000/\Q (.str (wB z n)) M
 | .ref a,.int k=>match M a with
  | some (.lst us)=>-(2 ^ 63)<=k/\k < 2 ^ 63/\us.length * k.toNat<=sizeLine/\iL o (List.replicate k.toNat us).flatten M Q
  | _=>False
 | _,_=>False
theorem aJ.rep {K:PySem.W.Frag} {H:Hp} {M:aE} {us:List U} {vs:List V} (r:aJ K H M us vs):∀ k:Nat,aJ K H M (List.replicate k us).flatten (List.replicate k vs).flatten
 | 0=>by simp only [List.replicate_zero,List.flatten_nil];exact .nil
 | k + 1=>by simp only [List.replicate_succ,List.flatten_cons];exact r.append (aJ.rep r k)
theorem Oa {K:PySem.W.Frag} {o:Bool}:eA K (fun x y H Q=>rI l9 (fun i j=>.int (i * j)) x y H Q\/((∃ z n,x=.str z/\y=.int n/\-(2 ^ 63)<=n/\n < 2 ^ 20/\z.length<=2 ^ 20/\z.length * n.toNat<=100000/\Q (.str (wB z n)) H)\/P4 x y H Q)) (tP o):=fun x y u w H M Q' rm ru rw h Q c=>by
 unfold tP at h
 split at h
 ·rename_i i j
  exact .inl (qN (C:=l9) (f:=fun i j=>i * j) x y (.int i) (.int j) H M Q' rm ru rw h Q c)
 ·rename_i z n
  cases ru.str;cases rw.int
  exact .inr (.inl ⟨z,n,rfl,rfl,h.1,h.2.1,h.2.2.1,h.2.2.2.1,c.here rm nH h.2.2.2.2⟩)
 ·rename_i a k
  split at h
  ·rename_i us e
   obtain ⟨vs,hv,r⟩:=rm a _ e
   cases ru.ref;cases rw.int
   exact .inr (.inr ⟨a,k,vs,rfl,rfl,hv,h.1,h.2.1,by rw [<- r.length];exact h.2.2.1,fun p hp=>c.lst rm (r.rep k.toNat) hp h.2.2.2⟩)
  ·exact h.elim
 ·exact h.elim
theorem eR (own:Bool:=false) (ha:bB D a ta) (hb:bB D b tb):bB D (.BinOp a .Mult b pos) (l5 (tP own) ta tb):=wY (fun _ _=>Nw.or (MU.or QR)) Oa ha hb
noncomputable def Mq (_ j:Int):Prop:=0 < j/\j < 2 ^ 64
theorem Kq {X:Cx}:dW X (binaryOp .FloorDiv) (rI Mq fun i j=>.int (i / j)):=Mt fun i j _ _ _ _ _ hc q=>by
 have h1:(0:Int) < j:=hc.1
 have h2:j.natAbs.log2 < 9000:=by
  have h3:j.natAbs < 2 ^ 64:=by have:=hc.2;omega
  by_cases h:j.natAbs=0
  ·rw [h];decide
  ·have:=(Nat.log2_lt h).mpr h3
   omega
 exact floordiv_int (by omega) (by rw [Int.fdiv_eq_ediv_of_nonneg i (by omega)];exact q) (.inl (PyProof.noPylong_of_log2 h2))
theorem Fy (ha:bB D a ta) (hb:bB D b tb):bB D (.BinOp a .FloorDiv b pos) (l5 (uI Mq fun i j=>.int (i / j)) ta tb):=wY (fun _ _=>Kq) qN ha hb
end
end U2
namespace HT
open PySem PySem.Spec PyProof.Rows L2
variable {prog:Program} {w:World} {A:Around} {E:Value->Shared->Prop} {s:Shared}
theorem uV {t sl:Addr} {items:Array Value} {vl vu:Value} {lo hi:Option Int} {Q:Value->Shared->Prop} (ht:IsTup s.heap t items) (hs:s.heap.IsSliceOf sl vl vu .none) (pl:IsPart vl lo) (pu:IsPart vu hi)
  (hw:bK items.size 0 lo=0/\bK items.size items.size hi=items.size)
  (h:Q (.ref t) s):wpAny (model prog w) A (getItem (.ref t) (.ref sl)) Q E s:=by
 obtain ⟨os,hos,hcs,hds⟩:=id hs
 have hTs:s.TypeIs (.ref sl) "slice":=⟨os,hos,hcs⟩
 unfold getItem
 try with_reducible refine wpAny_holding ?_
 first | refine wpAny_bind (wpAny_pure ?_) | skip
 refine wpAny_bind (wpAny_sequenceKey ht.typeIs (by decide) ?_)
 refine wpAny_bind (wpAny_callSpecial?_slot (name:=Str.ofString "__getitem__") ht.typeIs PyProof.Rows.slot_tuple_getitem
  (wpAny_call_entry PyProof.Rows.slot_tuple_getitem ht.typeIs entry_tuple_getitem ?_ (args_tuple_getitem _ _)))
 show wpAny _ _ (Builtin.Tuple.tupleItemsOf (.ref t) >>= _) _ _ s
 refine wpAny_bind (tupleItemsOf_ ht ?_)
 refine wpAny_bind (wpAny_typeOf hTs ?_)
 rw [if_pos (by decide)]
 refine wpAny_bind (pA hs pl pu ?_)
 have hyes:((((bK items.size 0 lo:Nat):Int) == 0 && (1:Int) == 1 && (bK items.size items.size hi - bK items.size 0 lo) == items.size)=true):=by
  rw [hw.1,hw.2];simp
 show wpAny _ _ (if (((bK items.size 0 lo:Nat):Int) == 0 && (1:Int) == 1 && (bK items.size items.size hi - bK items.size 0 lo) == items.size)=true then _ else _) _ _ s
 rw [if_pos hyes]
 unfold Builtin.Tuple.tupleIsExact
 refine wpAny_bind (wpAny_bind (wpAny_typeOf ht.typeIs (wpAny_pure ?_)))
 rw [if_pos (by decide)]
 refine wpAny_bind (wpAny_rule ?_)
 exact wpAny_pure ⟨_,rfl,wpAny_pure h⟩
end HT
namespace U2
open PySem PySem.Spec PyProof.Rows L2
noncomputable def O0 (K:PySem.W.Frag):V->Option Int->Option Int->Hp->VK->Prop:=fun x lo hi H Q=>∃ a xs,x=.ref a/\fH K H a xs/\(HT.bK xs.length 0 lo=0/\HT.bK xs.length xs.length hi=xs.length)/\Q (.ref a) H
theorem NZ {X:Cx}:xR X (O0 X.K):=by
 intro pins s σ H x v vl vu lo hi sl Q I rx hs pl pu h
 obtain ⟨a,xs,rfl,hx,hw,q⟩:=h
 cases rx
 obtain ⟨its,r,ht,hz⟩:=I.tuple hx
 have hlen:its.toArray.size=xs.length:=by rw [List.size_toArray];exact r.length.symm
 refine ⟨"tuple",_,PyProof.Rows.slot_tuple_getitem.lookup,ht.typeIs,?_⟩
 refine HT.uV ht hs pl pu (by rw [hlen];exact hw) ⟨.ref a,H,I,rfl,q⟩
def vC (o:Bool) (te:UE) (tl th:UO):UE:=fun τ M Q=>te τ M fun x M1=>tl τ M1 fun l M2=>th τ M2 fun h M3=>match view M3 x with
 | .lst us=>iL o (i7 us l h) M3 Q
 | .tup us=>Q (.tup (i7 us l h)) M3
 | .str z=>z.length<=sizeLine/\Q (.str (Txt.slice z l h)) M3
 | _=>False
theorem MW {K:PySem.W.Frag} {o:Bool} {te:TE} {te':UE} {tl th:TO} {tl' th':UO} (h0:cF K te te') (h1:Dz K tl tl') (h2:Dz K th th'):cF K (R6 (fun x lo hi H Q=>QK K x lo hi H Q\/O0 K x lo hi H Q) te tl th) (vC o te' tl' th'):=fun σ τ H M Q' rs rm q Q c =>
 h0 σ τ H M _ rs rm q _ fun u v M1 H1 s1 rm1 ru q1=>h1 σ τ H1 M1 _ (rs.stp s1) rm1 q1 _ fun lo M2 H2 s2 rm2 q2=>h2 σ τ H2 M2 _ ((rs.stp s1).stp s2) rm2 q2 _ fun hi M3 H3 s3 rm3 q3=>by
  have c3:=d7.stp c ((s1.trans s2).trans s3)
  have ru3:=ru.stp (s2.trans s3)
  split at q3
  ·rename_i us e
   obtain ⟨a,xs,rfl,r1,r2⟩:=eO rm3 ru3 e
   exact .inl (.inl ⟨a,xs,rfl,r1,fun p hp=>c3.lst rm3 (Fe r2 lo hi) hp q3⟩)
  ·rename_i us e
   have e':=p5 e
   subst e'
   obtain ⟨a,xs,rfl,r1,r2⟩:=ru3.tup
   by_cases hw:HT.bK xs.length 0 lo=0/\HT.bK xs.length xs.length hi=xs.length
   ·refine .inr ⟨a,xs,rfl,r1,hw,c3 _ _ M3 H3 (aS.refl _ _) rm3 ?_ q3⟩
    have e4:i7 us lo hi=us:=by
     unfold i7
     rw [r2.length,hw.1,hw.2,List.drop_zero,Nat.sub_zero,<- r2.length,List.take_length]
    rw [e4]
    exact ru3
   ·exact .inl (.inr (.inl ⟨a,xs,rfl,r1,hw,fun p hp=>c3.tup rm3 (Fe r2 lo hi) hp q3⟩))
  ·rename_i z e
   have e':=yO e
   subst e'
   exact .inl (.inr (.inr ⟨z,ru3.str,q3.1,c3 _ _ M3 H3 (aS.refl _ _) rm3 nH q3.2⟩))
  ·exact q3.elim
theorem vA {D:Dat} {a:Expr} {ta:UE} {pos:Pos} (own:Bool:=false) {lo hi:Option Expr} {tl th:UO} {p2:Pos} (ha:bB D a ta) (hl:Me D lo tl) (hh:Me D hi th):bB D (.Subscript a (.Slice lo hi none p2) pos) (vC own ta tl th):=by
 obtain ⟨_,p,s⟩:=ha;obtain ⟨_,q,r⟩:=hl;obtain ⟨_,u,v⟩:=hh
 refine ⟨_,fun X h=>?_,MW s r v⟩
 have:=L0 (pos:=pos) (p2:=p2) (Qv.or NZ) (p X h) (q X h) (u X h)
 rw [h.K] at this
 exact this
end U2
namespace Att
open PySem PySem.Spec PyProof.Rows PySem.W Calls
end Att
namespace L2
open PySem PySem.Spec PyProof.Rows
end L2
namespace U2
open PySem PySem.Spec PyProof.Rows L2
noncomputable def BX (K:PySem.W.Frag) (n:Nat) (a:Addr):It :=
 ⟨fun i H=>∃ xs x,eC K H a xs/\xs.length=n/\i < n/\xs[n - 1 - i]?=some x,fun i H x H'=>H'=H/\∀ xs,eC K H a xs->xs[n - 1 - i]?=some x,fun i H=>i=n⟩
theorem Lg {P:Program} {w:World} {K:PySem.W.Frag} {tg:Expr} (n:Nat) (a it:Addr):Turn P w K tg (BX K n a) [it] it (fun i h=>h.IsRevIter it a ((n:Int) - 1 - (i:Int))) where
 mem:=by simp
 obj:=fun i h st b hb=>by
  have e:b=it:=by simpa using hb
  subst e
  obtain ⟨o,e,c,d⟩:=st
  exact ⟨o,e,fun v z=>by rw [d] at z;cases z⟩
 keep:=fun i h h' st k=>st.at fun o e=>k it (by simp) o e
 item:=by
  intro X hP hw hK hc i pins s σ H E I hf st hg
  subst hP hw hK
  obtain ⟨xs,x,hq,hn,hi,hx⟩:=hg
  obtain ⟨its,rv,p,hz⟩:=I.list hq
  obtain ⟨u,hu,ru⟩:=rv.get hx
  obtain ⟨f0,f1,f2,f3,f4,f5⟩:=hf it (by simp)
  have e:(n:Int) - 1 - (i:Int)=((n - 1 - i:Nat):Int):=by omega
  have st0:=st
  rw [e] at st0
  refine wpAny_pyNext_rev_item st0 p.isList (x:=u) (by simpa using hu) fun h' st' sb=>?_
  have I1:Inv X pins σ H { s with heap:=h' }:=I.turned (t':=s.toks) (fun b o hb e=>(sb.2 b hb).trans e) f0 f1 f3 f4 f5
  have e2:((n - 1 - i:Nat):Int) - 1=(n:Int) - 1 - ((i + 1:Nat):Int):=by omega
  rw [e2] at st'
  obtain ⟨o,e,c,d⟩:=id st'
  exact ⟨u,rfl,AF (s:={ s with heap:=h' }) e c d (by decide) ⟨x,H,I1,ru,⟨rfl,fun ys hy=>by rw [I.list_inj hy hq];exact hx⟩,st',fun b hb=>(hf b hb).1⟩⟩
 done:=by
  intro X hP hw hK hc i pins s σ H E I hf st hg
  subst hP hw hK
  have hg':i=n:=hg
  subst hg'
  obtain ⟨f0,f1,f2,f3,f4,f5⟩:=hf it (by simp)
  have e:(i:Int) - 1 - (i:Int)=-1:=by omega
  rw [e] at st
  exact wpAny_pyNext_rev_end (I.ok.hd hc) st fun h' eb=>⟨rfl,I.turned (t':=s.toks) (fun b o hb e=>eb b o hb e) f0 f1 f3 f4 f5⟩
 self:=fun _ _ _ _ _ st h=>wpAny_pyIter_revIter st h
noncomputable def QP (K:PySem.W.Frag) (ta:TA):TI:=fun σ H R=>ta σ H fun vs H1=>∃ a xs,vs=[.ref a]/\eC K H1 a xs/\R (BX K xs.length a) H1
theorem boot_reversed:bootBuiltins "reversed"=some (.type "reversed"):=by kernel_rfl
theorem Q9 {X:Cx} {tg:Expr} {a:Expr} {ta:TA} {p pos:Pos} (hg:Gl X "reversed") (hm:X.mg "reversed"=none) (ha:PA X [a] ta) (hs:starEach [a] X.env=[(false,eval a X.env)]) :
  PI X tg (.Call (.Name "reversed" p) [a] [] pos) (QP X.K ta):=by
 intro pins s σ H R I h
 refine Call_ (nX I hg hm boot_reversed (PyProof.Rows.callWith_type1 (bF (ha pos pins s σ H _ I h) fun us s1 ⟨vs,H1,I1,r1,q1⟩=>?_) hs rfl))
 obtain ⟨a,xs,e,hq,q⟩:=q1
 subst e
 cases r1 with
 | cons r rr =>
  cases rr
  cases r
  obtain ⟨its,rv,p,hz⟩:=I1.list hq
  have hrev:Heap.IsRevIter (s1.heap.push (revObj a ((its.toArray.size:Int) - 1))) s1.heap.objs.size a ((xs.length:Int) - 1 - ((0:Nat):Int)):=by
   refine ⟨_,Heap.get?_push_size _ rfl,rfl,?_⟩
   have e1:((its.toArray.size:Nat):Int) - 1=(xs.length:Int) - 1 - ((0:Nat):Int):=by rw [List.size_toArray,<- rv.length];omega
   rw [<- e1];rfl
  refine call_reversed_list p.isList ?_
  refine wpAny_pyIter_revIter (s:={ s1 with heap:=s1.heap.push (revObj a ((its.toArray.size:Int) - 1)) }) hrev ?_
  have I2:L2.Inv X pins σ H1 { s1 with heap:=s1.heap.push (revObj a ((its.toArray.size:Int) - 1)),toks:=s1.toks }:=I1.kept fun b o e=>Heap.get?_push_of_some _ e
  refine ⟨s1.heap.objs.size,[s1.heap.objs.size],_,_,H1,rfl,I2,Lg xs.length a s1.heap.objs.size,hrev,fun b hb=>?_,q⟩
  have e:b=s1.heap.objs.size:=by simpa using hb
  subst e
  exact I1.fpOk (Nat.le_refl _) (I1.hok.fresh (Nat.le_refl _))
theorem Ll {K:PySem.W.Frag} {a:Addr} {us:List U} {vs:List V} {H:Hp} {M:aE} (m:(M a=none/\Rd H a (.lst vs))\/KL K a vs) (r:aJ K H M us vs):Walk K (BX K vs.length a) ⟨none,us.reverse⟩ H M:=by
 have sq:∀ H1 M1,aS H M H1 M1->eC K H1 a vs:=fun H1 M1 s=>by
  rcases m with ⟨m,h⟩ | k
  ·exact .inl (Rd.stp s m h).2
  ·exact .inr k
 refine ⟨fun H1 M1 s rm _ i u e=>?_,fun H1 M1 s rm _=>by show us.reverse.length=vs.length;rw [List.length_reverse,r.length]⟩
 have e':us.reverse[i]?=some u:=e
 have hi:i < us.length:=by
  have:=(List.getElem?_eq_some_iff.mp e').1
  simpa using this
 rw [List.getElem?_reverse hi] at e'
 obtain ⟨v,e2,ru⟩:=r.get e'
 rw [r.length] at e2 hi
 refine ⟨⟨vs,v,sq H1 M1 s,rfl,hi,e2⟩,fun x H2 y=>?_⟩
 obtain ⟨rfl,y⟩:=y
 have:=y vs (sq _ M1 s)
 rw [e2] at this;cases this
 exact ⟨aS.refl _ _,rm,ru.stp s⟩
noncomputable def kK (ta:UA):UI:=fun τ M R=>ta τ M fun us M1=>match us with
 | [.lst us]=>R ⟨none,us.reverse⟩ M1
 | _=>False
theorem M8 {K:PySem.W.Frag} {ta:TA} {ta':UA} (h:lH K ta ta'):rJ K (QP K ta) (kK ta'):=fun σ τ H M R' rs rm q R c=>h σ τ H M _ rs rm q _ fun us vs M1 H1 s1 rm1 ru h1=>by
 split at h1
 ·rename_i xs
  obtain ⟨v,rfl,a⟩:=ru.one
  simp only [aK] at a
  obtain ⟨a,vs,rfl,m,r⟩:=a
  refine ⟨a,vs,rfl,?_,c _ _ M1 H1 s1 rm1 (Ll m r) h1⟩
  rcases m with ⟨_,m⟩ | k
  ·exact .inl m
  ·exact .inr k
 ·exact h1.elim
theorem xS {D:Dat} {tg:Expr} {a:Expr} {p pos:Pos} {ta:UA} (hm:D.mg "reversed"=none) (ha:mT D [a] ta) (hg:D.sc.names.lookup ("reversed":Str)=some .globalImplicit:=by rfl) (hs:∀ env,starEach [a] env=[(false,eval a env)]:=by intro _;rfl):v5 D tg (.Call (.Name "reversed" p) [a] [] pos) (kK ta):=by
 obtain ⟨_,q,s⟩:=ha
 exact ⟨_,fun X h=>h.K ▸ Q9 (by show X.env.scope.names.lookup _=_;rw [h.sc];exact hg) (by rw [h.mg];exact hm) (q X h) (hs _),M8 s⟩
end U2
namespace U2
open PySem PySem.Spec PyProof.Rows L2
theorem JN:typeLookup (.type "list_reverseiterator") "__len__"=pure none:=by rw [typeLookup_type,builtinLookup_eq_fast];kernel_rfl
theorem KH:typeLookup (.type "list_reverseiterator") "__length_hint__"=pure (some (.builtin "list_reverseiterator.__length_hint__")):=by rw [typeLookup_type,builtinLookup_eq_fast];kernel_rfl
section
variable {prog:Program} {w:World} {A:Around} {E:Value->Shared->Prop} {s:Shared}
theorem Hm {R:Result->Shared->Prop} {it l:Addr} {items:Array Value} (hh:A.handled=none) (hit:s.heap.IsRevIter it l ((items.size:Int) - 1)) (hl:s.heap.IsList l items) (hne:l≠it) (hlen:items.size<=sizeLine) (S:Addr) (res:Value) (c₀:Nat)
  (hS:s.heap.get? S=some { cls:=.type "list",data:=.seq #[] c₀ }) (hSl:S≠l) (hSi:S≠it)
  (hR:∀ h' tk acc' c',(∀ b o,b≠S->b≠it->s.heap.get? b=some o->h'.get? b=some o)->h'.get? S=some { cls:=.type "list",dict:=none,data:=.seq acc' c',slots:=#[] } ->
   ItemsOf (fun i v=>items[items.size - 1 - i]?=some v) acc' items.size->R (.ok (.ret res)) { s with heap:=h',toks:=tk }) :
  wpAny (model prog w) A.in1 (Builtin.List.listExtendWith (.ref S) (.ref it) res)
   (fun fin s'=>match fin with | .done f=>R (.ok f) s' | .again c'=>c'.quiet=true/\codeAny (model prog w) A c' R s') (fun e s'=>R (.error e) s') s:=by
 have hSf:S ∉ [it,l]:=fun hm=>by
  rcases List.mem_cons.mp hm with e | hm
  ·exact hSi e
  ·exact hSl (List.mem_singleton.mp hm)
 have W:=(Walks.listRev (prog:=prog) (w:=w) (A:=A.in1) hh it l hne items).toS
 have e0:((items.size:Int) - 1 - ((0:Nat):Int))=(items.size:Int) - 1:=by omega
 have hst:(0<=items.size/\s.heap.IsRevIter it l ((items.size:Int) - 1 - ((0:Nat):Int))/\s.heap.IsList l items):=⟨Nat.zero_le _,by rw [e0];exact hit,hl⟩
 have h1:Builtin.List.listSameRef (.ref S) (.ref it)=false:=by simp [Builtin.List.listSameRef,hSi]
 unfold Builtin.List.listExtendWith
 refine wpAny_bind (wpAny_typeOf hit.typeIs ?_)
 rw [if_neg (by rw [h1];decide)]
 refine wpAny_bind (wpAny_pyIter_revIter hit ?_)
 refine wpAny_bind (wpAny_holding ?_)
 unfold Builtin.List.listLengthHint
 refine wpAny_bind (wpAny_specialOf hit.typeIs JN ?_)
 show wpAny _ A.in1 (specialOf (Value.ref it) (Str.ofString "__length_hint__") >>= _) _ _ _
 refine wpAny_bind (wpAny_specialOf hit.typeIs KH ?_)
 generalize hid:("list_reverseiterator.__length_hint__":String)=id0
 wp_delta
 rw [show splitId id0=some ("list_reverseiterator","__length_hint__") from by subst hid;decide +kernel]
 subst hid
 refine wpAny_bind (wpAny_isInstance (b:=true) hit.typeIs (by rw [isSubtype_type];kernel_rfl) ?_)
 refine wpAny_pure ?_
 rw [if_neg (by decide)]
 refine wpAny_pure ⟨plainId_quiet F.plain_extend_loop _,codeAny_extend_loopS W hlen S hSf res items.size 0 _ #[] c₀ rfl (Nat.zero_le _) hst hS (ItemsOf.nil _) fun s' acc' c' hm hS' hacc=>?_⟩
 rw [Moved.eq_with hm]
 refine hR s'.heap s'.toks acc' c' (fun b o hb hb2 e=>hm.heap b o (fun hmem=>?_) e) hS' hacc
 rcases List.mem_cons.mp hmem with e' | hmem
 ·exact hb e'
 ·exact hb2 (List.mem_singleton.mp hmem)
theorem B5 {R:Result->Shared->Prop} {it l:Addr} {items:Array Value} (hh:A.handled=none) (hit:s.heap.IsRevIter it l ((items.size:Int) - 1)) (hl:s.heap.IsList l items) (hne:l≠it) (hlen:items.size<=sizeLine) (S:Addr)
  (hS:s.heap.get? S=some { cls:=.type "list",data:=.seq #[] }) (hSl:S≠l) (hSi:S≠it)
  (hR:∀ h' tk acc' c',(∀ b o,b≠S->b≠it->s.heap.get? b=some o->h'.get? b=some o)->h'.get? S=some { cls:=.type "list",dict:=none,data:=.seq acc' c',slots:=#[] } ->
   ItemsOf (fun i v=>items[items.size - 1 - i]?=some v) acc' items.size->R (.ok (.ret .none)) { s with heap:=h',toks:=tk }) :
  wpAny (model prog w) A.in1 (Builtin.«list.__init__» ⟨[.ref S,.ref it],[]⟩)
   (fun fin s'=>match fin with | .done f=>R (.ok f) s' | .again c'=>c'.quiet=true/\codeAny (model prog w) A c' R s') (fun e s'=>R (.error e) s') s:=by
 show wpAny _ _ (do let old <- Builtin.List.listItems (.ref S);Builtin.List.listUpdate (.ref S) (fun _=>#[]);letGo old.toList.reverse;Builtin.List.listExtendWith (.ref S) (.ref it) .none) _ _ s
 refine wpAny_bind ?_
 unfold Builtin.List.listItems
 refine wpAny_bind (wpAny_seqItems hS rfl (wpAny_pure ?_))
 show wpAny _ _ (updateSeq S (fun _=>#[]) >>= fun _=>letGo (#[]:Array Value).toList.reverse >>= fun _=>Builtin.List.listExtendWith (.ref S) (.ref it) .none) _ _ s
 refine wpAny_bind (wpAny_updateSeq hS rfl ?_)
 have hS₂:=Heap.get?_update_self (Obj.mapSeq (fun _=>(#[]:Array Value))) hS rfl
 have oth:∀ b o,b≠S->s.heap.get? b=some o->(s.heap.update S (Obj.mapSeq (fun _=>(#[]:Array Value)))).get? b=some o :=
  fun b o hb e=>(Heap.get?_update_other _ _ (Ne.symm hb)).trans e
 refine wpAny_bind (wpAny_letGo ?_)
 refine Hm hh (hit.at fun o e=>oth it o (Ne.symm hSi) e) (hl.at fun o e=>oth l o (Ne.symm hSl) e) hne hlen S .none _ hS₂ hSl hSi fun h' tk acc' c' hk hS' hacc=>?_
 exact hR h' tk acc' c' (fun b o hb hb2 e=>hk b o hb hb2 (oth b o hb e)) hS' hacc
theorem B8 {Q:Value->Shared->Prop} {it l:Addr} {items:Array Value} (hh:A.handled=none) (hit:s.heap.IsRevIter it l ((items.size:Int) - 1)) (hl:s.heap.IsList l items) (hne:l≠it) (hlen:items.size<=sizeLine)
  (hQ:∀ h' tk acc' c',(∀ b o,b≠it->s.heap.get? b=some o->h'.get? b=some o) ->
   h'.get? s.heap.objs.size=some { cls:=.type "list",dict:=none,data:=.seq acc' c',slots:=#[] }->ItemsOf (fun i v=>items[items.size - 1 - i]?=some v) acc' items.size->Q (.ref s.heap.objs.size) { s with heap:=h',toks:=tk }) :
  wpAny (model prog w) A (call (.type "list") [.ref it]) Q E s:=by
 obtain ⟨oi,hoi,_⟩:=id hit
 obtain ⟨ol,hol,_⟩:=id hl
 refine callType_codes (Q₁:=fun obj s₁=>obj=.ref s.heap.objs.size/\s₁={ s with heap:=s.heap.push { cls:=.type "list",data:=.seq #[] } }) F.called_list (F.typeCall_list_1 _) F.entry_list_init
  (code_list_new _ ⟨rfl,rfl⟩) fun obj s₁ h₁=>?_
 obtain ⟨rfl,rfl⟩:=h₁
 have hS:(s.heap.push { cls:=.type "list",data:=.seq #[] }).get? s.heap.objs.size=some { cls:=.type "list",data:=.seq #[] }:=Heap.get?_push_size _ rfl
 refine ⟨⟨_,hS,rfl⟩,F.args_list_init_2 _ _,B5 (A:=A.in1) hh (hit.at fun o e=>Heap.get?_push_of_some _ e) (hl.at fun o e=>Heap.get?_push_of_some _ e) hne hlen _ hS (fun z=>Nat.lt_irrefl _ (z ▸ Heap.lt_size hol)) (fun z=>Nat.lt_irrefl _ (z ▸ Heap.lt_size hoi)) fun h' tk acc' c' hk hS' hacc=>?_⟩
 exact ⟨rfl,hQ h' tk acc' c' (fun b o hb e=>hk b o (Nat.ne_of_lt (Heap.lt_size e)) hb (Heap.get?_push_of_some _ e)) hS' hacc⟩
end
theorem GP:bootBuiltins "list"=some (.type "list"):=by kernel_rfl
theorem HU {its:List Value} {acc:Array Value} (h:ItemsOf (fun i v=>its.toArray[its.toArray.size - 1 - i]?=some v) acc its.toArray.size):acc=its.reverse.toArray:=by
 obtain ⟨h1,h2⟩:=h
 have hs:its.toArray.size=its.length:=by simp
 rw [hs] at h1
 refine Array.ext (by simpa using h1) fun j hj hj2=>?_
 have:=h2 j acc[j] (by simp [hj])
 rw [hs] at this
 have h3:its[its.length - 1 - j]?=some acc[j]:=by simpa using this
 have h4:its.reverse[j]?=some acc[j]:=by rw [List.getElem?_reverse (by omega)];exact h3
 have h5:=(List.getElem?_eq_some_iff.mp h4).2
 simpa using h5.symm
noncomputable def Cz (K:PySem.W.Frag) (ta:TA):TE:=fun σ H Q=>ta σ H fun vs H1=>∃ a xs,vs=[.ref a]/\eC K H1 a xs/\∀ p,H1 p=none->Q (.ref p) (upd H1 p (.lst xs.reverse))
theorem GB {X:Cx} {a:Expr} {ta:TA} {p1 p2 pos1 pos2:Pos} (hc:X.calm=true) (hgL:Gl X "list") (hmL:X.mg "list"=none) (hgR:Gl X "reversed") (hmR:X.mg "reversed"=none) (ha:PA X [a] ta) (hs:starEach [a] X.env=[(false,eval a X.env)])
  (hs2:starEach [.Call (.Name "reversed" p2) [a] [] pos2] X.env=[(false,eval (.Call (.Name "reversed" p2) [a] [] pos2) X.env)]) :
  PE X (.Call (.Name "list" p1) [.Call (.Name "reversed" p2) [a] [] pos2] [] pos1) (Cz X.K ta):=by
 intro pins s σ H Q I h
 refine Call_ (nX I hgL hmL GP (PyProof.Rows.callWith_type1 ?_ hs2 rfl))
 rw [hs2]
 show wpAny _ _ (spliced ((false,eval (.Call (.Name "reversed" p2) [a] [] pos2) X.env) :: backTo pos1 [])) _ _ s
 refine Calls.spliced_cons (Call_ (nX I hgR hmR boot_reversed (PyProof.Rows.callWith_type1 (bF (ha pos2 pins s σ H _ I h) fun us s1 ⟨vs,H1,I1,r1,q1⟩=>?_) hs rfl)))
 obtain ⟨b,xs,e,hq,q⟩:=q1
 subst e
 cases r1 with
 | cons r rr =>
  cases rr
  cases r
  obtain ⟨its,rv,pl,hz⟩:=I1.list hq
  have hl:=pl.isList
  obtain ⟨ol,hol,_⟩:=id hl
  refine call_reversed_list hl (Calls.spliced_nil ?_)
  have hrev:Heap.IsRevIter (s1.heap.push (revObj b ((its.toArray.size:Int) - 1))) s1.heap.objs.size b ((its.toArray.size:Int) - 1):=⟨_,Heap.get?_push_size _ rfl,rfl,rfl⟩
  refine B8 (s:={ s1 with heap:=s1.heap.push (revObj b ((its.toArray.size:Int) - 1)) }) (I1.ok.hd hc) hrev (hl.at fun o e=>Heap.get?_push_of_some _ e) (Nat.ne_of_lt (Heap.lt_size hol)) (by rw [List.size_toArray,<- rv.length];exact hz) fun h' tk acc' c' hk hS' hacc=>?_
  have hacc':=HU hacc
  subst hacc'
  have hsz:(s1.heap.push (revObj b ((its.toArray.size:Int) - 1))).objs.size=s1.heap.objs.size + 1:=Heap.size_push ..
  have hD:H1 (s1.heap.push (revObj b ((its.toArray.size:Int) - 1))).objs.size=none:=I1.hok.fresh (by rw [hsz];omega)
  refine ⟨.ref (s1.heap.push (revObj b ((its.toArray.size:Int) - 1))).objs.size,_,I1.laid (t':=tk) (o:=.lst xs.reverse) (fun c o e=>hk c o (Nat.ne_of_lt (Heap.lt_size e)) (Heap.get?_push_of_some _ e)) (by rw [hsz];omega) ⟨by rw [List.length_reverse];exact hz,its.reverse,c',rv.reverse,hS'⟩,rfl,q _ hD⟩
noncomputable def dJ (o:Bool) (ta:UA):UE:=fun τ M Q=>ta τ M fun us M1=>match us with
 | [x]=>match view M1 x with
  | .lst us=>iL o us.reverse M1 Q
  | _=>False
 | _=>False
theorem En {K:PySem.W.Frag} {o:Bool} {ta:TA} {ta':UA} (h:lH K ta ta'):cF K (Cz K ta) (dJ o ta'):=fun σ τ H M Q' rs rm q Q c=>h σ τ H M _ rs rm q _ fun us vs M1 H1 s1 rm1 ru h1=>by
 split at h1
 ·rename_i x
  split at h1
  ·rename_i ws e
   obtain ⟨v,rfl,a1⟩:=ru.one
   obtain ⟨a,zs,rfl,sq,r2⟩:=eO rm1 a1 e
   exact ⟨a,zs,rfl,sq,fun p hp=>(d7.stp c s1).lst rm1 r2.reverse hp h1⟩
  ·exact h1.elim
 ·exact h1.elim
theorem Gq {D:Dat} (own:Bool:=false) {a:Expr} {p1 p2 pos1 pos2:Pos} {ta:UA} (hmL:D.mg "list"=none) (hmR:D.mg "reversed"=none) (ha:mT D [a] ta) (hgL:D.sc.names.lookup ("list":Str)=some .globalImplicit:=by rfl) (hgR:D.sc.names.lookup ("reversed":Str)=some .globalImplicit:=by rfl)
  (hs:∀ env,starEach [a] env=[(false,eval a env)]:=by intro _;rfl) (hs2:∀ env,starEach [.Call (.Name "reversed" p2) [a] [] pos2] env=[(false,eval (.Call (.Name "reversed" p2) [a] [] pos2) env)]:=by intro _;rfl) :
  bB D (.Call (.Name "list" p1) [.Call (.Name "reversed" p2) [a] [] pos2] [] pos1) (dJ own ta):=by
 obtain ⟨_,q,s⟩:=ha
 refine ⟨_,fun X h=>?_,En s⟩
 have:=GB (X:=X) (p1:=p1) (p2:=p2) (pos1:=pos1) (pos2:=pos2) h.calm (by show X.env.scope.names.lookup _=_;rw [h.sc];exact hgL) (by rw [h.mg];exact hmL) (by show X.env.scope.names.lookup _=_;rw [h.sc];exact hgR) (by rw [h.mg];exact hmR) (q X h) (hs _) (hs2 _)
 rw [h.K] at this
 exact this
end U2
namespace U2
open PySem PySem.Spec PyProof.Rows L2
section
variable {prog:Program} {w:World} {A:Around} {E:Value->Shared->Prop} {s:Shared}
end
noncomputable def eD (te to ti:UE):US:=fun D τ M=>te τ M fun v M1=>to τ M1 fun x M2=>ti τ M2 fun y M3=>match v,x,y with
 | .ref b,.ref l,.int a=>match M3 b,M3 l with
  | some (.lst ws),some (.lst us)=>l≠b/\0<=a/\a<=us.length/\us.length + ws.length<=sizeLine/\D.nx τ (mup M3 l (.lst (us.take a.toNat++ws)))
  | _,_=>False
 | _,_,_=>False
end U2
namespace U2
open PySem PySem.Spec PyProof.Rows L2
end U2
namespace U2
open PySem PySem.Spec PyProof.Rows L2
noncomputable def Mp:eB:=fun x y M Q=>match x,y with
 | .bl i,.bl j=>Q (.bl (!decide (i=j))) M
 | _,_=>False
noncomputable def Mm:eB:=fun x y M Q=>match x,y with
 | .bl i,.bl j=>Q (.bl (decide (i=j))) M
 | _,_=>False
end U2
namespace U2
open PySem PySem.Spec PyProof.Rows L2
noncomputable def bQ (o:Bool):List U->aE->UK->Prop:=fun us M Q=>match us with
 | [x]=>match view M x with
  | .lst ws=>∃ ns,intsOf ws=some ns/\ns.length < 64/\∀ ns':List Int,ns'.Perm ns->ns'.Pairwise (·<=·)->iL o (ns'.map U.int) M Q
  | _=>False
 | _=>False
theorem d9.len {K:PySem.W.Frag} {H:Hp}:∀ {ds:List PyData} {vs:List V},d9 K H ds vs->ds.length=vs.length
 | [],vs,h=>by simp only [d9] at h;subst h;rfl
 | d :: ds,vs,h=>by
  simp only [d9] at h
  obtain ⟨v,vs',rfl,_,h2⟩:=h
  simp only [List.length_cons,d9.len h2]
theorem d9.at {X:Cx} {pins:List (Addr × Obj)} {σ:L2.St} {H:Hp} {s:Shared} (I:L2.Inv X pins σ H s):∀ {ds:List PyData} {vs:List V} {us:List Value},d9 X.K H ds vs->Vals vs us->∀ (j:Nat) (d:PyData) (u:Value),ds[j]?=some d->us[j]?=some u->∃ as,Reads s.heap u d as
 | [],vs,us,h,r,j,d,u,e,_=>by cases e
 | d0 :: ds,vs,us,h,r,j,d,u,e,e'=>by
  simp only [d9] at h
  obtain ⟨v,vs',rfl,h1,h2⟩:=h
  cases r with
  | cons r rr =>
   cases j with
   | zero=>cases e;cases e';exact h1.reads I r
   | succ j=>exact d9.at I h2 rr j d u e e'
noncomputable def QY (K:PySem.W.Frag) (neg:Bool):R2:=fun x y H Q=>∃ a xs ds d,y=.ref a/\(eC K H a xs\/fH K H a xs)/\d9 K H ds xs/\fZ K H d x/\PyData.canLayAll0 ds=true/\d.canLay0=true/\d.depth<=60/\Q (.bl (if neg then !ds.any (fun e=>PyData.eqv e d) else ds.any (fun e=>PyData.eqv e d))) H
theorem EH:∀ {ds:List PyData},PyData.canLayAll0 ds=true->∀ d∈ds,d.canLay0=true
 | [],_,d,h=>by cases h
 | a :: ds,hh,d,h=>by
  simp only [PyData.canLayAll0,Bool.and_eq_true] at hh
  rcases List.mem_cons.mp h with rfl | h
  ·exact hh.1
  ·exact EH hh.2 d h
open Classical in
theorem Fv {X:Cx} {k:Nat} (hr:eU k X.A) {pins:List (Addr × Obj)} {σ:L2.St} {H:Hp} {s:Shared} (I:L2.Inv X pins σ H s) {ds:List PyData} {vs:List V} {its:List Value} (h:d9 X.K H ds vs) (r:Vals vs its) {d:PyData} {x:V} {v:Value} (hd:fZ X.K H d x) (rx:RelV x v) (c1:PyData.canLayAll0 ds=true) (c2:d.canLay0=true) (hdep:d.depth<=60) :
  ∃ e:Value->Bool,(∀ y∈its,SeqAt.EqAt X.A.in1 s y v (e y))/\its.any e=ds.any fun d'=>PyData.eqv d' d:=by
 have hl:ds.length=its.length:=by rw [h.len,r.length]
 obtain ⟨bs,rb⟩:=hd.reads I rx
 have key:∀ (j:Nat) (d':PyData) (u:Value),ds[j]?=some d'->its[j]?=some u->SeqAt.EqAt X.A.in1 s u v (PyData.eqv d' d):=fun j d' u e1 e2=>by
  obtain ⟨as,ra⟩:=d9.at I h r j d' u e1 e2
  exact SeqAt.eqAt_reads d' d _ _ _ _ _ _ ra rb (EH c1 d' (List.mem_of_getElem? e1)) c2 (by have:=hr.units;show X.A.units + 1 + _ < _;omega)
 refine ⟨fun u=>decide (∃ (j:Nat) (d':PyData),ds[j]?=some d'/\its[j]?=some u/\PyData.eqv d' d=true),fun y hy=>?_,?_⟩
 ·obtain ⟨j,hj⟩:=List.getElem?_of_mem hy
  have hjl:j < ds.length:=by rw [hl];exact (List.getElem?_eq_some_iff.mp hj).1
  have hdj:ds[j]?=some ds[j]:=List.getElem?_eq_getElem hjl
  dsimp only
  by_cases hh:∃ (j:Nat) (d':PyData),ds[j]?=some d'/\its[j]?=some y/\PyData.eqv d' d=true
  ·rw [decide_eq_true hh]
   obtain ⟨i,d',e1,e2,e3⟩:=hh
   rw [<- e3];exact key i d' y e1 e2
  ·rw [decide_eq_false hh]
   have hf:PyData.eqv ds[j] d=false:=by
    cases hc:PyData.eqv ds[j] d with
    | false=>rfl
    | true=>exact absurd ⟨j,ds[j],hdj,hj,hc⟩ hh
   rw [<- hf];exact key j ds[j] y hdj hj
 ·rw [Bool.eq_iff_iff,List.any_eq_true,List.any_eq_true]
  constructor
  ·rintro ⟨u,hu,he⟩
   obtain ⟨j,d',e1,e2,e3⟩:=of_decide_eq_true he
   exact ⟨d',List.mem_of_getElem? e1,e3⟩
  ·rintro ⟨d',hd',he⟩
   obtain ⟨j,hj⟩:=List.getElem?_of_mem hd'
   have hjl:j < its.length:=by rw [<- hl];exact (List.getElem?_eq_some_iff.mp hj).1
   have hij:its[j]?=some its[j]:=List.getElem?_eq_getElem hjl
   exact ⟨its[j],List.getElem_mem hjl,decide_eq_true ⟨j,d',hj,hij,he⟩⟩
theorem Jc {X:Cx} {k:Nat} (hr:eU k X.A):dW X (compareOp .NotIn) (QY X.K true):=by
 intro pins s σ H x y v u Q I rx ry h
 obtain ⟨p,xs,ds,d,rfl,hq,hds,hd,c1,c2,hdep,q⟩:=h
 cases ry
 rcases hq with hq | hq
 ·obtain ⟨its,r,pl,hz⟩:=I.list hq
  obtain ⟨e,he,hany⟩:=Fv hr I hds r hd rx c1 c2 hdep
  refine SeqAt.notIn_listAt e pl.isList (fun w hw=>he w (by simpa using hw)) ⟨.bl _,H,I,rfl,?_⟩
  rw [show its.toArray.any e=its.any e by simp,hany]
  exact q
 ·obtain ⟨its,r,pl,hz⟩:=I.tuple hq
  obtain ⟨e,he,hany⟩:=Fv hr I hds r hd rx c1 c2 hdep
  refine SeqAt.notIn_tupleAt e pl (fun w hw=>he w (by simpa using hw)) ⟨.bl _,H,I,rfl,?_⟩
  rw [show its.toArray.any e=its.any e by simp,hany]
  exact q
def oE (neg:Bool):eB:=fun x y M Q=>∃ us ds d,items M y=some us/\fX us=some ds/\Bj M x=some d/\PyData.canLayAll0 ds=true/\d.canLay0=true/\d.depth<=60/\Q (.bl (if neg then !ds.any (fun e=>PyData.eqv e d) else ds.any (fun e=>PyData.eqv e d))) M
theorem Nr {K:PySem.W.Frag} {neg:Bool}:eA K (QY K neg) (oE neg):=fun x y u w H M Q' rm ru rw h Q c=>by
 obtain ⟨us,ds,d,e1,e2,e3,c1,c2,hdep,q⟩:=h
 obtain ⟨p,xs,rfl,hs,rs⟩:=BH rm rw e1
 exact ⟨p,xs,ds,d,rfl,hs,pX rs e2,yX rm ru e3,c1,c2,hdep,c.here rm fA q⟩
theorem Kg {D:Dat}:mS D .NotIn (oE true):=⟨⟨_,fun X h=>h.K ▸ Jc h.room,Nr⟩⟩
noncomputable def dA (o:Bool):eB:=fun x y M Q=>match view M x,y with
 | .lst us,.int k=>-(2 ^ 63)<=k/\k < 2 ^ 63/\us.length * k.toNat<=sizeLine/\iL o (List.replicate k.toNat us).flatten M Q
 | _,_=>False
end U2
namespace U2
open PySem PySem.Spec PyProof.Rows L2
noncomputable def jJ (_:PySem.W.Frag):Prop:=True
noncomputable def lG:U->Option Key
 | .int i=>some (.inl i)
 | .str x=>some (.inr x)
 | _=>none
noncomputable def gC:List U->Option (List Key)
 | []=>some []
 | u :: us=>match lG u,gC us with
  | some k,some ks=>some (k :: ks)
  | _,_=>none
noncomputable def kU:Key->U
 | .inl i=>.int i
 | .inr x=>.str x
theorem EU (k:Key):lG (kU k)=some k:=by cases k <;> rfl
theorem Kv:∀ ks:List Key,gC (ks.map kU)=some ks
 | []=>rfl
 | k :: ks=>by simp only [List.map_cons,gC,EU,Kv ks]
theorem uH {K:PySem.W.Frag} {H:Hp} {M:aE} {u:U} {v:V} {k:Key} (r:aK K H M u v) (e:lG u=some k):v=kV k:=by
 cases u with
 | int i=>cases e;exact r.int
 | str x=>cases e;exact r.str
 | _=>cases e
theorem BN {K:PySem.W.Frag} {H:Hp} {M:aE}:∀ {us:List U} {vs:List V} {ks:List Key},aJ K H M us vs->gC us=some ks->vs=ks.map kV
 | [],_,_,r,e=>by cases e;exact r.inv_nil
 | u :: us,_,ks,r,e=>by
  obtain ⟨v,vs',rfl,a,b⟩:=r.inv_cons
  simp only [gC] at e
  cases e1:lG u with
  | none=>rw [e1] at e;cases e
  | some k =>
   cases e2:gC us with
   | none=>rw [e1,e2] at e;cases e
   | some ks' =>
    rw [e1,e2] at e;cases e
    rw [uH a e1,BN b e2];rfl
section
variable {κ:Type} [DecidableEq κ]
noncomputable def cP (kvs:List (κ × U)) (k:κ):Option U:=(kvs.find? fun kv=>decide (kv.1=k)).map (·.2)
noncomputable def fW (kvs:List (κ × U)) (k:κ) (u:U):List (κ × U) :=
 if (kvs.any fun kv=>decide (kv.1=k))=true then kvs.map (fun kv=>if kv.1=k then (kv.1,u) else kv) else kvs++[(k,u)]
theorem jM {p:κ × U} {r:List (κ × U)} {k:κ} (e:p.1=k):cP (p :: r) k=some p.2:=by simp [cP,List.find?_cons,e]
theorem kO {p:κ × U} {r:List (κ × U)} {k:κ} (e:¬ p.1=k):cP (p :: r) k=cP r k:=by simp [cP,List.find?_cons,e]
theorem xZ (k:κ):∀ kvs:List (κ × U),(kvs.any fun kv=>decide (kv.1=k))=(cP kvs k).isSome
 | []=>rfl
 | p :: r=>by
  rw [List.any_cons]
  by_cases e:p.1=k
  ·simp only [jM e,decide_eq_true e,Bool.true_or,Option.isSome_some]
  ·rw [kO e,decide_eq_false e,Bool.false_or];exact xZ k r
theorem p8 {kvs:List (κ × U)} {k:κ} {u:U} (h:cP kvs k=none):fW kvs k u=kvs++[(k,u)]:=by
 unfold fW
 rw [xZ,h]
 exact if_neg (by decide)
variable {K:PySem.W.Frag} {H:Hp} {M:aE}
theorem bX.any {kvs:List (κ × U)} {ws:List (κ × V)} (r:bX K H M kvs ws) (k:κ):(kvs.any fun kv=>decide (kv.1=k))=ws.any fun kv=>decide (kv.1=k):=by
 unfold bX at r
 induction r with
 | nil=>rfl
 | cons h t ih=>rw [List.any_cons,List.any_cons,ih,h.1]
def w6 (K:PySem.W.Frag) (H:Hp) (M:aE):Option U->Option V->Prop
 | none,none=>True
 | some u,some v=>aK K H M u v
 | _,_=>False
theorem bX.val {kvs:List (κ × U)} {ws:List (κ × V)} (r:bX K H M kvs ws) (k:κ):w6 K H M (cP kvs k) (mE ws k):=by
 unfold bX at r
 induction r with
 | nil=>exact True.intro
 | @cons p q ps qs h t ih =>
  obtain ⟨h1,h2⟩:=h
  by_cases e:p.1=k
  ·rw [jM e,kG (h1.symm.trans e)];exact h2
  ·rw [kO e,kJ (fun z=>e (h1.trans z))];exact ih
theorem bX.repl {kvs:List (κ × U)} {ws:List (κ × V)} (r:bX K H M kvs ws) (k:κ) {u:U} {v:V} (ru:aK K H M u v):bX K H M (kvs.map fun kv=>if kv.1=k then (kv.1,u) else kv) (ws.map fun kv=>if kv.1=k then (kv.1,v) else kv):=by
 unfold bX at r ⊢
 induction r with
 | nil=>exact .nil
 | @cons p q ps qs h t ih =>
  rw [List.map_cons,List.map_cons]
  refine .cons ?_ ih
  obtain ⟨h1,h2⟩:=h
  by_cases e:p.1=k
  ·rw [if_pos e,if_pos (h1.symm.trans e)];exact ⟨h1,ru⟩
  ·rw [if_neg e,if_neg (fun z=>e (h1.trans z))];exact ⟨h1,h2⟩
theorem bX.put {kvs:List (κ × U)} {ws:List (κ × V)} (r:bX K H M kvs ws) (k:κ) {u:U} {v:V} (ru:aK K H M u v):bX K H M (fW kvs k u) (putK ws k v):=by
 unfold fW putK
 rw [r.any k]
 split
 ·exact r.repl k ru
 ·exact Paired.snoc r ⟨rfl,ru⟩
theorem bX.length {kvs:List (κ × U)} {ws:List (κ × V)} (r:bX K H M kvs ws):kvs.length=ws.length:=Paired.length r
theorem D4:∀ {ws:List (κ × V)} {us:List U},aJ K H M us (ws.map (·.2))->bX K H M ((ws.map (·.1)).zip us) ws
 | [],us,r=>by
  have:=r.length
  cases us with
  | nil=>exact .nil
  | cons _ _=>simp at this
 | w :: ws,us,r=>by
  cases us with
  | nil=>have:=r.length;simp at this
  | cons u us =>
   obtain ⟨v,vs',e,a,b⟩:=r.inv_cons
   rw [List.map_cons] at e
   cases e
   exact .cons ⟨rfl,a⟩ (D4 b)
end
noncomputable def nY:List Key->Key
 | [k]=>k
 | _=>.inl 0
noncomputable def eX (M:aE):U->Option MO
 | .ref a=>M a
 | .dic ks true us=>some (.dT (ks.zip us))
 | .dic ks false us=>some (.dK ((ks.map nY).zip us))
 | _=>none
section
variable {K:PySem.W.Frag} {H:Hp} {M:aE} {x y:U} {v u:V}
theorem Mc {kvs:List (Key × U)} (rm:RelM K H M) (r:aK K H M x v) (e:eX M x=some (.dK kvs)):∃ a ws,v=.ref a/\Rd H a (.dK ws)/\bX K H M kvs ws:=by
 cases x with
 | ref a=>obtain ⟨ws,h1,h2⟩:=rm a _ e;exact ⟨a,ws,r.ref,.inl h1,h2⟩
 | dic ks tk us =>
  cases tk with
  | true=>cases e
  | false =>
   simp only [eX] at e
   cases e
   simp only [aK] at r
   obtain ⟨a,vs,rfl,m,⟨ws,h1,rfl,rfl⟩,ru⟩:=r
   refine ⟨a,ws,rfl,h1,?_⟩
   have e1:(ws.map (fun p=>[p.1])).map nY=ws.map (·.1):=by rw [List.map_map];rfl
   rw [e1];exact D4 ru
 | _=>cases e
theorem Mv {kvs:List (List Key × U)} (rm:RelM K H M) (r:aK K H M x v) (e:eX M x=some (.dT kvs)):∃ a ws,v=.ref a/\Rd H a (.dT ws)/\bX K H M kvs ws:=by
 cases x with
 | ref a=>obtain ⟨ws,h1,h2⟩:=rm a _ e;exact ⟨a,ws,r.ref,.inl h1,h2⟩
 | dic ks tk us =>
  cases tk with
  | false=>cases e
  | true =>
   simp only [eX] at e
   cases e
   simp only [aK] at r
   obtain ⟨a,vs,rfl,m,⟨ws,h1,rfl,rfl⟩,ru⟩:=r
   exact ⟨a,ws,rfl,h1,D4 ru⟩
 | _=>cases e
theorem E2 {ys:List U} {ks:List Key} (hk:jJ K) (r:aK K H M (.tup ys) u) (e:gC ys=some ks):∃ b,u=.ref b/\H b=some (.tup (ks.map kV)):=by
 simp only [aK] at r
 obtain ⟨b,vs,rfl,h,ru⟩:=r
 have:=BN ru e
 subst this
 exact ⟨b,rfl,h.2⟩
noncomputable def cS (tk:Bool) (M:aE) (x y:U):Option (Option U):=match tk with
 | false=>match eX M x,lG y with
  | some (.dK kvs),some k=>some (cP kvs k)
  | _,_=>none
 | true=>match eX M x,y with
  | some (.dT kvs),.tup ys=>(gC ys).map (cP kvs)
  | _,_=>none
theorem vP {tk:Bool} {o:Option U} (hk:tk=true->jJ K) (rm:RelM K H M) (rx:aK K H M x v) (ry:aK K H M y u) (e:cS tk M x y=some o):∃ a ov,v=.ref a/\rN H a u ov/\w6 K H M o ov:=by
 cases tk with
 | false =>
  simp only [cS] at e
  split at e
  ·rename_i kvs k e1 e2
   cases e
   obtain ⟨a,ws,rfl,h1,h2⟩:=Mc rm rx e1
   have:=uH ry e2
   subst this
   exact ⟨a,_,rfl,.inl ⟨_,k,h1,rfl,rfl⟩,h2.val k⟩
  ·cases e
 | true =>
  simp only [cS] at e
  split at e
  ·rename_i kvs ys e1
   obtain ⟨a,ws,rfl,h1,h2⟩:=Mv rm rx e1
   cases e3:gC ys with
   | none=>rw [e3] at e;cases e
   | some ks =>
    rw [e3] at e;cases e
    obtain ⟨b,rfl,hb⟩:=E2 (hk rfl) ry e3
    exact ⟨a,_,rfl,.inr ⟨_,ks,b,h1,rfl,hb,rfl⟩,h2.val ks⟩
  ·cases e
end
def nO (tk:Bool):eB:=fun x y M Q=>match cS tk M x y with
 | some (some u)=>Q u M
 | _=>False
noncomputable def MJ:R2:=fun x y H Q=>∃ a v,x=.ref a/\rN H a y (some v)/\Q v H
theorem KI {K:PySem.W.Frag} {tk:Bool} (hk:tk=true->jJ K):eA K MJ (nO tk):=fun x y u w H M Q' rm ru rw h Q c=>by
 unfold nO at h
 split at h
 ·rename_i z e
  obtain ⟨a,ov,rfl,g,r⟩:=vP hk rm ru rw e
  cases ov with
  | none=>exact r.elim
  | some v=>exact ⟨a,v,rfl,g,c.here rm r h⟩
 ·exact h.elim
section
variable {D:Dat} {a b c e o i:Expr} {ta tb tc te to ti:UE} {pos p:Pos} {es:List Expr} {tas:UA} {x:Str}
theorem j4 {K:PySem.W.Frag}:false=true->jJ K:=fun h=>by cases h
theorem dP (tk:Bool) (hk:tk=true->jJ D.K) (ha:bB D a ta) (hb:bB D b tb) (hs:LO b:=by intro _ _;rfl):bB D (.Subscript a b pos) (l5 (nO tk) ta tb):=by
 obtain ⟨_,p,s⟩:=ha;obtain ⟨_,q,r⟩:=hb
 exact ⟨ES MJ _ _,fun X h=>OG (zX h.room) (p X h) (q X h) hs,vI (KI hk) s r⟩
noncomputable def LR (neg:Bool):R2:=fun y x H Q=>∃ a o,x=.ref a/\rN H a y o/\Q (.bl (if neg then !o.isSome else o.isSome)) H
def vZ (tk neg:Bool):eB:=fun y x M Q=>match cS tk M x y with
 | some o=>Q (.bl (if neg then !o.isSome else o.isSome)) M
 | none=>False
theorem w6.isSome_eq {K:PySem.W.Frag} {H:Hp} {M:aE} {o:Option U} {ov:Option V} (r:w6 K H M o ov):o.isSome=ov.isSome:=by
 cases o <;> cases ov <;> first | rfl | exact r.elim
theorem FO {K:PySem.W.Frag} {tk neg:Bool} (hk:tk=true->jJ K):eA K (LR neg) (vZ tk neg):=fun x y u w H M Q' rm ru rw h Q c=>by
 unfold vZ at h
 split at h
 ·rename_i o e
  obtain ⟨a,ov,rfl,g,r⟩:=vP hk rm rw ru e
  refine ⟨a,ov,rfl,g,?_⟩
  rw [<- r.isSome_eq]
  exact c.here rm fA h
 ·exact h.elim
theorem Pg {X:Cx} {k:Nat} (hr:eU k X.A):dW X (compareOp .In) (LR false):=by
 intro pins s σ H x y v u Q I rx ry h
 obtain ⟨a,o,rfl,g,q⟩:=h
 cases ry
 exact Sj (zX hr) I g rx fun s' I'=>⟨.bl o.isSome,H,I',rfl,q⟩
theorem Hw {X:Cx} {k:Nat} (hr:eU k X.A):dW X (compareOp .NotIn) (LR true):=by
 intro pins s σ H x y v u Q I rx ry h
 obtain ⟨a,o,rfl,g,q⟩:=h
 cases ry
 exact Ou (zX hr) I g rx fun s' I'=>⟨.bl (!o.isSome),H,I',rfl,q⟩
theorem GN (tk:Bool) (hk:tk=true->jJ D.K):mS D .In (vZ tk false):=⟨⟨_,fun X h=>Pg h.room,FO hk⟩⟩
theorem Kt (tk:Bool) (hk:tk=true->jJ D.K):mS D .NotIn (vZ tk true):=⟨⟨_,fun X h=>Hw h.room,FO hk⟩⟩
def xT (tk:Bool):MO:=if tk then .dT [] else .dK []
def qC (tk:Bool):UE:=fun _ M Q=>∀ p,M p=none->Q (.ref p) (mup M p (xT tk))
theorem jZ (tk:Bool):bB D (.Dict [] [] pos) (qC tk):=by
 cases tk with
 | false =>
  refine ⟨HS,fun X h=>Kk,fun σ τ H M Q' rs rm h Q c p hp=>?_⟩
  have st:aS H M (upd H p (.dK [])) (mup M p (.dK [])):=aS.own rm hp
  exact c (.ref p) _ _ _ st (rm.put st ⟨[],cK,.nil⟩) m6 (h p (rm.no hp))
 | true =>
  refine ⟨HJ,fun X h=>LP,fun σ τ H M Q' rs rm h Q c p hp=>?_⟩
  have st:aS H M (upd H p (.dT [])) (mup M p (.dT [])):=aS.own rm hp
  exact c (.ref p) _ _ _ st (rm.put st ⟨[],cK,.nil⟩) m6 (h p (rm.no hp))
noncomputable def kZ (tk:Bool) (te to ti:UE):US:=fun D τ M=>te τ M fun v M1=>to τ M1 fun x M2=>ti τ M2 fun y M3=>match x with
 | .ref a=>match tk with
  | false=>match M3 a,lG y with
   | some (.dK kvs),some k=>kvs.length < sizeLine/\D.nx τ (mup M3 a (.dK (fW kvs k v)))
   | _,_=>False
  | true=>match M3 a,y with
   | some (.dT kvs),.tup ys=>match gC ys with
    | some ks=>kvs.length < sizeLine/\D.nx τ (mup M3 a (.dT (fW kvs ks v)))
    | none=>False
   | _,_=>False
 | _=>False
theorem jV (tk:Bool) (hk:tk=true->jJ D.K) {tpos:Pos} (he:bB D e te) (ho:bB D o to) (hi:bB D i ti) (hs:∀ env,swapsWith e (some (.Subscript o i tpos)) pos.line env=pure false:=by intro _;rfl):pG D (.Assign [.Subscript o i tpos] e pos) (kZ tk te to ti):=by
 obtain ⟨_,p1,s1⟩:=he;obtain ⟨_,p2,s2⟩:=ho;obtain ⟨_,p3,s3⟩:=hi
 refine ⟨_,fun X h=>NT (zX h.room) (p2 X h) (p3 X h) (p1 X h) (hs _),fun σ τ H M D' rs rm h EE d=>?_⟩
 refine s1 σ τ H M _ rs rm h _ fun v vv M1 H1 st1 rm1 rv h1=>?_
 refine s2 σ τ H1 M1 _ (rs.stp st1) rm1 h1 _ fun x vx M2 H2 cT rm2 rx h2=>?_
 refine s3 σ τ H2 M2 _ ((rs.stp st1).stp cT) rm2 h2 _ fun y vy M3 H3 st3 rm3 ry h3=>?_
 have rv3:=(rv.stp cT).stp st3
 have rs3:=((rs.stp st1).stp cT).stp st3
 cases x with
 | ref a =>
  cases (rx.stp st3).ref
  cases tk with
  | false =>
   dsimp only at h3
   split at h3
   ·rename_i kvs k e1 e2
    obtain ⟨hl,q⟩:=h3
    obtain ⟨ws,hv,r⟩:=rm3 a _ e1
    have:=uH ry e2
    subst this
    have st4:aS H3 M3 (upd H3 a (.dK (putK ws k vv))) (mup M3 a (.dK (fW kvs k v))):=aS.write e1
    have rnew:RelM D.K (upd H3 a (.dK (putK ws k vv))) (mup M3 a (.dK (fW kvs k v))):=rm3.put st4 ⟨_,cK,(r.put k rv3).stp st4⟩
    exact ⟨a,_,rfl,.k hv (by rw [<- r.length];exact hl),d.nx _ _ _ _ (((st1.trans cT).trans st3).trans st4) rnew (rs3.stp st4) q⟩
   ·exact h3.elim
  | true =>
   dsimp only at h3
   split at h3
   ·rename_i kvs ys e1
    split at h3
    ·rename_i ks e2
     obtain ⟨hl,q⟩:=h3
     obtain ⟨ws,hv,r⟩:=rm3 a _ e1
     obtain ⟨b,rfl,hb⟩:=E2 (hk rfl) ry e2
     have st4:aS H3 M3 (upd H3 a (.dT (putK ws ks vv))) (mup M3 a (.dT (fW kvs ks v))):=aS.write e1
     have rnew:RelM D.K (upd H3 a (.dT (putK ws ks vv))) (mup M3 a (.dT (fW kvs ks v))):=rm3.put st4 ⟨_,cK,(r.put ks rv3).stp st4⟩
     exact ⟨a,_,rfl,.t hv hb (by rw [<- r.length];exact hl),d.nx _ _ _ _ (((st1.trans cT).trans st3).trans st4) rnew (rs3.stp st4) q⟩
    ·exact h3.elim
   ·exact h3.elim
 | _=>exact h3.elim
noncomputable def uF (M:aE) (x:U):Bool:=match eX M x with
 | some (.dK _)=>true
 | some (.dT _)=>true
 | _=>false
theorem J8 {K:PySem.W.Frag} {H:Hp} {M:aE} {x:U} {v:V} (rm:RelM K H M) (r:aK K H M x v) (e:uF M x=true):∃ a,v=.ref a/\QA H a:=by
 unfold uF at e
 split at e
 ·rename_i kvs h
  obtain ⟨a,ws,rfl,h1,_⟩:=Mc rm r h
  exact ⟨a,rfl,.inl ⟨ws,h1⟩⟩
 ·rename_i kvs h
  obtain ⟨a,ws,rfl,h1,_⟩:=Mv rm r h
  exact ⟨a,rfl,.inr ⟨ws,h1⟩⟩
 ·cases e
theorem w6.getD {K:PySem.W.Frag} {H:Hp} {M:aE} {o:Option U} {ov:Option V} {u:U} {v:V} (r:w6 K H M o ov) (q:aK K H M u v):aK K H M (o.getD u) (ov.getD v):=by
 cases o <;> cases ov <;> first | exact q | exact r | exact r.elim
def rW (tk:Bool) (to ti:UE):UE:=fun τ M Q=>to τ M fun x M1=>uF M1 x=true/\ti τ M1 fun y M2=>match cS tk M2 x y with
 | some o=>Q (o.getD .non) M2
 | none=>False
theorem o7 (tk:Bool) (hk:tk=true->jJ D.K) {apos:Pos} (ho:bB D o to) (hi:bB D e te) (hbase:∀ env,attributeBase o "get" env (eval o env)=eval o env:=by intro _;rfl)
  (hfew:∀ env,((backTo pos (starEach [e] env)).all (fun x=>!x.1) && (backToKw pos (keywordEach [] env)).all (fun x=>x.1.isSome) && decide ([e].length + ([]:List Keyword).length + (if ([]:List Keyword).isEmpty then 0 else 1) < 30))=true:=by intro _;rfl)
  (hline:(apos.endLine == pos.line)=true:=by rfl) (hs:∀ env,backTo pos (starEach [e] env)=[(false,eval e env)]:=by intro _;rfl):bB D (.Call (.Attribute o "get" apos) [e] [] pos) (rW tk to te):=by
 obtain ⟨_,p1,s1⟩:=ho;obtain ⟨_,p2,s2⟩:=hi
 refine ⟨_,fun X h=>Kc (zX h.room) (p1 X h) (p2 X h) ⟨hbase _,hfew _,hline,hs _⟩,fun σ τ H M Q' rs rm h Q c=>?_⟩
 refine s1 σ τ H M _ rs rm h _ fun x vx M1 H1 st1 rm1 rx h1=>?_
 obtain ⟨hd,h1⟩:=h1
 obtain ⟨a,rfl,hd⟩:=J8 rm1 rx hd
 refine ⟨a,rfl,hd,s2 σ τ H1 M1 _ (rs.stp st1) rm1 h1 _ fun y vy M2 H2 cT rm2 ry h2=>?_⟩
 split at h2
 ·rename_i o e
  obtain ⟨a',ov,e',g,r⟩:=vP hk rm2 (rx.stp cT) ry e
  cases e'
  exact ⟨ov,g,c _ _ M2 H2 (st1.trans cT) rm2 (r.getD nA) h2⟩
 ·exact h2.elim
end
end U2
namespace U2
open PySem PySem.Spec PyProof.Rows L2
theorem Ec {M:Model} {A:Around} {E:Value->Shared->Prop} {s:Shared} {scope:Scope} {env:Env} {cl:List (Str × Addr)} {x0:Str} {g:Addr} {q:Str} {Q:Env->Shared->Prop} (hcf:∀ a cl,cellsFrom a scope.names cl=(x0,a) :: cl) (hpc:∀ h,pushCells h scope.names=h.push { cls:=.type "cell",data:=.cell none })
  (hQ:Q { scope:=scope,locals:=s.heap.objs.size,globals:=g,cells:=(x0,s.heap.objs.size + 1) :: cl,qual:=q,func:=none,code:=env.code,frame:=env.frame,builtins:=env.builtins } { s with heap:=(s.heap.push { cls:=.type "dict",data:=.dict #[] }).push { cls:=.type "cell",data:=.cell none } }) :
  wpAny M A (newFunctionEnv scope g cl [] q none .none (some env)) Q E s:=by
 simp only [newFunctionEnv,Option.isSome_some,if_true]
 refine wpAny_bind (wpAny_alloc ?_)
 refine wpAny_bind (wpAny_layCells _ (fun name kind cells=>by cases hkc:kind == NameKind.cell <;> simp [hkc]) _ _ _ _ ?_)
 rw [hcf,hpc]
 have hz:(s.heap.push { cls:=.type "dict",data:=.dict #[] }).objs.size=s.heap.objs.size + 1:=Heap.size_push ..
 simp only [List.forIn_nil]
 refine wpAny_bind (wpAny_pure (wpAny_pure ?_))
 rw [show ({ s with heap:=s.heap.push { cls:=.type "dict",data:=.dict #[] } }:Shared).heap.objs.size=s.heap.objs.size + 1 from hz]
 exact hQ
noncomputable def gP (X:Cx) (N:List Str) (scope:Scope) (cl:List (Str × Addr)) (C:Addr) (s:Shared) (H:Hp) (fp:List Addr) (x0:Str):Cx:={ eI X N scope cl C s H fp with fn:=fun y=>decide (y=x0) }
theorem F2 {X:Cx} {x0:Str} {tg elt iter:Expr} {ifs:List Expr} {scope:Scope} {pos:Pos} {N:List Str} {k:Nat} {ix:List Nat} {wi:TI} {g:TG} {tc:TT} {te:TE}
  (hc:X.calm=true) (hi:PI X tg iter wi) (gk:GK k g)
  (hk:scope.kind=.function) (hcell:∀ y∈scope.names,y.2=.cell->y.1=x0) (hx0:scope.names.lookup x0=some .cell) (hcf:∀ a cl,cellsFrom a scope.names cl=(x0,a) :: cl) (hpc:∀ h,pushCells h scope.names=h.push { cls:=.type "cell",data:=.cell none }) (hnames:∀ y∈scope.names,y.2=.local->scope.names.lookup y.1=some .local)
  (hfree:∀ y∈scope.names,y.2=.free->X.env.kindOf y.1=some .cell\/X.env.kindOf y.1=some .free)
  (hone:∀ y∈scope.names,y.2=.free->scope.names.lookup y.1=some .free)
  (hN:∀ (j:Nat) x,N[k + j]?=some x->∃ i,ix[j]?=some i/\X.N[i]?=some x)
  (hcap:∀ (j:Nat) x,N[k + j]?=some x->scope.names.lookup x=some .free)
  (hlen:N.length=k + ix.length)
  (hg:∀ cl C s H fp,PG (gP X N scope cl C s H fp x0) tg g)
  (hif:∀ cl C s H fp,DE (gP X N scope cl C s H fp x0) ifs tc)
  (he:∀ cl C s H fp,PE (gP X N scope cl C s H fp x0) elt te)
  (hs:∀ x,foldedSetIterable iter X.env x=pure x) {pins:List (Addr × Obj)} {s:Shared} {σ:L2.St} {H:Hp} {Q:VK} (I:L2.Inv X pins σ H s) (h:wK k ix wi g tc te σ H Q) {pos':Pos} {use:Option (Value->Sem Unit)} {QQ:Value->Shared->Prop}
  (end_:∀ (D C:Addr) (H3:Hp) (s4:Shared),L2.Inv X pins σ H3 s4->(∃ m,s4.heap.Ns C m)->H3 C=none->C≠X.env.locals->X.s₀.heap.objs.size<=C->(∀ x c,X.env.cells.lookup x=some c->c≠C)->(∀ p∈X.pn++pins,p.1≠C) ->
   (∀ h':Heap,Heap.SameBut C s4.heap h'->L2.Inv X pins σ H3 { s4 with heap:=h' })->Q (.ref D) H3->compPost (model X.prog X.w) X.A X.xe use QQ (.ref D) C (.ok .next) s4) :
  wpAny (model X.prog X.w) X.A (comprehension (.ListComp elt [⟨tg,iter,ifs,0⟩] scope pos) scope X.env pos' (newList []) false (eval iter X.env) use) QQ X.xe s:=by
 obtain ⟨cl,hclos,hcl,hcl2⟩:=zS (env:=X.env) (scope:=scope) (fun x hx e=>I.ok.has x.1 (hfree x hx e))
 refine wpAny_comprehension_free (use:=use) rfl hs hclos hk hnames (bF (hi pins s σ H _ I h) fun v s1 h1=>bF h1 fun itv s2 h2=>?_)
 obtain ⟨it,fp,tn,J,H2,rfl,I2,T,cT,f2,h2⟩:=h2
 refine wpAny_newObj_type (Ec hcf hpc ?_)
 dsimp only
 generalize hP:s2.heap.push { cls:=.type "list",dict:=none,data:=.seq ([]:List Value).toArray }=P2
 have hns₀:(P2.push { cls:=.type "dict",data:=.dict #[] }).Ns P2.objs.size (fun _=>none):=Heap.Ns.new P2 (.type "dict")
 have hsz0:(P2.push { cls:=.type "dict",data:=.dict #[] }).objs.size=P2.objs.size + 1:=Heap.size_push ..
 generalize hh₁:(P2.push { cls:=.type "dict",data:=.dict #[] }).push { cls:=.type "cell",data:=.cell none }=h₁
 have hns₁:h₁.Ns P2.objs.size (fun _=>none):=by rw [<- hh₁];exact hns₀.keeps fun b o e=>Heap.get?_push_of_some _ e
 have hcel:h₁.get? (P2.objs.size + 1)=some { cls:=.type "cell",data:=.cell none }:=by
  rw [<- hh₁,<- hsz0];exact Heap.get?_push_size _ rfl
 have ext:∀ b o,P2.get? b=some o->h₁.get? b=some o:=fun b o e=>by rw [<- hh₁];exact Heap.get?_push_of_some _ (Heap.get?_push_of_some _ e)
 have hCs:P2.objs.size=s2.heap.objs.size + 1:=by rw [<- hP,Heap.size_push]
 have below:∀ b,b < s2.heap.objs.size->b≠P2.objs.size:=fun b hb=>by rw [hCs];omega
 have old:∀ b o,s2.heap.get? b=some o->h₁.get? b=some o:=fun b o e=>ext b o (hP ▸ Heap.get?_push_of_some _ e)
 have below':∀ b,b < s2.heap.objs.size->b≠P2.objs.size + 1:=fun b hb=>by rw [hCs];omega
 have cls:∀ x c,((x0,P2.objs.size + 1) :: cl).lookup x=some c->(x=x0/\c=P2.objs.size + 1)\/(x≠x0/\cl.lookup x=some c):=fun x c e=>by
  rw [List.lookup_cons] at e
  by_cases h:x=x0
  ·subst h;simp only [beq_self_eq_true] at e;exact .inl ⟨rfl,(Option.some.inj e).symm⟩
  ·have hb:(x == x0)=false:=by simpa using h
   rw [hb] at e;exact .inr ⟨h,e⟩
 have clne:∀ x,x≠x0->((x0,P2.objs.size + 1) :: cl).lookup x=cl.lookup x:=fun x h=>by
  have hb:(x == x0)=false:=by simpa using h
  rw [List.lookup_cons,hb]
 have hacc:h₁.get? s2.heap.objs.size=some { cls:=.type "list",dict:=none,data:=.seq ([]:List Value).toArray }:=ext _ _ (hP ▸ Heap.get?_push_size _ rfl)
 obtain ⟨W,⟨m0,w0⟩,turn⟩:=h2 s2.heap.objs.size (I2.hok.fresh (Nat.le_refl _))
 have fpl:∀ b∈fp,b < s2.heap.objs.size:=fun b hb=>let ⟨o,e,_⟩:=T.obj _ _ cT b hb;Heap.lt_size e
 have σl:(cY k ix σ).length=N.length:=by rw [hlen];simp [cY]
 have i2:=I2.ok
 have ok':(gP X N scope ((x0,P2.objs.size + 1) :: cl) P2.objs.size s2 H2 fp x0).Ok:=by
  refine ⟨i2.mod,hk,i2.glob,i2.blt,(by show s2.heap.objs.size<=P2.objs.size;rw [hCs];exact Nat.le_succ _),(fun x y c e1 e2=>?inj),fun x hx=>?_,(fun x c e e2=>?cab),i2.hd,i2.frames,.inl rfl,fun b hb=>?_,fun b o e=>I2.bs b o e,Nat.le_trans i2.bsz I2.sz,fun b o e hb=>?_,fun b hb hb2=>?_,I2.stack,I2.stkFree⟩
  case inj =>
   rcases cls x c e1 with ⟨a1,b1⟩ | ⟨a1,b1⟩ <;> rcases cls y c e2 with ⟨a2,b2⟩ | ⟨a2,b2⟩
   ·rw [a1,a2]
   ·exfalso
    obtain ⟨v,o,ho,_⟩:=I2.cell y c (hcl y c b2)
    exact below' c (Heap.lt_size ho) b1
   ·exfalso
    obtain ⟨v,o,ho,_⟩:=I2.cell x c (hcl x c b1)
    exact below' c (Heap.lt_size ho) b2
   ·exact i2.inj x y c (hcl x c b1) (hcl y c b2)
  case cab =>
   rcases cls x c e2 with ⟨a1,b1⟩ | ⟨a1,b1⟩
   ·rw [b1];show s2.heap.objs.size<=_;rw [hCs];omega
   ·exact absurd (of_decide_eq_true e) a1
  ·
   have hx':(relabel scope X.env).names.lookup x=some .cell\/(relabel scope X.env).names.lookup x=some .free:=hx
   have key:∀ (names:List (Str × NameKind)),(∀ y∈names,y.2=.cell->y.1=x0)->((names.map fun (n,k)=>if (k == NameKind.free && X.env.scope.kind == .function && X.env.kindOf n == some .cell) then (n,NameKind.cell) else (n,k)).lookup x=some .cell \/
     (names.map fun (n,k)=>if (k == NameKind.free && X.env.scope.kind == .function && X.env.kindOf n == some .cell) then (n,NameKind.cell) else (n,k)).lookup x=some .free)->x=x0\/(x,NameKind.free)∈names:=by
    intro names
    induction names with
    | nil=>intro _ h;rcases h with h | h <;> cases h
    | cons y r ih =>
     obtain ⟨n,kd⟩:=y
     intro hnc h
     by_cases hxn:x=n
     ·subst hxn
      by_cases hkc0:kd=.cell
      ·exact .inl (hnc (x,kd) List.mem_cons_self hkc0)
      have hkc:kd≠.cell:=hkc0
      by_cases hkf:kd=.free
      ·subst hkf;exact .inr List.mem_cons_self
      ·exfalso
       have hb:(kd == NameKind.free)=false:=by simpa using hkf
       simp only [List.map_cons,hb,Bool.false_and,Bool.false_eq_true,if_false,List.lookup_cons,beq_self_eq_true] at h
       rcases h with h | h
       ·exact hkc (Option.some.inj h)
       ·exact hkf (Option.some.inj h)
     ·have hb:(x == n)=false:=by simpa using hxn
      refine (ih (fun y hy=>hnc y (List.mem_cons_of_mem _ hy)) ?_).imp_right fun z=>List.mem_cons_of_mem _ z
      have e1:∀ z:NameKind,List.lookup x (((n,z)) :: (r.map fun (n,k)=>if (k == NameKind.free && X.env.scope.kind == .function && X.env.kindOf n == some .cell) then (n,NameKind.cell) else (n,k)))=List.lookup x (r.map fun (n,k)=>if (k == NameKind.free && X.env.scope.kind == .function && X.env.kindOf n == some .cell) then (n,NameKind.cell) else (n,k)):=fun z=>by rw [List.lookup_cons,hb]
      rw [List.map_cons] at h
      dsimp only at h
      split at h
      ·rw [e1] at h;exact h
      ·rw [e1] at h;exact h
   rcases key scope.names hcell hx' with hxx | hxx
   ·exact ⟨P2.objs.size + 1,by show ((x0,P2.objs.size + 1) :: cl).lookup x=_;rw [hxx,List.lookup_cons];simp⟩
   ·by_cases hne:x=x0
    ·exact ⟨P2.objs.size + 1,by show ((x0,P2.objs.size + 1) :: cl).lookup x=_;rw [hne,List.lookup_cons];simp⟩
    ·obtain ⟨c,hc⟩:=hcl2 x hxx
     exact ⟨c,by show ((x0,P2.objs.size + 1) :: cl).lookup x=_;rw [clne x hne];exact hc⟩
  ·exact ⟨below b (fpl b hb),fun x c e=>by
    rcases cls x c e with ⟨_,b1⟩ | ⟨_,b1⟩
    ·rw [b1];exact fun z=>below' b (fpl b hb) z.symm
    ·exact (f2 b hb).2.2.2.2.1 x c (hcl x c b1)⟩
  ·rcases (f2 b hb).2.2.2.1 with z | z
   ·exact i2.noex b o e z
   ·exact absurd (Nat.lt_of_lt_of_le (Heap.lt_size e) (Nat.le_trans i2.bsz z)) (Nat.lt_irrefl _)
  ·rcases List.mem_cons.mp (I2.stkSub b hb2) with z | z
   ·exact (f2 b hb).2.1 z
   ·exact (f2 b hb).2.2.1 z
 have stat:∀ {H':Hp},(∀ b∈fp,H' b=none)->∀ b∈fp,rE (gP X N scope ((x0,P2.objs.size + 1) :: cl) P2.objs.size s2 H2 fp x0) [] H' b:=fun hn b hb =>
  ⟨hn b hb,below b (fpl b hb),fun z=>ok'.exfs b hb z,.inl hb,fun x c e=>by
    rcases cls x c e with ⟨_,b1⟩ | ⟨_,b1⟩
    ·rw [b1];exact fun z=>below' b (fpl b hb) z.symm
    ·exact (f2 b hb).2.2.2.2.1 x c (hcl x c b1),(fun p hp=>by cases hp)⟩
 have hD:H2 s2.heap.objs.size=none:=I2.hok.fresh (Nat.le_refl _)
 have relf:∀ x,scope.names.lookup x=some .free->(X.env.kindOf x=some .cell\/X.env.kindOf x=some .free)->((relabel scope X.env).names.lookup x=some .cell\/(relabel scope X.env).names.lookup x=some .free):=by
  intro x hx hkx
  have key:∀ (names:List (Str × NameKind)),names.lookup x=some .free->((names.map fun (n,k)=>if (k == NameKind.free && X.env.scope.kind == .function && X.env.kindOf n == some .cell) then (n,NameKind.cell) else (n,k)).lookup x=some .cell \/
    (names.map fun (n,k)=>if (k == NameKind.free && X.env.scope.kind == .function && X.env.kindOf n == some .cell) then (n,NameKind.cell) else (n,k)).lookup x=some .free):=by
   intro names
   induction names with
   | nil=>intro h;cases h
   | cons y r ih =>
    obtain ⟨n,kd⟩:=y
    intro h
    rw [List.lookup_cons] at h
    by_cases hxn:x=n
    ·subst hxn
     simp only [beq_self_eq_true] at h
     cases h
     rw [List.map_cons]
     dsimp only
     split
     ·left;simp [List.lookup_cons]
     ·right;simp [List.lookup_cons]
    ·have hb:(x == n)=false:=by simpa using hxn
     rw [hb] at h
     have:=ih h
     rw [List.map_cons]
     dsimp only
     split
     ·rw [List.lookup_cons,hb];exact this
     ·rw [List.lookup_cons,hb];exact this
  exact key scope.names hx
 have Istart:∀ tk,Inv (gP X N scope ((x0,P2.objs.size + 1) :: cl) P2.objs.size s2 H2 fp x0) [] (cY k ix σ) (upd H2 s2.heap.objs.size (.lst [])) { s2 with heap:=h₁,toks:=tk }:=fun tk=>by
  refine ⟨ok',rfl,I2.bare,Un.laid old (Nat.le_refl _) hD,⟨_,hns₁,fun i x v e1 e2 e3=>?_⟩,fun x c e=>?_,?_,fun x c e=>?_,(fun p hp=>by cases hp),I2.hok.laid old (Nat.le_refl _) ⟨Nat.zero_le _,[],_,.nil,hacc⟩,σl⟩
  ·by_cases hik:i < k
   ·exfalso
    unfold cY at e2
    rw [List.getElem?_append_left (by simpa using hik),List.getElem?_replicate] at e2
    split at e2 <;> cases e2
   ·have ej:i=k + (i - k):=by omega
    have e1':N[k + (i - k)]?=some x:=by rw [<- ej];exact e1
    obtain ⟨i0,hi0,hXN⟩:=hN (i - k) x e1'
    have hfx:=hcap (i - k) x e1'
    have hmem:(x,NameKind.free)∈scope.names:=PySem.mem_of_lookup hfx
    have hkx:=hfree _ hmem rfl
    have e4:σ[i0]?=some (some v):=by
     unfold cY at e2
     rw [List.getElem?_append_right (by simpa using Nat.le_of_not_lt hik),List.getElem?_map] at e2
     simp only [List.length_replicate,hi0,Option.map_some,Option.some.injEq] at e2
     cases z:σ[i0]? with
     | none=>rw [z] at e2;cases e2
     | some y=>rw [z] at e2;simp only [Option.getD_some] at e2;rw [e2]
    obtain ⟨m2,hn2,hl2⟩:=I2.loc
    obtain ⟨u,ru,lk⟩:=hl2 i0 x v hXN e4 (by rcases hkx with z | z;exact .inr (.inl z);exact .inr (.inr z))
    rcases lk with ⟨z,_⟩ | ⟨_,c,hc1,hc2⟩
    ·exfalso
     have z':X.env.kindOf x=some .local:=z
     rcases hkx with y | y <;> (rw [z'] at y;cases y)
    ·obtain ⟨c',hc'⟩:=hcl2 x hmem
     have e5:=hcl x c' hc'
     rw [hc1] at e5;cases e5
     obtain ⟨o,ho,hd⟩:=hc2
     have hne:x≠x0:=fun z=>by rw [z,hx0] at hfx;cases hfx
     exact ⟨u,ru,.inr ⟨relf x hfx hkx,c,by show ((x0,P2.objs.size + 1) :: cl).lookup x=_;rw [clne x hne];exact hc',o,old _ _ ho,hd⟩⟩
  ·rcases cls x c e with ⟨_,b1⟩ | ⟨_,b1⟩
   ·rw [b1];exact ⟨none,_,hcel,rfl⟩
   ·obtain ⟨v,o,ho,hd⟩:=I2.cell x c (hcl x c b1)
    exact ⟨v,o,old _ _ ho,hd⟩
  ·show upd H2 s2.heap.objs.size (.lst []) P2.objs.size=none
   rw [bI (show P2.objs.size≠s2.heap.objs.size by rw [hCs];exact Nat.succ_ne_self _)]
   exact I2.hok.fresh (show s2.heap.objs.size<=P2.objs.size by rw [hCs];exact Nat.le_succ _)
  ·rcases cls x c e with ⟨_,b1⟩ | ⟨_,b1⟩
   ·have hne:P2.objs.size + 1≠s2.heap.objs.size:=by rw [hCs];omega
    have hle:s2.heap.objs.size<=P2.objs.size + 1:=by rw [hCs];omega
    rw [b1,bI hne]
    exact I2.hok.fresh hle
   ·have e':=hcl x c b1
    obtain ⟨v,o,ho,hd⟩:=I2.cell x c e'
    rw [bI (Nat.ne_of_lt (Heap.lt_size ho))]
    exact I2.freeC x c e'
 have st1:tn 0 h₁:=T.keep 0 _ _ cT fun b hb o e=>old b o e
 have fr1:∀ b∈fp,upd H2 s2.heap.objs.size (.lst []) b=none:=fun b hb=>by rw [bI (Nat.ne_of_lt (fpl b hb))];exact (f2 b hb).1
 have fin:∀ (H3:Hp) (s4:Shared),Inv (gP X N scope ((x0,P2.objs.size + 1) :: cl) P2.objs.size s2 H2 fp x0) [] (cY k ix σ) H3 s4->∀ h':Heap,Heap.SameBut P2.objs.size s4.heap h'->Inv X pins σ H3 { s4 with heap:=h' }:=fun H3 s4 I4 h' sb=>by
  have kp:∀ b o,b < s2.heap.objs.size->s4.heap.get? b=some o->h'.get? b=some o:=fun b o hb e=>sb.extBut b o (below b hb) e
  have u:Un (rT X.stack) fp H2 H3 s2.heap s4.heap:=I4.base
  refine I2.call' (ch:=fp) (H':=H3) I4.os ⟨fun b o q n hb hx=>kp b o (Heap.lt_size q) (u.keep b o q n hb hx),fun b o q n hb hx=>?_,u.free,fun b o q hx=>?_,u.tups,u.frzs,u.tbls⟩ (fun a o e=>?_) I4.bare fun b hb=>⟨(f2 b hb).2.2.2.1,(f2 b hb).2.1,(f2 b hb).2.2.2.2.1,(f2 b hb).2.2.2.2.2⟩
  ·obtain ⟨sl,e⟩:=u.slot b o q n hb hx
   exact ⟨sl,kp b _ (Heap.lt_size q) e⟩
  ·obtain ⟨o',e⟩:=u.there b o q hx
   exact ⟨o',kp b _ (Heap.lt_size q) e⟩
  ·have nC:H3 P2.objs.size=none:=I4.free
   refine (I4.hok a o e).stay (fun b z hb q=>sb.extBut b z ?_ q) (fun _ q=>q) fun _ _ q=>q
   rcases hb with rfl | hb
   ·exact cJ e nC
   ·exact cJ hb nC
 have loop:∀ tk,codeAny (model X.prog X.w) X.A (.compLoop (.ListComp elt [⟨tg,iter,ifs,0⟩] scope pos) 0 (.ref it) (.ref s2.heap.objs.size) (compEnvC scope ((x0,P2.objs.size + 1) :: cl) P2.objs.size X.env))
   (compPost (model X.prog X.w) X.A X.xe use QQ (.ref s2.heap.objs.size) P2.objs.size) { s2 with heap:=h₁,toks:=tk }:=fun tk=>by
  refine xO (fun n s'=>∃ i H',Inv (gP X N scope ((x0,P2.objs.size + 1) :: cl) P2.objs.size s2 H2 fp x0) [] (cY k ix σ) H' s'/\tn i s'.heap/\(∀ b∈fp,H' b=none)/\W i n H') ?_ m0 ⟨0,_,Istart tk,st1,fr1,w0⟩
  rintro n s3 ⟨i,H3,I3,st3,fr3,w3⟩
  rcases turn i n H3 w3 with ⟨stop,q⟩ | ⟨go,step⟩
  ·refine bF (T.done (gP X N scope ((x0,P2.objs.size + 1) :: cl) P2.objs.size s2 H2 fp x0) rfl rfl rfl hc i [] s3 _ H3 (fun _ _=>False) I3 (stat fr3) st3 stop) fun r s4 ⟨hr,I4⟩=>?_
   subst hr
   obtain ⟨m,hn,_⟩:=I4.loc
   refine end_ s2.heap.objs.size P2.objs.size H3 s4 (fin H3 s4 I4 s4.heap (Heap.SameBut.refl ..)) ⟨m,hn⟩ I4.free (Ne.symm (below _ I2.lt)) (Nat.le_trans I2.sz (show s2.heap.objs.size<=P2.objs.size by rw [hCs];exact Nat.le_succ _)) (fun x c e=>?_) (fun p hp=>below _ (Heap.lt_size (I2.pin p hp).1)) (fin H3 s4 I4) q
   obtain ⟨v,o,ho,_⟩:=I2.cell x c e
   exact below _ (Heap.lt_size ho)
  ·refine bF (T.item (gP X N scope ((x0,P2.objs.size + 1) :: cl) P2.objs.size s2 H2 fp x0) rfl rfl rfl hc i [] s3 _ H3 (fun _ _=>False) I3 (stat fr3) st3 go) fun r s4 ⟨u,hr,h4⟩=>?_
   subst hr
   refine bF h4 fun _ s5 ⟨x,H5,I5,r5,y5,st5,fr5⟩=>?_
   have I5':=I5.pinned (stat fr5) (T.obj _ _ st5)
   refine bF (hg ((x0,P2.objs.size + 1) :: cl) P2.objs.size s2 H2 fp _ s5 _ H5 x u _ I5' r5 (gk _ _ _ _ (step x H5 y5))) fun _ s6 ⟨σ6,H6,I6,ag,q6⟩=>?_
   have again:∀ {s7:Shared} {H7:Hp} {m':Nat},Inv (gP X N scope ((x0,P2.objs.size + 1) :: cl) P2.objs.size s2 H2 fp x0) ([]++sP fp s5.heap) σ6 H7 s7->m' < n->W (i + 1) m' H7->∃ m,m < n/\∃ i H',Inv (gP X N scope ((x0,P2.objs.size + 1) :: cl) P2.objs.size s2 H2 fp x0) [] (cY k ix σ) H' s7/\tn i s7.heap/\(∀ b∈fp,H' b=none)/\W i m H':=fun {s7 H7 m'} I7 hm w7=>by
    refine ⟨m',hm,i + 1,H7,(I7.unpinned).weak (by rw [σl];exact (I7.len).symm) (fun j v e=>?_),T.keep _ _ _ st5 fun b hb o e=>(I7.pin (b,o) (List.mem_append_right _ (List.mem_append_right _ (k8 hb e)))).1,fun b hb=>?_,w7⟩
    ·by_cases hj:j < k
     ·exfalso
      unfold cY at e
      rw [List.getElem?_append_left (by simpa using hj),List.getElem?_replicate] at e
      split at e <;> cases e
     ·rw [ag j (by omega)];exact e
    ·obtain ⟨o,e,d⟩:=T.obj _ _ st5 b hb
     exact (I7.pin (b,o) (List.mem_append_right _ (List.mem_append_right _ (k8 hb e)))).2.1
   refine bF (hif ((x0,P2.objs.size + 1) :: cl) P2.objs.size s2 H2 fp _ s6 σ6 H6 _ I6 q6) fun ok s7 ⟨H7,I7,q7⟩=>?_
   cases ok with
   | false =>
    obtain ⟨m',hm,w7⟩:=q7
    exact again I7 hm w7
   | true =>
    refine bF (he ((x0,P2.objs.size + 1) :: cl) P2.objs.size s2 H2 fp _ s7 σ6 H7 _ I7 q7) fun y s8 ⟨yv,H8,I8,r8,ys,hD8,hz8,m',hm,w8⟩=>?_
    refine bF (vW _ s8 σ6 H8 (.ref s2.heap.objs.size) [yv] (.ref s2.heap.objs.size) [y] (fun v H9=>H9=upd H8 s2.heap.objs.size (.lst (ys++[yv]))) I8 rfl (.cons r8 .nil) ⟨_,ys,yv,rfl,rfl,hD8,hz8,rfl⟩) fun _ s9 ⟨_,H9,I9,_,e9⟩=>?_
    subst e9
    exact again I9 hm w8
 exact codeAny_compStart_list (loop _) (T.self _ 0 _ _ _ st1 (loop _))
theorem lB.compC {D:Dat} {X:Cx} (h:lB D X) (N:List Str) (scope:Scope) (cl:List (Str × Addr)) (C:Addr) (s:Shared) (H:Hp) (fp:List Addr) (x0:Str):lB (bM D N scope) (gP X N scope cl C s H fp x0) :=
 ⟨h.prog,h.w,h.K,h.mg,h.base,rfl,by show bW scope X.env.scope=bW scope D.sc;rw [h.sc],h.room,h.calm,rfl,(fun z=>by cases z),(fun z=>absurd rfl z)⟩
theorem Ky {D:Dat} {pos px:Pos} {te:UE} (own:Bool) (N:List Str) (ix:List Nat) {x0:Str} {scope:Scope} {iter elt:Expr} {wi:UI} (hi:v5 D (.Name x0 px) iter wi) (he:bB (bM D N scope) elt te) (hN0:N[0]?=some x0:=by rfl) (hNd:N.Nodup:=by decide +kernel)
  (hk:scope.kind=.function:=by rfl) (hcell:∀ y∈scope.names,y.2=.cell->y.1=x0:=by decide +kernel) (hx0:scope.names.lookup x0=some .cell:=by rfl) (hcf:∀ a cl,cellsFrom a scope.names cl=(x0,a) :: cl:=by intros;rfl) (hpc:∀ h,pushCells h scope.names=h.push { cls:=.type "cell",data:=.cell none }:=by intros;rfl)
  (hnames:∀ y∈scope.names,y.2=.local->scope.names.lookup y.1=some .local:=by first | decide +kernel | (dsimp only;decide +kernel) | (dsimp only [bM,bW];decide +kernel))
  (hfree:∀ y∈scope.names,y.2=.free->D.sc.names.lookup y.1=some .cell\/D.sc.names.lookup y.1=some .free:=by first | decide +kernel | (dsimp only;decide +kernel) | (dsimp only [bM,bW];decide +kernel)) (hone:∀ y∈scope.names,y.2=.free->scope.names.lookup y.1=some .free:=by first | decide +kernel | (dsimp only;decide +kernel) | (dsimp only [bM,bW];decide +kernel))
  (hN:ix.map (fun i=>D.N[i]?)=(N.drop 1).map some:=by rfl) (hcap:∀ x∈N.drop 1,scope.names.lookup x=some .free:=by first | decide +kernel | (dsimp only;decide +kernel) | (dsimp only [bM,bW];decide +kernel)) (hlen:N.length=1 + ix.length:=by rfl)
  (hloc:Loc (bW scope D.sc) x0:=by first | exact Or.inr rfl | exact Or.inr (by decide +kernel))
  (hs:∀ env x,foldedSetIterable iter env x=pure x:=by intro _ _;rfl):bB D (.ListComp elt [⟨.Name x0 px,iter,[],0⟩] scope pos) (qQ own 1 ix wi (hName 0) (fun _ M Q=>Q true M) te):=by
 obtain ⟨_,p1,s1⟩:=hi;obtain ⟨_,p4,s4⟩:=he
 have hN':∀ (j:Nat) x,N[1 + j]?=some x->∃ i,ix[j]?=some i/\D.N[i]?=some x:=fun j x e=>by
  have e1:((N.drop 1).map some)[j]?=some (some x):=by rw [List.getElem?_map,List.getElem?_drop,e];rfl
  rw [<- hN,List.getElem?_map] at e1
  cases q:ix[j]? with
  | none=>rw [q] at e1;cases e1
  | some i=>rw [q] at e1;exact ⟨i,rfl,Option.some.inj e1⟩
 have hcap':∀ (j:Nat) x,N[1 + j]?=some x->scope.names.lookup x=some .free:=fun j x e=>hcap x (List.mem_of_getElem? (i:=j) (by rw [List.getElem?_drop];exact e))
 refine ⟨wK 1 ix _ (qM 0) KJ _,fun X h=>?_,x8 s1 (rA 0) (fun σ τ H M Q' rs rm q Q c=>c true M H (aS.refl _ _) rm q) s4⟩
 intro pins s σ H Q I q
 rw [eval_ListComp]
 refine F2 (use:=none) (x0:=x0) h.calm (p1 X h) (EF (by decide)) hk hcell hx0 hcf hpc hnames (fun y hy e=>by show X.env.scope.names.lookup y.1=_\/X.env.scope.names.lookup y.1=_;rw [h.sc];exact hfree y hy e) hone (fun j x e=>by rw [h.N];exact hN' j x e) hcap' hlen
  (fun cl C s H fp=>FP (i:=0) hNd hN0 (by show Loc (bW scope X.env.scope) x0;rw [h.sc];exact hloc) (.inl (decide_eq_true rfl))) (fun cl C s H fp=>EM) (fun cl C s H fp=>p4 _ (h.compC N scope cl C s H fp x0)) (hs _) I q fun D' C H3 s4 I4 ⟨m,hn⟩ _ _ _ _ _ fin q=>?_
 exact ⟨m,hn,fun h' sb=>⟨.ref D',H3,fin h' sb,rfl,q⟩⟩
end U2
namespace L2
open PySem PySem.Spec PyProof.Rows
noncomputable def mB (o:Obj):Array DictEntry:=match o.data with | .dict es _=>es | _=>#[]
noncomputable def DU (o:Obj):Nat:=match o.data with | .dict _ ep=>ep | _=>0
def n9:HO->Nat
 | .dK kvs=>kvs.length
 | .dT kvs=>kvs.length
 | _=>0
def zK (H:Hp) (i:Nat) (x:V):HO->Prop
 | .dK kvs=>∃ p,kvs[i]?=some p/\x=kV p.1
 | .dT kvs=>∃ p b,kvs[i]?=some p/\x=.ref b/\H b=some (.tup (p.1.map kV))
 | _=>False
def wI (i:Nat) (x:V):HO->Prop
 | .dK kvs=>∃ p,kvs[i]?=some p/\x=p.2
 | .dT kvs=>∃ p,kvs[i]?=some p/\x=p.2
 | _=>False
theorem Q4 {P:Program} {w:World} {k:Key} {u:Value} (h:(cV P w).is k u=true):RelV (kV k) u:=by
 rcases eJ (show sT k u=true from h) with ⟨i,t,rfl,rfl⟩ | ⟨x,t,rfl,rfl⟩
 ·exact ⟨_,rfl⟩
 ·exact ⟨_,rfl⟩
theorem ER {P:Program} {w:World}:∀ {es:List DictEntry} {vs:List (Key × Value)} {kvs:List (Key × V)},Pairs (cV P w) es vs->KV kvs vs->es.length=kvs.length/\∀ (i:Nat) (e:DictEntry),es[i]?=some e->∃ p,kvs[i]?=some p/\RelV (kV p.1) e.key/\RelV p.2 e.val
 | _,_,_,.nil,.nil=>⟨rfl,fun i e h=>by simp at h⟩
 | _,_,_,.cons h1 h2 t,.cons q r=>by
  obtain ⟨hl,ih⟩:=ER t r
  refine ⟨by simp [hl],fun i e h=>?_⟩
  cases i with
  | zero=>simp at h;subst h;exact ⟨_,rfl,by rw [q.1];exact Q4 h1,by rw [h2];exact q.2⟩
  | succ j=>simpa using ih j e (by simpa using h)
theorem w5 {P:Program} {w:World} {H:Hp} {h:Heap} {d:Addr} {o:Obj} {u:HO} (ok:gW P w H h) (e:H d=some (.frz o u)) (dk:U2.uZ u=true):iO h d (mB o) (DU o)/\(mB o).size=n9 u/\(d == sysModules)=false/\n9 u<=sizeLine /\
  ∀ (i:Nat) en,(mB o)[i]?=some en->∃ k v,zK H i k u/\RelV k en.key/\wI i v u/\RelV v en.val:=by
 obtain ⟨g,hq⟩:=(show dO P w H h d (.frz o u) from ok d _ e)
 cases u with
 | dK kvs =>
  obtain ⟨z,hs,vs,rel,o',es,ep,g',c',d',kk,pp,nn⟩:=hq
  rw [g] at g';cases g'
  have e1:mB o=es:=by unfold mB;rw [d']
  have e2:DU o=ep:=by unfold DU;rw [d']
  obtain ⟨hl,pr⟩:=ER pp rel
  rw [e1,e2]
  refine ⟨⟨o,g,c',d'⟩,by simpa [n9] using hl,hs,z,fun i en hi=>?_⟩
  obtain ⟨p,h1,h2,h3⟩:=pr i en (by rw [Array.getElem?_toList];exact hi)
  exact ⟨_,_,⟨p,h1,rfl⟩,h2,⟨p,h1,rfl⟩,h3⟩
 | dT kvs =>
  obtain ⟨z,hs,xs,rel,o',es,ep,g',c',d',pp,nn⟩:=hq
  rw [g] at g';cases g'
  have e1:mB o=es:=by unfold mB;rw [d']
  have e2:DU o=ep:=by unfold DU;rw [d']
  rw [e1,e2]
  have hl:es.size=kvs.length:=by rw [<- Array.length_toList,pp,List.length_map];exact (Paired.length rel).symm
  have pr:∀ {kvs:List (List Key × V)} {xs:List (List Key × Addr × Value)},Paired (fun (p:List Key × V) (q:List Key × Addr × Value)=>p.1=q.1/\H q.2.1=some (.tup (p.1.map kV))/\RelV p.2 q.2.2) kvs xs->∀ (i:Nat) q,xs[i]?=some q->∃ p,kvs[i]?=some p/\p.1=q.1/\H q.2.1=some (.tup (p.1.map kV))/\RelV p.2 q.2.2:=by
   intro kvs xs r
   induction r with
   | nil=>intro i q h;simp at h
   | cons h t ih =>
    intro i q hq
    cases i with
    | zero=>simp at hq;subst hq;exact ⟨_,rfl,h⟩
    | succ j=>simpa using ih j q (by simpa using hq)
  refine ⟨⟨o,g,c',d'⟩,hl,hs,z,fun i en hi=>?_⟩
  have h0:(xs.map (entryOfKey (tupleKind (cV P w))))[i]?=some en:=by rw [<- pp,Array.getElem?_toList];exact hi
  rw [List.getElem?_map] at h0
  cases hx:xs[i]? with
  | none=>rw [hx] at h0;cases h0
  | some q =>
   rw [hx] at h0;cases h0
   obtain ⟨p,h1,h2,h3,h4⟩:=pr rel i q hx
   exact ⟨.ref q.2.1,p.2,⟨p,q.2.1,h1,rfl,h3⟩,rfl,⟨p,h1,rfl⟩,h4⟩
 | _=>cases dk
noncomputable def PF (d:Addr) (o:Obj) (u:HO):It :=
 ⟨fun i H=>H d=some (.frz o u)/\i < n9 u,fun i H x H'=>∃ T k v,zK H i k u/\wI i v u/\H T=none/\x=.ref T/\H'=upd H T (.tup [k,v]),fun i H=>H d=some (.frz o u)/\n9 u<=i⟩
theorem AO:entryFor table "dict_itemiterator.__iter__"=some Builtin.«dict_keyiterator.__iter__» :=
 entryFor_alias (id':="dict_keyiterator.__iter__") (by kernel_rfl) (by rfl) (by decide +kernel) (by kernel_rfl)
theorem GZ {P:Program} {w:World} {K:PySem.W.Frag} {elts:List Expr} {kk:Nat} {pos:Pos} (d it:Addr) (o:Obj) (u:HO) (dk:U2.uZ u=true):Turn P w K (.Tuple elts kk pos) (PF d o u) [it] it (fun i h=>∃ ok ov,IsItemIter h it d i (mB o).size (DU o) ok ov) where
 mem:=by simp
 obj:=fun i h st b hb=>by
  have e:b=it:=by simpa using hb
  subst e
  obtain ⟨ok,ov,e⟩:=st
  exact ⟨_,e,fun v z=>by
   have z':Data.fields _=Data.cell v:=z
   cases z'⟩
 keep:=fun i h h' st k=>let ⟨ok,ov,e⟩:=st;⟨ok,ov,k it (by simp) _ e⟩
 item:=by
  intro X hP hw hK hc i pins s σ H E I hf st hg
  subst hP hw hK
  obtain ⟨ok,ov,st⟩:=st
  obtain ⟨hq,hx⟩:=hg
  obtain ⟨raw,hlen,hs,_,at'⟩:=w5 I.hok hq dk
  have hil:i < (mB o).size:=by rw [hlen];exact hx
  obtain ⟨k,v,hk,rk,hv,rv⟩:=at' i _ (Array.getElem?_eq_getElem hil)
  refine Ce st raw (Array.getElem?_eq_getElem hil) fun h' so ht hz hk2=>?_
  refine ⟨.ref s.heap.objs.size,rfl,wpAny_letOwnedTupleGo_items (s:={ s with heap:=h' }) so fun h'' so2 sb=>?_⟩
  have hTi:s.heap.objs.size≠it:=Nat.ne_of_gt (Heap.lt_size st)
  have hTT:h''.get? s.heap.objs.size=some { cls:=.type "tuple",data:=.seq #[(mB o)[i].key,(mB o)[i].val] }:=sb.extBut _ _ hTi ht
  refine ⟨.ref s.heap.objs.size,upd H s.heap.objs.size (.tup [k,v]),U2.m7 (s:=s) (h':=h'') (tk:=s.toks) (ch:=[it]) I hf (fun b o hb q=>?_) (Nat.le_refl _) ⟨by show 2<=sizeLine;decide,[(mB o)[i].key,(mB o)[i].val],.cons rk (.cons rv .nil),⟨_,hTT,rfl,_,rfl⟩⟩,rfl,⟨_,k,v,hk,hv,I.hok.fresh (Nat.le_refl _),rfl,rfl⟩,⟨_,_,so2⟩,fun b hb=>?_⟩
  ·have hb':b≠it:=by simpa using hb
   exact sb.extBut b o hb' (hk2 b o hb' q)
  ·have e:b=it:=by simpa using hb
   subst e
   rw [bI (Ne.symm hTi)]
   exact (hf _ hb).1
 done:=by
  intro X hP hw hK hc i pins s σ H E I hf st hg
  subst hP hw hK
  obtain ⟨ok,ov,st⟩:=st
  obtain ⟨hq,hx⟩:=hg
  obtain ⟨raw,hlen,hs,_,at'⟩:=w5 I.hok hq dk
  obtain ⟨f0,f1,f2,f3,f4,f5⟩:=hf it (by simp)
  exact Cw (I.ok.hd hc) st raw (Array.getElem?_eq_none (by rw [hlen];exact hx)) fun h' eb=>⟨rfl,I.turned (t':=s.toks) (fun b o hb e=>eb b o hb e) f0 f1 f3 f4 f5⟩
 self:=fun A i s Q E st h=>by
  obtain ⟨ok,ov,st⟩:=st
  have T:s.TypeIs (.ref it) "dict_itemiterator":=⟨_,st,rfl⟩
  refine wpAny_pyIter_slot T PySem.F.slot_dict_itemiterator_iter (wpAny_call_entry PySem.F.slot_dict_itemiterator_iter T AO ?_ (PySem.F.args_dict_itemiterator_iter_1 _))
  show wpAny (model P w) _ (ret (.ref it)) _ _ s;exact wpAny_pure ⟨_,rfl,"dict_itemiterator",_,T,PySem.F.slot_dict_itemiterator_next.lookup,h⟩
section
variable {X:Cx} {tg:Expr}
theorem freeze {pins:List (Addr × Obj)} {σ:St} {H:Hp} {s:Shared} {d:Addr} {u:HO} (I:Inv X pins σ H s) (e:H d=some u) (dk:U2.uZ u=true):∃ o,Inv X pins σ (upd H d (.frz o u)) s:=by
 have ok:dO X.prog X.w H s.heap d u:=I.hok d _ e
 have hx:∃ o,s.heap.get? d=some o:=by
  cases u with
  | dK kvs=>obtain ⟨_,_,_,_,o,_,_,h1,_⟩:=ok;exact ⟨o,h1⟩
  | dT kvs=>obtain ⟨_,_,_,_,o,_,_,h1,_⟩:=ok;exact ⟨o,h1⟩
  | _=>cases dk
 obtain ⟨o,g⟩:=hx
 refine ⟨o,?_⟩
 have ok2:dO X.prog X.w (upd H d (.frz o u)) s.heap d u:=by
  cases u with
  | dK kvs=>exact ok
  | dT kvs =>
   obtain ⟨z,hs,xs,rel,r⟩:=ok
   refine ⟨z,hs,xs,?_,r⟩
   have up:∀ {kvs:List (List Key × V)} {xs:List (List Key × Addr × Value)},Paired (fun (p:List Key × V) (q:List Key × Addr × Value)=>p.1=q.1/\H q.2.1=some (.tup (p.1.map kV))/\RelV p.2 q.2.2) kvs xs->∀ f:HO,Paired (fun (p:List Key × V) (q:List Key × Addr × Value)=>p.1=q.1/\upd H d f q.2.1=some (.tup (p.1.map kV))/\RelV p.2 q.2.2) kvs xs:=by
    intro kvs xs r f
    induction r with
    | nil=>exact .nil
    | cons h t ih=>exact .cons ⟨h.1,by rw [bI (fun z=>by rw [z,e] at h;exact absurd h.2.1 (by simp))];exact h.2.1,h.2.2⟩ ih
   exact up rel _
  | _=>cases dk
 have:=I.write (x:=d) (e:=d) (o:=.frz o u) (h':=s.heap) (t':=s.toks) (by rw [e];cases u <;> first | trivial | cases dk) (.inl rfl) (fun b u _ q=>q) ⟨o,g⟩ ⟨g,ok2⟩
 exact this
noncomputable def A4 (H:Hp) (d:Addr) (R:Obj->HO->Hp->Prop):Prop:=∃ u,U2.uZ u=true/\((H d=some u/\∀ o,R o u (upd H d (.frz o u)))\/∃ o,H d=some (.frz o u)/\R o u H)
theorem A4.go {pins:List (Addr × Obj)} {σ:St} {H:Hp} {s:Shared} {d:Addr} {R:Obj->HO->Hp->Prop} (I:Inv X pins σ H s) (h:A4 H d R):∃ o u H2,Inv X pins σ H2 s/\H2 d=some (.frz o u)/\U2.uZ u=true/\R o u H2:=by
 obtain ⟨u,dk,⟨e,r⟩ | ⟨o,e,r⟩⟩:=h
 ·obtain ⟨o,I2⟩:=freeze I e dk
  exact ⟨o,u,_,I2,cK,dk,r o⟩
 ·exact ⟨o,u,H,I,e,dk,r⟩
noncomputable def HH (tl:TE):TI:=fun σ H R=>tl σ H fun x H1=>∃ d,x=.ref d/\A4 H1 d fun o u H2=>R (PF d o u) H2
theorem Lj {elts:List Expr} {kk:Nat} {tpos apos cpos:Pos} {l:Expr} {tl:TE} (hl:PE X l tl) (hbase:attributeBase l "items" X.env (eval l X.env)=eval l X.env:=by rfl) (hline:(apos.endLine == cpos.line)=true:=by rfl):PI X (.Tuple elts kk tpos) (.Call (.Attribute l "items" apos) [] [] cpos) (HH tl):=by
 intro pins s σ H R I h
 refine wpAny_Call_method0_late hbase hline (bF (hl pins s σ H _ I h) fun v s1 ⟨x,H1,I1,r1,q1⟩=>?_)
 obtain ⟨d,e,hq⟩:=q1
 subst e
 cases r1
 obtain ⟨o,u,H2,I2,e,dk,q⟩:=hq.go I1
 obtain ⟨raw,hlen,hs,_⟩:=w5 I2.hok e dk
 refine ⟨"dict","dict.items",PySem.F.plainAttrs_dict,PySem.F.slot_dict_items,PySem.F.type_dict_items,raw.ty,fun b q=>?_,Calls.callWith_builtin rfl (PySem.evalArgs_none ?_)⟩
 ·cases q
  obtain ⟨ob,g,c,_⟩:=raw
  exact ⟨ob,g,c.2.1⟩
 ·refine call_meetsIn PySem.F.slot_dict_items raw.ty PySem.F.entry_dict_items (PySem.F.args_dict_items_1 _) (HN d hs) ⟨⟨_,_,raw⟩,?_⟩
  have raw2:=raw.at (h':=s1.heap.push { cls:=.type "dict_items",data:=.fields #[.ref d] }) fun o e=>Heap.get?_push_of_some _ e
  show wpAny (model X.prog X.w) X.A (pyIter (.ref s1.heap.objs.size)) _ _ _
  refine Ct (s:={ s1 with heap:=s1.heap.push { cls:=.type "dict_items",data:=.fields #[.ref d] } }) ⟨_,Heap.get?_push_size _ rfl,rfl,rfl⟩ raw2 ?_
  have hz:(s1.heap.push { cls:=.type "dict_items",data:=.fields #[.ref d] }).objs.size=s1.heap.objs.size + 1:=Heap.size_push ..
  refine ⟨_,[(s1.heap.push { cls:=.type "dict_items",data:=.fields #[.ref d] }).objs.size],_,_,H2,rfl,I2.kept (t':=s1.toks) fun b o e=>Heap.get?_push_of_some _ (Heap.get?_push_of_some _ e),GZ d _ o u dk,⟨_,_,Heap.get?_push_size _ rfl⟩,fun b hb=>?_,q⟩
  have e:b=(s1.heap.push { cls:=.type "dict_items",data:=.fields #[.ref d] }).objs.size:=by simpa using hb
  subst e
  exact I2.fpOk (by rw [hz];exact Nat.le_succ _) (I2.hok.fresh (by rw [hz];exact Nat.le_succ _))
theorem HW {prog:Program} {w:World} {A:Around} (hh:A.handled=none) (I d:Addr) (hne:d≠I) (es:Array DictEntry) (ep:Nat):Walks prog w A I [I,d] [I] es.size (fun i v=>∃ e,es[i]?=some e/\v=e.key) (fun i h=>h.IsKeyIter I d i es.size ep/\iO h d es ep) where
 sub:=fun b hb=>by simp at hb;simp [hb]
 frame:=fun _ _ _ st hk=>⟨st.1.at fun o e=>hk I (by simp) o e,st.2.at fun o e=>hk d (by simp) o e⟩
 item:=fun i s Q E hi st hQ=>LU st.1 st.2 (Array.getElem?_eq_getElem hi) fun h' hit' hs'=>hQ _ h' s.toks ⟨_,Array.getElem?_eq_getElem hi,rfl⟩ ⟨hit',st.2.at fun o e=>hs'.extBut d o hne e⟩ fun b o hb e=>hs'.extBut b o (fun h=>hb (by simp [h])) e
 done:=fun s Q E st hQ=>Og hh st.1 st.2 (Array.getElem?_eq_none (Nat.le_refl _)) fun h' he'=>hQ h' s.toks fun b o hb e=>he' b o (fun h=>hb (by simp [h])) e
 self:=fun _ _ _ _ st hQ=>wpAny_pyIter_keyiter st.1 hQ
theorem ND {prog:Program} {w:World} {d:Addr} (lo:(d == sysModules)=false) (es:Array DictEntry) (ep:Nat):PySem.W.KdlSrc prog w "dict" d d es.size (fun i v=>∃ e,es[i]?=some e/\v=e.key) (fun h=>iO h d es ep) where
 type:=fun _ hm=>hm.ty
 there:=fun _ hm=>⟨hm.lt,hm.lt⟩
 keep:=fun _ _ hm hk=>hm.at fun o e=>hk d (.inl rfl) o e
 notList:=by decide
 notTuple:=by decide
 hint:=fun _ _ _ _ hm hq=>PySem.W.kdl_hint_dict hm.ty hq
 iter:=fun _ _ hh hm=>⟨_,_,(fun _ _ hq=>Ku lo hm hq),HW hh _ d (Nat.ne_of_lt hm.lt) es ep,⟨⟨_,Heap.get?_push_size _ rfl,rfl,rfl⟩,hm.at fun o e=>Heap.get?_push_of_some _ e⟩⟩
noncomputable def KeysAre (H:Hp) (u:HO) (ys:List V):Prop:=ys.length=n9 u/\∀ i x,ys[i]?=some x->zK H i x u
noncomputable def OY:List V->Hp->VK->Prop:=fun xs H Q=>∃ d,xs=[.ref d]/\A4 H d fun o u H2=>∀ l ys,H2 l=none->KeysAre H2 u ys->Q (.ref l) (upd H2 l (.lst ys))
theorem Ip {P:Nat->V->Prop}:∀ (us:List Value),(∀ (i:Nat) u,us[i]?=some u->∃ x,P i x/\RelV x u)->∃ xs:List V,Vals xs us/\∀ i x,xs[i]?=some x->P i x:=by
 intro us
 induction us generalizing P with
 | nil=>exact fun _=>⟨[],.nil,fun i x h=>by simp at h⟩
 | cons u us ih =>
  intro h
  obtain ⟨x,hx,rx⟩:=h 0 u rfl
  obtain ⟨xs,rv,hp⟩:=ih (P:=fun i=>P (i + 1)) fun i u' e=>h (i + 1) u' (by simpa using e)
  refine ⟨x :: xs,.cons rx rv,fun i y e=>?_⟩
  cases i with
  | zero=>simp at e;subst e;exact hx
  | succ j=>exact hp j y (by simpa using e)
theorem F9 (hc:X.calm=true):mF X (.type "list") OY:=by
 intro pins s σ H xs us Q I r h
 obtain ⟨d,rfl,hq⟩:=h
 obtain ⟨v,rfl,ru⟩:=vals1 r
 cases ru
 obtain ⟨o,u,H2,I2,e,dk,q⟩:=hq.go I
 obtain ⟨raw,hlen,hs,hz,at'⟩:=w5 I2.hok e dk
 refine PySem.W.kdl_call (ND hs (mB o) (DU o)) (I2.ok.hd hc) raw (by rw [hlen];exact hz) fun h' tk acc c hk hD hacc=>?_
 obtain ⟨xs,rv,hp⟩:=Ip (P:=fun i x=>zK H2 i x u) acc.toList fun i v hv=>by
  obtain ⟨en,e1,rfl⟩:=hacc.2 i v (by rw [<- Array.getElem?_toList];exact hv)
  obtain ⟨k,_,h1,h2,_⟩:=at' i en e1
  exact ⟨k,h1,h2⟩
 have hl:xs.length=n9 u:=by rw [rv.length,Array.length_toList,hacc.1,hlen]
 have hn:H2 s.heap.objs.size=none:=I2.hok.fresh (Nat.le_refl _)
 refine ⟨.ref s.heap.objs.size,upd H2 s.heap.objs.size (.lst xs),I2.laid (t':=tk) hk (Nat.le_refl _) ⟨by rw [hl];exact hz,acc.toList,c,rv,by simpa using hD⟩,rfl,q _ xs hn ⟨hl,hp⟩⟩
end
end L2
namespace U2
open PySem PySem.Spec PyProof.Rows L2
noncomputable def keyOf (tk:Bool) (k:List Key):U:=if tk then .tup (k.map kU) else kU (nY k)
def qD (tk:Bool) (ks:List (List Key)):List U:=ks.map (keyOf tk)
noncomputable def iX (tk:Bool) (ks:List (List Key)) (us:List U):List U:=(ks.zip us).map fun p=>.tup [keyOf tk p.1,p.2]
theorem Jf (tk:Bool) (ks:List (List Key)):(qD tk ks).length=ks.length:=by simp [qD]
noncomputable def Av (u:HO) (ks:List (List Key)) (tk:Bool) (vs:List V):Prop:=match tk with
 | true=>∃ ws,u=.dT ws/\ks=ws.map (·.1)/\vs=ws.map (·.2)
 | false=>∃ ws,u=.dK ws/\ks=ws.map (fun p=>[p.1])/\vs=ws.map (·.2)
section
variable {K:PySem.W.Frag} {H:Hp} {M:aE}
theorem IE (k:Key):aK K H M (kU k) (kV k):=by cases k <;> simp only [kU,kV,aK]
theorem FJ:∀ k:List Key,aJ K H M (k.map kU) (k.map kV)
 | []=>.nil
 | a :: k=>.cons (IE a) (FJ k)
theorem RelM.tupNone (rm:RelM K H M) {b:Addr} {ys:List V} (h:H b=some (.tup ys)):M b=none:=by
 cases e:M b with
 | none=>rfl
 | some mo =>
  have r:=rm b mo e
  cases mo with
  | lst us=>obtain ⟨vs,x,_⟩:=r;rw [h] at x;cases x
  | dK us=>obtain ⟨vs,x,_⟩:=r;rw [h] at x;cases x
  | dT us=>obtain ⟨vs,x,_⟩:=r;rw [h] at x;cases x
  | tbl q=>obtain ⟨_,ps,x,_⟩:=r;rw [h] at x;cases x
theorem Av.key {u:HO} {ks:List (List Key)} {tk:Bool} {vs:List V} {i:Nat} {x:V} (d:Av u ks tk vs) (rm:RelM K H M) (h:zK H i x u):∃ k,ks[i]?=some k/\aK K H M (keyOf tk k) x:=by
 cases tk with
 | true =>
  obtain ⟨ws,rfl,rfl,rfl⟩:=d
  obtain ⟨p,b,h1,rfl,h3⟩:=h
  refine ⟨p.1,by rw [List.getElem?_map,h1];rfl,?_⟩
  show aK K H M (.tup (p.1.map kU)) (.ref b)
  simp only [aK]
  exact ⟨b,_,rfl,⟨rm.tupNone h3,h3⟩,FJ _⟩
 | false =>
  obtain ⟨ws,rfl,rfl,rfl⟩:=d
  obtain ⟨p,h1,rfl⟩:=h
  exact ⟨[p.1],by rw [List.getElem?_map,h1];rfl,IE _⟩
theorem Av.val {u:HO} {ks:List (List Key)} {tk:Bool} {vs:List V} {i:Nat} {x:V} (d:Av u ks tk vs) (h:wI i x u):vs[i]?=some x:=by
 cases tk with
 | true=>obtain ⟨ws,rfl,rfl,rfl⟩:=d;obtain ⟨p,h1,rfl⟩:=h;rw [List.getElem?_map,h1];rfl
 | false=>obtain ⟨ws,rfl,rfl,rfl⟩:=d;obtain ⟨p,h1,rfl⟩:=h;rw [List.getElem?_map,h1];rfl
theorem Av.len {u:HO} {ks:List (List Key)} {tk:Bool} {vs:List V} (d:Av u ks tk vs):ks.length=n9 u/\vs.length=n9 u:=by
 cases tk with
 | true=>obtain ⟨ws,rfl,rfl,rfl⟩:=d;simp [n9]
 | false=>obtain ⟨ws,rfl,rfl,rfl⟩:=d;simp [n9]
theorem CC {ks:List (List Key)} {tk:Bool} {us:List U} {v:V} {R:Addr->Obj->HO->Hp->Prop} (rm:RelM K H M) (r:aK K H M (.dic ks tk us) v)
  (h:∀ a o u H2 vs,v=.ref a->aS H M H2 M->RelM K H2 M->H2 a=some (.frz o u)->M a=none->Av u ks tk vs->aJ K H2 M us vs->R a o u H2):∃ d,v=.ref d/\A4 H d (R d):=by
 simp only [aK] at r
 obtain ⟨a,vs,rfl,m,da,ru⟩:=r
 refine ⟨a,rfl,?_⟩
 have go:∀ u,uZ u=true->Av u ks tk vs->Rd H a u->A4 H a (R a):=by
  intro u dk dok rd
  rcases rd with e | ⟨o,e⟩
  ·refine ⟨u,dk,.inl ⟨e,fun o=>?_⟩⟩
   have st:aS H M (upd H a (.frz o u)) M:=fun b ob eb mb=>by
    by_cases hb:b=a
    ·subst hb;rw [e] at eb;cases eb
     exact ⟨.inr ⟨dk,o,cK⟩,m⟩
    ·exact ⟨.inl (by rw [bI hb];exact eb),mb⟩
   have rm2:RelM K (upd H a (.frz o u)) M:=fun b mo eb=>(rm b mo eb).stp (fun _ _ z=>z) st (bI (fun z=>by rw [z,m] at eb;cases eb))
   exact h a o u _ vs rfl st rm2 cK m dok (ru.stp st)
  ·exact ⟨u,dk,.inr ⟨o,e,h a o u H vs rfl (aS.refl _ _) rm e m dok ru⟩⟩
 cases tk with
 | true=>obtain ⟨ws,e,e1,e2⟩:=da;exact go _ rfl ⟨ws,rfl,e1,e2⟩ e
 | false=>obtain ⟨ws,e,e1,e2⟩:=da;exact go _ rfl ⟨ws,rfl,e1,e2⟩ e
theorem DW {H1:Hp} {M1:aE} {a:Addr} {o:Obj} {u:HO} (st:aS H M H1 M1) (e:H a=some (.frz o u)) (m:M a=none):H1 a=some (.frz o u):=(st.to e m).1
theorem GG {ks:List (List Key)} {tk:Bool} {us:List U} {vs:List V} {a:Addr} {o:Obj} {u:HO} (e:H a=some (.frz o u)) (m:M a=none) (d:Av u ks tk vs) (ru:aJ K H M us vs):Walk K (PF a o u) ⟨none,iX tk ks us⟩ H M:=by
 have hl:us.length=ks.length:=by rw [ru.length,d.len.2,d.len.1]
 have pl:(iX tk ks us).length=ks.length:=by simp [iX,hl]
 refine ⟨fun H1 M1 s rm _ i w ew=>?_,fun H1 M1 s rm _=>⟨DW s e m,by show n9 u<=(iX tk ks us).length;rw [pl,d.len.1];exact Nat.le_refl _⟩⟩
 have hi:i < ks.length:=by have:=(List.getElem?_eq_some_iff.mp ew).1;rw [<- pl];exact this
 refine ⟨⟨DW s e m,by rw [<- d.len.1];exact hi⟩,fun x H2 y=>?_⟩
 obtain ⟨T,k,v,hk,hv,hT,rfl,rfl⟩:=y
 obtain ⟨kk,h1,h2⟩:=d.key rm hk
 have h3:=d.val hv
 obtain ⟨z,hz⟩:∃ z,us[i]?=some z:=⟨us[i]'(by omega),List.getElem?_eq_getElem (by omega)⟩
 obtain ⟨v',h4,h5⟩:=ru.get hz
 rw [h3] at h4;cases h4
 have st:=aS.laid (o:=.tup [k,v]) rm hT
 have:(iX tk ks us)[i]?=some (.tup [keyOf tk kk,z]):=by
  have hz':(ks.zip us)[i]?=some (kk,z):=by rw [List.getElem?_zip_eq_some];exact ⟨h1,hz⟩
  simp only [iX,List.getElem?_map,hz',Option.map_some]
 rw [show (Src.mk none (iX tk ks us)).xs[i]?=(iX tk ks us)[i]? from rfl,this] at ew
 cases ew
 have rr:aJ K H1 M1 [keyOf tk kk,z] [k,v]:=.cons h2 (.cons (h5.stp s) .nil)
 exact ⟨st,rm.laid hT,uD (rm.no hT) cK (rr.stp st)⟩
noncomputable def SF (te:UE):UI:=fun τ M R=>te τ M fun x M1=>match x with
 | .dic ks tk us=>R ⟨none,qD tk ks⟩ M1
 | _=>False
def zO (te:UE):UI:=fun τ M R=>te τ M fun x M1=>match x with
 | .dic ks tk us=>R ⟨none,iX tk ks us⟩ M1
 | _=>False
theorem Jk {t:TE} {t':UE} (h:cF K t t'):rJ K (HH t) (zO t'):=fun σ τ H M R' rs rm q R c=>h σ τ H M _ rs rm q _ fun x v M1 H1 s1 rm1 ru h1=>by
 cases x with
 | dic ks tk us=>exact CC rm1 ru fun a o u H2 vs hv st rm2 e m d r=>c _ _ M1 H2 (s1.trans st) rm2 (GG e m d r) h1
 | _=>exact h1.elim
end
section
variable {D:Dat} {tg e:Expr} {te:UE} {pos p:Pos}
theorem Dq {elts:List Expr} {kk:Nat} {tpos apos cpos:Pos} (h:bB D e te) (hbase:∀ env,attributeBase e "items" env (eval e env)=eval e env:=by intro _;rfl) (hline:(apos.endLine == cpos.line)=true:=by rfl):v5 D (.Tuple elts kk tpos) (.Call (.Attribute e "items" apos) [] [] cpos) (zO te):=by
 obtain ⟨_,q,s⟩:=h
 exact ⟨_,fun X h=>Lj (q X h) (hbase _) hline,Jk s⟩
noncomputable def C5 (o:Bool):List U->aE->UK->Prop:=fun us M Q=>match us with
 | [.dic ks tk _]=>iL o (qD tk ks) M Q
 | _=>False
theorem C3 {K:PySem.W.Frag} {H:Hp} {M:aE}:∀ {us:List U} {vs:List V},us.length=vs.length->(∀ (i:Nat) u v,us[i]?=some u->vs[i]?=some v->aK K H M u v)->aJ K H M us vs
 | [],[],_,_=>.nil
 | u :: us,v :: vs,hl,h=>.cons (h 0 u v rfl rfl) (C3 (by simpa using hl) fun i a b h1 h2=>h (i + 1) a b (by simpa using h1) (by simpa using h2))
 | [],_ :: _,hl,_=>by simp at hl
 | _ :: _,[],hl,_=>by simp at hl
theorem NW (own:Bool:=false):xG D (.type "list") (C5 own):=⟨⟨_,fun X h=>F9 h.calm,fun xs us H M Q' rm rus h Q c=>by
 unfold C5 at h
 split at h
 ·rename_i ks tk ws
  obtain ⟨v,rfl,a1⟩:=rus.one
  obtain ⟨d,rfl,f⟩:=CC (R:=fun d o u H2=>∀ l ys,H2 l=none->KeysAre H2 u ys->Q (.ref l) (upd H2 l (.lst ys))) rm a1 fun a o u H2 vs hv st rm2 e m dk r l ys hl hk=>by
   have rr:aJ D.K H2 M (qD tk ks) ys:=C3 (by rw [Jf,dk.len.1];exact hk.1.symm) fun i w y h1 h2=>by
    obtain ⟨k,h3,h4⟩:=dk.key rm2 (hk.2 i y h2)
    simp only [qD,List.getElem?_map,h3,Option.map_some,Option.some.injEq] at h1
    rw [<- h1];exact h4
   exact (c.stp st).lst rm2 rr hl h
  exact ⟨d,rfl,f⟩
 ·exact h.elim⟩⟩
end
end U2
namespace U2
open PySem PySem.Spec PyProof.Rows L2
noncomputable def Cv (τ:SU) (M:aE) (τ':SU) (M':aE):Prop:=∀ (K:PySem.W.Frag) (H:Hp) (σ:L2.St),RelM K H M->eK K H M σ τ->aS H M H M'/\RelM K H M'/\eK K H M' σ τ'
noncomputable def RY (t:US):US:=fun D τ M=>t { D with nx:=fun τ1 M1=>∃ τ' M',Cv τ1 M1 τ' M'/\D.nx τ' M' } τ M
theorem RO {D:Dat} {s:Stmt} {t:US} (h:pG D s t):pG D s (RY t):=by
 obtain ⟨u,p,q⟩:=h
 refine ⟨u,p,fun σ τ H M D' rs rm h D d=>q σ τ H M _ rs rm h D ⟨fun σ1 τ1 H1 M1 s1 rm1 rs1 h1=>?_,d.rt,d.bk,d.ct⟩⟩
 obtain ⟨τ',M',c,h2⟩:=h1
 obtain ⟨s2,rm2,rs2⟩:=c _ H1 σ1 rm1 rs1
 exact d.nx σ1 τ' H1 M' (s1.trans s2) rm2 rs2 h2
noncomputable def Ms (Q:UK):UK:=fun u M1=>∃ u' M',(∀ (K:PySem.W.Frag) (H:Hp) (v:V),RelM K H M1->aK K H M1 u v->aS H M1 H M'/\RelM K H M'/\aK K H M' u' v)/\Q u' M'
theorem Callee.conv {P:Program} {w:World} {K:PySem.W.Frag} {mg:Str->Option Value} {base:Heap} {j:Nat} {x:Str} {sp sp':dB} {dus:List U} (c:Callee P w K mg base j x sp dus) (h:∀ us M Q,sp' us M Q->sp us M (Ms Q)):Callee P w K mg base j x sp' dus :=
 let ⟨f,fd,ps,dvs,ds,F,r⟩:=c.ex;⟨f,fd,ps,dvs,ds,F.imp fun vs H Q E ⟨us,M,Q',h1,h2,h3,h4⟩=>⟨us,M,Ms Q',h1,h2,h us M Q' h3,fun u v M1 H1 st rm1 ru ⟨u',M',cv,q⟩=>let ⟨s2,rm2,ru2⟩:=cv K H1 v rm1 ru;h4 u' v M' H1 (st.trans s2) rm2 ru2 q⟩,r⟩
section
variable {K:PySem.W.Frag} {H:Hp} {M1 M':aE}
theorem A6 {κ:Type}:∀ {kvs:List (κ × U)} {ws:List (κ × V)} {M:aE},bX K H M kvs ws->kvs.map (·.1)=ws.map (·.1)/\aJ K H M (kvs.map (·.2)) (ws.map (·.2))
 | _,_,_,.nil=>⟨rfl,.nil⟩
 | _,_,_,.cons h t=>by
  obtain ⟨h1,h2⟩:=A6 t
  refine ⟨?_,.cons h.2 h2⟩
  rw [List.map_cons,List.map_cons,h1,h.1]
noncomputable def fS (kvs:List (Key × U)):U:=.dic (kvs.map fun e=>[e.1]) false (kvs.map (·.2))
def mR (kvs:List (List Key × U)):U:=.dic (kvs.map (·.1)) true (kvs.map (·.2))
theorem tV (M:aE) (kvs:List (Key × U)):eX M (fS kvs)=some (.dK kvs):=by
 have e:∀ l:List (Key × U),((l.map fun e=>[e.1]).map nY).zip (l.map (·.2))=l:=by
  intro l
  induction l with
  | nil=>rfl
  | cons a r ih=>simp only [List.map_cons,List.zip_cons_cons,ih,nY]
 simp only [fS,eX,e]
theorem KA (M:aE) (kvs:List (List Key × U)):eX M (mR kvs)=some (.dT kvs):=by
 have e:∀ l:List (List Key × U),(l.map (·.1)).zip (l.map (·.2))=l:=by
  intro l
  induction l with
  | nil=>rfl
  | cons a r ih=>simp only [List.map_cons,List.zip_cons_cons,ih]
 simp only [mR,eX,e]
theorem DF {kvs:List (Key × U)} {a:Addr} (rm:RelM K H M1) (h:M1 a=some (.dK kvs)) (hn:M' a=none) (st:aS H M1 H M'):aK K H M' (fS kvs) (.ref a):=by
 obtain ⟨ws,h1,r⟩:=rm a _ h
 obtain ⟨h2,h3⟩:=A6 r
 refine ⟨a,ws.map (·.2),rfl,hn,⟨ws,.inl h1,?_,rfl⟩,h3.stp st⟩
 have:=congrArg (List.map fun k:Key=>[k]) h2
 rw [List.map_map,List.map_map] at this
 exact this
theorem Ke {kvs:List (List Key × U)} {a:Addr} (rm:RelM K H M1) (h:M1 a=some (.dT kvs)) (hn:M' a=none) (st:aS H M1 H M'):aK K H M' (mR kvs) (.ref a):=by
 obtain ⟨ws,h1,r⟩:=rm a _ h
 obtain ⟨h2,h3⟩:=A6 r
 exact ⟨a,ws.map (·.2),rfl,hn,⟨ws,.inl h1,h2,rfl⟩,h3.stp st⟩
theorem NR {κ:Type} {kvs kvs':List (κ × U)} {ws:List (κ × V)} (r:bX K H M1 kvs ws) (hl:kvs.length=kvs'.length) (h:∀ (i:Nat) p p',kvs[i]?=some p->kvs'[i]?=some p'->p.1=p'.1/\∀ x,aK K H M1 p.2 x->aK K H M' p'.2 x):bX K H M' kvs' ws:=by
 induction r generalizing kvs' with
 | nil=>cases kvs' with
  | nil=>exact .nil
  | cons a r=>simp at hl
 | cons q t ih=>cases kvs' with
  | nil=>simp at hl
  | cons a r =>
   obtain ⟨h1,h2⟩:=h 0 _ _ rfl rfl
   exact .cons ⟨h1 ▸ q.1,h2 _ q.2⟩ (ih (by simpa using hl) fun i p p' e1 e2=>h (i + 1) p p' (by simpa using e1) (by simpa using e2))
end
theorem NO {τ:SU} {M:aE} {k r:Addr} {xs:List (List Key × U)} {key:List Key} {kvs:List (Key × U)} (hr:M r=none) (hk:k≠r):Cv τ (mup (mup M k (.dT (xs++[(key,.ref r)]))) r (.dK kvs)) τ (mup M k (.dT (xs++[(key,fS kvs)]))):=by
 intro K H σ rm rs
 generalize hM1:mup (mup M k (.dT (xs++[(key,.ref r)]))) r (.dK kvs)=M1 at *
 generalize hM':mup M k (.dT (xs++[(key,fS kvs)]))=M' at *
 have a1:M1 r=some (.dK kvs):=by rw [<- hM1,aG]
 have ak:M1 k=some (.dT (xs++[(key,.ref r)])):=by rw [<- hM1,aM hk,aG]
 have n1:M' r=none:=by rw [<- hM',aM (Ne.symm hk)];exact hr
 have oth:∀ b,b≠k->b≠r->M1 b=M b/\M' b=M b:=fun b b1 b2=>by rw [<- hM1,<- hM',aM b2,aM b1,aM b1];exact ⟨rfl,rfl⟩
 have st:aS H M1 H M':=aS.less fun b hb=>by
  have b1:b≠k:=fun z=>by subst z;rw [ak] at hb;cases hb
  have b2:b≠r:=fun z=>by subst z;rw [a1] at hb;cases hb
  obtain ⟨o1,o2⟩:=oth b b1 b2
  rw [o2,<- o1];exact hb
 refine ⟨st,fun a mo e=>?_,rs.stp st⟩
 by_cases e1:a=k
 ·subst e1
  rw [<- hM',aG] at e;cases e
  obtain ⟨ws,g1,q⟩:=rm a _ ak
  refine ⟨ws,g1,NR q (by simp) fun i p p' h1 h2=>?_⟩
  by_cases hi:i < xs.length
  ·rw [List.getElem?_append_left hi] at h1 h2
   rw [h1] at h2;cases h2
   exact ⟨rfl,fun x rx=>rx.stp st⟩
  ·rw [List.getElem?_append_right (by omega)] at h1 h2
   cases hj:i - xs.length with
   | zero =>
    rw [hj] at h1 h2
    simp at h1 h2
    subst h1;subst h2
    exact ⟨rfl,fun x rx=>by rw [rx.ref];exact DF rm a1 n1 st⟩
   | succ j=>rw [hj] at h1;simp at h1
 ·have e2:a≠r:=fun z=>by subst z;rw [n1] at e;cases e
  obtain ⟨o1,o2⟩:=oth a e1 e2
  rw [o2,<- o1] at e
  refine (rm a mo e).stp (fun b q z=>?_) st rfl
  have b1:b≠k:=fun y=>by subst y;rw [<- hM',aG] at z;cases z
  have b2:b≠r:=fun y=>by subst y;rw [n1] at z;cases z
  rw [(oth b b1 b2).1,<- (oth b b1 b2).2];exact z
theorem IM {M M1:aE} {a:Addr} {kvs:List (Key × U)} {Q:UK} (hs:Sub M M1) (ha:M1 a=some (.dK kvs)) (hn:M a=none) (q:Q (fS kvs) M):Ms Q (.ref a) M1 :=
 ⟨_,M,fun K H v rm ru=>⟨hs.less,rm.sub hs,by rw [ru.ref];exact DF rm ha hn hs.less⟩,q⟩
theorem FR {M M1:aE} {a:Addr} {kvs:List (List Key × U)} {Q:UK} (hs:Sub M M1) (ha:M1 a=some (.dT kvs)) (hn:M a=none) (q:Q (mR kvs) M):Ms Q (.ref a) M1 :=
 ⟨_,M,fun K H v rm ru=>⟨hs.less,rm.sub hs,by rw [ru.ref];exact Ke rm ha hn hs.less⟩,q⟩
end U2
namespace L2
open PySem PySem.Spec PyProof.Rows
section
variable {X:Cx} {o e f:Expr} {apos cpos:Pos} {td ty tx:TE}
end
end L2
namespace U2
open PySem PySem.Spec PyProof.Rows L2
end U2
namespace PySem
open Sem (wp)
namespace F
theorem lk_list_keys:typeLookup (.type "list") "keys"=pure none:=by rw [typeLookup_type,builtinLookup_eq_fast];kernel_rfl
end F
section
variable {prog:Program} {w:World} {A:Around} {E:Value->Shared->Prop} {h:Heap} {g:Array GenState} {d:Drawn} {t:Nat} {os:OsState} {a:Addr} {o:Obj}
theorem AS {α:Type} {s:Shared} {name msg:Str} {Q:α->Shared->Prop} (hh:A.handled=none) (hlen:msg.length<=sizeLine) (hn:name.length<=sizeLine)
  (hq:∀ h' e t',(∀ b u,s.heap.get? b=some u->h'.get? b=some u)->(∃ oe,h'.get? e=some oe/\oe.cls=.type "AttributeError")->E (.ref e) { s with heap:=h',toks:=t' }) :
  wpAny (model prog w) A (raiseAttrError (.ref a) name msg:Sem α) Q E s:=by
 unfold raiseAttrError newExc newTuple
 obtain ⟨h,g,d,t,os⟩:=s
 refine wpAny_bind (wpAny_mkStr ?_ hlen)
 refine wpAny_bind (wpAny_bind (wpAny_newObj_type ?_ (by size_fits)))
 refine wpAny_bind (m:=firstArgMember _ _) (wpAny_of_eq (a:=Value.none) (by first | rfl | (simp only [firstArgMember];rfl)) ?_)
 refine wpAny_newObj_type ?_ (by size_fits)
 have hom:ownMembersOf (Value.type "AttributeError") [Value.str msg t]=#[unsetMember,unsetMember]:=rfl
 dsimp only at *
 rw [hom]
 have he:((h.push { cls:=Value.type "tuple",data:=Data.seq #[Value.str msg t] }).push { cls:=Value.type "AttributeError",data:=Data.fields (#[Value.ref h.objs.size,Value.none,Value.none,Value.none,Value.bool false,Value.none]++#[unsetMember,unsetMember]) }).get? (h.push { cls:=Value.type "tuple",data:=Data.seq #[Value.str msg t] }).objs.size=some _:=Heap.get?_push_size _ rfl
 have hk:∀ b u,h.get? b=some u->((h.push { cls:=Value.type "tuple",data:=Data.seq #[Value.str msg t] }).push { cls:=Value.type "AttributeError",data:=Data.fields (#[Value.ref h.objs.size,Value.none,Value.none,Value.none,Value.bool false,Value.none]++#[unsetMember,unsetMember]) }).get? b=some u:=fun b u x=>Heap.get?_push_of_some _ (Heap.get?_push_of_some _ x)
 have hne:∀ b u,h.get? b=some u->b≠(h.push { cls:=Value.type "tuple",data:=Data.seq #[Value.str msg t] }).objs.size:=fun b u x=>Nat.ne_of_lt (Nat.lt_of_lt_of_le (Heap.lt_size x) (by rw [Heap.size_push];exact Nat.le_succ _))
 generalize ((h.push { cls:=Value.type "tuple",data:=Data.seq #[Value.str msg t] }).push { cls:=Value.type "AttributeError",data:=Data.fields (#[Value.ref h.objs.size,Value.none,Value.none,Value.none,Value.bool false,Value.none]++#[unsetMember,unsetMember]) })=h1 at he hk ⊢
 generalize (h.push { cls:=Value.type "tuple",data:=Data.seq #[Value.str msg t] }).objs.size=e at he hne ⊢
 refine wpAny_bind (wpAny_mkText ?_)
 have hT:(⟨h1,g,d,t + 1 + 1,os⟩:Shared).TypeIs (.ref e) "AttributeError":=⟨_,he,rfl⟩
 refine wpAny_bind ?_
 unfold noteAttr lacksNameAndObj
 refine wpAny_bind (wpAny_bind (wpAny_isInstance hT (by rw [isSubtype_type];kernel_rfl:isSubtype (.type "AttributeError") (.type "AttributeError")=pure true) ?_))
 simp only [Bool.not_true,Bool.false_eq_true,if_false]
 refine wpAny_bind (wpAny_load he ?_)
 show wpAny _ _ (pure true) _ _ _
 refine wpAny_pure ?_
 simp only [if_true]
 refine wpAny_bind (wpAny_rule (wpAny_bind (wpAny_typeOf hT ?_)))
 unfold layMembers
 refine wpAny_bind (wpAny_load he ?_)
 refine wpAny_update he ?_
 refine wpAny_raiseNew_none hh (hq _ _ _ (fun b u x=>?_) ⟨_,Heap.get?_update_self _ he ?_,rfl⟩)
 ·rw [Heap.get?_update_ne]
  ·exact hk b u x
  ·exact hne b u x
 ·rfl
theorem Dv {tk:Tok} {Q:Fin->Shared->Prop} (hh:A.handled=none) {its:Array Value} {n:Nat} {sl:Array (Option Value)} (hx:h.get? a=some { cls:=.type "list",dict:=none,data:=.seq its n,slots:=sl })
  (hq:∀ h' e t',(∀ b u,h.get? b=some u->h'.get? b=some u)->(∃ oe,h'.get? e=some oe/\oe.cls=.type "AttributeError")->E (.ref e) ⟨h',g,d,t',os⟩) :
  wpAny (model prog w) A (Builtin.«object.__getattribute__» ⟨[.ref a,.str "keys" tk],[]⟩) Q E ⟨h,g,d,t,os⟩:=by
 have hT:(⟨h,g,d,t,os⟩:Shared).TypeIs (.ref a) "list":=⟨_,hx,rfl⟩
 have f4:=F.lk_list_keys
 repeat (any_goals (first | assumption | refine wpAny_loadPart_at hx ?_ | wp_step))
 have hlen:(Str.ofString (toString "'"++toString ((Manifest.find? "list").elim "list" fun x=>x.tpName)++toString "' object has no attribute '")++Str.ofString "keys"++Str.ofString "'").length<=sizeLine:=by decide +kernel
 generalize (Str.ofString (toString "'"++toString ((Manifest.find? "list").elim "list" fun x=>x.tpName)++toString "' object has no attribute '")++Str.ofString "keys"++Str.ofString "'")=msg at hlen ⊢
 exact AS hh hlen (by decide +kernel) hq
theorem EC {tk:Tok} {R:Result->Shared->Prop} (hh:A.handled=none) {its:Array Value} {n:Nat} {sl:Array (Option Value)} (hx:h.get? a=some { cls:=.type "list",dict:=none,data:=.seq its n,slots:=sl })
  (hq:∀ h' e t',(∀ b u,h.get? b=some u->h'.get? b=some u)->(∃ oe,h'.get? e=some oe/\oe.cls=.type "AttributeError")->R (.error (.ref e)) ⟨h',g,d,t',os⟩) :
  codeAny (model prog w) A (.call (.builtin "list.__getattribute__") ⟨[.ref a,.str "keys" tk],[]⟩) R ⟨h,g,d,t,os⟩ :=
 codeAny_call_builtin F.slot_list_getattribute.plain F.entry_list_ga (F.slot_list_getattribute.check _ _ _ _ _ _ _ _ (show (⟨h,g,d,t,os⟩:Shared).TypeIs (.ref a) "list" from ⟨_,hx,rfl⟩) (F.args_list_getattribute_2 _ _) (Dv hh hx hq))
theorem Jj {tk:Tok} {Q:Value->Shared->Prop} (hh:A.handled=none) {its:Array Value} {n:Nat} {sl:Array (Option Value)} (hx:h.get? a=some { cls:=.type "list",dict:=none,data:=.seq its n,slots:=sl })
  (hq:∀ h' e t',(∀ b u,h.get? b=some u->h'.get? b=some u)->(∃ oe,h'.get? e=some oe/\oe.cls=.type "AttributeError")->E (.ref e) ⟨h',g,d,t',os⟩) :
  wpAny (model prog w) A (getAttrBy (.ref a) (.str "keys" tk) false) Q E ⟨h,g,d,t,os⟩:=by
 have hT:(⟨h,g,d,t,os⟩:Shared).TypeIs (.ref a) "list":=⟨_,hx,rfl⟩
 have f2:=F.slot_list_getattribute.lookup
 have f3:=F.slot_list_getattribute.bind (.ref a)
 repeat (any_goals (first | assumption | wp_step))
 refine EC (tk:=tk) hh hx fun h' e t' hk he=>?_
 obtain ⟨oe,he,hc⟩:=he
 have hE:(⟨h',g,d,t',os⟩:Shared).TypeIs (.ref e) "AttributeError":=⟨_,he,hc⟩
 have hq':=hq h' e t' hk ⟨oe,he,hc⟩
 have f5:isSubtype (.type "AttributeError") (.type "AttributeError")=pure true:=by rw [isSubtype_type];kernel_rfl
 have f6:typeLookup (.type "list") "__getattr__"=pure none:=by rw [typeLookup_type,builtinLookup_eq_fast];kernel_rfl
 dsimp only
 unfold getattributeRaised
 refine wpAny_bind (wpAny_isInstance hE f5 ?_)
 repeat (any_goals (first | assumption | wp_step))
theorem Ey {Q:Option Value->Shared->Prop} (hh:A.handled=none) {its:Array Value} {n:Nat} {sl:Array (Option Value)} (hx:h.get? a=some { cls:=.type "list",dict:=none,data:=.seq its n,slots:=sl })
  (hq:∀ h' t',(∀ b u,h.get? b=some u->h'.get? b=some u)->Q none ⟨h',g,d,t',os⟩):wpAny (model prog w) A (getAttr? (.ref a) "keys") Q E ⟨h,g,d,t,os⟩:=by
 unfold getAttr? getAttrBy?
 refine wpAny_bind (wpAny_mkText (wpAny_bind (wpAny_attempt (Jj hh hx fun h' e t' hk he=>?_))))
 obtain ⟨oe,he,hc⟩:=he
 have f5:isSubtype (.type "AttributeError") (.type "AttributeError")=pure true:=by rw [isSubtype_type];kernel_rfl
 refine wpAny_bind (wpAny_isInstance (⟨_,he,hc⟩:(⟨h',g,d,t',os⟩:Shared).TypeIs (.ref e) "AttributeError") f5 ?_)
 exact wpAny_pure (hq h' t' hk)
theorem BS {K:Type} [DecidableEq K] {knd:KeyKind prog w K} {R:Result->Shared->Prop} (hh:A.handled=none) (D it l:Addr) (hl:l≠it) (hD:D≠it) (items:Array Value) (rs:List (K × Value)) (hlen:rs.length=items.size) (hsz:items.size<=sizeLine)
  (hp:Heap->Prop) (hpk:∀ h h':Heap,hp h->(∀ b o,b≠D->b≠it->h.get? b=some o->h'.get? b=some o)->hp h') (hpair:∀ h,hp h->h.IsList l items/\∀ (i:Nat) x k v,items[i]?=some x->rs[i]?=some (k,v)->∃ p u,x=.ref p/\h.IsTuple p #[u,v]/\knd.is k u=true) :
  ∀ (n i:Nat) (s:Shared) (vs:List (K × Value)),i + n=items.size->s.heap.IsListIter it l i->hp s.heap->s.heap.DictOf knd D vs->vs.length<=i ->
   (∀ h' t',(∀ b o,b≠D->b≠it->s.heap.get? b=some o->h'.get? b=some o)->h'.DictOf knd D ((rs.drop i).foldl (fun m e=>stored m e.1 e.2) vs)->R (.ok (.ret .none)) { s with heap:=h',toks:=t' }) ->
   codeAny (model prog w) A (.builtin "dict.update.loop" ⟨[.ref D,.ref it,rawInt i,.none],[]⟩) R s
 | 0,i,s,vs,hi,hit,hP,hd,hvl,hq=>by
  refine codeAny_builtin (entryFor_of_tree (by kernel_rfl):entryFor table "dict.update.loop"=some Builtin.«dict.update.loop») ?_
  show wpAny _ _ (pyNext (.ref it) >>= _) _ _ _
  have hx:items[i]?=none:=by simp;omega
  refine wpAny_bind (wpAny_pyNext_list_end (show (A.under _).handled=none from hh) hit (hpair _ hP).1 hx fun h' he=>?_)
  show wpAny _ _ (Builtin.Dict.addKeywords D [] >>= _) _ _ _
  refine wpAny_bind (wpAny_pure (wpAny_pure ?_))
  refine hq h' s.toks (fun b o _ hb e=>he b o hb e) ?_
  rw [List.drop_of_length_le (by omega)]
  obtain ⟨o,es,ep,ho,r⟩:=hd
  exact ⟨o,es,ep,he _ _ hD ho,r⟩
 | n + 1,i,s,vs,hi,hit,hP,hd,hvl,hq=>by
  refine codeAny_builtin (entryFor_of_tree (by kernel_rfl):entryFor table "dict.update.loop"=some Builtin.«dict.update.loop») ?_
  show wpAny _ _ (pyNext (.ref it) >>= _) _ _ _
  have hlt:i < items.size:=by omega
  have hx:items[i]?=some items[i]:=by simp [hlt]
  have hr:rs[i]?=some rs[i]:=by simp [show i < rs.length by omega]
  obtain ⟨p,u,ep,hpt,hku⟩:=(hpair _ hP).2 i _ rs[i].1 rs[i].2 hx hr
  refine wpAny_bind (wpAny_pyNext_list_item hit (hpair _ hP).1 hx fun h1 hit1 hs1=>?_)
  have k1:∀ b o,b≠D->b≠it->s.heap.get? b=some o->h1.get? b=some o:=fun b o _ hb e=>hs1.extBut b o hb e
  have hP1:=hpk _ _ hP k1
  obtain ⟨p1,u1,ep1,hpt1,hku1⟩:=(hpair _ hP1).2 i _ rs[i].1 rs[i].2 hx hr
  have nY:h1.DictOf knd D vs:=by
   obtain ⟨o,es,ep,ho,r⟩:=hd
   exact ⟨o,es,ep,hs1.extBut _ _ hD ho,r⟩
  rw [ep1]
  dsimp only
  refine wpAny_bind ?_
  refine wpAny_holding ?_
  unfold Builtin.Dict.pairItems
  obtain ⟨o1,ho1,hc1,m1,hd1'⟩:=hpt1
  refine wpAny_bind (wpAny_tryCatch ?_)
  refine wpAny_bind (wpAny_typeOf (⟨_,ho1,hc1⟩:(⟨h1,s.gens,s.drawn,s.toks,s.os⟩:Shared).TypeIs (.ref p1) "tuple") ?_)
  rw [if_pos (by decide)]
  refine wpAny_bind (wpAny_seqItems ho1 hd1' (wpAny_pure ?_))
  show wpAny _ _ (holding [u1,rs[i].2] (dictSet D u1 rs[i].2)) _ _ _
  refine wpAny_holding (wpAny_dictSet_pairs (knd:=knd) hku1 nY (fun h2 hd2 hs2=>?_) (by omega))
  have k2:∀ b o,b≠D->b≠it->s.heap.get? b=some o->h2.get? b=some o:=fun b o hb hb' e=>hs2.extBut b o hb (k1 b o hb hb' e)
  have hit2:h2.IsListIter it l (i + 1):=hit1.at fun o e=>hs2.extBut it o hD.symm e
  refine wpAny_pure ⟨Code.quiet_builtin _ (by decide +kernel),?_⟩
  have hst:(stored vs rs[i].1 rs[i].2).length<=i + 1:=by
   have:=stored_length_le vs rs[i].1 rs[i].2
   omega
  have hcast:rawInt ((i:Int) + 1)=rawInt ((i + 1:Nat):Int):=by push_cast;rfl
  rw [hcast]
  refine BS hh D it l hl hD items rs hlen hsz hp hpk hpair n (i + 1) _ _ (by omega) hit2 (hpk _ _ hP k2) hd2 hst fun h' t' kk dd=>?_
  refine hq h' t' (fun b o hb hb' e=>kk b o hb hb' (k2 b o hb hb' e)) ?_
  rw [List.drop_eq_getElem_cons (show i < rs.length by omega),List.foldl_cons]
  exact dd
theorem zP {K:Type} [DecidableEq K] {knd:KeyKind prog w K} {s:Shared} {Q:Value->Shared->Prop} (hh:A.handled=none) {l:Addr} {items:Array Value} {n:Nat} {sl:Array (Option Value)} (rs:List (K × Value))
  (hx:s.heap.get? l=some { cls:=.type "list",dict:=none,data:=.seq items n,slots:=sl }) (hlen:rs.length=items.size) (hsz:items.size<=sizeLine)
  (hpair:∀ (i:Nat) x k v,items[i]?=some x->rs[i]?=some (k,v)->∃ p u,x=.ref p/\s.heap.IsTuple p #[u,v]/\knd.is k u=true)
  (hq:∀ h' t',(∀ b o,s.heap.get? b=some o->h'.get? b=some o)->h'.DictOf knd s.heap.objs.size (merged [] rs)->Q (.ref s.heap.objs.size) { s with heap:=h',toks:=t' }) :
  wpAny (model prog w) A (call (.type "dict") [.ref l]) Q E s:=by
 refine callType_codes (Q₁:=fun obj s₁=>obj=.ref s.heap.objs.size/\s₁={ s with heap:=s.heap.push { cls:=.type "dict",data:=.dict #[] } }) F.kt_called_dict (F.kt_typeCall_dict_1 _) F.entry_dict_init (kt_code_dict_new _ ⟨rfl,rfl⟩) ?_
 rintro obj s₁ ⟨rfl,rfl⟩
 have hnew:(s.heap.push { cls:=.type "dict",data:=.dict #[] }).DictOf knd s.heap.objs.size []:=Heap.DictOf.new s.heap
 have hl1:(s.heap.push { cls:=.type "dict",data:=.dict #[] }).get? l=some _:=Heap.get?_push_of_some _ hx
 have hk0:∀ b o,s.heap.get? b=some o->(s.heap.push { cls:=.type "dict",data:=.dict #[] }).get? b=some o:=fun b o e=>Heap.get?_push_of_some _ e
 have hD0:∀ b o,s.heap.get? b=some o->b≠s.heap.objs.size:=fun b o e=>Nat.ne_of_lt (Heap.lt_size e)
 generalize (s.heap.push { cls:=.type "dict",data:=.dict #[] })=h0 at hnew hl1 hk0 ⊢
 generalize hDD:s.heap.objs.size=D at *
 refine ⟨hnew.typeIs,F.args_dict_init_2 _ _,?_⟩
 unfold Builtin.«dict.__init__»
 refine wpAny_bind ?_
 unfold Builtin.Dict.selfAndRest
 refine wpAny_bind (wpAny_notOrdered_dict hnew.typeIs ?_)
 show wpAny _ _ (pure (D,[Value.ref l])) _ _ _
 refine wpAny_pure ?_
 show wpAny _ _ (Builtin.Dict.updateFrom "dict.__init__" D (.ref l) [] .none) _ _ _
 unfold Builtin.Dict.updateFrom
 refine wpAny_bind (wpAny_typeOf (⟨_,hl1,rfl⟩:(⟨h0,s.gens,s.drawn,s.toks,s.os⟩:Shared).TypeIs (.ref l) "list") ?_)
 rw [if_pos (by decide)]
 refine wpAny_bind (Ey (show (A.in1).handled=none from hh) hl1 fun h1 t1 hk1=>?_)
 simp only [Option.isNone_none,if_true]
 have hL1:(⟨h1,s.gens,s.drawn,t1,s.os⟩:Shared).heap.IsList l items:=⟨_,hk1 _ _ hl1,rfl,n,rfl⟩
 refine wpAny_bind (wpAny_rule (wpAny_bind (wpAny_pyIter_list hL1 (wpAny_pure ⟨Code.quiet_builtin _ (by decide +kernel),?_⟩))))
 have hltl:l < h1.objs.size:=Heap.lt_size (hk1 _ _ hl1)
 have hDlt:D < h1.objs.size:=by
  obtain ⟨o,es,ep,ho,_⟩:=hnew
  exact Heap.lt_size (hk1 _ _ ho)
 have hall:∀ b o,s.heap.get? b=some o->(h1.push { cls:=.type "list_iterator",data:=.fields #[.ref l,.int 0 0] }).get? b=some o:=fun b o e=>Heap.get?_push_of_some _ (hk1 _ _ (hk0 _ _ e))
 have hdd:(h1.push { cls:=.type "list_iterator",data:=.fields #[.ref l,.int 0 0] }).DictOf knd D []:=by
  obtain ⟨o,es,ep,ho,r⟩:=hnew
  exact ⟨o,es,ep,Heap.get?_push_of_some _ (hk1 _ _ ho),r⟩
 have hit:(h1.push { cls:=.type "list_iterator",data:=.fields #[.ref l,.int 0 0] }).IsListIter h1.objs.size l 0:=⟨_,Heap.get?_push_size _ rfl,rfl,rfl⟩
 have hnit:∀ b o,s.heap.get? b=some o->b≠h1.objs.size:=fun b o e=>Nat.ne_of_lt (Heap.lt_size (hk1 _ _ (hk0 _ _ e)))
 refine BS (A:=A.in1) (knd:=knd) (show (A.in1).handled=none from hh) D h1.objs.size l (Nat.ne_of_lt hltl) (Nat.ne_of_lt hDlt) items rs hlen hsz (fun h=>∀ b o,s.heap.get? b=some o->h.get? b=some o)
  (fun h h' a k b o e=>k b o (hD0 b o e) (hnit b o e) (a b o e)) (fun h a=>⟨⟨_,a _ _ hx,rfl,n,rfl⟩,fun i x k v e e'=>?_⟩) items.size 0 _ [] (by omega) hit hall hdd (Nat.le_refl _) fun h' t' kk dd=>?_
 ·obtain ⟨p,u,e1,⟨o,e2,r⟩,e3⟩:=hpair i x k v e e'
  exact ⟨p,u,e1,⟨o,a _ _ e2,r⟩,e3⟩
 ·refine ⟨rfl,hq h' t' (fun b o e=>kk b o (hD0 b o e) (hnit b o e) (hall b o e)) ?_⟩
  rw [List.drop_zero] at dd
  exact dd
end
end PySem
namespace L2
open PySem PySem.Spec PyProof.Rows
theorem Hb {X:Cx} (hc:X.calm=true):mF X (.type "dict") (fun xs H Q=>∃ (a:Addr) (ps:List V) (kvs:List (Key × V)),xs=[V.ref a]/\eC X.K H a ps/\ps.length=kvs.length /\
  (∀ (i:Nat) (p:V) (kv:Key × V),ps[i]?=some p->kvs[i]?=some kv->∃ b,p=.ref b/\fH X.K H b [kV kv.1,kv.2])/\∀ q,H q=none->Q (.ref q) (upd H q (.dK (n4 [] kvs)))):=by
 intro pins s σ H xs us Q I r h
 obtain ⟨a,ps,kvs,rfl,ha,hl,hp,q⟩:=h
 obtain ⟨u,rfl,ru⟩:=vals1 r
 cases ru
 obtain ⟨its,rv,⟨o,n,ho,hcl,hdi,hda⟩,hz⟩:=I.list ha
 have hob:o={ cls:=.type "list",dict:=none,data:=.seq its.toArray n,slots:=o.slots }:=by
  obtain ⟨c,d,da,sl⟩:=o
  cases hcl;cases hdi;cases hda;rfl
 rw [hob] at ho
 have one:∀ (i:Nat) (x:Value) (kv:Key × V),its[i]?=some x->kvs[i]?=some kv->∃ p u v,x=.ref p/\s.heap.IsTuple p #[u,v]/\RelV (kV kv.1) u/\RelV kv.2 v:=fun i x kv e e'=>by
  obtain ⟨z,e2⟩:∃ z,ps[i]?=some z:=by
   have:i < ps.length:=by rw [hl];exact (List.getElem?_eq_some_iff.mp e').1
   exact ⟨ps[i],by simp [this]⟩
  obtain ⟨b,rfl,hb⟩:=hp i z kv e2 e'
  obtain ⟨x',e3,rx⟩:=rv.get e2
  rw [e] at e3;cases e3
  cases rx
  obtain ⟨its2,rv2,pt,_⟩:=I.tuple hb
  obtain ⟨u,v,rfl,r1,r2⟩:=vals2 rv2
  exact ⟨b,u,v,rfl,pt,r1,r2⟩
 have hlen:=rv.length
 have mk:∃ rs:List (Key × Value),KV kvs rs/\rs.length=its.length/\∀ (i:Nat) x k v,its[i]?=some x->rs[i]?=some (k,v)->∃ p u,x=.ref p/\s.heap.IsTuple p #[u,v]/\(cV X.prog X.w).is k u=true:=by
  have go:∀ (kvs:List (Key × V)) (its:List Value),kvs.length=its.length->(∀ (i:Nat) (x:Value) (kv:Key × V),its[i]?=some x->kvs[i]?=some kv->∃ p u v,x=.ref p/\s.heap.IsTuple p #[u,v]/\RelV (kV kv.1) u/\RelV kv.2 v) ->
    ∃ rs:List (Key × Value),KV kvs rs/\rs.length=its.length/\∀ (i:Nat) x k v,its[i]?=some x->rs[i]?=some (k,v)->∃ p u,x=.ref p/\s.heap.IsTuple p #[u,v]/\(cV X.prog X.w).is k u=true:=by
   intro kvs
   induction kvs with
   | nil=>intro its hl _;cases its with
    | nil=>exact ⟨[],.nil,rfl,fun i x k v e=>by simp at e⟩
    | cons a b=>cases hl
   | cons kv r ih=>intro its hl hh;cases its with
    | nil=>cases hl
    | cons x xs =>
     obtain ⟨p,u,v,rfl,pt,r1,r2⟩:=hh 0 x kv rfl rfl
     obtain ⟨rs,k1,k2,k3⟩:=ih xs (by simpa using hl) fun i x kv e e'=>hh (i + 1) x kv (by simpa using e) (by simpa using e')
     refine ⟨(kv.1,v) :: rs,.cons ⟨rfl,r2⟩ k1,by simp [k2],fun i x k w e e'=>?_⟩
     cases i with
     | zero=>cases e;cases e';exact ⟨p,u,rfl,pt,t5 r1⟩
     | succ i=>exact k3 i x k w (by simpa using e) (by simpa using e')
  exact go kvs its (by omega) one
 obtain ⟨rs,rk,rl,rp⟩:=mk
 refine zP (knd:=cV X.prog X.w) (I.ok.hd hc) rs ho (by simpa using rl) (by simp;omega) (fun i x k v e e'=>rp i x k v (by simpa using e) e') fun h' t' kp dd=>?_
 refine ⟨.ref s.heap.objs.size,_,I.laid (t':=t') kp (Nat.le_refl _) (show dO X.prog X.w _ h' _ (.dK (n4 [] kvs)) from ⟨?_,?_,_,rk.merge .nil,dd⟩),rfl,q _ (I.hok.fresh (Nat.le_refl _))⟩
 ·have:=uS kvs []
  simp at this
  omega
 ·have:=I.big
  simp only [beq_eq_false_iff_ne]
  exact Nat.ne_of_gt this
end L2
namespace U2
open PySem PySem.Spec PyProof.Rows L2
def pY (kvs more:List (Key × U)):List (Key × U):=more.foldl (fun acc kv=>fW acc kv.1 kv.2) kvs
noncomputable def DN:List U->aE->UK->Prop:=fun us M Q=>match us with
 | [x]=>match view M x with
  | .lst es=>∃ kvs:List (Key × U),es=kvs.map (fun e=>.tup [kU e.1,e.2])/\∀ p,M p=none->Q (.ref p) (mup M p (.dK (pY [] kvs)))
  | _=>False
 | _=>False
theorem bX.merge {K:PySem.W.Frag} {H:Hp} {M:aE}:∀ {more:List (Key × U)} {ws:List (Key × V)} {kvs:List (Key × U)} {vs:List (Key × V)},bX K H M more ws->bX K H M kvs vs->bX K H M (pY kvs more) (n4 vs ws)
 | [],_,_,_,.nil,r=>r
 | p :: more,q :: ws,kvs,vs,.cons h t,r=>by
  obtain ⟨h1,h2⟩:=h
  show bX K H M (pY (fW kvs p.1 p.2) more) (n4 (putK vs q.1 q.2) ws)
  rw [<- h1]
  exact bX.merge t (r.put p.1 h2)
theorem BO {K:PySem.W.Frag} {H:Hp} {M:aE}:∀ {kvs:List (Key × U)} {vs:List V},aJ K H M (kvs.map fun e=>U.tup [kU e.1,e.2]) vs ->
  ∃ ws:List (Key × V),bX K H M kvs ws/\vs.length=ws.length/\∀ (i:Nat) (p:V) (kv:Key × V),vs[i]?=some p->ws[i]?=some kv->∃ b,p=.ref b/\fH K H b [kV kv.1,kv.2]
 | [],vs,r=>by
  have:=r.length
  simp at this
  cases vs with
  | nil=>exact ⟨[],.nil,rfl,fun i p kv e=>by simp at e⟩
  | cons a b=>cases this
 | e :: kvs,vs,r=>by
  rw [List.map_cons] at r
  obtain ⟨v,vs',rfl,a,b⟩:=r.inv_cons
  obtain ⟨ws,k1,k2,k3⟩:=BO b
  obtain ⟨b0,zvs,rfl,s2,r2⟩:=a.tup
  obtain ⟨v1,r',rfl,a1,b1⟩:=r2.inv_cons
  obtain ⟨v2,rfl,a2⟩:=b1.one
  have hk:=uH a1 (EU e.1)
  subst hk
  refine ⟨(e.1,v2) :: ws,.cons ⟨rfl,a2⟩ k1,by simp [k2],fun i p kv h h'=>?_⟩
  cases i with
  | zero=>cases h;cases h';exact ⟨b0,rfl,s2⟩
  | succ i=>exact k3 i p kv (by simpa using h) (by simpa using h')
theorem Nx {D:Dat}:xG D (.type "dict") DN:=⟨⟨_,fun X h=>by have:=Hb (X:=X) h.calm;rw [h.K] at this;exact this,fun xs us H M Q' rm rus h Q c=>by
 unfold DN at h
 split at h
 ·rename_i x
  obtain ⟨v,rfl,a1⟩:=rus.one
  split at h
  ·rename_i es e
   obtain ⟨kvs,rfl,h⟩:=h
   obtain ⟨a,vs,rfl,s1,r1⟩:=eO rm a1 e
   obtain ⟨ws,k1,k2,k3⟩:=BO r1
   refine ⟨a,vs,ws,rfl,s1,k2,k3,fun p hp=>?_⟩
   have st:aS H M (upd H p (.dK (n4 [] ws))) (mup M p (.dK (pY [] kvs))):=aS.own rm hp
   exact c (.ref p) _ _ _ st (rm.put st ⟨_,cK,(bX.merge k1 .nil).stp st⟩) m6 (h p (rm.no hp))
  ·exact h.elim
 ·exact h.elim⟩⟩
end U2
namespace U2
open PySem PySem.Spec PyProof.Rows L2
noncomputable def Sr:Int->List Int->Int
 | m,[]=>m
 | m,n :: ns=>Sr (if n < m then n else m) ns
section
variable {X:Cx}
end
end U2
namespace U2
open PySem PySem.Spec PyProof.Rows L2
section
variable {prog:Program} {w:World} {A:Around} {E:Value->Shared->Prop} {s:Shared} {r:Addr} {a b:Int} {t u v:Tok}
end
section
variable {X:Cx} {tg a b e:Expr} {ta:TA} {te:TE} {p pos:Pos}
end
section
variable {D:Dat} {tg a b:Expr} {p p2 pos pos2:Pos} {ta:UA}
end
end U2
namespace U2
open PySem PySem.Spec PyProof.Rows L2
section
variable {prog:Program} {w:World} {A:Around} {E:Value->Shared->Prop} {s:Shared}
end
section
variable {prog:Program} {w:World} {A:Around} {E:Value->Shared->Prop} {s:Shared}
end
theorem F6 {α β:Type} (f:α->Bool) (g:β->Bool):∀ (l:List α) (m:List β),l.length=m.length->(∀ (i:Nat) a b,l[i]?=some a->m[i]?=some b->f a=g b)->l.countP f=m.countP g
 | [],[],_,_=>rfl
 | [],_ :: _,h,_=>by cases h
 | _ :: _,[],h,_=>by cases h
 | a :: l,b :: m,h,k=>by
  rw [List.countP_cons,List.countP_cons,k 0 a b rfl rfl,F6 f g l m (by simpa using h) fun i a b h1 h2=>k (i + 1) a b h1 h2]
noncomputable def wZ:List U->Option (List Int)
 | []=>some []
 | .int b :: r=>(wZ r).map (b :: ·)
 | _=>none
theorem IV {K:PySem.W.Frag} {H:Hp} {M:aE}:∀ {us:List U} {vs:List V} {bs:List Int},aJ K H M us vs->wZ us=some bs->vs=bs.map V.int
 | [],_,_,r,h=>by cases h;exact r.inv_nil
 | u :: us,_,bs,r,h=>by
  obtain ⟨v,vs',rfl,a,b⟩:=r.inv_cons
  cases u with
  | int y =>
   simp only [wZ] at h
   cases e:wZ us with
   | none=>rw [e] at h;cases h
   | some cs =>
    rw [e] at h
    cases h
    rw [IV b e,a.int];rfl
  | _=>cases h
theorem JK:∀ l:List Int,wZ (l.map U.int)=some l
 | []=>rfl
 | a :: l=>by simp only [List.map_cons,wZ,JK l,Option.map_some]
end U2
namespace L2
open PySem
theorem HD {q:List Value->Prop} (h:q []) (us:List Value) (e:us.length=0):q us:=by rw [List.length_eq_zero_iff.mp e];exact h
theorem pW {n:Nat} {q:List Value->Prop} (h:∀ x us,us.length=n->q (x :: us)) (us:List Value) (e:us.length=n + 1):q us:=by
 cases us with
 | nil=>cases e
 | cons x r=>exact h x r (Nat.succ.inj e)
abbrev Ar:=Value->Value->Value->Option Addr->Value->Value->List Value->Prop
theorem vH {p:Ar} (h:∀ a b c d e g x0,p a b c d e g [x0]) (a b c d e g):∀ us,us.length=1->p a b c d e g us:=pW fun x0=>HD (h a b c d e g x0)
theorem qY {p:Ar} (h:∀ a b c d e g x0 x1,p a b c d e g [x0,x1]) (a b c d e g):∀ us,us.length=2->p a b c d e g us:=pW fun x0=>pW fun x1=>HD (h a b c d e g x0 x1)
theorem D9 {p:Ar} (h:∀ a b c d e g x0 x1 x2,p a b c d e g [x0,x1,x2]) (a b c d e g):∀ us,us.length=3->p a b c d e g us:=pW fun x0=>pW fun x1=>pW fun x2=>HD (h a b c d e g x0 x1 x2)
theorem O8 {p:Ar} (h:∀ a b c d e g x0 x1 x2 x3,p a b c d e g [x0,x1,x2,x3]) (a b c d e g):∀ us,us.length=4->p a b c d e g us:=pW fun x0=>pW fun x1=>pW fun x2=>pW fun x3=>HD (h a b c d e g x0 x1 x2 x3)
theorem Sb {p:Ar} (h:∀ a b c d e g x0 x1 x2 x3 x4,p a b c d e g [x0,x1,x2,x3,x4]) (a b c d e g):∀ us,us.length=5->p a b c d e g us:=pW fun x0=>pW fun x1=>pW fun x2=>pW fun x3=>pW fun x4=>HD (h a b c d e g x0 x1 x2 x3 x4)
end L2
namespace U2
open PySem PySem.Spec PyProof.Rows L2
theorem gQ {N P:List Str} {sc:Scope} (a:sc.kind=.function:=by rfl) (b:sc.isCoroutine=false:=by rfl) (c:sc.isGenerator=false:=by rfl) (d:N.Nodup:=by decide +kernel) (e:N.take P.length=P:=by rfl) (f:∀ x∈P,sc.names.lookup x=some .local\/sc.names.lookup x=some .cell:=by decide +kernel) (g:∀ y∈sc.names,y.2≠.free:=by decide +kernel):bE N P sc:=⟨a,b,c,d,e,f,g⟩
theorem nk {xs:List U} {I:Nat->SU->aE->Prop}:∀ i τ M,I i τ M->(Src.mk none xs).ok M:=fun _ _ _ _ _ e=>nomatch e
theorem bP {P:Program} {w:World} {K:PySem.W.Frag} {mg:Str->Option Value} {base:Heap} {x:Str} {st:Stmt} {f:Addr} {fd:FuncData} {N ps:List Str} {k:Nat} {sp:dB} {t:US} (F:dM K x x st f fd) (hm:mg x=some (.ref f)) (S:bE N ps (aT st))
  (bind:∀ (kV doc pm:Value) (an:Option Addr) (cdv ct:Value) (us:List Value),us.length=ps.length->bindArgs (PySem.W.fnOf x x (k9 st) (gG st) (aT st) .none kV doc pm an cdv ct) ⟨us,[]⟩=pure (ps.zip us))
  (h:pD ⟨P,w,K,mg,base,N,aT st,k,true,.none,""⟩ (gG st) t)
  (q:∀ us M Q,sp us M Q->us.length=ps.length/\t { nx:=fun _ M'=>sJ Q .non M',rt:=sJ Q } (iM N us) M):Callee P w K mg base (k + 1) x sp [] :=
 IL F hm S bind (fun us M Q hs=>(q us M Q hs).1) h (fun us M Q hs=>(q us M Q hs).2)
end U2
namespace L2
open PySem PyProof PyProof.Rows
variable {X:Cx}
noncomputable def MI (i j k:Nat) (ta:TA):TS:=fun D σ H=>ta σ H fun vs H1=>∃ u v w,vs=[u,v,w]/\D.nx (((σ.set k (some w)).set j (some v)).set i (some u)) H1
theorem N0 {i j k:Nat} {x y z:Str} {a b c:Expr} {ta:TA} {pos px py pz pt pt2:Pos} {kt k2:Nat} (hc:X.calm=true) (hN:X.N.Nodup) (hi:X.N[i]?=some x) (hj:X.N[j]?=some y) (hk:X.N[k]?=some z)
  (hx:X.env.scope.names.lookup x=some .local) (hy:X.env.scope.names.lookup y=some .local) (hz:X.env.scope.names.lookup z=some .local) (ha:PA X [a,b,c] ta)
  (hw:swappedStores [.Tuple [.Name x px,.Name y py,.Name z pz] kt pt] (.Tuple [a,b,c] k2 pt2) X.env=pure (some [x,y,z]))
  (hs:swapsWithSole [.Tuple [.Name x px,.Name y py,.Name z pz] kt pt] (.Tuple [a,b,c] k2 pt2) pos.line X.env=pure false) :
  PS X (.Assign [.Tuple [.Name x px,.Name y py,.Name z pz] kt pt] (.Tuple [a,b,c] k2 pt2) pos) (MI i j k ta):=by
 intro pins s σ H D I h
 refine Assign_Tuple_swapped (names:=[x,y,z]) (Tuple_ (bF (ha _ pins s σ H _ I h) fun us s1 ⟨vs,H1,I1,r1,q1⟩=>?_)) hs hw
 obtain ⟨u,v,w,rfl,q1⟩:=q1
 obtain ⟨u1,u2,u3,rfl,ru,rv,rw'⟩:∃ u1 u2 u3,us=[u1,u2,u3]/\RelV u u1/\RelV v u2/\RelV w u3:=by
  cases r1 with
  | cons p q=>cases q with
   | cons p' q'=>cases q' with
    | cons p2 q2=>cases q2;exact ⟨_,_,_,rfl,p,p',p2⟩
 refine wpAny_newObj_type ?_ (by show 3<=sizeLine;decide)
 have I2:Inv X pins σ H1 { s1 with heap:=s1.heap.push { cls:=.type "tuple",data:=.seq [u1,u2,u3].toArray } }:=I1.kept (t':=s1.toks) fun b o e=>Heap.get?_push_of_some _ e
 refine unpackItems_tuple (items:=#[u1,u2,u3]) (I.ok.hd hc) (IsTup.new s1.heap _) fun h' hx'=>?_
 have I3:=I2.kept (h':=h') (t':=s1.toks) fun b o e=>hx' b o (Nat.ne_of_lt (Heap.lt_size e)) e
 show wpAny _ _ (assignInOrder [fun v=>bindName X.env z v,fun v=>bindName X.env y v,fun v=>bindName X.env x v] [u3,u2,u1]) _ _ _
 refine assignInOrder_cons (wpAny_bindName (pM I3 hN hk (.inl hz) rw' (fun s2 I4=>?_) (.inr hz)))
 refine assignInOrder_cons (wpAny_bindName (pM I4 hN hj (.inl hy) rv (fun s3 I5=>?_) (.inr hy)))
 exact assignInOrder_cons (wpAny_bindName (pM I5 hN hi (.inl hx) ru (fun s4 I6=>assignInOrder_nil ⟨_,H1,I6,q1⟩) (.inr hx)))
end L2
namespace U2
open PySem L2
noncomputable def Hh (i j k:Nat) (ta:UA):US:=fun D τ M=>ta τ M fun us M1=>∃ u v w,us=[u,v,w]/\D.nx (((τ.set k (some w)).set j (some v)).set i (some u)) M1
theorem LB {K:PySem.W.Frag} {i j k:Nat} {t:TA} {t':UA} (h:lH K t t'):kS K (MI i j k t) (Hh i j k t'):=fun σ τ H M D' rs rm q D d=>h σ τ H M _ rs rm q _ fun us vs M1 H1 s1 rm1 ru h1=>by
 obtain ⟨u,v,w,rfl,q⟩:=h1
 obtain ⟨p1,r1,rfl,a1,ru⟩:=ru.inv_cons
 obtain ⟨p2,r2,rfl,a2,ru⟩:=ru.inv_cons
 obtain ⟨p3,r3,rfl,a3,ru⟩:=ru.inv_cons
 have:=ru.inv_nil
 subst this
 exact ⟨_,_,_,rfl,d.nx _ _ H1 M1 s1 rm1 ((((rs.stp s1).set a3).set a2).set a1) q⟩
theorem Nu {D:Dat} (i j k:Nat) {x y z:Str} {a b c:Expr} {ta:UA} {pos px py pz pt pt2:Pos} {kt k2:Nat} (hN:D.N.Nodup) (ha:mT D [a,b,c] ta) (hi:D.N[i]?=some x:=by rfl) (hj:D.N[j]?=some y:=by rfl) (hk:D.N[k]?=some z:=by rfl)
  (hx:D.sc.names.lookup x=some .local:=by rfl) (hy:D.sc.names.lookup y=some .local:=by rfl) (hz:D.sc.names.lookup z=some .local:=by rfl)
  (hw:∀ env:Env,env.scope=D.sc->swappedStores [.Tuple [.Name x px,.Name y py,.Name z pz] kt pt] (.Tuple [a,b,c] k2 pt2) env=pure (some [x,y,z]):=by intro env h;simp only [swappedStores,Env.blockKind,Env.kindOf,h];rfl)
  (hs:∀ env,swapsWithSole [.Tuple [.Name x px,.Name y py,.Name z pz] kt pt] (.Tuple [a,b,c] k2 pt2) pos.line env=pure false:=by intro _;rfl) :
  pG D (.Assign [.Tuple [.Name x px,.Name y py,.Name z pz] kt pt] (.Tuple [a,b,c] k2 pt2) pos) (Hh i j k ta):=by
 obtain ⟨_,p,s⟩:=ha
 exact ⟨_,fun X h=>N0 h.calm (by rw [h.N];exact hN) (by rw [h.N];exact hi) (by rw [h.N];exact hj) (by rw [h.N];exact hk) (by rw [h.sc];exact hx) (by rw [h.sc];exact hy) (by rw [h.sc];exact hz) (p X h) (hw _ h.sc) (hs _),LB s⟩
end U2
namespace K34
open PySem L2 U2
def top (i:Nat):Stmt:=PySem.Challenge.pw_rowsmith_k34_like_tiles_multiply.main.body.getD i (.Pass ⟨0,0,0,0⟩)
abbrev uG:Stmt:=top 2
theorem Eo:bE ["shape"] ["shape"] (aT uG):=gQ
abbrev jX:Stmt:=top 3
theorem fK:bE ["shape","found","number","part"] ["shape"] (aT jX):=gQ
abbrev tF:Stmt:=top 4
theorem nT:bE ["shape","place","here","number"] ["shape","place"] (aT tF):=gQ
abbrev m4:Stmt:=top 5
theorem Am:bE ["pattern","tree"] ["pattern","tree"] (aT m4):=gQ
abbrev u9:Stmt:=top 6
theorem Gg:bE ["tile"] ["tile"] (aT u9):=gQ
abbrev Bi:Stmt:=top 8
theorem Kw:bE ["tree"] ["tree"] (aT Bi):=gQ
abbrev yI:Stmt:=top 9
theorem IK:bE ["tree"] ["tree"] (aT yI):=gQ
abbrev u0:Stmt:=top 10
theorem Gr:bE ["tree","place"] ["tree","place"] (aT u0):=gQ
abbrev AX:Stmt:=top 12
theorem CL:bE ["pattern","found"] ["pattern"] (aT AX):=gQ
abbrev Ad:Stmt:=top 14
theorem Na:bE ["pattern","tree"] ["pattern","tree"] (aT Ad):=gQ
abbrev sX:Stmt:=top 16
theorem j0:bE ["table","tree","place","here","found","number","tile","spots"] ["table","tree","place"] (aT sX):=gQ
abbrev pU:Stmt:=top 17
theorem n8:bE ["table","tree","found","place"] ["table","tree"] (aT pU):=gQ
abbrev pQ:Stmt:=top 18
theorem uR:bE ["price","spots","values","joined","had"] ["price","spots","values","joined"] (aT pQ):=gQ
abbrev pJ:Stmt:=top 19
theorem d8:bE ["tiles","place","values","choices","joined","lowered","number","cls","price","spots","value"] ["tiles","place","values","choices","joined"] (aT pJ):=gQ
abbrev nF:Stmt:=top 20
theorem kC:bE ["table","tree","joined","values","choices","place"] ["table","tree","joined"] (aT nF):=gQ
abbrev nI:Stmt:=top 21
theorem iP:bE ["choices","cls","cover","waiting","spot","choice"] ["choices","cls"] (aT nI):=gQ
abbrev uN:Stmt:=top 22
theorem Ep:bE ["table","tree","values"] ["table","tree","values"] (aT uN):=gQ
abbrev lY:Stmt:=top 23
theorem lI:bE ["table","found","tile"] ["table"] (aT lY):=gQ
abbrev uK:Stmt:=top 24
theorem qF:bE ["found","key","price","count","had"] ["found","key","price","count"] (aT uK):=gQ
abbrev lE:Stmt:=top 25
theorem cU:bE ["table","cls","steps","found","waiting","chain","classes","joint","step"] ["table","cls"] (aT lE):=gQ
abbrev nD:Stmt:=top 27
theorem Az:bE ["price","prices"] ["price","prices"] (aT nD):=gQ
abbrev x6:Stmt:=top 28
theorem Ic:bE ["table","tree"] ["table","tree"] (aT x6):=gQ
abbrev AH:Stmt:=top 30
theorem D3:bE ["table","tree","cls","choices"] ["table","tree","cls"] (aT AH):=gQ
abbrev n6:Stmt:=top 31
theorem cR:bE ["tiles","below","found","number","cls","price","spots","had","ways","cost","count"] ["tiles","below"] (aT n6):=gQ
abbrev lR:Stmt:=top 32
theorem cO:bE ["table","tree","cls","chains","laid","found","place","first","kind","end","chain"] ["table","tree","cls"] (aT lR):=gQ
abbrev sZ:Stmt:=top 34
theorem iU:bE ["tape","many","spot","cell","some","rest"] ["tape","many"] (aT sZ):=gQ
abbrev oN:Stmt:=top 35
theorem rL:bE ["tape","left","room","way","one"] ["tape","left","room"] (aT oN):=gQ
abbrev tR:Stmt:=top 36
theorem lP:bE ["tape","tree","k"] ["tape"] (aT tR):=gQ
abbrev nQ:Stmt:=top 37
theorem mM:bE ["tree","sign","many","part"] ["tree","sign"] (aT nQ):=gQ
abbrev rM:Stmt:=top 38
theorem fI:bE ["tape","name","cls","pattern","most","low","many","more","found","k","cost","at"] ["tape","name","cls","pattern","most"] (aT rM):=gQ
abbrev oJ:Stmt:=top 39
theorem cH:bE ["script","tape","here","cls","names","one","cheap","sums","two","plain","turns","three","low","ways","four","more","table","tree","counts","due","many","times","k","cost","cover","some"] ["script"] (aT oJ):=gQ
section
variable {P:Program} {w:World} {K:PySem.W.Frag} {mg:Str->Option Value} {base:Heap} {f d d2 fl:Addr} {fd:FuncData}
inductive Op where
 | sum | less | by_
noncomputable def Op.word:Op->Str
 | .sum=>"sum" | .less=>"less" | .by_=>"by"
inductive Tr where
 | num (n:Int) | name (x:Str) | turn (a:Tr) | two (o:Op) (a b:Tr)
noncomputable def Tr.toU:Tr->U
 | .num n=>.tup [.str "num",.int n]
 | .name x=>.tup [.str "name",.str x]
 | .turn a=>.tup [.str "turn",a.toU]
 | .two o a b=>.tup [.str o.word,a.toU,b.toU]
def Tr.ok:Tr->Prop
 | .num _=>True
 | .name x=>PyData.strOk x=true/\x.length<=100
 | .turn a=>a.ok
 | .two _ a b=>a.ok/\b.ok
noncomputable def Tr.dep:Tr->Nat
 | .num _=>1
 | .name _=>1
 | .turn a=>a.dep + 1
 | .two _ a b=>max a.dep b.dep + 1
inductive Pt where
 | hole (c:Str) | any | fr (l h:Int) | turn (a:Pt) | two (o:Op) (a b:Pt)
noncomputable def Pt.toU:Pt->U
 | .hole c=>.tup [.str "at",.str c]
 | .any=>.tup [.str "any"]
 | .fr l h=>.tup [.str "from",.int l,.int h]
 | .turn a=>.tup [.str "turn",a.toU]
 | .two o a b=>.tup [.str o.word,a.toU,b.toU]
def Pt.ok:Pt->Prop
 | .hole c=>PyData.strOk c=true
 | .any=>True
 | .fr l h=>0<=l/\l<=h
 | .turn a=>a.ok
 | .two _ a b=>a.ok/\b.ok
noncomputable def Pt.dep:Pt->Nat
 | .hole _=>1
 | .any=>1
 | .fr _ _=>1
 | .turn a=>a.dep + 1
 | .two _ a b=>max a.dep b.dep + 1
noncomputable def Pt.holes:Pt->Nat
 | .hole _=>1
 | .any=>0
 | .fr _ _=>0
 | .turn a=>a.holes
 | .two _ a b=>a.holes + b.holes
noncomputable def Pt.leafy:Pt->Bool
 | .turn _=>false
 | .two _ _ _=>false
 | _=>true
noncomputable def Pt.ends:Pt->List Pt
 | .turn a=>a.ends
 | .two _ a b=>a.ends++b.ends
 | p=>[p]
instance:DecidableEq Op:=fun a b=>by cases a <;> cases b <;> first | exact isTrue rfl | exact isFalse (fun h=>nomatch h)
noncomputable def cN:Pt->Tr->Bool
 | .hole _,_=>true
 | .any,.name _=>true
 | .any,_=>false
 | .fr l h,.num n=>decide (l<=n) && decide (n<=h)
 | .fr _ _,_=>false
 | .turn p,.turn a=>cN p a
 | .turn _,_=>false
 | .two o p q,.two o' a b=>decide (o=o') && (cN p a && cN q b)
 | .two _ _ _,_=>false
theorem Op.word_inj {a b:Op}:a.word=b.word ↔ a=b:=by
 cases a <;> cases b <;> first | exact ⟨fun _=>rfl,fun _=>rfl⟩ | exact ⟨fun h=>absurd h (by decide +kernel),fun h=>nomatch h⟩
noncomputable def iS:List (Str × Fl):=[("turn",.int 1),("sum",.int 2),("less",.int 2),("by",.int 2)]
theorem RS (x y:Str):(x++y).cps.toList=x.cps.toList++y.cps.toList:=by
 show (x.cps++y.cps).toList=_
 simp
theorem small {n:Nat} (h:n<=100000):n<=sizeLine:=Nat.le_trans h (by decide)
theorem Fo {n:Nat} (h:n<=100000):(n<=sizeLine)=True:=eq_true (small h)
theorem L1:(Str.ofString "at"=Str.ofString "any")=False:=eq_false (by decide +kernel)
theorem JR:(Str.ofString "at"=Str.ofString "from")=False:=eq_false (by decide +kernel)
theorem HB:(Str.ofString "at"=Str.ofString "turn")=False:=eq_false (by decide +kernel)
theorem J3:(Str.ofString "at"=Str.ofString "num")=False:=eq_false (by decide +kernel)
theorem Hs:(Str.ofString "at"=Str.ofString "name")=False:=eq_false (by decide +kernel)
theorem K0:(Str.ofString "any"=Str.ofString "at")=False:=eq_false (by decide +kernel)
theorem GS:(Str.ofString "any"=Str.ofString "from")=False:=eq_false (by decide +kernel)
theorem G6:(Str.ofString "any"=Str.ofString "turn")=False:=eq_false (by decide +kernel)
theorem IY:(Str.ofString "any"=Str.ofString "num")=False:=eq_false (by decide +kernel)
theorem He:(Str.ofString "any"=Str.ofString "name")=False:=eq_false (by decide +kernel)
theorem Ji:(Str.ofString "from"=Str.ofString "at")=False:=eq_false (by decide +kernel)
theorem Gf:(Str.ofString "from"=Str.ofString "any")=False:=eq_false (by decide +kernel)
theorem Eg:(Str.ofString "from"=Str.ofString "turn")=False:=eq_false (by decide +kernel)
theorem GJ:(Str.ofString "from"=Str.ofString "num")=False:=eq_false (by decide +kernel)
theorem EB:(Str.ofString "from"=Str.ofString "name")=False:=eq_false (by decide +kernel)
theorem HG:(Str.ofString "turn"=Str.ofString "at")=False:=eq_false (by decide +kernel)
theorem GO:(Str.ofString "turn"=Str.ofString "any")=False:=eq_false (by decide +kernel)
theorem Ex:(Str.ofString "turn"=Str.ofString "from")=False:=eq_false (by decide +kernel)
theorem Hf:(Str.ofString "turn"=Str.ofString "num")=False:=eq_false (by decide +kernel)
theorem Er:(Str.ofString "turn"=Str.ofString "name")=False:=eq_false (by decide +kernel)
theorem Kj:(Str.ofString "num"=Str.ofString "at")=False:=eq_false (by decide +kernel)
theorem Ht:(Str.ofString "num"=Str.ofString "any")=False:=eq_false (by decide +kernel)
theorem FX:(Str.ofString "num"=Str.ofString "from")=False:=eq_false (by decide +kernel)
theorem Ha:(Str.ofString "num"=Str.ofString "turn")=False:=eq_false (by decide +kernel)
theorem Gm:(Str.ofString "num"=Str.ofString "name")=False:=eq_false (by decide +kernel)
theorem Ii:(Str.ofString "name"=Str.ofString "at")=False:=eq_false (by decide +kernel)
theorem FV:(Str.ofString "name"=Str.ofString "any")=False:=eq_false (by decide +kernel)
theorem Ea:(Str.ofString "name"=Str.ofString "from")=False:=eq_false (by decide +kernel)
theorem Ee:(Str.ofString "name"=Str.ofString "turn")=False:=eq_false (by decide +kernel)
theorem GF:(Str.ofString "name"=Str.ofString "num")=False:=eq_false (by decide +kernel)
theorem OJ (o:Op):(o.word=Str.ofString "at")=False:=eq_false (by cases o <;> decide +kernel)
theorem Np (o:Op):(o.word=Str.ofString "any")=False:=eq_false (by cases o <;> decide +kernel)
theorem Ka (o:Op):(o.word=Str.ofString "from")=False:=eq_false (by cases o <;> decide +kernel)
theorem JT (o:Op):(o.word=Str.ofString "turn")=False:=eq_false (by cases o <;> decide +kernel)
theorem Ng (o:Op):(o.word=Str.ofString "num")=False:=eq_false (by cases o <;> decide +kernel)
theorem Lu (o:Op):(o.word=Str.ofString "name")=False:=eq_false (by cases o <;> decide +kernel)
theorem Rb (o:Op):(Str.ofString "at"=o.word)=False:=eq_false (by cases o <;> decide +kernel)
theorem Oz (o:Op):(Str.ofString "any"=o.word)=False:=eq_false (by cases o <;> decide +kernel)
theorem J2 (o:Op):(Str.ofString "from"=o.word)=False:=eq_false (by cases o <;> decide +kernel)
theorem Kf (o:Op):(Str.ofString "turn"=o.word)=False:=eq_false (by cases o <;> decide +kernel)
theorem NS (o:Op):(Str.ofString "num"=o.word)=False:=eq_false (by cases o <;> decide +kernel)
theorem JW (o:Op):(Str.ofString "name"=o.word)=False:=eq_false (by cases o <;> decide +kernel)
theorem j9:(Str.ofString "at"=Str.ofString "any")=False/\(Str.ofString "at"=Str.ofString "from")=False/\(Str.ofString "at"=Str.ofString "turn")=False/\(Str.ofString "at"=Str.ofString "num")=False/\(Str.ofString "at"=Str.ofString "name")=False/\(Str.ofString "any"=Str.ofString "at")=False:=⟨L1,JR,HB,J3,Hs,K0⟩
theorem kD:(Str.ofString "any"=Str.ofString "from")=False/\(Str.ofString "any"=Str.ofString "turn")=False/\(Str.ofString "any"=Str.ofString "num")=False/\(Str.ofString "any"=Str.ofString "name")=False/\(Str.ofString "from"=Str.ofString "at")=False/\(Str.ofString "from"=Str.ofString "any")=False:=⟨GS,G6,IY,He,Ji,Gf⟩
theorem j8:(Str.ofString "from"=Str.ofString "turn")=False/\(Str.ofString "from"=Str.ofString "num")=False/\(Str.ofString "from"=Str.ofString "name")=False/\(Str.ofString "turn"=Str.ofString "at")=False/\(Str.ofString "turn"=Str.ofString "any")=False/\(Str.ofString "turn"=Str.ofString "from")=False:=⟨Eg,GJ,EB,HG,GO,Ex⟩
theorem kB:(Str.ofString "turn"=Str.ofString "num")=False/\(Str.ofString "turn"=Str.ofString "name")=False/\(Str.ofString "num"=Str.ofString "at")=False/\(Str.ofString "num"=Str.ofString "any")=False/\(Str.ofString "num"=Str.ofString "from")=False/\(Str.ofString "num"=Str.ofString "turn")=False:=⟨Hf,Er,Kj,Ht,FX,Ha⟩
theorem kE:(Str.ofString "num"=Str.ofString "name")=False/\(Str.ofString "name"=Str.ofString "at")=False/\(Str.ofString "name"=Str.ofString "any")=False/\(Str.ofString "name"=Str.ofString "from")=False/\(Str.ofString "name"=Str.ofString "turn")=False/\(Str.ofString "name"=Str.ofString "num")=False:=⟨Gm,Ii,FV,Ea,Ee,GF⟩
theorem kF:(∀ o:Op,(o.word=Str.ofString "at")=False)/\(∀ o:Op,(o.word=Str.ofString "any")=False)/\(∀ o:Op,(o.word=Str.ofString "from")=False)/\(∀ o:Op,(o.word=Str.ofString "turn")=False)/\(∀ o:Op,(o.word=Str.ofString "num")=False)/\(∀ o:Op,(o.word=Str.ofString "name")=False):=⟨OJ,Np,Ka,JT,Ng,Lu⟩
theorem kA:(∀ o:Op,(Str.ofString "at"=o.word)=False)/\(∀ o:Op,(Str.ofString "any"=o.word)=False)/\(∀ o:Op,(Str.ofString "from"=o.word)=False)/\(∀ o:Op,(Str.ofString "turn"=o.word)=False)/\(∀ o:Op,(Str.ofString "num"=o.word)=False)/\(∀ o:Op,(Str.ofString "name"=o.word)=False):=⟨Rb,Oz,J2,Kf,NS,JW⟩
theorem o5 {neg:Bool} {i j:Int} {M:aE} {Q:UK}:A8 neg (.int i) (.int j) M Q=Q (.bl (if neg then !decide (i=j) else decide (i=j))) M:=rfl
theorem o6 {neg:Bool} {i j:Str} {M:aE} {Q:UK}:A8 neg (.str i) (.str j) M Q=Q (.bl (if neg then !decide (i=j) else decide (i=j))) M:=rfl
theorem big {k:Nat} (h:k < 100000):k < sizeLine:=Nat.lt_of_lt_of_le h (by decide)
noncomputable def fT:dB:=fun us M Q=>∃ (z:Str) (r:List U) (b:Bool),us=[.tup (.str z :: r)]/\(eE iS z).isSome=b/\r.length<=1000/\Q (.tup (if b then r else [])) M
end
local macro_rules | `(tactic| simp! only [$xs,*] $[$l]?) => `(tactic| simp only [$xs,*, AD, AL, AR, AV, Ab, B3, B4, BW, Be, Bool.false_eq_true, Bool.not_false, Bool.not_true, Bp, C9, CU, DH, EG, FK, FN, Fh, Fo, List.append_nil, List.cons_append, List.getElem?_cons_succ, List.getElem?_cons_zero, List.length_cons, List.length_nil, List.map_cons, List.map_nil, List.nil_append, List.replicate, List.set_cons_succ, List.set_cons_zero, Nat.add_sub_cancel, Nat.reduceAdd, Nat.reduceLeDiff, Nat.reduceSub, Nat.sub_self, Option.getD_some, Option.some.injEq, aG, and_true, at2, bN, cY, dJ, decide_false, decide_true, eD, eG, eP, eQ, eT, exists_eq_left', fC, fF, fR, gH, gI, gJ, gL, gM, gN, gT, gY, gZ, hC, hJ, hX, hZ, i4, i5, i8, iA, iC, iE, iF, iG, iH, iI, iL, iM, iW, iY, iZ, if_false, if_true, items, jA, jC, jD, jE, jG, jH, jS, jT, jU, jW, k7, kK, kW, l0, l5, l8, mG, nU, o5, o6, oG, oI, oM, oQ, pB, pO, pR, qB, qI, qK, qO, qR, qS, qT, qV, rG, rP, rZ, reduceCtorEq, sH, sL, sO, sQ, sR, t4, tB, tP, tZ, true_and, u7, uA, uC, uI, uM, uY, v7, v9, vC, vK, vL, vO, vU, vY, w4, wA, wC, wD, wG, wM, wO, wV, xB, xI, yB, zZ] $[$l]?)
local macro_rules | `(tactic| dsimp! only [$xs,*] $[$l]?) => `(tactic| simp! only [$xs,*, P5, RJ, RK, aF, bC, eW, fD, gU, hName, j6, jB, kY, tO, vR] $[$l]?)
local macro_rules | `(tactic| simp_all! only [$xs,*]) => `(tactic| simp! only [$xs,*, Mm, Mp, bO, bQ, dA, nO, qC, rW, vZ])
section
variable {P:Program} {w:World} {K:PySem.W.Frag} {mg:Str->Option Value} {base:Heap} {f d d2 fl:Addr} {fd:FuncData}
theorem Eb (F:dM K "parts_of" "parts_of" uG f fd) (hm:mg "parts_of"=some (.ref f)) (Bx:zT P w K d iS) (By:mg "SIGNS"=some (.ref d)):Callee P w K mg base 1 "parts_of" fT []:=by
 refine bP F hm Eo (vH fun _ _ _ _ _ _ _=>rfl) (aI (bJ (Cq (dC (Nj Bx) (aQ (uv 0) aP) (DX By)) (vA (own:=false) (uv 0) (sM aP) sG) (bD aB)))) ?_
 rintro us M Q ⟨z,r,b,rfl,hb,hl,q⟩
 refine ⟨rfl,?_⟩
 dsimp! only [hb]
 cases b with
 | true =>
  dsimp! only [Si]
  exact aY q
 | false =>
  dsimp! only [true_and]
  exact aY q
theorem LG (F:dM K "parts" "parts" Bi f fd) (hm:mg "parts"=some (.ref f)) (bZ:Callee P w K mg base 1 "parts_of" fT []):Callee P w K mg base 2 "parts" fT []:=by
 refine bP F hm Kw (vH fun _ _ _ _ _ _ _=>rfl) (aI (bJ (aR bZ (aA (uv 0) aB)))) ?_
 rintro us M Q ⟨z,r,b,rfl,hb,hl,q⟩
 refine ⟨rfl,?_⟩
 dsimp! only [true_and]
 exact ⟨z,r,b,rfl,hb,hl,aY q⟩
theorem o3:(eE iS (Str.ofString "turn")).isSome=true:=by decide +kernel
theorem pV (o:Op):(eE iS o.word).isSome=true:=by cases o <;> decide +kernel
def yL:dB:=fun us M Q=>∃ (p:Pt) (t:Tr),us=[p.toU,t.toU]/\(p=.any\/∃ l h,p=.fr l h)/\Q (.bl (cN p t)) M
theorem Ah (F:dM K "lies_on_leaf" "lies_on_leaf" m4 f fd) (hm:mg "lies_on_leaf"=some (.ref f)):Callee P w K mg base 1 "lies_on_leaf" yL []:=by
 refine bP F hm Am (qY fun _ _ _ _ _ _ _ _=>rfl) (aD (dX (dC gB (aQ (uv 0) aP) dI)
 (aI (bJ (yJ gB (aQ (uv 1) aP) dI)))
 cQ)
 (aI (bJ (Qa (yJ gB (aQ (uv 1) aP) dI) (Pq (RP OR OR (aQ (uv 0) aP) (aQ (uv 1) aP) (aQ (uv 0) aP))))))) ?_
 rintro us M Q ⟨p,t,rfl,hp,q⟩
 refine ⟨rfl,?_⟩
 rcases hp with rfl | ⟨l,h,rfl⟩
 ·cases t <;> (dsimp! only [Pt.toU,Tr.toU,cN,j9,kD,j8,kB,kE,kF,kA] at q ⊢;exact aY q)
 ·cases t with
  | num n =>
   dsimp! only [Pt.toU,Tr.toU,cN,j9,kD,j8,kB,kE,kF,kA] at q ⊢
   by_cases h1:l<=n
   ·rw [if_pos (decide_eq_true h1)]
    rw [decide_eq_true h1,Bool.true_and] at q
    exact aY q
   ·rw [if_neg (by simpa using h1)]
    rw [decide_eq_false h1,Bool.false_and] at q
    exact aY q
  | _=>dsimp! only [Pt.toU,Tr.toU,cN,j9,kD,j8,kB,kE,kF,kA] at q ⊢;exact aY q
theorem wL (z:Str):([U.str (Str.ofString "any"),U.str (Str.ofString "from")].any fun u=>vD u (.str z))=(decide (Str.ofString "any"=z) || decide (Str.ofString "from"=z)):=by
 have e:∀ a:Str,vD (.str a) (.str z)=decide (a=z):=fun a=>by
  show (a == z)=_
  by_cases h:a=z
  ·subst h;simp
  ·simp [h]
 simp only [List.any_cons,List.any_nil,e,Bool.or_false]
def uW (n:Nat):dB:=fun us M Q=>∃ (p:Pt) (t:Tr),us=[p.toU,t.toU]/\p.dep<=n/\Q (.bl (cN p t)) M
theorem NK {n:Nat} (F:dM K "lies" "lies" Ad f fd) (hm:mg "lies"=some (.ref f)) (wU:mg "all"=none) (oO:mg "zip"=none) (kX:Callee P w K mg base 1 "lies_on_leaf" yL []) (bZ:Callee P w K mg base 1 "parts_of" fT []) (wW:Callee P w K mg base 2 "parts" fT [])
  (DR:Callee P w K mg base (n + 3) "lies" (uW n) []):Callee P w K mg base (n + 4) "lies" (uW (n + 1)) []:=by
 refine bP F hm Na (qY fun _ _ _ _ _ _ _ _=>rfl) (aD (dX (dC gB (aQ (uv 0) aP) dI)
 (aI (bJ B0))
 cQ)
 (aD (dX (dC PN (aQ (uv 0) aP) (bD (aA dI (aA dI aB))))
 (aI (bJ (aR kX (aA (uv 0) (aA (uv 1) aB)))))
 cQ)
 (aD (dX (dC zY (aQ (uv 0) aP) (aQ (uv 1) aP))
 (aI (bJ B0))
 cQ)
 (aI (bJ (tL RU wU (aA (k5 false ["inner","part"] 2 [] (QF oO (aA (aR bZ (aA (uv 0) aB)) (aA (aR wW (aA (uv 1) aB)) aB))) (eN (n:=2) (aV (aN (k:=2) 0 (by dsimp only [bM];decide +kernel)) (aV (aN (k:=2) 1 (by dsimp only [bM];decide +kernel)) dQ))) gK (aR DR (aA (uv 0) (aA (uv 1) aB)))) aB))))))) ?_
 rintro us M Q ⟨p,t,rfl,hd,q⟩
 refine ⟨rfl,?_⟩
 have fl:∀ z:Str,k4 (.str z)=true:=fun _=>rfl
 have fl2:[U.str (Str.ofString "any"),U.str (Str.ofString "from")].all k4=true:=rfl
 cases p with
 | hole c =>
  dsimp! only [Pt.toU,cN,j9,kD,j8,kB,kE,kF,kA] at q ⊢
  exact aY q
 | any =>
  dsimp! only [Pt.toU,j9,kD,j8,kB,kE,kF,kA,wL,fl,fl2,Bool.true_or,Bool.or_true]
  exact ⟨.any,t,rfl,.inl rfl,aY q⟩
 | fr l h =>
  dsimp! only [Pt.toU,j9,kD,j8,kB,kE,kF,kA,wL,fl,fl2,Bool.true_or,Bool.or_true]
  exact ⟨.fr l h,t,rfl,.inr ⟨l,h,rfl⟩,aY q⟩
 | turn a =>
  have hda:a.dep<=n:=by simp only [Pt.dep] at hd;omega
  cases t with
  | turn b =>
   dsimp! only [Pt.toU,Tr.toU,cN,j9,kD,j8,kB,kE,kF,kA,wL,fl,fl2,Bool.or_false] at q ⊢
   refine dE (S:=⟨none,fM [a.toU] [b.toU]⟩) (M1:=M) [.bl (cN a b)] (fun R r=>?_) rfl (show 1<=sizeLine by decide) (fun a e=>by cases e) ?_ ?_
   ·dsimp! only [true_and]
    refine ⟨_,_,true,rfl,o3,by simp,⟨_,_,true,rfl,o3,by simp,?_⟩⟩
    dsimp! only [true_and]
    exact r
   ·intro j x y hx hy M' _ R r'
    match j,hx,hy with
    | 0,hx,hy =>
     cases hx;cases hy
     dsimp! only [true_and]
     exact ⟨a,b,rfl,hda,r'⟩
    | j + 1,hx,hy=>cases hy
   ·dsimp! only [yA,Option.map_some,List.all_cons,List.all_nil,Bool.and_true]
    exact aY q
  | _=>dsimp! only [Pt.toU,Tr.toU,cN,j9,kD,j8,kB,kE,kF,kA,wL,fl,fl2,Bool.or_false] at q ⊢;exact aY q
 | two o a c =>
  have hda:a.dep<=n/\c.dep<=n:=by simp only [Pt.dep] at hd;omega
  cases t with
  | two o' b e =>
   dsimp! only [Pt.toU,Tr.toU,cN,j9,kD,j8,kB,kE,kF,kA,wL,fl,fl2,Bool.or_false,Op.word_inj] at q ⊢
   by_cases ho:o=o'
   ·subst ho
    dsimp! only [Bool.true_and] at q ⊢
    refine dE (S:=⟨none,fM [a.toU,c.toU] [b.toU,e.toU]⟩) (M1:=M) [.bl (cN a b),.bl (cN c e)] (fun R r=>?_) rfl (show 2<=sizeLine by decide) (fun a e=>by cases e) ?_ ?_
    ·dsimp! only [true_and]
     refine ⟨_,_,true,rfl,pV o,by simp,⟨_,_,true,rfl,pV o,by simp,?_⟩⟩
     dsimp! only [true_and]
     exact r
    ·intro j x y hx hy M' _ R r'
     match j,hx,hy with
     | 0,hx,hy =>
      cases hx;cases hy
      dsimp! only [true_and]
      exact ⟨a,b,rfl,hda.1,r'⟩
     | 1,hx,hy =>
      cases hx;cases hy
      dsimp! only [true_and]
      exact ⟨c,e,rfl,hda.2,r'⟩
     | j + 2,hx,hy=>cases hy
    ·dsimp! only [yA,Option.map_some,List.all_cons,List.all_nil,Bool.and_true]
     exact aY q
   ·dsimp! only [ho,Bool.false_and] at q ⊢
    exact aY q
  | _=>dsimp! only [Pt.toU,Tr.toU,cN,j9,kD,j8,kB,kE,kF,kA,wL,fl,fl2,Bool.or_false] at q ⊢;exact aY q
theorem DI:∀ p:Pt,1<=p.dep
 | .hole _=>Nat.le_refl _
 | .any=>Nat.le_refl _
 | .fr _ _=>Nat.le_refl _
 | .turn a=>by simp only [Pt.dep];omega
 | .two o a b=>by simp only [Pt.dep];omega
theorem Ks:∀ p:Tr,1<=p.dep
 | .num _=>Nat.le_refl _
 | .name _=>Nat.le_refl _
 | .turn a=>by simp only [Tr.dep];omega
 | .two o a b=>by simp only [Tr.dep];omega
theorem C1 (F:dM K "lies" "lies" Ad f fd) (hm:mg "lies"=some (.ref f)) (wU:mg "all"=none) (oO:mg "zip"=none) (kX:Callee P w K mg base 1 "lies_on_leaf" yL []) (bZ:Callee P w K mg base 1 "parts_of" fT []) (wW:Callee P w K mg base 2 "parts" fT []):∀ n,Callee P w K mg base (n + 3) "lies" (uW n) []
 | 0=>by
  have no:∀ us M Q,¬ uW 0 us M Q:=fun us M Q h=>by
   obtain ⟨p,t,_,h,_⟩:=h
   have:=DI p
   omega
  refine ⟨f,fd,["pattern","tree"],[],[],⟨fun vs H Q E h=>?_,fun A outer s H args us vs Q E _ _ _ _ h=>?_⟩,hm,F.kp,F.binds (qY fun _ _ _ _ _ _ _ _=>rfl),.nil,fun H M=>.nil⟩
  ·obtain ⟨us,M,Q',_,_,h,_⟩:=h;exact absurd h (no us M Q')
  ·obtain ⟨us,M,Q',_,_,h,_⟩:=h;exact absurd h (no us M Q')
 | n + 1=>NK F hm wU oO kX bZ wW (C1 F hm wU oO kX bZ wW n)
theorem mulL {i j:Int} (h1:-(2 ^ 64) < i) (h2:i < 2 ^ 64):l9 i j:=.inl (.inl ⟨h1,h2⟩)
theorem mulR {i j:Int} (h1:-(2 ^ 64) < j) (h2:j < 2 ^ 64):l9 i j:=.inl (.inr ⟨h1,h2⟩)
def uX (l:List Str):U:=.tup (l.map .str)
noncomputable def mJ:Pt->PyData
 | .hole c=>.tuple [.str "at",.str c]
 | .any=>.tuple [.str "any"]
 | .fr l h=>.tuple [.str "from",.int l,.int h]
 | .turn a=>.tuple [.str "turn",mJ a]
 | .two o a b=>.tuple [.str o.word,mJ a,mJ b]
theorem Gp:∀ p:Pt,toD p.toU=some (mJ p)
 | .hole c=>by simp [Pt.toU,toD,fX,mJ]
 | .any=>by simp [Pt.toU,toD,fX,mJ]
 | .fr l h=>by simp [Pt.toU,toD,fX,mJ]
 | .turn a=>by simp [Pt.toU,toD,fX,mJ,Gp a]
 | .two o a b=>by simp [Pt.toU,toD,fX,mJ,Gp a,Gp b]
theorem Kl:∀ p:Pt,p.ok->(mJ p).canLay0=true
 | .hole c,h=>by
  have h':PyData.strOk c=true:=h
  simp only [mJ,PyData.canLay0,PyData.canLayAll0,h'];decide +kernel
 | .any,_=>by decide +kernel
 | .fr l h,_=>by simp only [mJ,PyData.canLay0,PyData.canLayAll0];decide +kernel
 | .turn a,h=>by simp only [mJ,PyData.canLay0,PyData.canLayAll0,Kl a h];decide +kernel
 | .two o a b,h=>by
  have:PyData.strOk o.word=true:=by cases o <;> decide +kernel
  simp only [mJ,PyData.canLay0,PyData.canLayAll0,Kl a h.1,Kl b h.2,this];decide +kernel
noncomputable def mU:Tr->PyData
 | .num n=>.tuple [.str "num",.int n]
 | .name x=>.tuple [.str "name",.str x]
 | .turn a=>.tuple [.str "turn",mU a]
 | .two o a b=>.tuple [.str o.word,mU a,mU b]
theorem Gu:∀ p:Tr,toD p.toU=some (mU p)
 | .num c=>by simp [Tr.toU,toD,fX,mU]
 | .name c=>by simp [Tr.toU,toD,fX,mU]
 | .turn a=>by simp [Tr.toU,toD,fX,mU,Gu a]
 | .two o a b=>by simp [Tr.toU,toD,fX,mU,Gu a,Gu b]
theorem KO:∀ p:Tr,p.ok->(mU p).canLay0=true
 | .num c,h=>by simp only [mU,PyData.canLay0,PyData.canLayAll0];decide +kernel
 | .name c,h=>by
  have h':PyData.strOk c=true:=h.1
  simp only [mU,PyData.canLay0,PyData.canLayAll0,h'];decide +kernel
 | .turn a,h=>by simp only [mU,PyData.canLay0,PyData.canLayAll0,KO a h];decide +kernel
 | .two o a b,h=>by
  have:PyData.strOk o.word=true:=by cases o <;> decide +kernel
  simp only [mU,PyData.canLay0,PyData.canLayAll0,KO a h.1,KO b h.2,this];decide +kernel
noncomputable def SI (p:Pt):U:=.tup [p.toU,.int (p.dep:Nat)]
noncomputable def A9:List Pt->Nat
 | []=>0
 | p :: r=>p.holes + A9 r
theorem Ls:∀ l r:List Pt,A9 (l++r)=A9 l + A9 r
 | [],_=>by simp [A9]
 | t :: l,r=>by simp [A9,Ls l r];omega
noncomputable def SN (n:Int):Op:=if n % 3=0 then .sum else if n % 3=1 then .less else .by_
theorem aH {u v:US} {D:q8} {τ:SU} {M:aE} (h:∀ V:SU->aE->Prop,V=v D->u { D with nx:=V } τ M):vR u v D τ M:=h _ rfl
theorem fG {c:UT} {t u:US} {D:q8} {τ:SU} {M:aE} (h:∀ A B:aE->Prop,A=t D τ->B=u D τ->c τ M fun b M1=>if b=true then A M1 else B M1):tO c t u D τ M:=h _ _ rfl rfl
noncomputable def aO (p:List Nat):U:=.tup (p.map fun (n:Nat)=>.int (n:Int))
noncomputable def gA (x:List Nat × Pt):U:=.tup [aO x.1,x.2.toU]
noncomputable def wR:Pt->List Nat->List (List Nat × Pt)
 | .turn a,pl=>wR a (pl++[0])
 | .two _ a b,pl=>wR a (pl++[0])++wR b (pl++[1])
 | p,pl=>[(pl,p)]
theorem sW:∀ (p:Pt) (pl:List Nat),(wR p pl).map (·.2)=p.ends
 | .turn a,pl=>by simp only [wR,Pt.ends,sW a]
 | .two _ a b,pl=>by simp only [wR,Pt.ends,List.map_append,sW a,sW b]
 | .hole _,pl=>rfl
 | .any,pl=>rfl
 | .fr _ _,pl=>rfl
noncomputable def F8:Pt->Tr->List U
 | .any,.name x=>[.str x]
 | .fr _ _,.num n=>[.int n]
 | .turn p,.turn a=>F8 p a
 | .two _ p q,.two _ a b=>F8 p a++F8 q b
 | _,_=>[]
theorem N7 (l:List Int) (k:Nat) (h:k < l.length):fQ (l.map U.int) (k:Int)=some (.int l[k]):=gO (by rw [List.getElem?_map,List.getElem?_eq_getElem h];rfl)
noncomputable def lV:eB:=fun x y M Q=>match x,y with
 | .bl i,.bl j=>Q (.bl (decide (i=j))) M
 | _,_=>False
noncomputable def Pt.parts:Pt->List Pt
 | .turn a=>[a]
 | .two _ a b=>[a,b]
 | _=>[]
noncomputable def b9:Pt->List Nat->List (List Nat × Pt)
 | .turn a,pl=>(pl,.turn a) :: b9 a (pl++[0])
 | .two o a b,pl=>(pl,.two o a b) :: (b9 a (pl++[0])++b9 b (pl++[1]))
 | p,pl=>[(pl,p)]
noncomputable def Pt.places:Pt->List (List Nat)
 | .turn a=>[] :: a.places.map (0 :: ·)
 | .two _ a b=>[] :: (a.places.map (0 :: ·)++b.places.map (1 :: ·))
 | _=>[[]]
theorem jQ:∀ (p:Pt) (pl:List Nat),(b9 p pl).map (·.1)=p.places.map (pl++·)
 | .turn a,pl=>by simp [b9,Pt.places,jQ a]
 | .two o a b,pl=>by
  simp only [b9,Pt.places,List.map_cons,List.map_append,jQ a,jQ b,List.map_map,List.append_nil]
  simp [Function.comp_def]
 | .hole _,pl=>by simp [b9,Pt.places]
 | .any,pl=>by simp [b9,Pt.places]
 | .fr _ _,pl=>by simp [b9,Pt.places]
theorem places_len:∀ p:Pt,p.places.length < 2 ^ p.dep
 | .turn a=>by have:=places_len a;simp only [Pt.places,Pt.dep,List.length_cons,List.length_map,Nat.pow_succ];omega
 | .two _ a b=>by
  have h1:=places_len a
  have h2:=places_len b
  have h3:2 ^ a.dep<=2 ^ max a.dep b.dep:=Nat.pow_le_pow_right (by decide) (Nat.le_max_left _ _)
  have h4:2 ^ b.dep<=2 ^ max a.dep b.dep:=Nat.pow_le_pow_right (by decide) (Nat.le_max_right _ _)
  simp only [Pt.places,Pt.dep,Nat.pow_succ,List.length_cons,List.length_append,List.length_map];omega
 | .hole _=>by simp [Pt.places,Pt.dep]
 | .any=>by simp [Pt.places,Pt.dep]
 | .fr _ _=>by simp [Pt.places,Pt.dep]
theorem lO:∀ (p:Pt) (pl:List Nat),pl∈p.places->pl.length < p.dep
 | .turn a,pl,h=>by
  simp only [Pt.places,List.mem_cons,List.mem_map] at h
  rcases h with rfl | ⟨q,hq,rfl⟩
  ·simp [Pt.dep]
  ·have:=lO a q hq;simp only [Pt.dep,List.length_cons];omega
 | .two o a b,pl,h=>by
  simp only [Pt.places,List.mem_cons,List.mem_append,List.mem_map] at h
  rcases h with rfl | ⟨q,hq,rfl⟩ | ⟨q,hq,rfl⟩
  ·simp [Pt.dep]
  ·have:=lO a q hq;simp only [Pt.dep,List.length_cons];omega
  ·have:=lO b q hq;simp only [Pt.dep,List.length_cons];omega
 | .hole _,pl,h=>by simp [Pt.places] at h;subst h;simp [Pt.dep]
 | .any,pl,h=>by simp [Pt.places] at h;subst h;simp [Pt.dep]
 | .fr _ _,pl,h=>by simp [Pt.places] at h;subst h;simp [Pt.dep]
def pP (n:Nat):dB:=fun us M Q=>∃ p:Pt,us=[p.toU]/\p.dep<=n/\n<=10/\Q (.lst (p.places.map aO)) M
theorem Sq:(eE iS (Str.ofString "at")).isSome=false:=by decide +kernel
theorem L9:(eE iS (Str.ofString "any")).isSome=false:=by decide +kernel
theorem JM:(eE iS (Str.ofString "from")).isSome=false:=by decide +kernel
theorem JL (p:Pt):∃ z r,p.toU=.tup (.str z :: r)/\(eE iS z).isSome=!p.leafy/\(p.leafy=false->r=p.parts.map Pt.toU)/\r.length<=3:=by
 cases p with
 | hole c=>exact ⟨_,_,rfl,Sq,(fun h=>by cases h),by simp⟩
 | any=>exact ⟨_,_,rfl,L9,(fun h=>by cases h),by simp⟩
 | fr l h=>exact ⟨_,_,rfl,JM,(fun h=>by cases h),by simp⟩
 | turn a=>exact ⟨_,_,rfl,o3,fun _=>rfl,by simp⟩
 | two o a b=>exact ⟨_,_,rfl,pV o,fun _=>rfl,by simp⟩
theorem GC {p:Pt} (h:p.leafy=true):p.parts=[]:=by cases p <;> first | rfl | cases h
noncomputable def fJ:Nat->List Pt->List (List Nat)
 | _,[]=>[]
 | k,a :: r=>a.places.map (k :: ·)++fJ (k + 1) r
theorem places_eq (p:Pt):p.places=[] :: fJ 0 p.parts:=by cases p <;> simp [Pt.places,Pt.parts,fJ]
theorem Gx (l:List Pt) (a:Pt):∀ k,fJ k (l++[a])=fJ k l++a.places.map ((k + l.length) :: ·):=by
 induction l with
 | nil=>intro k;simp [fJ]
 | cons b l ih=>intro k;simp only [List.cons_append,fJ,ih,List.length_cons,List.append_assoc];rw [show k + 1 + l.length=k + (l.length + 1) by omega]
theorem Lm (p:Pt) (i:Nat):(fJ 0 (p.parts.take i)).length + 1<=p.places.length:=by
 have:∀ (l:List Pt) (k j:Nat),(fJ k (l.take j)).length<=(fJ k l).length:=by
  intro l
  induction l with
  | nil=>intro k j;simp [fJ]
  | cons a l ih =>
   intro k j
   cases j with
   | zero=>simp [fJ]
   | succ j=>simp only [List.take_succ_cons,fJ,List.length_append];have:=ih (k + 1) j;omega
 have h1:=this p.parts 0 i
 rw [places_eq p,List.length_cons]
 omega
theorem Lw {p a:Pt} {i:Nat} (h:p.parts[i]?=some a):a.dep < p.dep:=by
 have hm:=List.mem_of_getElem? h
 cases p with
 | turn b =>
  have:a=b:=by simpa [Pt.parts] using hm
  subst this;simp only [Pt.dep];omega
 | two o b c =>
  have:a=b\/a=c:=by simpa [Pt.parts] using hm
  simp only [Pt.dep]
  rcases this with rfl | rfl <;> omega
 | _=>cases hm
theorem C0 {n:Nat} (F:dM K "places_of" "places_of" jX f fd) (hm:mg "places_of"=some (.ref f)) (cM:mg "enumerate"=none)
  (bZ:Callee P w K mg base 1 "parts_of" fT []) (iV:Callee P w K mg base (n + 1) "places_of" (pP n) []):Callee P w K mg base (n + 2) "places_of" (pP (n + 1)) []:=by
 refine bP F hm fK (vH fun _ _ _ _ _ _ _=>rfl) (aD (aU 1 fK.nd (i9 (own:=true) (aA (bD aB) aB)))
 (aD (eL (pS cM (aA (aR bZ (aA (uv 0) aB)) aB)) (eN (n:=2) (aV (aN (k:=1000) 2 fK.nd) (aV (aN (k:=1000) 3 fK.nd) dQ)))
 (aI (iD (vT (uv 1) (aA (k5 false ["place","number"] 1 [2] (dN (aR iV (aA (uv 3) aB))) (aN (k:=1) 0 (by dsimp only [bM];decide +kernel)) gK (cG (own:=false) (bD (aA (uv 1) aB)) (uv 0))) aB)))))
 (aI (bJ (uv 1))))) ?_
 rintro us M Q ⟨t,rfl,hd,hz,q⟩
 refine ⟨rfl,?_⟩
 have hbig:∀ a:Pt,a.dep<=10->a.places.length<=1024:=fun a ha=>by
  have h1:=places_len a
  have h2:2 ^ a.dep<=2 ^ 10:=Nat.pow_le_pow_right (by decide) ha
  omega
 dsimp! only [bO,lV]
 refine fun p hp=>?_
 refine fL (S:=⟨none,numbered (t.parts.map Pt.toU)⟩) (M1:=mup M p (.lst [.tup []])) (fun R r=>?_)
  (fun i τ Mi=>∃ b c,τ=[some t.toU,some (.ref p),b,c]/\Mi=mup M p (.lst (([] :: fJ 0 (t.parts.take i)).map aO))) ⟨none,none,rfl,rfl⟩ nk ?_ ?_
 ·obtain ⟨z,rr,e,e1,e2,e3⟩:=JL t
  refine ⟨z,rr,!t.leafy,by rw [<- e];rfl,e1,by omega,?_⟩
  cases hl:t.leafy with
  | true=>simp only [hl,Bool.not_true,Bool.false_eq_true,if_false];rw [GC hl] at r;exact r
  | false=>simp only [hl,Bool.not_false,if_true];rw [e2 hl];exact r
 ·rintro i x τ Mi e ⟨b,c,rfl,rfl⟩
  obtain ⟨u,hu,rfl⟩:=mK e
  rw [List.getElem?_map] at hu
  cases hp':t.parts[i]? with
  | none=>rw [hp'] at hu;cases hu
  | some a =>
   rw [hp'] at hu
   cases hu
   have ha:=Lw hp'
   have hin:fJ 0 (t.parts.take (i + 1))=fJ 0 (t.parts.take i)++a.places.map (i :: ·):=by
    have hlt:=(List.getElem?_eq_some_iff.mp hp').1
    rw [List.take_add_one,hp']
    have:=Gx (t.parts.take i) a 0
    rw [List.length_take,Nat.min_eq_left (Nat.le_of_lt hlt),Nat.zero_add] at this
    exact this
   have hb1:=hbig a (by omega)
   dsimp! only [bO,lV]
   refine ⟨w9,dE (S:=⟨none,a.places.map aO⟩) (M1:=mup M p (MO.lst (aO [] :: List.map aO (fJ 0 (List.take i t.parts))))) (a.places.map fun pl=>aO (i :: pl)) (fun R r'=>⟨a,rfl,by omega,by omega,r'⟩) (by simp) ?_ (fun a e=>by cases e) ?_ ?_⟩
   ·show (a.places.map aO).length<=sizeLine
    rw [List.length_map]
    exact small (by omega)
   ·intro j x y hx hy M' _ R r'
    have hx':(a.places.map aO)[j]?=some x:=hx
    rw [List.getElem?_map] at hx' hy
    cases hpl:a.places[j]? with
    | none=>rw [hpl] at hx';cases hx'
    | some pl =>
     rw [hpl] at hx' hy
     cases hx'
     cases hy
     have h1:=lO a pl (List.mem_of_getElem? hpl)
     dsimp! only [aO,bO,lV]
     refine ⟨small ?_,?_⟩
     ·simp only [List.length_cons,List.length_nil,List.length_map];omega
     ·simpa [aO] using r'
   ·have h1:=Lm t i
    have h2:=hbig t (by omega)
    dsimp! only [bO,lV]
    refine ⟨small ?_,_,_,rfl,?_⟩
    ·simp only [List.length_map];omega
    ·rw [hin,List.map_append,List.map_map];rfl
 ·rintro τ Mi ⟨b,c,rfl,rfl⟩
  rw [l7,List.length_map,List.take_length,<- places_eq]
  dsimp! only [bO,lV]
  exact ⟨_,M,(Sub.refl M).mup hp,.inr ⟨p,_,rfl,aG,hp,rfl⟩,q⟩
theorem y0 (F:dM K "places_of" "places_of" jX f fd) (hm:mg "places_of"=some (.ref f)) (cM:mg "enumerate"=none) (bZ:Callee P w K mg base 1 "parts_of" fT []):∀ n,Callee P w K mg base (n + 1) "places_of" (pP n) []
 | 0=>by
  have no:∀ us M Q,¬ pP 0 us M Q:=fun us M Q h=>by
   obtain ⟨p,_,h,_⟩:=h
   have:=DI p
   omega
  refine ⟨f,fd,["shape"],[],[],⟨fun vs H Q E h=>?_,fun A outer s H args us vs Q E _ _ _ _ h=>?_⟩,hm,F.kp,F.binds (vH fun _ _ _ _ _ _ _=>rfl),.nil,fun H M=>.nil⟩
  ·obtain ⟨us,M,Q',_,_,h,_⟩:=h;exact absurd h (no us M Q')
  ·obtain ⟨us,M,Q',_,_,h,_⟩:=h;exact absurd h (no us M Q')
 | n + 1=>C0 F hm cM bZ (y0 F hm cM bZ n)
noncomputable def jL:U->Nat->Option U
 | .tup (.str z :: r),k=>if (eE iS z).isSome then (if r.length<=1000 then r[k]? else none) else none
 | _,_=>none
noncomputable def jN:U->List Nat->Option U
 | u,[]=>some u
 | u,k :: pl=>(jL u k).bind fun v=>jN v pl
theorem LW {h w:U} {k:Nat} (e:jL h k=some w):∃ z r,h=.tup (.str z :: r)/\(eE iS z).isSome=true/\r.length<=1000/\r[k]?=some w:=by
 match h,e with
 | .tup (.str z :: r),e =>
  simp only [jL] at e
  split at e
  ·rename_i h1
   split at e
   ·rename_i h2
    exact ⟨z,r,rfl,h1,h2,e⟩
   ·cases e
  ·cases e
 | .tup [],e=>cases e
 | .tup (.non :: _),e=>cases e
 | .tup (.bl _ :: _),e=>cases e
 | .tup (.int _ :: _),e=>cases e
 | .tup (.ty _ :: _),e=>cases e
 | .tup (.ref _ :: _),e=>cases e
 | .tup (.tup _ :: _),e=>cases e
 | .tup (.lst _ :: _),e=>cases e
 | .non,e=>cases e
 | .bl _,e=>cases e
 | .int _,e=>cases e
 | .str _,e=>cases e
 | .ty _,e=>cases e
 | .ref _,e=>cases e
 | .lst _,e=>cases e
theorem Dm:∀ (l:List Nat) (u:U) (k:Nat),jN u (l++[k])=(jN u l).bind fun v=>jL v k
 | [],u,k=>by simp only [List.nil_append,jN,Option.bind_some];cases jL u k <;> rfl
 | j :: l,u,k=>by
  simp only [List.cons_append,jN]
  cases jL u j with
  | none=>rfl
  | some v=>exact Dm l v k
theorem DZ:∀ (l r:List Nat) (u:U),jN u l=none->jN u (l++r)=none
 | [],r,u,z=>by cases z
 | j :: l,r,u,z=>by
  simp only [List.cons_append,jN] at z ⊢
  cases hj:jL u j with
  | none=>rfl
  | some v=>rw [hj] at z;exact DZ l r v z
def zF:dB:=fun us M Q=>∃ (u v:U) (pl:List Nat),us=[u,aO pl]/\jN u pl=some v/\Q v M
theorem Em (F:dM K "shape_at" "shape_at" tF f fd) (hm:mg "shape_at"=some (.ref f)) (bZ:Callee P w K mg base 1 "parts_of" fT []):Callee P w K mg base 2 "shape_at" zF []:=by
 refine bP F hm nT (qY fun _ _ _ _ _ _ _ _=>rfl) (aD (aU 2 nT.nd (uv 0))
 (aD (eL (dN (uv 1)) (aN (k:=1000) 3 nT.nd)
 (aI (aU 2 nT.nd (aQ (aR bZ (aA (uv 2) aB)) (uv 3)))))
 (aI (bJ (uv 2))))) ?_
 rintro us M Q ⟨u,v,pl,rfl,hpl,q⟩
 refine ⟨rfl,?_⟩
 dsimp! only [bO,lV]
 refine fL (S:=⟨none,pl.map fun (n:Nat)=>U.int (n:Int)⟩) (M1:=M) (fun R r=>r)
  (fun i τ Mi=>∃ (h:U) (c:Option U),τ=[some u,some (aO pl),some h,c]/\Mi=M/\jN u (pl.take i)=some h) ⟨u,none,rfl,rfl,rfl⟩ nk ?_ ?_
 ·rintro i x τ Mi e ⟨h,c,rfl,rfl,hh⟩
  have e':(pl.map fun (n:Nat)=>U.int (n:Int))[i]?=some x:=e
  rw [List.getElem?_map] at e'
  cases hk:pl[i]? with
  | none=>rw [hk] at e';cases e'
  | some k =>
   rw [hk] at e'
   cases e'
   have hnx:jN u (pl.take (i + 1))=jL h k:=by
    rw [List.take_add_one,hk]
    show jN u (pl.take i++[k])=_
    rw [Dm,hh];rfl
   cases hs:jL h k with
   | none =>
    rw [hs] at hnx
    have:=DZ (pl.take (i + 1)) (pl.drop (i + 1)) u hnx
    rw [List.take_append_drop,hpl] at this
    cases this
   | some w' =>
    rw [hs] at hnx
    obtain ⟨z,r,rfl,hz,hr,hs'⟩:=LW hs
    dsimp! only [bO,lV]
    refine ⟨z,r,true,rfl,hz,hr,?_⟩
    dsimp! only [bO,lV]
    exact ⟨w',gO hs',w',_,rfl,hnx⟩
 ·rintro τ Mi ⟨h,c,rfl,rfl,hh⟩
  simp only [List.length_map,List.take_length] at hh
  rw [hpl] at hh
  cases hh
  dsimp! only [bO,lV]
  exact aY q
theorem F0 (F:dM K "tree_at" "tree_at" u0 f fd) (hm:mg "tree_at"=some (.ref f)) (tG:Callee P w K mg base 2 "shape_at" zF []):Callee P w K mg base 3 "tree_at" zF []:=by
 refine bP F hm Gr (qY fun _ _ _ _ _ _ _ _=>rfl) (aI (bJ (aR tG (aA (uv 0) (aA (uv 1) aB))))) ?_
 rintro us M Q ⟨u,v,pl,rfl,hpl,q⟩
 refine ⟨rfl,?_⟩
 dsimp! only [bO,lV]
 exact ⟨u,v,pl,rfl,hpl,aY q⟩
theorem Bb (a:U):jL (.tup [.str (Str.ofString "turn"),a]) 0=some a:=by
 simp only [jL];rw [if_pos o3,if_pos (by simp)];rfl
theorem Bw (o:Op) (a b:U):jL (.tup [.str o.word,a,b]) 0=some a:=by
 simp only [jL];rw [if_pos (pV o),if_pos (by simp)];rfl
theorem A3 (o:Op) (a b:U):jL (.tup [.str o.word,a,b]) 1=some b:=by
 simp only [jL];rw [if_pos (pV o),if_pos (by simp)];rfl
theorem wN:∀ (p:Pt) (pre:List Nat) (e:List Nat × Pt),e∈b9 p pre->∃ s,e.1=pre++s/\jN p.toU s=some e.2.toU
 | .turn a,pre,e,h=>by
  simp only [b9] at h
  rcases List.mem_cons.mp h with rfl | h
  ·exact ⟨[],by simp,rfl⟩
  ·obtain ⟨s,h1,h2⟩:=wN a _ e h
   refine ⟨0 :: s,by rw [h1];simp,?_⟩
   simp only [jN,Pt.toU,Bb,Option.bind_some,h2]
 | .two o a b,pre,e,h=>by
  simp only [b9] at h
  rcases List.mem_cons.mp h with rfl | h
  ·exact ⟨[],by simp,rfl⟩
  ·rcases List.mem_append.mp h with h | h
   ·obtain ⟨s,h1,h2⟩:=wN a _ e h
    refine ⟨0 :: s,by rw [h1];simp,?_⟩
    simp only [jN,Pt.toU,Bw,Option.bind_some,h2]
   ·obtain ⟨s,h1,h2⟩:=wN b _ e h
    refine ⟨1 :: s,by rw [h1];simp,?_⟩
    simp only [jN,Pt.toU,A3,Option.bind_some,h2]
 | .hole _,pre,e,h=>by cases List.mem_singleton.mp h;exact ⟨[],by simp,rfl⟩
 | .any,pre,e,h=>by cases List.mem_singleton.mp h;exact ⟨[],by simp,rfl⟩
 | .fr _ _,pre,e,h=>by cases List.mem_singleton.mp h;exact ⟨[],by simp,rfl⟩
def zE (e:List Nat × Pt):Bool:=decide (e.2.holes=0)
noncomputable def fU:U->Option U
 | .tup [a,.tup (.str z :: r)]=>if (!decide (z=Str.ofString "at")) && !(eE iS z).isSome then some (.tup [a,.tup (.str z :: r)]) else none
 | _=>none
theorem Sv (e:List Nat × Pt):fU (gA e)=if e.2.leafy && zE e then some (gA e) else none:=by
 obtain ⟨pl,q⟩:=e
 have e1:decide (Str.ofString "at"=Str.ofString "at")=true:=by simp
 cases q with
 | hole c=>simp only [gA,Pt.toU,fU,e1,Pt.leafy,zE,Pt.holes];rfl
 | any=>simp only [gA,Pt.toU,fU,j9,kD,j8,kB,kE,kF,kA,L9,Pt.leafy,zE,Pt.holes];rfl
 | fr l h=>simp only [gA,Pt.toU,fU,j9,kD,j8,kB,kE,kF,kA,JM,Pt.leafy,zE,Pt.holes];rfl
 | turn a=>simp only [gA,Pt.toU,fU,j9,kD,j8,kB,kE,kF,kA,o3,Pt.leafy];rfl
 | two o a b=>simp only [gA,Pt.toU,fU,j9,kD,j8,kB,kE,kF,kA,pV,Pt.leafy];rfl
theorem lX {M:aE} {p:Addr} {o:MO} (h:M p=some o):mup M p o=M:=by
 funext x
 by_cases e:x=p
 ·subst e;rw [aG,h]
 ·rw [aM e]
noncomputable def eV (ns:List Int) (a b c:Int):List U:=[.lst (ns.map .int),.int a,.int b,.int c]
def sE:dB:=fun us M Q=>∃ (t:Addr) (ns:List Int) (a b c m:Int),us=[.ref t,.int m]/\0 < m/\m < 2 ^ 64/\M t=some (.lst (eV ns a b c))/\0<=a/\a<=1000000/\∀ n a' b' c':Int,0<=n->n < m->a<=a'->a'<=a + 1->Q (.int n) (mup M t (.lst (eV ns a' b' c')))
theorem Nq (F:dM K "_law_draw" "_law_draw" sZ f fd) (hm:mg "_law_draw"=some (.ref f)) (mN:mg "len"=none):Callee P w K mg base 1 "_law_draw" sE []:=by
 refine bP F hm iU (qY fun _ _ _ _ _ _ _ _=>rfl) (aD (dX (dC gB (aQ (uv 0) aP) aP)
 (aD (aU 2 iU.nd (aQ (uv 0) aP))
 (aD (oZ (cG (own:=false) (uv 2) aP) (uv 0) aP)
 (aD (aU 3 iU.nd aP)
 (aD (dX (dC Su (tL Aw mN (aA (aQ (uv 0) aP) aB)) aP)
 (aI (aU 3 iU.nd (aQ (aQ (uv 0) aP) (mL (uv 2) (tL Aw mN (aA (aQ (uv 0) aP) aB))))))
 cQ)
 (aD (dX (pK.pt (wJ (dC Py (uv 2) (tL Aw mN (aA (aQ (uv 0) aP) aB))) (vX (dC zC (uv 3) (HY aP aP)))))
 (aD (aU 4 iU.nd (cG (own:=false) (cG (own:=false) (mL (eR (own:=false) (uv 2) (uv 2)) aP) (eR (own:=false) aP (uv 2))) aP))
 (aD (aU 4 iU.nd (mL (eR (own:=false) (cG (own:=false) (mL (uv 3) aP) aP) (uv 4)) aP))
 (aI (bJ (mL (mL (cG (own:=false) (Fy (mL (eR (own:=false) (uv 4) (uv 4)) aP) aP) (eR (own:=false) aP (uv 2))) aP) (uv 1))))))
 cQ)
 (aD (oZ (vG (uv 3) (HY aP aP)) (uv 0) aP)
 (aI (oZ aP (uv 0) aP))))))))
 cQ)
 (aD (oZ (vG (aQ (uv 0) aP) aP) (uv 0) aP)
 (aD (aU 5 iU.nd (aQ (uv 0) aP))
 (aD (oZ (Fy (uv 5) (uv 1)) (uv 0) aP)
 (aI (bJ (mL (uv 5) (uv 1)))))))) ?_
 rintro us M Q ⟨t,ns,a,b,c,m,rfl,hm0,hm1,hM,ha0,ha1,q⟩
 refine ⟨rfl,?_⟩
 have pw:K2 10 18:=⟨by decide,by decide,by decide⟩
 have hMM:=lX hM
 rw [<- hMM]
 refine aH fun V hV=>?_
 have tail:∀ (a' b' c':Int) (x2 x3 x4 x5:Option U),a<=a'->a'<=a + 1->V [some (.ref t),some (.int m),x2,x3,x4,x5] (mup M t (.lst (eV ns a' b' c'))):=by
  intro a' b' c' x2 x3 x4 x5 h1 h2
  subst hV
  refine aH fun V1 hV1=>?_
  simp! only [aF,eV,bO,bQ,dA]
  refine ⟨3,by decide,?_⟩
  simp only [bN,List.set_cons_succ,List.set_cons_zero]
  subst hV1
  refine aH fun V1 hV1=>?_
  simp! only [bC,hName,bO,bQ,dA]
  subst hV1
  refine aH fun V1 hV1=>?_
  simp! only [aF,bO,bQ,dA]
  refine ⟨⟨hm0,hm1⟩,2,by decide,?_⟩
  simp only [bN,List.set_cons_succ,List.set_cons_zero]
  subst hV1
  simp! only [fD,bO,bQ,dA]
  exact ⟨hm0,aY (q _ a' _ _ (Int.emod_nonneg _ (by omega)) (Int.emod_lt_of_pos _ hm0) h1 h2)⟩
 refine fG fun A B hA hB=>?_
 have hb:B (mup M t (.lst (eV ns a b c))):=by
  subst hB
  exact tail a b c none none none none (by omega) (by omega)
 simp! only [eV,bO,bQ,dA]
 refine mC (fun hc=>?_) (fun _=>hb)
 subst hA
 refine aH fun V1 hV1=>?_
 simp! only [bC,hName,bO,bQ,dA]
 subst hV1
 refine aH fun V1 hV1=>?_
 simp! only [aF,bO,bQ,dA]
 refine ⟨1,by decide,?_⟩
 simp only [bN,List.set_cons_succ,List.set_cons_zero]
 subst hV1
 refine aH fun V1 hV1=>?_
 simp! only [bC,hName,bO,bQ,dA]
 subst hV1
 refine aH fun V1 hV1=>?_
 have go:∀ cell:Int,V1 [some (.ref t),some (.int m),some (.int a),some (.int cell),none,none] (mup M t (.lst [.lst (ns.map .int),.int (a + 1),.int b,.int c])):=by
  intro cell
  subst hV1
  refine aH fun V2 hV2=>?_
  refine fG fun A2 B2 hA2 hB2=>?_
  have hA2':A2 (mup M t (.lst [.lst (ns.map .int),.int (a + 1),.int b,.int c])):=by
   subst hA2
   refine aH fun V3 hV3=>?_
   simp! only [bC,hName,bO,bQ,dA]
   refine ⟨mulL (by omega) (by omega),by decide,mulL (by decide) (by decide),?_⟩
   subst hV3
   refine aH fun V3 hV3=>?_
   simp! only [bC,hName,bO,bQ,dA]
   have i0:=Int.emod_nonneg cell (show (999983:Int)≠0 by decide)
   have i1:=Int.emod_lt_of_pos cell (show (0:Int) < 999983 by decide)
   refine ⟨by decide,mulL (by omega) (by omega),by decide,?_⟩
   subst hV3
   simp! only [fD,bO,bQ,dA]
   generalize hx:(cell % 999983 + 3) * (a * a % 10007 + 61 * a + 7) % 1000003=x
   have x0:0<=x:=by rw [<- hx];exact Int.emod_nonneg _ (by decide)
   have x1:x < 1000003:=by rw [<- hx];exact Int.emod_lt_of_pos _ (by decide)
   refine ⟨mulL (by omega) (by omega),by decide,⟨by decide,by decide⟩,mulL (by decide) (by decide),by decide,hm0,aY (q _ (a + 1) _ _ (Int.emod_nonneg _ (by omega)) (Int.emod_lt_of_pos _ hm0) (by omega) (by omega))⟩
  have hB2':B2 (mup M t (.lst [.lst (ns.map .int),.int (a + 1),.int b,.int c])):=by
   subst hB2
   simp only [eW]
   subst hV2
   refine aH fun V3 hV3=>?_
   simp! only [aF,bO,bQ,dA]
   refine ⟨pw,2,by decide,?_⟩
   simp only [bN,List.set_cons_succ,List.set_cons_zero]
   subst hV3
   simp! only [aF,bO,bQ,dA]
   refine ⟨3,by decide,?_⟩
   simp only [bN,List.set_cons_succ,List.set_cons_zero]
   exact tail (a + 1) _ _ _ _ _ _ (by omega) (by omega)
  simp! only [List.length_map,bO,bQ,dA]
  exact mC (fun _=>hA2') (fun _=>⟨pw,mC (fun _=>hA2') (fun _=>hB2')⟩)
 simp! only [tO,List.length_map,bO,bQ,dA]
 refine mC (fun hl=>?_) (fun _=>?_)
 ·have hl':0 < (ns.length:Int):=by simpa using hl
  obtain ⟨cell,hcell⟩:=Qw ns (a % (ns.length:Int)) (Int.emod_nonneg _ (by omega)) (Int.emod_lt_of_pos _ hl')
  have hc2:fQ (ns.map U.int) (a % (ns.length:Int))=some (.int cell):=by
   have e:(((a % (ns.length:Int)).toNat:Nat):Int)=a % (ns.length:Int):=Int.toNat_of_nonneg (Int.emod_nonneg _ (by omega))
   have h3:=Int.emod_lt_of_pos a hl'
   have a1:=N7 ns (a % (ns.length:Int)).toNat (by omega)
   rw [e] at a1
   have b1:=gO (xs:=ns) (j:=(a % (ns.length:Int)).toNat) (v:=ns[(a % (ns.length:Int)).toNat]'(by omega)) (by simp)
   rw [e,hcell] at b1
   rw [a1,Option.some.inj b1]
  simp! only [bC,hName,List.length_map,hc2,bO,bQ,dA]
  exact ⟨hl',go cell⟩
 ·simp! only [eW,bO,bQ,dA]
  exact go 0
noncomputable def cT (M:aE) (t r:Addr) (T R:List U):aE:=mup (mup M t (.lst T)) r (.lst R)
theorem mO {M:aE} {t r:Addr} {T R:List U} (h:t≠r):cT M t r T R t=some (.lst T):=by unfold cT;rw [aM h,aG]
theorem mH {M:aE} {t r:Addr} {T R:List U}:cT M t r T R r=some (.lst R):=aG
theorem lU {M:aE} {t r:Addr} {T R T':List U} (h:t≠r):mup (cT M t r T R) t (.lst T')=cT M t r T' R:=by
 funext x
 unfold cT
 by_cases e1:x=t
 ·subst e1;rw [aG,aM h,aG]
 ·rw [aM e1]
  by_cases e2:x=r
  ·subst e2;rw [aG,aG]
  ·rw [aM e2,aM e2,aM e1,aM e1]
theorem pH {M:aE} {t r:Addr} {T R R':List U}:mup (cT M t r T R) r (.lst R')=cT M t r T R':=by unfold cT;rw [bN]
theorem KP {M:aE} {t r:Addr} {T R:List U} (h1:M t=some (.lst T)) (h2:M r=some (.lst R)):cT M t r T R=M:=by unfold cT;rw [lX h1,lX h2]
theorem A5 {M:aE} {t r:Addr} {T R T' R':List U} (h:t≠r):cT (cT M t r T R) t r T' R'=cT M t r T' R':=by
 show mup (mup (cT M t r T R) t (.lst T')) r (.lst R')=_
 rw [lU h,pH]
structure Tk where
 cls:Str
 pt:Pt
 cost:Int
noncomputable def Tk.good (cs:List Str) (k:Tk):Prop:=k.pt.ok/\k.pt.dep<=4/\k.cls∈cs/\0<=k.cost/\k.cost<=1000
structure R9 (cs:List Str):Prop where
 ne:cs≠[]
 len:cs.length<=6
 ok:∀ s∈cs,PyData.strOk s=true
noncomputable def hF (e:List Nat × Pt):Option (List Nat × Str):=match e.2 with
 | .hole c=>some (e.1,c)
 | _=>none
noncomputable def dS (e:List Nat × Str):U:=.tup [aO e.1,.str e.2]
noncomputable def eF (p:Pt):List (List Nat × Str):=(b9 p []).filterMap hF
noncomputable def hU:U->Option U
 | .tup [a,.tup (.str z :: r)]=>if decide (z=Str.ofString "at") then (r.head?).map fun c=>.tup [a,c] else none
 | _=>none
theorem Je (e:List Nat × Pt):hU (gA e)=(hF e).map dS:=by
 obtain ⟨pl,q⟩:=e
 have e1:decide (Str.ofString "at"=Str.ofString "at")=true:=by simp
 cases q with
 | hole c=>simp only [gA,Pt.toU,hU,e1,hF,dS];rfl
 | any=>simp only [gA,Pt.toU,hU,j9,kD,j8,kB,kE,kF,kA,hF];rfl
 | fr l h=>simp only [gA,Pt.toU,hU,j9,kD,j8,kB,kE,kF,kA,hF];rfl
 | turn a=>simp only [gA,Pt.toU,hU,j9,kD,j8,kB,kE,kF,kA,hF];rfl
 | two o a b=>simp only [gA,Pt.toU,hU,j9,kD,j8,kB,kE,kF,kA,hF];rfl
theorem OV (l:List (List Nat × Pt)):(l.map gA).filterMap hU=(l.filterMap hF).map dS:=by
 induction l with
 | nil=>rfl
 | cons e l ih =>
  rw [List.map_cons,List.filterMap_cons,List.filterMap_cons,Je,ih]
  cases hF e <;> rfl
noncomputable def FA:dB:=fun us M Q=>∃ p:Pt,us=[p.toU]/\p.dep<=6/\Q (.lst ((eF p).map dS)) M
theorem J5 (F:dM K "holes" "holes" AX f fd) (hm:mg "holes"=some (.ref f)) (iV:Callee P w K mg base 7 "places_of" (pP 6) []) (tG:Callee P w K mg base 2 "shape_at" zF []):Callee P w K mg base 8 "holes" FA []:=by
 refine bP F hm CL (vH fun _ _ _ _ _ _ _=>rfl) (aD (oW 1 CL.nd false ["place","pattern"] 1 [0] (dN (aR iV (aA (uv 0) aB))) (aN (k:=1) 0 (by dsimp only [bM];decide +kernel)) gK (bD (aA (uv 0) (aA (aR tG (aA (uv 1) (aA (uv 0) aB))) aB))))
 (aI (bJ (k5 false ["place","piece"] 2 [] (dN (uv 1)) (eN (n:=2) (aV (aN (k:=2) 0 (by dsimp only [bM];decide +kernel)) (aV (aN (k:=2) 1 (by dsimp only [bM];decide +kernel)) dQ))) (E8 (dC gB (aQ (uv 1) aP) dI)) (bD (aA (uv 0) (aA (aQ (uv 1) aP) aB))))))) ?_
 rintro us M Q ⟨p,rfl,hd,q⟩
 refine ⟨rfl,?_⟩
 have hsp:(b9 p []).map (·.1)=p.places:=by rw [jQ];simp
 have hpl:p.places.length<=64:=by
  have h1:=places_len p
  have h2:2 ^ p.dep<=2 ^ 6:=Nat.pow_le_pow_right (by decide) hd
  omega
 have hsl:(b9 p []).length=p.places.length:=by rw [<- hsp,List.length_map]
 dsimp! only [bO,dJ,kK,eD,bQ,oE,dA]
 refine dE (S:=⟨none,p.places.map aO⟩) (M1:=M) ((b9 p []).map gA) (fun R r=>⟨p,rfl,hd,by decide,r⟩) (by simp [hsl]) (small (by show (p.places.map aO).length<=_;rw [List.length_map];omega)) (fun a e=>by cases e) ?_ ?_
 ·intro j x y hx hy M' _ R r'
  have hx':(p.places.map aO)[j]?=some x:=hx
  rw [<- hsp,List.map_map,List.getElem?_map] at hx'
  rw [List.getElem?_map] at hy
  cases hj:(b9 p [])[j]? with
  | none=>rw [hj] at hy;cases hy
  | some e =>
   rw [hj] at hx' hy
   cases hx'
   cases hy
   obtain ⟨s,h1,h2⟩:=wN p [] e (List.mem_of_getElem? hj)
   rw [List.nil_append] at h1
   dsimp! only [bO,dJ,kK,eD,bQ,oE,dA]
   refine ⟨p.toU,e.2.toU,e.1,rfl,by rw [h1];exact h2,?_⟩
   dsimp! only [bO,dJ,kK,eD,bQ,oE,dA]
   exact r'
 ·dsimp! only [bO,dJ,kK,eD,bQ,oE,dA]
  refine GA (S:=⟨none,(b9 p []).map gA⟩) (M1:=M) hU (fun R r=>r) (small (by show ((b9 p []).map gA).length<=_;rw [List.length_map];omega)) (fun a e=>by cases e) ?_ ?_
  ·intro x hx M' _ R r
   obtain ⟨e,he,rfl⟩:=List.mem_map.mp hx
   rw [Je] at r
   obtain ⟨pl,pt⟩:=e
   cases pt with
   | hole c=>dsimp! only [gA,hF,dS,Pt.toU,j9,kD,j8,kB,kE,kF,kA,Option.map_some,bO,dJ,kK,eD,bQ,oE,dA] at r ⊢;exact r
   | any=>dsimp! only [gA,hF,dS,Pt.toU,j9,kD,j8,kB,kE,kF,kA,Option.map_none,bO,dJ,kK,eD,bQ,oE,dA] at r ⊢;exact r
   | fr l h=>dsimp! only [gA,hF,dS,Pt.toU,j9,kD,j8,kB,kE,kF,kA,Option.map_none,bO,dJ,kK,eD,bQ,oE,dA] at r ⊢;exact r
   | turn a=>dsimp! only [gA,hF,dS,Pt.toU,j9,kD,j8,kB,kE,kF,kA,Option.map_none,bO,dJ,kK,eD,bQ,oE,dA] at r ⊢;exact r
   | two o a b=>dsimp! only [gA,hF,dS,Pt.toU,j9,kD,j8,kB,kE,kF,kA,Option.map_none,bO,dJ,kK,eD,bQ,oE,dA] at r ⊢;exact r
  ·rw [show (Src.mk none ((b9 p []).map gA)).xs=(b9 p []).map gA from rfl,OV]
   simp only [iL]
   exact aY q
noncomputable def iJ:Pt->Tr->List (Tr × Str)
 | .hole c,t=>[(t,c)]
 | .turn p,.turn a=>iJ p a
 | .two _ p q,.two _ a b=>iJ p a++iJ q b
 | _,_=>[]
theorem oU:∀ (p:Pt) (t:Tr) (pre:List Nat),cN p t=true->((b9 p pre).filterMap hF).length=(iJ p t).length/\∀ (i:Nat) (e:List Nat × Str),((b9 p pre).filterMap hF)[i]?=some e->∃ s t',e.1=pre++s/\jN t.toU s=some t'.toU/\(iJ p t)[i]?=some (t',e.2)
 | .hole c,t,pre,_=>⟨by cases t <;> rfl,fun i e h=>by
   match i,h with
   | 0,h=>cases h;exact ⟨[],t,by simp,rfl,by cases t <;> rfl⟩
   | i + 1,h=>cases h⟩
 | .any,.name x,pre,_=>⟨rfl,fun i e h=>by cases h⟩
 | .fr l h,.num n,pre,_=>⟨rfl,fun i e h=>by cases h⟩
 | .turn p,.turn a,pre,hl=>by
  obtain ⟨h1,h2⟩:=oU p a (pre++[0]) hl
  refine ⟨by simp only [b9,List.filterMap_cons,hF,iJ];exact h1,fun i e he=>?_⟩
  simp only [b9,List.filterMap_cons,hF] at he
  obtain ⟨s,t',e1,e2,e3⟩:=h2 i e he
  refine ⟨0 :: s,t',by rw [e1];simp,?_,e3⟩
  simp only [jN,Tr.toU,Bb,Option.bind_some,e2]
 | .two o p q,.two o' a b,pre,hl=>by
  simp only [cN,Bool.and_eq_true] at hl
  obtain ⟨ho,hl1,hl2⟩:=hl
  obtain ⟨h1,h2⟩:=oU p a (pre++[0]) hl1
  obtain ⟨k1,k2⟩:=oU q b (pre++[1]) hl2
  simp only [b9,List.filterMap_cons,hF,List.filterMap_append,iJ,List.length_append]
  refine ⟨by omega,fun i e he=>?_⟩
  rw [List.getElem?_append] at he
  split at he
  ·rename_i hi
   obtain ⟨s,t',e1,e2,e3⟩:=h2 i e he
   refine ⟨0 :: s,t',by rw [e1];simp,?_,by rw [List.getElem?_append_left (by omega)];exact e3⟩
   simp only [jN,Tr.toU,Bw,Option.bind_some,e2]
  ·rename_i hi
   obtain ⟨s,t',e1,e2,e3⟩:=k2 _ e he
   refine ⟨1 :: s,t',by rw [e1];simp,?_,by rw [List.getElem?_append_right (by omega),<- h1];exact e3⟩
   simp only [jN,Tr.toU,A3,Option.bind_some,e2]
 | .any,.num _,_,h=>by cases h
 | .any,.turn _,_,h=>by cases h
 | .any,.two _ _ _,_,h=>by cases h
 | .fr _ _,.name _,_,h=>by cases h
 | .fr _ _,.turn _,_,h=>by cases h
 | .fr _ _,.two _ _ _,_,h=>by cases h
 | .turn _,.num _,_,h=>by cases h
 | .turn _,.name _,_,h=>by cases h
 | .turn _,.two _ _ _,_,h=>by cases h
 | .two _ _ _,.num _,_,h=>by cases h
 | .two _ _ _,.name _,_,h=>by cases h
 | .two _ _ _,.turn _,_,h=>by cases h
structure Tl where
 name:Str
 cls:Str
 pt:Pt
 cost:Int
noncomputable def Tl.toU (t:Tl):U:=.tup [.str t.name,.str t.cls,t.pt.toU,.int t.cost]
def Tl.pass (t:Tl):Bool:=match t.pt with
 | .hole _=>true
 | _=>false
structure Wt where
 t:Tr
 c:Str
 ps:List Str
noncomputable def nZ (tl:Tl) (w:Wt):List Str:=if tl.pass then w.ps++[tl.cls] else []
noncomputable def below (tl:Tl) (w:Wt):List Wt:=(iJ tl.pt w.t).map fun x=>⟨x.1,x.2,nZ tl w⟩
noncomputable def CD:dB:=fun us M Q=>∃ tl:Tl,us=[tl.toU]/\Q (.bl tl.pass) M
theorem GW (F:dM K "is_pass" "is_pass" u9 f fd) (hm:mg "is_pass"=some (.ref f)):Callee P w K mg base 1 "is_pass" CD []:=by
 refine bP F hm Gg (vH fun _ _ _ _ _ _ _=>rfl) (aI (bJ (yJ gB (aQ (aQ (uv 0) aP) aP) dI))) ?_
 rintro us M Q ⟨tl,rfl,q⟩
 refine ⟨rfl,?_⟩
 obtain ⟨nm,cl,pt,co⟩:=tl
 cases pt <;> (dsimp! only [Tl.toU,Tl.pass,Pt.toU,j9,kD,j8,kB,kE,kF,kA,bO,dJ,kK,eD,bQ,oE,dA] at q ⊢;exact aY q)
theorem wH (p:Pt) (h:p.dep<=6):(eF p).length<=64:=by
 have h1:=places_len p
 have h2:2 ^ p.dep<=2 ^ 6:=Nat.pow_le_pow_right (by decide) h
 have h3:(b9 p []).length=p.places.length:=by rw [<- List.length_map (f:=(·.1)),jQ];simp
 have h4:(eF p).length<=(b9 p []).length:=List.length_filterMap_le _ _
 omega
noncomputable def oS (tiles:List Tl) (n:Int):List Wt->Option (List Wt)
 | []=>none
 | w :: st=>if 0<=n/\n < tiles.length then
   match tiles[n.toNat]? with
   | some tl=>if tl.cls=w.c/\tl.cls ∉ w.ps/\cN tl.pt w.t=true then some (below tl w++st) else none
   | none=>none
  else none
noncomputable def AU (tiles:List Tl):List U->List Wt->Bool
 | [],st=>st.isEmpty
 | .int n :: r,st=>match oS tiles n st with
  | some st'=>AU tiles r st'
  | none=>false
 | _ :: _,_=>false
theorem OI (ss:List Str) (z:Str):((ss.map U.str).any fun u=>vD u (.str z))=decide (z∈ss):=by
 induction ss with
 | nil=>rfl
 | cons a r ih =>
  rw [List.map_cons,List.any_cons,ih]
  have:vD (.str a) (.str z)=decide (z=a):=by
   show (a == z)=_
   by_cases h:z=a
   ·subst h;simp
   ·have k:¬ a=z:=fun k=>h k.symm
    simp [h,k]
  rw [this]
  by_cases h:z=a
  ·subst h;simp
  ·simp [h]
theorem Hq (ss:List Str):(ss.map U.str).all k4=true:=by
 induction ss with
 | nil=>rfl
 | cons a r ih=>rw [List.map_cons,List.all_cons,ih];rfl
theorem zG {M:aE} {t:Tl}:view M t.toU=.tup [.str t.name,.str t.cls,t.pt.toU,.int t.cost]:=rfl
noncomputable def fB (cs:List Str) (tiles:List Tl):U:=.tup [uX cs,.tup (tiles.map Tl.toU)]
theorem pE {M:aE} {cs:List Str} {tiles:List Tl}:view M (fB cs tiles)=.tup [uX cs,.tup (tiles.map Tl.toU)]:=rfl
theorem D6 (B:Nat):∀ ns:List Int,(∀ n∈ns,0<=n/\n<=B)->0<=ns.sum/\ns.sum<=B * ns.length
 | [],_=>by simp
 | n :: ns,h=>by
  obtain ⟨h1,h2⟩:=h n List.mem_cons_self
  obtain ⟨h3,h4⟩:=D6 B ns fun x hx=>h x (List.mem_cons_of_mem _ hx)
  rw [List.sum_cons,List.length_cons]
  have e:(B:Int) * ((ns.length + 1:Nat):Int)=B * ns.length + B:=by
   rw [Int.natCast_add,Int.mul_add];simp
  rw [e]
  exact ⟨by omega,by omega⟩
theorem fits_of {ns:List Int} (h:∀ n∈ns,0<=n/\n<=1000000) (hl:ns.length<=2000):PySem.SumFits ns:=by
 intro j hj
 have hm:ns.getD j 0∈ns:=by
  rw [List.getD_eq_getElem?_getD,List.getElem?_eq_getElem hj];exact List.getElem_mem hj
 obtain ⟨h1,h2⟩:=h _ hm
 obtain ⟨h3,h4⟩:=D6 1000000 (ns.take (j + 1)) fun x hx=>h x (List.mem_of_mem_take hx)
 have h5:(ns.take (j + 1)).length<=2000:=by rw [List.length_take];omega
 have h6:((1000000:Nat):Int) * ((ns.take (j + 1)).length:Int)<=2000000000:=by omega
 constructor <;> (unfold InLong;constructor <;> omega)
theorem zM (ns:List Int):intsOf (ns.map U.int)=some ns:=by
 induction ns with
 | nil=>rfl
 | cons a r ih=>simp only [List.map_cons,intsOf,ih,Option.map_some]
noncomputable def iQ (tiles:List Tl) (k:Int):Int:=match fQ tiles k with
 | some tl=>tl.cost
 | none=>0
noncomputable def CT (tiles:List Tl) (ks:List Int):Prop:=∀ k∈ks,0<=k/\k < tiles.length
theorem FI {tiles:List Tl} {k:Int} (h0:0<=k) (h1:k < tiles.length):∃ tl,tl∈tiles/\fQ tiles k=some tl/\fQ (tiles.map Tl.toU) k=some tl.toU/\tiles[k.toNat]?=some tl:=by
 have hlt:k.toNat < tiles.length:=by omega
 have e:((k.toNat:Nat):Int)=k:=by omega
 have e1:tiles[k.toNat]?=some tiles[k.toNat]:=List.getElem?_eq_getElem hlt
 have a1:=gO (xs:=tiles) (j:=k.toNat) e1
 have a2:=gO (xs:=tiles.map Tl.toU) (j:=k.toNat) (v:=tiles[k.toNat].toU) (by rw [List.getElem?_map,e1];rfl)
 rw [e] at a1 a2
 exact ⟨tiles[k.toNat],List.getElem_mem hlt,a1,a2,e1⟩
theorem HF {tiles:List Tl} {ks:List Int} (hc:∀ tl∈tiles,0<=tl.cost/\tl.cost<=1000) (hk:CT tiles ks) (hl:ks.length<=1300):intsOf ((ks.map (iQ tiles)).map U.int)=some (ks.map (iQ tiles))/\PySem.SumFits (ks.map (iQ tiles)):=by
 refine ⟨zM _,fits_of (fun n hn=>?_) (by rw [List.length_map];omega)⟩
 obtain ⟨k,hkm,rfl⟩:=List.mem_map.mp hn
 obtain ⟨h0,h1⟩:=hk k hkm
 obtain ⟨tl,hm,e1,_⟩:=FI h0 h1
 have:=hc tl hm
 unfold iQ;rw [e1];dsimp only;omega
noncomputable def Tl.k (t:Tl):Tk:=⟨t.cls,t.pt,t.cost⟩
structure Tab (cs:List Str) (tls:List Tl):Prop where
 cls:R9 cs
 good:∀ t∈tls,t.k.good cs
 len:tls.length<=39
theorem Fm {α β:Type} (g:α->β) (l:List α) (a b:Option Int):i7 (l.map g) a b=(i7 l a b).map g:=by
 unfold i7
 rw [List.length_map,List.map_take,List.map_drop]
noncomputable def Tr.leafy:Tr->Bool
 | .num _=>true
 | .name _=>true
 | _=>false
noncomputable def Tr.parts:Tr->List Tr
 | .turn a=>[a]
 | .two _ a b=>[a,b]
 | _=>[]
noncomputable def Tr.places:Tr->List (List Nat)
 | .turn a=>[] :: a.places.map (0 :: ·)
 | .two _ a b=>[] :: (a.places.map (0 :: ·)++b.places.map (1 :: ·))
 | _=>[[]]
noncomputable def Tr.size:Tr->Nat
 | .turn a=>a.size + 1
 | .two _ a b=>a.size + b.size + 1
 | _=>1
theorem gE:∀ t:Tr,t.places.length=t.size
 | .turn a=>by simp only [Tr.places,Tr.size,List.length_cons,List.length_map,gE a]
 | .two _ a b=>by simp only [Tr.places,Tr.size,List.length_cons,List.length_append,List.length_map,gE a,gE b]
 | .num _=>rfl
 | .name _=>rfl
theorem i6:∀ (p:Tr) (pl:List Nat),pl∈p.places->pl.length < p.size
 | .turn a,pl,h=>by
  simp only [Tr.places,List.mem_cons,List.mem_map] at h
  rcases h with rfl | ⟨q,hq,rfl⟩
  ·simp [Tr.size]
  ·have:=i6 a q hq;simp only [Tr.size,List.length_cons];omega
 | .two o a b,pl,h=>by
  simp only [Tr.places,List.mem_cons,List.mem_append,List.mem_map] at h
  rcases h with rfl | ⟨q,hq,rfl⟩ | ⟨q,hq,rfl⟩
  ·simp [Tr.size]
  ·have:=i6 a q hq;simp only [Tr.size,List.length_cons];omega
  ·have:=i6 b q hq;simp only [Tr.size,List.length_cons];omega
 | .num _,pl,h=>by simp [Tr.places] at h;subst h;simp [Tr.size]
 | .name _,pl,h=>by simp [Tr.places] at h;subst h;simp [Tr.size]
noncomputable def iK (n:Nat):dB:=fun us M Q=>∃ p:Tr,us=[p.toU]/\p.dep<=n/\p.size<=1000/\Q (.lst (p.places.map aO)) M
theorem s_num:(eE iS (Str.ofString "num")).isSome=false:=by decide +kernel
theorem OS:(eE iS (Str.ofString "name")).isSome=false:=by decide +kernel
theorem F5 (p:Tr):∃ z r,p.toU=.tup (.str z :: r)/\(eE iS z).isSome=!p.leafy/\(p.leafy=false->r=p.parts.map Tr.toU)/\r.length<=3:=by
 cases p with
 | num c=>exact ⟨_,_,rfl,s_num,(fun h=>by cases h),by simp⟩
 | name c=>exact ⟨_,_,rfl,OS,(fun h=>by cases h),by simp⟩
 | turn a=>exact ⟨_,_,rfl,o3,fun _=>rfl,by simp⟩
 | two o a b=>exact ⟨_,_,rfl,pV o,fun _=>rfl,by simp⟩
theorem xP {p:Tr} (h:p.leafy=true):p.parts=[]:=by cases p <;> first | rfl | cases h
noncomputable def fN:Nat->List Tr->List (List Nat)
 | _,[]=>[]
 | k,a :: r=>a.places.map (k :: ·)++fN (k + 1) r
theorem size_pos (t:Tr):1<=t.size:=by cases t <;> simp [Tr.size]
theorem tK (p:Tr):p.places=[] :: fN 0 p.parts:=by cases p <;> simp [Tr.places,Tr.parts,fN]
theorem EA (l:List Tr) (a:Tr):∀ k,fN k (l++[a])=fN k l++a.places.map ((k + l.length) :: ·):=by
 induction l with
 | nil=>intro k;simp [fN]
 | cons b l ih=>intro k;simp only [List.cons_append,fN,ih,List.length_cons,List.append_assoc];rw [show k + 1 + l.length=k + (l.length + 1) by omega]
theorem Ia (p:Tr) (i:Nat):(fN 0 (p.parts.take i)).length + 1<=p.places.length:=by
 have:∀ (l:List Tr) (k j:Nat),(fN k (l.take j)).length<=(fN k l).length:=by
  intro l
  induction l with
  | nil=>intro k j;simp [fN]
  | cons a l ih =>
   intro k j
   cases j with
   | zero=>simp [fN]
   | succ j=>simp only [List.take_succ_cons,fN,List.length_append];have:=ih (k + 1) j;omega
 have h1:=this p.parts 0 i
 rw [tK p,List.length_cons]
 omega
theorem BU {p a:Tr} {i:Nat} (h:p.parts[i]?=some a):a.dep < p.dep:=by
 have hm:=List.mem_of_getElem? h
 cases p with
 | turn b =>
  have:a=b:=by simpa [Tr.parts] using hm
  subst this;simp only [Tr.dep];omega
 | two o b c =>
  have:a=b\/a=c:=by simpa [Tr.parts] using hm
  simp only [Tr.dep]
  rcases this with rfl | rfl <;> omega
 | _=>cases hm
theorem An {p a:Tr} {i:Nat} (h:p.parts[i]?=some a):a.size < p.size:=by
 have hm:=List.mem_of_getElem? h
 cases p with
 | turn b =>
  have:a=b:=by simpa [Tr.parts] using hm
  subst this;simp only [Tr.size];omega
 | two o b c =>
  have:a=b\/a=c:=by simpa [Tr.parts] using hm
  simp only [Tr.size]
  rcases this with rfl | rfl <;> omega
 | _=>cases hm
theorem B7 {n:Nat} (F:dM K "places_of" "places_of" jX f fd) (hm:mg "places_of"=some (.ref f)) (cM:mg "enumerate"=none)
  (bZ:Callee P w K mg base 1 "parts_of" fT []) (iV:Callee P w K mg base (n + 1) "places_of" (iK n) []):Callee P w K mg base (n + 2) "places_of" (iK (n + 1)) []:=by
 refine bP F hm fK (vH fun _ _ _ _ _ _ _=>rfl) (aD (aU 1 fK.nd (i9 (own:=true) (aA (bD aB) aB)))
 (aD (eL (pS cM (aA (aR bZ (aA (uv 0) aB)) aB)) (eN (n:=2) (aV (aN (k:=1000) 2 fK.nd) (aV (aN (k:=1000) 3 fK.nd) dQ)))
 (aI (iD (vT (uv 1) (aA (k5 false ["place","number"] 1 [2] (dN (aR iV (aA (uv 3) aB))) (aN (k:=1) 0 (by dsimp only [bM];decide +kernel)) gK (cG (own:=false) (bD (aA (uv 1) aB)) (uv 0))) aB)))))
 (aI (bJ (uv 1))))) ?_
 rintro us M Q ⟨t,rfl,hd,hz,q⟩
 refine ⟨rfl,?_⟩
 have hbig:∀ a:Tr,a.size<=1000->a.places.length<=1000:=fun a ha=>by rw [gE];exact ha
 dsimp! only [bO,lV]
 refine fun p hp=>?_
 refine fL (S:=⟨none,numbered (t.parts.map Tr.toU)⟩) (M1:=mup M p (.lst [.tup []])) (fun R r=>?_)
  (fun i τ Mi=>∃ b c,τ=[some t.toU,some (.ref p),b,c]/\Mi=mup M p (.lst (([] :: fN 0 (t.parts.take i)).map aO))) ⟨none,none,rfl,rfl⟩ nk ?_ ?_
 ·obtain ⟨z,rr,e,e1,e2,e3⟩:=F5 t
  refine ⟨z,rr,!t.leafy,by rw [<- e];rfl,e1,by omega,?_⟩
  cases hl:t.leafy with
  | true=>simp only [hl,Bool.not_true,Bool.false_eq_true,if_false];rw [xP hl] at r;exact r
  | false=>simp only [hl,Bool.not_false,if_true];rw [e2 hl];exact r
 ·rintro i x τ Mi e ⟨b,c,rfl,rfl⟩
  obtain ⟨u,hu,rfl⟩:=mK e
  rw [List.getElem?_map] at hu
  cases hp':t.parts[i]? with
  | none=>rw [hp'] at hu;cases hu
  | some a =>
   rw [hp'] at hu
   cases hu
   have ha:=BU hp'
   have hin:fN 0 (t.parts.take (i + 1))=fN 0 (t.parts.take i)++a.places.map (i :: ·):=by
    have hlt:=(List.getElem?_eq_some_iff.mp hp').1
    rw [List.take_add_one,hp']
    have:=EA (t.parts.take i) a 0
    rw [List.length_take,Nat.min_eq_left (Nat.le_of_lt hlt),Nat.zero_add] at this
    exact this
   have hsz:=An hp'
   have hb1:=hbig a (by omega)
   dsimp! only [bO,lV]
   refine ⟨w9,dE (S:=⟨none,a.places.map aO⟩) (M1:=mup M p (MO.lst (aO [] :: List.map aO (fN 0 (List.take i t.parts))))) (a.places.map fun pl=>aO (i :: pl)) (fun R r'=>⟨a,rfl,by omega,by omega,r'⟩) (by simp) ?_ (fun a e=>by cases e) ?_ ?_⟩
   ·show (a.places.map aO).length<=sizeLine
    rw [List.length_map]
    exact small (by omega)
   ·intro j x y hx hy M' _ R r'
    have hx':(a.places.map aO)[j]?=some x:=hx
    rw [List.getElem?_map] at hx' hy
    cases hpl:a.places[j]? with
    | none=>rw [hpl] at hx';cases hx'
    | some pl =>
     rw [hpl] at hx' hy
     cases hx'
     cases hy
     have h1:=i6 a pl (List.mem_of_getElem? hpl)
     dsimp! only [aO,bO,lV]
     refine ⟨small ?_,?_⟩
     ·simp only [List.length_cons,List.length_nil,List.length_map];omega
     ·simpa [aO] using r'
   ·have h1:=Ia t i
    have h2:=hbig t (by omega)
    dsimp! only [bO,lV]
    refine ⟨small ?_,_,_,rfl,?_⟩
    ·simp only [List.length_map];omega
    ·rw [hin,List.map_append,List.map_map];rfl
 ·rintro τ Mi ⟨b,c,rfl,rfl⟩
  rw [l7,List.length_map,List.take_length,<- tK]
  dsimp! only [bO,lV]
  exact ⟨_,M,(Sub.refl M).mup hp,.inr ⟨p,_,rfl,aG,hp,rfl⟩,q⟩
theorem xK (F:dM K "places_of" "places_of" jX f fd) (hm:mg "places_of"=some (.ref f)) (cM:mg "enumerate"=none) (bZ:Callee P w K mg base 1 "parts_of" fT []):∀ n,Callee P w K mg base (n + 1) "places_of" (iK n) []
 | 0=>by
  have no:∀ us M Q,¬ iK 0 us M Q:=fun us M Q h=>by
   obtain ⟨p,_,h,_⟩:=h
   have:=Ks p
   omega
  refine ⟨f,fd,["shape"],[],[],⟨fun vs H Q E h=>?_,fun A outer s H args us vs Q E _ _ _ _ h=>?_⟩,hm,F.kp,F.binds (vH fun _ _ _ _ _ _ _=>rfl),.nil,fun H M=>.nil⟩
  ·obtain ⟨us,M,Q',_,_,h,_⟩:=h;exact absurd h (no us M Q')
  ·obtain ⟨us,M,Q',_,_,h,_⟩:=h;exact absurd h (no us M Q')
 | n + 1=>B7 F hm cM bZ (xK F hm cM bZ n)
theorem II (F:dM K "places" "places" yI f fd) (hm:mg "places"=some (.ref f)) (iV:Callee P w K mg base 32 "places_of" (iK 31) []):Callee P w K mg base 33 "places" (iK 31) []:=by
 refine bP F hm IK (vH fun _ _ _ _ _ _ _=>rfl) (aI (bJ (aR iV (aA (uv 0) aB)))) ?_
 rintro us M Q ⟨p,rfl,hd,hs,q⟩
 refine ⟨rfl,?_⟩
 simp! only [fD,bO,bQ,dA]
 exact ⟨p,rfl,hd,hs,aY q⟩
end
section
variable {α β:Type} [DecidableEq α]
noncomputable def asc (l:List (α × β)) (a:α):Option β:=(l.find? fun e=>decide (e.1=a)).map (·.2)
noncomputable def d5 (l:List (α × β)) (a:α) (b:β):List (α × β):=if (l.any fun e=>decide (e.1=a))=true then l.map (fun e=>if e.1=a then (e.1,b) else e) else l++[(a,b)]
theorem eY {p:α × β} {r:List (α × β)} {a:α} (e:p.1=a):asc (p :: r) a=some p.2:=by simp [asc,List.find?_cons,e]
theorem eS {p:α × β} {r:List (α × β)} {a:α} (e:¬ p.1=a):asc (p :: r) a=asc r a:=by simp [asc,List.find?_cons,e]
theorem oY (a:α):∀ l:List (α × β),(l.any fun e=>decide (e.1=a))=(asc l a).isSome
 | []=>rfl
 | p :: r=>by
  rw [List.any_cons]
  by_cases e:p.1=a
  ·simp only [eY e,decide_eq_true e,Bool.true_or,Option.isSome_some]
  ·rw [eS e,decide_eq_false e,Bool.false_or];exact oY a r
theorem Bo {a:α}:∀ {l:List (α × β)} {b:β},asc l a=some b->(a,b)∈l
 | [],_,h=>by cases h
 | p :: r,b,h=>by
  by_cases e:p.1=a
  ·rw [eY e] at h;cases h;subst e;exact List.mem_cons_self
  ·rw [eS e] at h;exact List.mem_cons_of_mem _ (Bo h)
theorem dZ {a:α} {l:List (α × β)}:(asc l a).isSome=true ↔ a∈l.map (·.1):=by
 rw [<- oY,List.any_eq_true]
 constructor
 ·rintro ⟨e,he,h⟩;exact List.mem_map.mpr ⟨e,he,of_decide_eq_true h⟩
 ·intro h;obtain ⟨e,he,h⟩:=List.mem_map.mp h;exact ⟨e,he,decide_eq_true h⟩
theorem t7 {a:α} {l:List (α × β)}:asc l a=none ↔ a ∉ l.map (·.1):=by
 rw [<- dZ];cases asc l a <;> simp
theorem FL (a:α) (b:β) (x:α):∀ l:List (α × β),asc (l.map fun e=>if e.1=a then (e.1,b) else e) x=(asc l x).map fun y=>if x=a then b else y
 | []=>rfl
 | p :: r=>by
  have ih:=FL a b x r
  rw [List.map_cons]
  by_cases h:p.1=a
  ·rw [if_pos h]
   by_cases e:p.1=x
   ·rw [eY (p:=(p.1,b)) e,eY e,Option.map_some,if_pos (e.symm.trans h)]
   ·rw [eS (p:=(p.1,b)) e,eS e,ih]
  ·rw [if_neg h]
   by_cases e:p.1=x
   ·rw [eY (p:=p) e,eY e,Option.map_some,if_neg (fun z=>h (e.trans z))]
   ·rw [eS (p:=p) e,eS e,ih]
theorem jR (x:α):∀ l r:List (α × β),asc (l++r) x=match asc l x with | some b=>some b | none=>asc r x
 | [],r=>rfl
 | p :: l,r=>by
  rw [List.cons_append]
  by_cases e:p.1=x
  ·rw [eY e,eY e]
  ·rw [eS e,eS e];exact jR x l r
theorem jY (l:List (α × β)) (a x:α) (b:β):asc (d5 l a b) x=if x=a then some b else asc l x:=by
 unfold d5
 by_cases h:(l.any fun e=>decide (e.1=a))=true
 ·rw [if_pos h,FL]
  rw [oY] at h
  by_cases e:x=a
  ·obtain ⟨y,hy⟩:=Option.isSome_iff_exists.mp h
   rw [if_pos e,e,hy,Option.map_some,if_pos rfl]
  ·rw [if_neg e]
   cases asc l x with
   | none=>rfl
   | some y=>rw [Option.map_some,if_neg e]
 ·rw [if_neg h,jR]
  rw [oY] at h
  by_cases e:x=a
  ·subst e
   cases q:asc l x with
   | none=>rw [if_pos rfl];exact eY (p:=(x,b)) rfl
   | some y=>rw [q] at h;exact absurd rfl h
  ·rw [if_neg e]
   cases q:asc l x with
   | some y=>rfl
   | none=>exact eS (p:=(a,b)) (fun z=>e z.symm)
theorem kN (l:List (α × β)) (a:α) (b:β):(d5 l a b).map (·.1)=if (asc l a).isSome then l.map (·.1) else l.map (·.1)++[a]:=by
 unfold d5
 rw [oY]
 cases (asc l a).isSome with
 | true =>
  simp only [if_true,List.map_map]
  refine List.map_congr_left fun e _=>?_
  dsimp only [Function.comp]
  split <;> rfl
 | false=>simp
theorem E6 (l:List (α × β)) (a:α) (b:β):(d5 l a b).length=if (asc l a).isSome then l.length else l.length + 1:=by
 have:=congrArg List.length (kN l a b)
 rw [List.length_map] at this
 rw [this]
 cases (asc l a).isSome <;> simp
end
section
variable {σ:Type}
noncomputable def cI (f:σ->Option Int):List σ->Option Int
 | []=>some 0
 | s :: r=>match f s,cI f r with
  | some a,some b=>some (a + b)
  | _,_=>none
theorem iN {f:σ->Option Int} {s:σ} {r:List σ} {w:Int} (h:cI f (s :: r)=some w):∃ a b,f s=some a/\cI f r=some b/\w=a + b:=by
 simp only [cI] at h
 split at h
 ·rename_i a b h1 h2;cases h;exact ⟨a,b,h1,h2,rfl⟩
 ·cases h
theorem qL {f:σ->Option Int} {s:σ} {r:List σ} {a b:Int} (h1:f s=some a) (h2:cI f r=some b):cI f (s :: r)=some (a + b):=by
 simp only [cI,h1,h2]
theorem oK {f g:σ->Option Int}:∀ {l:List σ},(∀ s∈l,f s=g s)->cI f l=cI g l
 | [],_=>rfl
 | s :: r,h=>by simp only [cI];rw [h s List.mem_cons_self,oK fun x hx=>h x (List.mem_cons_of_mem _ hx)]
theorem tQ {f:σ->Option Int}:∀ {l:List σ} {w:Int},cI f l=some w->∀ s∈l,∃ a,f s=some a
 | [],_,_,s,hs=>by cases hs
 | x :: r,w,h,s,hs=>by
  obtain ⟨a,b,h1,h2,rfl⟩:=iN h
  rcases List.mem_cons.mp hs with rfl | hs
  ·exact ⟨a,h1⟩
  ·exact tQ h2 s hs
theorem rH {f:σ->Option Int} (hf:∀ s a,f s=some a->0<=a):∀ {l:List σ} {w:Int},cI f l=some w->0<=w
 | [],w,h=>by cases h;omega
 | x :: r,w,h=>by
  obtain ⟨a,b,h1,h2,rfl⟩:=iN h
  have:=hf x a h1
  have:=rH hf h2
  omega
theorem Fc {f:σ->Option Int} (hf:∀ s a,f s=some a->0<=a):∀ {l:List σ} {w:Int},cI f l=some w->∀ s∈l,∀ a,f s=some a->a<=w
 | [],w,h,s,hs,a,ha=>by cases hs
 | x :: r,w,h,s,hs,a,ha=>by
  obtain ⟨a1,b,h1,h2,rfl⟩:=iN h
  have p1:=hf x a1 h1
  have p2:=rH hf h2
  rcases List.mem_cons.mp hs with rfl | hs
  ·rw [ha] at h1;cases h1;omega
  ·have:=Fc hf h2 s hs a ha;omega
theorem qZ {f g:σ->Option Int} {s0:σ} (h:∀ s a,f s=some a->∃ a',g s=some a'/\a'<=a/\(s=s0->a' < a)):∀ {l:List σ} {w:Int},cI f l=some w->∃ w',cI g l=some w'/\w'<=w/\(s0∈l->w' < w)
 | [],w,e=>by cases e;exact ⟨0,rfl,by omega,fun h=>by cases h⟩
 | x :: r,w,e=>by
  obtain ⟨a,b,h1,h2,rfl⟩:=iN e
  obtain ⟨a',g1,g2,g3⟩:=h x a h1
  obtain ⟨b',k1,k2,k3⟩:=qZ h h2
  refine ⟨a' + b',qL g1 k1,by omega,fun hm=>?_⟩
  rcases List.mem_cons.mp hm with rfl | hm
  ·have:=g3 rfl;omega
  ·have:=k3 hm;omega
end
structure Ld where
 n:Nat
 cls:Str
 price:Int
 spots:List (List Nat × Str)
abbrev VM:=List (Str × Int)
abbrev CM:=List (Str × Ld)
abbrev VS:=List (List Nat × VM)
abbrev CS:=List (List Nat × CM)
noncomputable def bL (vs:VS) (s:List Nat × Str):Option Int:=(asc vs s.1).bind fun m=>asc m s.2
noncomputable def cur (vs:VS) (p:List Nat) (m:VM) (s:List Nat × Str):Option Int:=if s.1=p then asc m s.2 else bL vs s
theorem iB {vs:VS} {p:List Nat} {m:VM} (h:asc vs p=none) (s:List Nat × Str):cur vs p m s=bL (vs++[(p,m)]) s:=by
 unfold cur bL
 rw [jR]
 by_cases e:s.1=p
 ·rw [if_pos e,e,h]
  show _=(asc [(p,m)] p).bind _
  rw [eY (p:=(p,m)) rfl];rfl
 ·rw [if_neg e]
  cases q:asc vs s.1 with
  | some b=>rfl
  | none =>
   show _=(asc [(p,m)] s.1).bind _
   rw [eS (p:=(p,m)) (fun z=>e z.symm)];rfl
structure AJ (cs:List Str) (vs:VS) (p:List Nat) (sz:Nat) (l:Ld):Prop where
 p0:0<=l.price
 p1:l.price<=1000
 cls:l.cls∈cs
 len:l.spots.length<=64
 there:∀ s∈l.spots,s.1=p\/(asc vs s.1).isSome=true
 way:(∃ c2,l.spots=[(p,c2)])\/((∀ s∈l.spots,s.1≠p)/\∀ w,cI (bL vs) l.spots=some w->w<=6000 * ((sz:Int) - 1))
noncomputable def FD (vs:VS):Prop:=∀ s v,bL vs s=some v->0<=v/\v<=100000000
structure J (cs:List Str) (vs:VS) (p:List Nat) (sz:Nat) (ls:List Ld) (m:VM) (ch:CM):Prop where
 keys:m.map (·.1)=ch.map (·.1)
 nd:(m.map (·.1)).Nodup
 sub:∀ c∈m.map (·.1),c∈cs
 just:∀ c v,asc m c=some v->0<=v/\v<=1000 * (6 * ((sz:Int) - 1) + m.length)/\∃ l,asc ch c=some l/\l∈ls/\l.cls=c/\∃ w,cI (cur vs p m) l.spots=some w/\l.price + w<=v
 rk:∃ (rk:Str->Nat) (T:Nat),(∀ c,rk c < T)/\∀ c v l w,asc m c=some v->asc ch c=some l->cI (cur vs p m) l.spots=some w->l.price + w < v\/∀ s∈l.spots,s.1=p->rk s.2 < rk c
noncomputable def Fix (vs:VS) (p:List Nat) (ls:List Ld) (m:VM):Prop:=∀ l∈ls,∀ w,cI (cur vs p m) l.spots=some w->∃ v,asc m l.cls=some v/\v<=l.price + w
section
variable {cs:List Str} {vs:VS} {p:List Nat} {sz:Nat} {ls:List Ld} {m:VM} {ch:CM}
theorem J.nil:J cs vs p sz ls [] []:=⟨rfl,List.nodup_nil,(fun c h=>by cases h),(fun c v h=>by cases h),fun _=>0,1,(fun _=>Nat.zero_lt_one),fun c v l w h=>by cases h⟩
theorem J.cur0 (j:J cs vs p sz ls m ch) (hv:FD vs):∀ s a,cur vs p m s=some a->0<=a:=fun s a h=>by
 unfold cur at h
 split at h
 ·exact (j.just _ _ h).1
 ·exact (hv _ _ h).1
theorem J.len6 (j:J cs vs p sz ls m ch) (h6:cs.length<=6):m.length<=6:=by
 have:∀ (l k:List Str),l.Nodup->(∀ s∈l,s∈k)->l.length<=k.length:=by
  intro l
  induction l with
  | nil=>intro k _ _;simp
  | cons a l ih =>
   intro k hn hs
   obtain ⟨h1,h2⟩:=List.nodup_cons.mp hn
   have ha:=hs a List.mem_cons_self
   have:=ih (k.erase a) h2 fun s hsl=>by
    refine (List.mem_erase_of_ne fun z=>?_).mpr (hs s (List.mem_cons_of_mem _ hsl))
    subst z;exact h1 hsl
   rw [List.length_erase_of_mem ha] at this
   have hp:0 < k.length:=List.length_pos_of_mem ha
   simp only [List.length_cons];omega
 have h:=this _ _ j.nd j.sub
 rw [List.length_map] at h
 omega
theorem J.step {l:Ld} {w:Int} (hv:FD vs) (hl:l∈ls) (ok:AJ cs vs p sz l) (j:J cs vs p sz ls m ch) (hw:cI (cur vs p m) l.spots=some w) (hlow:∀ v,asc m l.cls=some v->l.price + w < v) :
  J cs vs p sz ls (d5 m l.cls (l.price + w)) (d5 ch l.cls l):=by
 have h0:=j.cur0 hv
 have hw0:=rH h0 hw
 have hsz:(1:Int)<=sz\/(sz:Int)=0:=by omega
 have hc':∀ s,cur vs p (d5 m l.cls (l.price + w)) s=if s=(p,l.cls) then some (l.price + w) else cur vs p m s:=by
  rintro ⟨q,c⟩
  unfold cur
  dsimp only
  by_cases e:q=p
  ·subst e
   rw [if_pos rfl,if_pos rfl,jY]
   by_cases e2:c=l.cls
   ·subst e2;rw [if_pos rfl,if_pos rfl]
   ·rw [if_neg e2,if_neg (fun z=>e2 (Prod.mk.inj z).2)]
  ·rw [if_neg e,if_neg e,if_neg (fun z=>e (Prod.mk.inj z).1)]
 have hstep:∀ s a,cur vs p m s=some a->∃ a',cur vs p (d5 m l.cls (l.price + w)) s=some a'/\a'<=a/\(s=(p,l.cls)->a' < a):=fun s a h=>by
  rw [hc']
  by_cases e:s=(p,l.cls)
  ·subst e
   have h':asc m l.cls=some a:=by unfold cur at h;rw [if_pos rfl] at h;exact h
   have:=hlow a h'
   rw [if_pos rfl]
   exact ⟨_,rfl,by omega,fun _=>this⟩
  ·rw [if_neg e]
   exact ⟨a,h,by omega,fun z=>absurd z e⟩
 have hlen:m.length<=(d5 m l.cls (l.price + w)).length:=by rw [E6];split <;> omega
 have hch:(asc ch l.cls).isSome=(asc m l.cls).isSome:=by
  have e1:=@dZ _ _ _ l.cls ch
  have e2:=@dZ _ _ _ l.cls m
  rw [j.keys] at e2
  cases h1:(asc ch l.cls).isSome <;> cases h2:(asc m l.cls).isSome <;> first | rfl | (exfalso;rw [h1] at e1;rw [h2] at e2;first | exact absurd (e2.mpr (e1.mp rfl)) (by decide) | exact absurd (e1.mpr (e2.mp rfl)) (by decide))
 refine ⟨?_,?_,?_,?_,?_⟩
 ·rw [kN,kN,hch,j.keys]
 ·rw [kN]
  cases h:(asc m l.cls).isSome with
  | true=>simp only [if_true];exact j.nd
  | false =>
   simp only [Bool.false_eq_true,if_false]
   have:l.cls ∉ m.map (·.1):=fun z=>by rw [dZ.mpr z] at h;cases h
   exact List.nodup_append.mpr ⟨j.nd,by simp,fun a ha b hb=>by
    cases List.mem_singleton.mp hb
    intro z;subst z;exact this ha⟩
 ·intro c hc
  rw [kN] at hc
  cases h:(asc m l.cls).isSome with
  | true=>rw [h] at hc;simp only [if_true] at hc;exact j.sub c hc
  | false =>
   rw [h] at hc
   simp only [Bool.false_eq_true,if_false,List.mem_append,List.mem_singleton] at hc
   rcases hc with hc | rfl
   ·exact j.sub c hc
   ·exact ok.cls
 ·intro c v h
  rw [jY] at h
  by_cases e:c=l.cls
  ·subst e
   rw [if_pos rfl] at h
   cases h
   obtain ⟨w',g1,g2,_⟩:=qZ hstep hw
   have p0:=ok.p0
   have p1:=ok.p1
   refine ⟨by omega,?_,l,by rw [jY,if_pos rfl],hl,rfl,w',g1,by omega⟩
   rw [E6]
   cases hm:asc m l.cls with
   | some old =>
    have:=hlow old hm
    have:=(j.just _ _ hm).2.1
    simp only [Option.isSome_some,if_true]
    omega
   | none =>
    simp only [Option.isSome_none,Bool.false_eq_true,if_false]
    rcases ok.way with ⟨c2,hs⟩ | ⟨hs,hb⟩
    ·rw [hs] at hw
     obtain ⟨a,b,k1,k2,rfl⟩:=iN hw
     cases k2
     have k1':asc m c2=some a:=by unfold cur at k1;rw [if_pos rfl] at k1;exact k1
     have:=(j.just _ _ k1').2.1
     omega
    ·have:=hb w (by rw [<- hw];exact oK fun s hs'=>by unfold cur;rw [if_neg (hs s hs')])
     omega
  ·rw [if_neg e] at h
   obtain ⟨v0,v1,l1,a1,a2,a3,w1,a4,a5⟩:=j.just c v h
   obtain ⟨w',g1,g2,_⟩:=qZ hstep a4
   exact ⟨v0,by omega,l1,by rw [jY,if_neg e];exact a1,a2,a3,w',g1,by omega⟩
 ·obtain ⟨rk,T,hT,hr⟩:=j.rk
  refine ⟨fun c=>if c=l.cls then T else rk c,T + 1,fun c=>by
   show (if c=l.cls then T else rk c) < T + 1
   by_cases z:c=l.cls
   ·rw [if_pos z];omega
   ·rw [if_neg z];have:=hT c;omega,fun c v l1 w1 h1 h2 h3=>?_⟩
  rw [jY] at h1 h2
  by_cases e:c=l.cls
  ·subst e
   rw [if_pos rfl] at h1 h2
   cases h1;cases h2
   refine .inr fun s hs hsp=>?_
   dsimp only
   rw [if_pos rfl]
   by_cases e2:s.2=l.cls
   ·exfalso
    obtain ⟨a,ha⟩:=tQ hw s hs
    have:=Fc h0 hw s hs a ha
    have ha':asc m l.cls=some a:=by unfold cur at ha;rw [if_pos hsp,e2] at ha;exact ha
    have:=hlow a ha'
    have:=ok.p0
    omega
   ·rw [if_neg e2];exact hT _
  ·rw [if_neg e] at h1 h2
   obtain ⟨v0,v1,l2,a1,a2,a3,w2,a4,a5⟩:=j.just c v h1
   rw [h2] at a1;cases a1
   obtain ⟨w',g1,g2,g3⟩:=qZ hstep a4
   rw [h3] at g1;cases g1
   by_cases hin:(p,l.cls)∈l1.spots
   ·have:=g3 hin;exact .inl (by omega)
   ·rcases hr c v l1 w2 h1 h2 a4 with hlt | hall
    ·exact .inl (by omega)
    ·refine .inr fun s hs hsp=>?_
     dsimp only
     rw [if_neg e,if_neg (fun z=>hin (by obtain ⟨s1,s2⟩:=s;dsimp only at hsp z;subst hsp z;exact hs))]
     exact hall s hs hsp
def mv (B:Nat):Option Int->Nat
 | some v=>v.toNat
 | none=>B
def mu (B:Nat) (cs:List Str) (m:VM):Nat:=(cs.map fun c=>mv B (asc m c)).sum
theorem Ml {B:Nat} {c0:Str} {v0:Int} {m:VM} (hv0:0<=v0) (hB:v0.toNat < B) (hlow:∀ v,asc m c0=some v->v0 < v):∀ cs:List Str,mu B cs (d5 m c0 v0)<=mu B cs m/\(c0∈cs->mu B cs (d5 m c0 v0) < mu B cs m)
 | []=>⟨Nat.le_refl _,fun h=>by cases h⟩
 | c :: cs=>by
  obtain ⟨h1,h2⟩:=Ml hv0 hB hlow cs
  have e1:∀ m:VM,mu B (c :: cs) m=mv B (asc m c) + mu B cs m:=fun m=>by simp only [mu,List.map_cons,List.sum_cons]
  rw [e1,e1,jY]
  by_cases e:c=c0
  ·subst e
   rw [if_pos rfl]
   have:v0.toNat < mv B (asc m c):=by
    cases hm:asc m c with
    | none=>exact hB
    | some v=>have:=hlow v hm;show v0.toNat < v.toNat;omega
   exact ⟨by show v0.toNat + _<=_;omega,fun _=>by show v0.toNat + _ < _;omega⟩
  ·rw [if_neg e]
   refine ⟨by omega,fun hm=>?_⟩
   rcases List.mem_cons.mp hm with rfl | hm
   ·exact absurd rfl e
   ·have:=h2 hm;omega
theorem J.low {l:Ld} {w:Int} (hv:FD vs) (hl:l∈ls) (ok:AJ cs vs p sz l) (h6:cs.length<=6) (hs1:1<=sz) (j:J cs vs p sz ls m ch) (hw:cI (cur vs p m) l.spots=some w) (hlow:∀ v,asc m l.cls=some v->l.price + w < v) :
  mu (6000 * sz + 1) cs (d5 m l.cls (l.price + w)) < mu (6000 * sz + 1) cs m:=by
 have j':=j.step hv hl ok hw hlow
 have h6':=j'.len6 h6
 obtain ⟨v0,v1,_⟩:=j'.just l.cls (l.price + w) (by rw [jY,if_pos rfl])
 exact (Ml v0 (by omega) hlow cs).2 ok.cls
structure DV (cs:List Str) (vs:VS) (p:List Nat) (sz:Nat) (ls:List Ld) (m:VM) (ch:CM):Prop where
 keys:m.map (·.1)=ch.map (·.1)
 nd:(m.map (·.1)).Nodup
 sub:∀ c∈m.map (·.1),c∈cs
 just:∀ c v,asc m c=some v->0<=v/\v<=6000 * sz/\∃ l,asc ch c=some l/\l∈ls/\l.cls=c/\∃ w,cI (cur vs p m) l.spots=some w/\v=l.price + w
 rk:∃ rk:Str->Nat,∀ c l,asc ch c=some l->∀ s∈l.spots,s.1=p->rk s.2 < rk c
 fix:Fix vs p ls m
theorem J.fill (h6:cs.length<=6) (j:J cs vs p sz ls m ch) (hf:Fix vs p ls m):DV cs vs p sz ls m ch:=by
 have eq:∀ c v l w,asc m c=some v->asc ch c=some l->cI (cur vs p m) l.spots=some w->v=l.price + w/\l∈ls/\l.cls=c:=fun c v l w h1 h2 h3=>by
  obtain ⟨v0,v1,l1,a1,a2,a3,w1,a4,a5⟩:=j.just c v h1
  rw [h2] at a1;cases a1
  rw [h3] at a4;cases a4
  obtain ⟨v',b1,b2⟩:=hf l a2 w h3
  rw [a3,h1] at b1;cases b1
  exact ⟨by omega,a2,a3⟩
 refine ⟨j.keys,j.nd,j.sub,fun c v h=>?_,?_,hf⟩
 ·obtain ⟨v0,v1,l1,a1,a2,a3,w1,a4,a5⟩:=j.just c v h
  have:=j.len6 h6
  exact ⟨v0,by omega,l1,a1,a2,a3,w1,a4,(eq c v l1 w1 h a1 a4).1⟩
 ·obtain ⟨rk,T,hT,hr⟩:=j.rk
  refine ⟨rk,fun c l h s hs hsp=>?_⟩
  have:(asc m c).isSome=true:=by
   rw [dZ,j.keys,<- dZ,h];rfl
  obtain ⟨v,hv⟩:=Option.isSome_iff_exists.mp this
  obtain ⟨v0,v1,l1,a1,a2,a3,w1,a4,a5⟩:=j.just c v hv
  rw [h] at a1;cases a1
  rcases hr c v l w1 hv h a4 with hlt | hall
  ·have:=(eq c v l w1 hv h a4).1;omega
  ·exact hall s hs hsp
def pk (p:List Nat):List Key:=p.map fun (n:Nat)=>Sum.inl (n:Int)
theorem vN {p q:List Nat} (h:pk p=pk q):p=q:=by
 induction p generalizing q with
 | nil=>cases q with
  | nil=>rfl
  | cons a r=>cases h
 | cons a r ih=>cases q with
  | nil=>cases h
  | cons b s =>
   simp only [pk,List.map_cons,List.cons.injEq,Sum.inl.injEq] at h
   have h1:a=b:=by omega
   rw [h1,ih h.2]
theorem oV (p:List Nat):gC (p.map fun (n:Nat)=>U.int (n:Int))=some (pk p):=by
 induction p with
 | nil=>rfl
 | cons a r ih=>simp only [List.map_cons,gC,lG,ih];rfl
noncomputable def Ld.toU (l:Ld):U:=.tup [.int l.n,.str l.cls,.int l.price,.lst (l.spots.map dS)]
noncomputable def rX (l:Ld):U:=.tup [.int l.n,.lst (l.spots.map dS)]
def mD (m:VM):List (Key × U):=m.map fun e=>(Sum.inr e.1,.int e.2)
def tW (ch:CM):List (Key × U):=ch.map fun e=>(Sum.inr e.1,rX e.2)
def nK (m:VM):U:=.dic (m.map fun e=>[Sum.inr e.1]) false (m.map fun e=>.int e.2)
def mZ (ch:CM):U:=.dic (ch.map fun e=>[Sum.inr e.1]) false (ch.map fun e=>rX e.2)
noncomputable def kM (vs:VS):List (List Key × U):=vs.map fun e=>(pk e.1,nK e.2)
noncomputable def kQ (cs:CS):List (List Key × U):=cs.map fun e=>(pk e.1,mZ e.2)
section
variable {α β κ:Type} [DecidableEq α] [DecidableEq κ]
theorem iT (k:α->κ) (hk:∀ a b,k a=k b->a=b) (g:β->U) (a:α):∀ l:List (α × β),cP (l.map fun e=>(k e.1,g e.2)) (k a)=(asc l a).map g
 | []=>rfl
 | p :: r=>by
  rw [List.map_cons]
  by_cases e:p.1=a
  ·rw [jM (p:=(k p.1,g p.2)) (by rw [e]),eY e];rfl
  ·rw [kO (p:=(k p.1,g p.2)) (fun z=>e (hk _ _ z)),eS e];exact iT k hk g a r
theorem tE (k:α->κ) (hk:∀ a b,k a=k b->a=b) (g:β->U) (a:α) (b:β) (l:List (α × β)):fW (l.map fun e=>(k e.1,g e.2)) (k a) (g b)=(d5 l a b).map fun e=>(k e.1,g e.2):=by
 unfold fW d5
 rw [xZ,iT k hk,oY,Option.isSome_map]
 cases (asc l a).isSome with
 | true =>
  simp only [if_true,List.map_map]
  refine List.map_congr_left fun e _=>?_
  dsimp only [Function.comp]
  by_cases h:e.1=a
  ·rw [if_pos (by rw [h]),if_pos h]
  ·rw [if_neg (fun z=>h (hk _ _ z)),if_neg h]
 | false=>simp
theorem nM (k:κ):∀ l r:List (κ × U),cP (l++r) k=match cP l k with | some u=>some u | none=>cP r k
 | [],r=>rfl
 | p :: l,r=>by
  rw [List.cons_append]
  by_cases e:p.1=k
  ·rw [jM e,jM e]
  ·rw [kO e,kO e];exact nM k l r
end
theorem nG:∀ a b:Str,(Sum.inr a:Key)=Sum.inr b->a=b:=fun a b h=>Sum.inr.inj h
theorem AE (m:VM) (c:Str):cP (mD m) (.inr c)=(asc m c).map U.int:=iT (fun c:Str=>(Sum.inr c:Key)) nG U.int c m
theorem HR (m:CM) (c:Str):cP (tW m) (.inr c)=(asc m c).map rX:=iT (fun c:Str=>(Sum.inr c:Key)) nG rX c m
theorem MR (m:VM) (c:Str) (v:Int):fW (mD m) (.inr c) (.int v)=mD (d5 m c v):=tE (fun c:Str=>(Sum.inr c:Key)) nG U.int c v m
theorem Oc (m:CM) (c:Str) (l:Ld):fW (tW m) (.inr c) (rX l)=tW (d5 m c l):=tE (fun c:Str=>(Sum.inr c:Key)) nG rX c l m
theorem FW (vs:VS) (p:List Nat):cP (kM vs) (pk p)=(asc vs p).map nK:=iT pk (fun _ _=>vN) nK p vs
theorem Gw (vs:CS) (p:List Nat):cP (kQ vs) (pk p)=(asc vs p).map mZ:=iT pk (fun _ _=>vN) mZ p vs
theorem CV {γ:Type} (g:γ->U) (k:Str->Key):∀ m:List (Str × γ),((m.map fun e=>[k e.1]).map nY).zip (m.map fun e=>g e.2)=m.map fun e=>(k e.1,g e.2)
 | []=>rfl
 | e :: m=>by simp only [List.map_cons,List.zip_cons_cons,nY];rw [CV g k m]
theorem DD {M:aE} (m:VM):eX M (nK m)=some (.dK (mD m)):=by
 simp only [nK,eX];rw [CV U.int Sum.inr m];rfl
theorem IU {M:aE} (m:CM):eX M (mZ m)=some (.dK (tW m)):=by
 simp only [mZ,eX];rw [CV rX Sum.inr m];rfl
theorem DO {M:aE} {v:Addr} {kvs:List (List Key × U)} (p:List Nat) (h:M v=some (.dT kvs)):cS true M (.ref v) (aO p)=some (cP kvs (pk p)):=by
 simp only [cS,eX,h,aO,oV,Option.map_some]
theorem lN {M:aE} {x:U} {kvs:List (Key × U)} (c:Str) (h:eX M x=some (.dK kvs)):cS false M x (.str c)=some (cP kvs (.inr c)):=by
 simp only [cS,h,lG]
theorem Cp {M:aE} {x:U} {kvs:List (Key × U)} (h:eX M x=some (.dK kvs)):uF M x=true:=by simp only [uF,h]
theorem Of {M M':aE} {x:U} {mo:MO} (s:Sub M M') (h:eX M x=some mo):eX M' x=some mo:=by
 cases x with
 | ref a=>exact s a _ h
 | dic ks tk us=>cases tk <;> exact h
 | _=>cases h
noncomputable def oB:Option Int->U
 | some a=>.int a
 | none=>.non
noncomputable def Ga (pr:Int):Option Int->U
 | some w=>.int (pr + w)
 | none=>.non
theorem Df (f:List Nat × Str->Option Int):∀ spots:List (List Nat × Str),(∃ ns:List Int,spots.map (fun s=>oB (f s))=ns.map U.int/\cI f spots=some ns.sum/\(∀ n∈ns,∃ s∈spots,f s=some n)/\ns.length=spots.length)\/((spots.map (fun s=>oB (f s))).any (fun u=>vD u .non)=true/\cI f spots=none)
 | []=>.inl ⟨[],rfl,rfl,(fun n h=>by cases h),rfl⟩
 | s :: r=>by
  cases h:f s with
  | none=>exact .inr ⟨by simp [h,oB,vD],by simp only [cI,h]⟩
  | some a =>
   rcases Df f r with ⟨ns,h1,h2,h3,h4⟩ | ⟨h1,h2⟩
   ·refine .inl ⟨a :: ns,by rw [List.map_cons,List.map_cons,h1,h];rfl,by rw [qL h h2,List.sum_cons],fun n hn=>?_,by simp [h4]⟩
    rcases List.mem_cons.mp hn with rfl | hn
    ·exact ⟨s,List.mem_cons_self,h⟩
    ·obtain ⟨s',h5,h6⟩:=h3 n hn;exact ⟨s',List.mem_cons_of_mem _ h5,h6⟩
   ·exact .inr ⟨by simp only [List.map_cons,List.any_cons,h1,Bool.or_true],by simp only [cI,h,h2]⟩
theorem LK (f:List Nat × Str->Option Int) (spots:List (List Nat × Str)):(spots.map (fun s=>oB (f s))).all k4=true:=by
 induction spots with
 | nil=>rfl
 | cons s r ih =>
  rw [List.map_cons,List.all_cons,ih]
  cases f s <;> rfl
theorem Ow (ns:List Int):((ns.map U.int).any fun u=>vD u .non)=false:=by
 induction ns with
 | nil=>rfl
 | cons a r ih=>rw [List.map_cons,List.any_cons,ih];rfl
theorem Rr {ns:List Int} (h:∀ n∈ns,0<=n/\n<=100000000) (hl:ns.length<=64):PySem.SumFits ns:=by
 intro j hj
 have hm:ns.getD j 0∈ns:=by
  rw [List.getD_eq_getElem?_getD,List.getElem?_eq_getElem hj];exact List.getElem_mem hj
 obtain ⟨h1,h2⟩:=h _ hm
 obtain ⟨h3,h4⟩:=D6 100000000 (ns.take (j + 1)) fun x hx=>h x (List.mem_of_mem_take hx)
 have h5:(ns.take (j + 1)).length<=64:=by rw [List.length_take];omega
 have h6:((100000000:Nat):Int) * ((ns.take (j + 1)).length:Int)<=6400000000:=by omega
 constructor <;> (unfold InLong;constructor <;> omega)
noncomputable def JY:dB:=fun us M Q=>∃ (pr:Int) (ns:List Int),us=[.int pr,.lst (ns.map .int)]/\(∀ n∈ns,0<=n/\n<=100000000)/\ns.length<=64/\Q (.int (pr + ns.sum)) M
theorem Ak (F:dM K "joined_price" "joined_price" nD f fd) (tX:mg "sum"=none):uE P w K mg base 1 f JY:=by
 refine ⟨fd,["price","prices"],FG F Az (fun us M Q h=>by obtain ⟨_,_,rfl,_⟩:=h;rfl) (aI (bJ (cG (own:=false) (uv 0) (tL FY tX (aA (uv 1) aB))))) ?_,F.kp,F.binds (qY fun _ _ _ _ _ _ _ _=>rfl)⟩
 rintro us M Q ⟨pr,ns,rfl,hb,hl,q⟩
 simp_all! only [fD,zM]
 exact ⟨Rr hb hl,aY q⟩
def wI (M:aE) (v:Addr) (g:List Nat × Str->Option Int) (s:List Nat × Str):Prop:=∃ kvs x kv2,M v=some (.dT kvs)/\cP kvs (pk s.1)=some x/\eX M x=some (.dK kv2)/\cP kv2 (.inr s.2)=(g s).map U.int
noncomputable def Jy (fj:Addr):dB:=fun us M Q=>∃ (pr:Int) (spots:List (List Nat × Str)) (v:Addr) (g:List Nat × Str->Option Int),us=[.int pr,.lst (spots.map dS),.ref v,.ref fj]/\spots.length<=64/\(∀ s∈spots,wI M v g s)/\(∀ s∈spots,∀ a,g s=some a->0<=a/\a<=100000000)/\Q (Ga pr (cI g spots)) M
theorem Cc {fj:Addr} (F:dM K "join_spots" "join_spots" pQ f fd) (hm:mg "join_spots"=some (.ref f)) (hNK:jJ K) (A_joined:uE P w K mg base 1 fj JY):Callee P w K mg base 2 "join_spots" (Jy fj) []:=by
 refine bP F hm uR (O8 fun _ _ _ _ _ _ _ _ _ _=>rfl) (aD (oW 4 uR.nd false ["place","cls","values"] 2 [2] (dN (uv 1)) (eN (n:=2) (aV (aN (k:=2) 0 (by dsimp only [bM];decide +kernel)) (aV (aN (k:=2) 1 (by dsimp only [bM];decide +kernel)) dQ))) gK (o7 false j4 (dP true (fun _=>hNK) (uv 2) (uv 0)) (uv 1)))
 (aI (bJ (Cq (dC PN Cu (uv 4)) Cu (Lc 3 A_joined (aA (uv 0) (aA (uv 4) aB))))))) ?_
 rintro us M Q ⟨pr,spots,v,g,rfl,hl,hat,hb,q⟩
 refine ⟨rfl,?_⟩
 refine aH fun V hV=>?_
 refine dE (S:=⟨none,spots.map dS⟩) (M1:=M) (spots.map fun s=>oB (g s)) (fun R r=>r) (by simp) (small (by show (spots.map dS).length<=_;rw [List.length_map];omega)) (fun a e=>by cases e) ?_ ?_
 ·intro j x y hx hy M' hS R r'
  have hx':(spots.map dS)[j]?=some x:=hx
  rw [List.getElem?_map] at hx' hy
  cases hj:spots[j]? with
  | none=>rw [hj] at hx';cases hx'
  | some s =>
   rw [hj] at hx' hy
   cases hx';cases hy
   obtain ⟨kvs,xx,kv2,e1,e2,e3,e4⟩:=hat s (List.mem_of_getElem? hj)
   have l1:=DO s.1 (hS v _ e1)
   have e3':=Of hS e3
   have l2:=lN s.2 e3'
   have l3:=Cp e3'
   simp_all! only [dS,jB,gU,j6,hName,l1,e2,l2,l3,e4]
   have r2:R (oB (g s)) M':=r'
   cases hg:g s with
   | none=>rw [hg] at r2;exact r2
   | some a=>rw [hg] at r2;exact r2
 ·simp_all! only [hName]
  subst hV
  simp_all! only [fD,LK,show k4 .non=true from rfl]
  rcases Df g spots with ⟨ns,h1,h2,h3,h4⟩ | ⟨h1,h2⟩
  ·rw [h1,Ow]
   simp_all! only [true_and]
   refine ⟨pr,ns,rfl,fun n hn=>?_,by omega,aY (by rw [h2] at q;exact q)⟩
   obtain ⟨s,hs,e⟩:=h3 n hn
   exact hb s hs n e
  ·rw [h1]
   simp_all! only [true_and]
   exact aY (by rw [h2] at q;exact q)
noncomputable def bY (t:Tr) (p:List Nat):Nat->List Tl->List Ld
 | _,[]=>[]
 | k,tl :: r=>(if cN tl.pt t then [⟨k,tl.cls,tl.cost,(eF tl.pt).map fun e=>(p++e.1,e.2)⟩] else [])++bY t p (k + 1) r
theorem BL (t:Tr) (p:List Nat) (tl:Tl):∀ (l:List Tl) (k:Nat),bY t p k (l++[tl])=bY t p k l++(if cN tl.pt t then [⟨k + l.length,tl.cls,tl.cost,(eF tl.pt).map fun e=>(p++e.1,e.2)⟩] else [])
 | [],k=>by simp [bY]
 | a :: l,k=>by
  rw [List.cons_append]
  simp only [bY]
  rw [BL t p tl l (k + 1),List.append_assoc,List.length_cons,show k + 1 + l.length=k + (l.length + 1) by omega]
theorem qA (t:Tr) (p:List Nat):∀ (l:List Tl) (k:Nat),(bY t p k l).length<=l.length
 | [],k=>by simp [bY]
 | a :: l,k=>by
  have:=qA t p l (k + 1)
  simp only [bY,List.length_append,List.length_cons]
  split <;> simp <;> omega
def vQ:dB:=fun us M Q=>∃ (cs:List Str) (tls:List Tl) (t t':Tr) (p:List Nat),us=[fB cs tls,t.toU,aO p]/\jN t.toU p=some t'.toU/\(∀ tl∈tls,tl.pt.dep<=6)/\tls.length<=39/\p.length<=1000/\Q (.lst ((bY t' p 0 tls).map Ld.toU)) M
theorem Ek (F:dM K "tiles_at" "tiles_at" sX f fd) (hm:mg "tiles_at"=some (.ref f)) (cM:mg "enumerate"=none) (HI:Callee P w K mg base 3 "tree_at" zF []) (DR:Callee P w K mg base 9 "lies" (uW 6) []) (Oo:Callee P w K mg base 8 "holes" FA []):Callee P w K mg base 10 "tiles_at" vQ []:=by
 refine bP F hm j0 (D9 fun _ _ _ _ _ _ _ _ _=>rfl) (aD (aU 3 j0.nd (aR HI (aA (uv 1) (aA (uv 2) aB))))
 (aD (aU 4 j0.nd (i9 (own:=true) aB))
 (aD (eL (pS cM (aA (aQ (uv 0) aP) aB)) (eN (n:=2) (aV (aN (k:=1000) 5 j0.nd) (aV (aN (k:=1000) 6 j0.nd) dQ)))
 (aI (dX (rR (aR DR (aA (aQ (uv 6) aP) (aA (uv 3) aB))))
 (aD (oW 7 j0.nd false ["below","cls","place"] 2 [2] (dN (aR Oo (aA (aQ (uv 6) aP) aB))) (eN (n:=2) (aV (aN (k:=2) 0 (by dsimp only [bM];decide +kernel)) (aV (aN (k:=2) 1 (by dsimp only [bM];decide +kernel)) dQ))) gK (bD (aA (cG (own:=false) (uv 2) (uv 0)) (aA (uv 1) aB))))
 (aI (iD (qP (uv 4) (aA (bD (aA (uv 5) (aA (aQ (uv 6) aP) (aA (aQ (uv 6) aP) (aA (uv 7) aB))))) aB)))))
 cQ)))
 (aI (bJ (uv 4)))))) ?_
 rintro us M Q ⟨cs,tls,t,t',p,rfl,hat,hdep,hlen,hpl,q⟩
 refine ⟨rfl,?_⟩
 refine aH fun V hV=>?_
 simp_all! only [bC,hName]
 refine ⟨t.toU,t'.toU,p,rfl,hat,?_⟩
 subst hV
 refine aH fun V hV=>?_
 simp_all! only [bC,hName]
 intro r hr
 subst hV
 refine aH fun V hV=>?_
 refine fL (S:=⟨none,numbered (tls.map Tl.toU)⟩) (M1:=mup M r (.lst [])) (fun R r'=>by simp_all! only [pE];exact r')
  (fun i τ Mi=>∃ z5 z6 z7:Option U,τ=[some (fB cs tls),some t.toU,some (aO p),some t'.toU,some (.ref r),z5,z6,z7]/\Mi=mup M r (.lst ((bY t' p 0 (tls.take i)).map Ld.toU))) ⟨none,none,none,rfl,rfl⟩ nk ?_ ?_
 ·rintro i x τ Mi e ⟨z5,z6,z7,rfl,rfl⟩
  obtain ⟨u,hu,rfl⟩:=mK e
  rw [List.getElem?_map] at hu
  cases hj:tls[i]? with
  | none=>rw [hj] at hu;cases hu
  | some tl =>
   rw [hj] at hu
   cases hu
   have hi:=(List.getElem?_eq_some_iff.mp hj).1
   have hd:=hdep tl (List.mem_of_getElem? hj)
   have hh:=wH tl.pt hd
   have hnext:bY t' p 0 (tls.take (i + 1))=bY t' p 0 (tls.take i)++(if cN tl.pt t' then [⟨i,tl.cls,tl.cost,(eF tl.pt).map fun e=>(p++e.1,e.2)⟩] else []):=by
    rw [List.take_add_one,hj]
    have:=BL t' p tl (tls.take i) 0
    rw [List.length_take,Nat.min_eq_left (Nat.le_of_lt hi),Nat.zero_add] at this
    exact this
   refine ⟨rfl,?_⟩
   simp_all! only [jB,gU,j6,hName]
   refine fG fun A B hA hB=>?_
   simp_all! only [zG]
   refine ⟨tl.pt,t',rfl,hd,?_⟩
   cases hl:cN tl.pt t' with
   | false =>
    rw [hl] at hnext
    simp only [Bool.false_eq_true,if_false,List.append_nil] at hnext
    simp only [l8,Bool.false_eq_true,if_false]
    subst hB
    simp only [eW]
    exact ⟨_,_,_,rfl,by rw [hnext]⟩
   | true =>
    rw [hl] at hnext
    simp only [if_true] at hnext
    simp only [l8,if_true]
    subst hA
    refine aH fun V1 hV1=>?_
    refine dE (S:=⟨none,(eF tl.pt).map dS⟩) (M1:=mup M r (.lst ((bY t' p 0 (tls.take i)).map Ld.toU))) (((eF tl.pt).map fun e=>(p++e.1,e.2)).map dS) (fun R r'=>by simp_all! only [zG];exact ⟨tl.pt,rfl,hd,r'⟩) (by simp) (small (by show ((eF tl.pt).map dS).length<=_;rw [List.length_map];omega)) (fun a e=>by cases e) ?_ ?_
    ·intro j x y hx hy M' hS R r'
     have hx':((eF tl.pt).map dS)[j]?=some x:=hx
     rw [List.getElem?_map] at hx' hy
     rw [List.getElem?_map] at hy
     cases hj':(eF tl.pt)[j]? with
     | none=>rw [hj'] at hx';cases hx'
     | some e' =>
      rw [hj'] at hx' hy
      cases hx';cases hy
      have hsh:e'.1.length<=1000:=by
       have h1:=(List.mem_of_getElem? hj')
       have h2:e'.1∈tl.pt.places:=by
        obtain ⟨y,hy1,hy2⟩:=List.mem_filterMap.mp h1
        have h3:y.1∈(b9 tl.pt []).map (·.1):=List.mem_map.mpr ⟨y,hy1,rfl⟩
        rw [jQ] at h3
        have h4:y.1=e'.1:=by
         obtain ⟨y1,y2⟩:=y
         cases y2 <;> simp [hF] at hy2
         rw [<- hy2]
        rw [h4] at h3
        simpa using h3
       have:=lO tl.pt e'.1 h2
       omega
      simp_all! only [dS,aO,jB,gU,j6,hName]
      refine ⟨small (by rw [List.length_map,List.length_map];omega),?_⟩
      rw [<- List.map_append]
      exact r'
    ·simp_all! only [hName]
     subst hV1
     simp_all! only [kY,zG]
     have hll:=qA t' p (tls.take i) 0
     rw [List.length_take] at hll
     refine ⟨w9,big (by rw [List.length_map];omega),_,_,_,rfl,?_⟩
     rw [hnext,List.map_append]
     rfl
 ·rintro τ Mi ⟨z5,z6,z7,rfl,rfl⟩
  rw [l7,List.length_map,List.take_length]
  subst hV
  simp_all! only [fD]
  exact ⟨_,M,(Sub.refl M).mup hr,.inr ⟨r,_,rfl,aG,hr,rfl⟩,q⟩
theorem mW {M:aE} {a b:Addr} {x y:MO} (h:a≠b):mup (mup M a x) b y=mup (mup M b y) a x:=by
 funext z
 by_cases e1:z=a
 ·subst e1;rw [aM h,aG,aG]
 ·by_cases e2:z=b
  ·subst e2;rw [aG,aM e1,aG]
  ·rw [aM e2,aM e1,aM e1,aM e2]
structure Ap (v c p1 p2:Addr):Prop where
 vc:v≠c
 v1:v≠p1
 v2:v≠p2
 c1:c≠p1
 c2:c≠p2
 p12:p1≠p2
noncomputable def gX (M:aE) (v c p1 p2:Addr) (KV KC:List (List Key × U)) (m:VM) (ch:CM):aE:=mup (mup (mup (mup M v (.dT KV)) c (.dT KC)) p1 (.dK (mD m))) p2 (.dK (tW ch))
section
variable {M:aE} {v c p1 p2:Addr} {KV KC:List (List Key × U)} {m:VM} {ch:CM}
theorem Cm (h:Ap v c p1 p2):gX M v c p1 p2 KV KC m ch v=some (.dT KV):=by unfold gX;rw [aM h.v2,aM h.v1,aM h.vc,aG]
theorem Mr (h:Ap v c p1 p2):gX M v c p1 p2 KV KC m ch c=some (.dT KC):=by unfold gX;rw [aM h.c2,aM h.c1,aG]
theorem zQ (h:Ap v c p1 p2):gX M v c p1 p2 KV KC m ch p1=some (.dK (mD m)):=by unfold gX;rw [aM h.p12,aG]
theorem MG:gX M v c p1 p2 KV KC m ch p2=some (.dK (tW ch)):=aG
theorem LM (h:Ap v c p1 p2) {m':VM}:mup (gX M v c p1 p2 KV KC m ch) p1 (.dK (mD m'))=gX M v c p1 p2 KV KC m' ch:=by
 unfold gX;rw [<- mW h.p12,bN]
theorem J4 {ch':CM}:mup (gX M v c p1 p2 KV KC m ch) p2 (.dK (tW ch'))=gX M v c p1 p2 KV KC m ch':=by unfold gX;rw [bN]
end
noncomputable def KG (kvs:List (Key × U)):VM:=kvs.filterMap fun e=>match e with
 | (.inr c,.int v)=>some (c,v)
 | _=>none
theorem KN (m:VM):KG (mD m)=m:=by
 induction m with
 | nil=>rfl
 | cons e m ih=>simp only [mD,KG,List.map_cons,List.filterMap_cons] at ih ⊢;rw [ih]
noncomputable def Q1 (B:Nat) (cs:List Str) (p1:Addr) (τ:SU) (M:aE):Nat:=2 * (match M p1 with | some (.dK kvs)=>mu B cs (KG kvs) | _=>0) + (match τ[5]? with | some (some (.bl true))=>1 | _=>0)
noncomputable def E5 (fj:Addr):dB:=fun us M Q=>∃ (ls:List Ld) (p:List Nat) (v c:Addr) (vs:VS) (chs:CS) (cs:List Str) (sz:Nat),us=[.lst (ls.map Ld.toU),aO p,.ref v,.ref c,.ref fj]/\v≠c/\M v=some (.dT (kM vs))/\M c=some (.dT (kQ chs))/\asc vs p=none/\asc chs p=none/\vs.length<=1000/\chs.length<=1000/\ls.length<=1000/\FD vs/\cs.length<=6/\1<=sz/\sz<=1000/\(∀ l∈ls,AJ cs vs p sz l) /\
 ∀ (p1 p2:Addr) (m:VM) (ch:CM),M p1=none->M p2=none->p1≠p2->DV cs vs p sz ls m ch->Q .non (gX M v c p1 p2 (kM vs++[(pk p,.ref p1)]) (kQ chs++[(pk p,.ref p2)]) m ch)
theorem LX {fj:Addr} (F:dM K "fill_least" "fill_least" pJ f fd) (hm:mg "fill_least"=some (.ref f)) (hNK:jJ K) (DA:Callee P w K mg base 2 "join_spots" (Jy fj) []):Callee P w K mg base 3 "fill_least" (E5 fj) []:=by
 refine bP F hm d8 (Sb fun _ _ _ _ _ _ _ _ _ _ _=>rfl) (aD (jV true (fun _=>hNK) (jZ false) (uv 2) (uv 1))
 (aD (jV true (fun _=>hNK) (jZ false) (uv 3) (uv 1))
 (aD (aU 5 d8.nd B0)
 (aI (yN (rR (uv 5))
 (aD (aU 5 d8.nd B0)
 (aI (eL (dN (uv 0)) (eN (n:=4) (aV (aN (k:=1000) 6 d8.nd) (aV (aN (k:=1000) 7 d8.nd) (aV (aN (k:=1000) 8 d8.nd) (aV (aN (k:=1000) 9 d8.nd) dQ)))))
 (aD (aU 10 d8.nd (aR DA (aA (uv 8) (aA (uv 9) (aA (uv 2) (aA (uv 4) aB))))))
 (aI (dX (pK.pt (Ik (dC PR (uv 10) Cu) (Fn (pK.pt (wJ (dC (Kt false j4) (uv 7) (dP true (fun _=>hNK) (uv 2) (uv 1))) (vX (dC zC (uv 10) (dP false j4 (dP true (fun _=>hNK) (uv 2) (uv 1)) (uv 7)))))))))
 (aD (jV false j4 (uv 10) (dP true (fun _=>hNK) (uv 2) (uv 1)) (uv 7))
 (aD (jV false j4 (bD (aA (uv 6) (aA (uv 9) aB))) (dP true (fun _=>hNK) (uv 3) (uv 1)) (uv 7))
 (aI (aU 5 d8.nd B0))))
 cQ))))))))))) ?_
 rintro us M Q ⟨ls,p,v,c,vs,chs,cs,sz,rfl,hvc,hMv,hMc,hvp,hcp,hvl,hcl,hll,hlow,h6,hs1,hs2,hok,q⟩
 refine ⟨rfl,?_⟩
 have vs0:cP (kM vs) (pk p)=none:=by rw [FW,hvp];rfl
 have cs0:cP (kQ chs) (pk p)=none:=by rw [Gw,hcp];rfl
 refine aH fun V hV=>?_
 simp_all! only [kZ]
 intro p1 hp1
 have hv1:v≠p1:=fun z=>by subst z;rw [hMv] at hp1;cases hp1
 have hc1:c≠p1:=fun z=>by subst z;rw [hMc] at hp1;cases hp1
 simp only [xT,aM hv1,hMv,aO,oV,Bool.false_eq_true,if_false]
 refine ⟨big (by rw [kM,List.length_map];omega),?_⟩
 rw [p8 vs0]
 subst hV
 refine aH fun V hV=>?_
 simp_all! only [kZ]
 intro p2 hp2
 have hp21:p2≠p1:=fun z=>by subst z;rw [aM (fun e=>hv1 e.symm),aG] at hp2;cases hp2
 have hp2v:p2≠v:=fun z=>by subst z;rw [aG] at hp2;cases hp2
 rw [aM hp2v,aM hp21] at hp2
 have hp2c:p2≠c:=fun z=>by subst z;rw [hMc] at hp2;cases hp2
 simp only [xT,aM (fun e=>hp2c e.symm:c≠p2),aM (fun e=>hvc e.symm:c≠v),aM hc1,hMc,aO,oV,Bool.false_eq_true,if_false]
 refine ⟨big (by rw [kQ,List.length_map];omega),?_⟩
 rw [p8 cs0]
 have ap:Ap v c p1 p2:=⟨hvc,hv1,fun e=>hp2v e.symm,hc1,fun e=>hp2c e.symm,fun e=>hp21 e.symm⟩
 have e0:mup (mup (mup (mup M p1 (.dK [])) v (.dT (kM vs++[(pk p,.ref p1)]))) p2 (.dK [])) c (.dT (kQ chs++[(pk p,.ref p2)]))=gX M v c p1 p2 (kM vs++[(pk p,.ref p1)]) (kQ chs++[(pk p,.ref p2)]) [] []:=by
  unfold gX
  show _=mup (mup (mup (mup M v _) c _) p1 (.dK [])) p2 (.dK [])
  rw [mW (a:=p2) (b:=c) (fun e=>ap.c2 e.symm),mW (a:=p1) (b:=v) (fun e=>ap.v1 e.symm),mW (a:=p1) (b:=c) (fun e=>ap.c1 e.symm)]
 rw [e0]
 have q2:=fun m ch=>q p1 p2 m ch hp1 hp2 ap.p12
 generalize hKV:kM vs++[(pk p,U.ref p1)]=KV at *
 generalize hKC:kQ chs++[(pk p,U.ref p2)]=KC at *
 have hKVp:cP KV (pk p)=some (.ref p1):=by
  rw [<- hKV,nM,vs0];exact jM (p:=(pk p,U.ref p1)) rfl
 have hKCp:cP KC (pk p)=some (.ref p2):=by
  rw [<- hKC,nM,cs0];exact jM (p:=(pk p,U.ref p2)) rfl
 have vals:∀ (m:VM) (ch:CM) (s:List Nat × Str),(s.1=p\/(asc vs s.1).isSome=true)->wI (gX M v c p1 p2 KV KC m ch) v (cur vs p m) s:=by
  intro m ch s hs
  by_cases e:s.1=p
  ·refine ⟨KV,.ref p1,mD m,Cm ap,by rw [e];exact hKVp,zQ ap,?_⟩
   unfold cur;rw [if_pos e];exact AE m s.2
  ·have h2:=hs.resolve_left e
   obtain ⟨m2,hm2⟩:=Option.isSome_iff_exists.mp h2
   refine ⟨KV,nK m2,mD m2,Cm ap,?_,DD m2,?_⟩
   ·rw [<- hKV,nM,FW,hm2];rfl
   ·unfold cur bL;rw [if_neg e,hm2];exact AE m2 s.2
 subst hV
 refine aH fun V hV=>?_
 simp_all! only [bC,hName]
 subst hV
 refine xX (fun τ Mi=>∃ (m:VM) (ch:CM) (low:Bool) (z6 z7 z8 z9 z10:Option U),τ=[some (.lst (ls.map Ld.toU)),some (aO p),some (.ref v),some (.ref c),some (.ref fj),some (.bl low),z6,z7,z8,z9,z10]/\Mi=gX M v c p1 p2 KV KC m ch/\J cs vs p sz ls m ch/\(low=false->Fix vs p ls m)) (Q1 (6000 * sz + 1) cs p1)
  ⟨[],[],true,none,none,none,none,none,rfl,rfl,J.nil,fun h=>by cases h⟩ ?_
 rintro τ Mi ⟨m,ch,low,z6,z7,z8,z9,z10,rfl,rfl,j,hfix⟩
 have hmea:∀ (m':VM) (ch':CM) (b:Bool) (y6 y7 y8 y9 y10:Option U),Q1 (6000 * sz + 1) cs p1 [some (.lst (ls.map Ld.toU)),some (aO p),some (.ref v),some (.ref c),some (.ref fj),some (.bl b),y6,y7,y8,y9,y10] (gX M v c p1 p2 KV KC m' ch')=2 * mu (6000 * sz + 1) cs m' + (if b then 1 else 0):=by
  intro m' ch' b y6 y7 y8 y9 y10
  unfold Q1
  rw [zQ ap]
  simp only [KN]
  cases b <;> rfl
 simp_all! only [true_and]
 cases low with
 | false =>
  simp only [Bool.false_eq_true,if_false]
  exact aY (q2 m ch (j.fill h6 (hfix rfl)))
 | true =>
  simp only [if_true]
  refine aH fun V hV=>?_
  simp_all! only [bC,hName]
  subst hV
  refine fL (S:=⟨none,ls.map Ld.toU⟩) (M1:=gX M v c p1 p2 KV KC m ch) (fun R r=>by simp_all! only [true_and];exact r)
   (fun i τ Mi=>∃ (m':VM) (ch':CM) (low:Bool) (z6 z7 z8 z9 z10:Option U),τ=[some (.lst (ls.map Ld.toU)),some (aO p),some (.ref v),some (.ref c),some (.ref fj),some (.bl low),z6,z7,z8,z9,z10]/\Mi=gX M v c p1 p2 KV KC m' ch'/\J cs vs p sz ls m' ch'/\(low=false->m'=m/\∀ (k:Nat) (l:Ld),k < i->ls[k]?=some l->∀ w,cI (cur vs p m') l.spots=some w->∃ v,asc m' l.cls=some v/\v<=l.price + w)/\(low=true->mu (6000 * sz + 1) cs m' < mu (6000 * sz + 1) cs m))
   ⟨m,ch,false,z6,z7,z8,z9,z10,rfl,rfl,j,(fun _=>⟨rfl,fun k l h=>by omega⟩),fun h=>by cases h⟩ nk ?_ ?_
  ·rintro i x τ Mi e ⟨m',ch',low,y6,y7,y8,y9,y10,rfl,rfl,j',hf,ht⟩
   have e':(ls.map Ld.toU)[i]?=some x:=e
   rw [List.getElem?_map] at e'
   cases hj:ls[i]? with
   | none=>rw [hj] at e';cases e'
   | some l =>
    rw [hj] at e'
    cases e'
    have hl:=List.mem_of_getElem? hj
    have ok:=hok l hl
    have h0:=j'.cur0 hlow
    have hb:∀ s a,cur vs p m' s=some a->0<=a/\a<=100000000:=fun s a h=>by
     have h2:=h
     unfold cur at h2
     split at h2
     ·have h3:=j'.just _ _ h2
      have h4:=j'.len6 h6
      exact ⟨h3.1,by have:=h3.2.1;omega⟩
     ·exact hlow _ _ h2
    generalize hPP:(fun (τ:SU) (Mi:aE)=>∃ (m':VM) (ch':CM) (low:Bool) (z6 z7 z8 z9 z10:Option U),τ=[some (.lst (ls.map Ld.toU)),some (aO p),some (.ref v),some (.ref c),some (.ref fj),some (.bl low),z6,z7,z8,z9,z10]/\Mi=gX M v c p1 p2 KV KC m' ch'/\J cs vs p sz ls m' ch'/\(low=false->m'=m/\∀ (k:Nat) (l:Ld),k < i + 1->ls[k]?=some l->∀ w,cI (cur vs p m') l.spots=some w->∃ v,asc m' l.cls=some v/\v<=l.price + w)/\(low=true->mu (6000 * sz + 1) cs m' < mu (6000 * sz + 1) cs m))=PP
    have stay:∀ z:Option U,(∀ w,cI (cur vs p m') l.spots=some w->∃ v,asc m' l.cls=some v/\v<=l.price + w)->PP [some (.lst (ls.map Ld.toU)),some (aO p),some (.ref v),some (.ref c),some (.ref fj),some (.bl low),some (.int l.n),some (.str l.cls),some (.int l.price),some (.lst (l.spots.map dS)),z] (gX M v c p1 p2 KV KC m' ch'):=by
     intro z hz
     rw [<- hPP]
     refine ⟨m',ch',low,_,_,_,_,_,rfl,rfl,j',fun h=>⟨(hf h).1,fun k l' hk hk2=>?_⟩,ht⟩
     by_cases hki:k=i
     ·subst hki;rw [hj] at hk2;cases hk2;exact hz
     ·exact (hf h).2 k l' (by omega) hk2
    refine ⟨rfl,?_⟩
    simp_all! only [jB,gU,j6,hName]
    refine aH fun V1 hV1=>?_
    simp_all! only [bC,hName]
    refine ⟨l.price,l.spots,v,cur vs p m',rfl,ok.len,fun s hs=>vals m' ch' s (ok.there s hs),fun s _ a ha=>hb s a ha,?_⟩
    subst hV1
    refine fG fun A B hA hB=>?_
    cases hw:cI (cur vs p m') l.spots with
    | none =>
     simp_all! only [Ga]
     subst hB
     simp only [eW]
     exact stay _ fun w h=>by rw [hw] at h;cases h
    | some wv =>
     have lk1:cS true (gX M v c p1 p2 KV KC m' ch') (.ref v) (aO p)=some (some (.ref p1)):=by rw [DO p (Cm ap),hKVp]
     have lk2:cS false (gX M v c p1 p2 KV KC m' ch') (.ref p1) (.str l.cls)=some ((asc m' l.cls).map U.int):=by have hd:eX (gX M v c p1 p2 KV KC m' ch') (.ref p1)=some (.dK (mD m')):=zQ ap;rw [lN l.cls hd,AE]
     have yes:(∀ v,asc m' l.cls=some v->l.price + wv < v)->A (gX M v c p1 p2 KV KC m' ch'):=by
      intro hlt
      have j2:=j'.step hlow hl ok hw hlt
      have jl:=j'.low hlow hl ok h6 hs1 hw hlt
      have jl6:=j'.len6 h6
      have jc6:ch'.length=m'.length:=by have:=congrArg List.length j'.keys;simpa using this.symm
      subst hA
      refine aH fun V2 hV2=>?_
      simp_all! only [kZ,hw,Ga,lk1,lG,zQ ap]
      refine ⟨big (by rw [mD,List.length_map];omega),?_⟩
      rw [MR,LM ap]
      subst hV2
      refine aH fun V2 hV2=>?_
      have lk3:cS true (gX M v c p1 p2 KV KC (d5 m' l.cls (l.price + wv)) ch') (.ref c) (aO p)=some (some (.ref p2)):=by rw [DO p (Mr ap),hKCp]
      simp_all! only [kZ,lk3,lG,MG]
      refine ⟨big (by rw [tW,List.length_map];omega),?_⟩
      have ec:U.tup [U.int l.n,U.lst (l.spots.map dS)]=rX l:=rfl
      rw [ec,Oc,J4]
      subst hV2
      simp_all! only [bC,hName]
      rw [<- hPP]
      refine ⟨_,_,true,_,_,_,_,_,rfl,rfl,j2,(fun h=>by cases h),fun _=>?_⟩
      cases low with
      | true=>have:=ht rfl;omega
      | false=>have:=(hf rfl).1;subst this;exact jl
     simp_all! only [Ga,lk1,lk2]
     cases hm':asc m' l.cls with
     | none =>
      simp_all! only [Option.map_none,Option.isSome_none]
      exact yes fun v h=>by rw [hm'] at h;cases h
     | some old =>
      simp_all! only [Option.map_some,Option.isSome_some,lk1,lk2,hm']
      refine mC (fun hlt=>?_) (fun hge=>?_)
      ·exact yes fun v h=>by rw [hm'] at h;cases h;simpa using hlt
      ·subst hB
       simp only [eW]
       refine stay _ fun w h=>?_
       rw [hw] at h;cases h
       have:¬ l.price + wv < old:=by simpa using hge
       exact ⟨old,hm',by omega⟩
  ·rintro τ Mi ⟨m',ch',low,y6,y7,y8,y9,y10,rfl,rfl,j',hf,ht⟩
   have hlen:(Src.mk none (ls.map Ld.toU)).xs.length=ls.length:=by show (ls.map Ld.toU).length=_;rw [List.length_map]
   rw [hlen] at hf
   refine ⟨⟨m',ch',low,_,_,_,_,_,rfl,rfl,j',fun h l hl w hw=>?_⟩,?_⟩
   ·obtain ⟨k,hk⟩:=List.getElem?_of_mem hl
    exact (hf h).2 k l (List.getElem?_eq_some_iff.mp hk).1 hk w hw
   ·rw [hmea,hmea]
    cases low with
    | true=>have:=ht rfl;simp only [if_true];omega
    | false=>have:=(hf rfl).1;subst this;simp only [if_true,Bool.false_eq_true,if_false];omega
noncomputable def Tr.at:Tr->List Nat->Option Tr
 | t,[]=>some t
 | .turn a,0 :: r=>a.at r
 | .two _ a _,0 :: r=>a.at r
 | .two _ _ b,1 :: r=>b.at r
 | _,_=>none
theorem dF (t:Tr):t.at []=some t:=by cases t <;> rfl
theorem nE:∀ (t:Tr) (p:List Nat),p∈t.places->∃ t',t.at p=some t'
 | .turn a,p,h=>by
  simp only [Tr.places,List.mem_cons,List.mem_map] at h
  rcases h with rfl | ⟨q,hq,rfl⟩
  ·exact ⟨_,rfl⟩
  ·exact nE a q hq
 | .two o a b,p,h=>by
  simp only [Tr.places,List.mem_cons,List.mem_append,List.mem_map] at h
  rcases h with rfl | ⟨q,hq,rfl⟩ | ⟨q,hq,rfl⟩
  ·exact ⟨_,rfl⟩
  ·exact nE a q hq
  ·exact nE b q hq
 | .num _,p,h=>by simp [Tr.places] at h;subst h;exact ⟨_,rfl⟩
 | .name _,p,h=>by simp [Tr.places] at h;subst h;exact ⟨_,rfl⟩
theorem kR:∀ (t:Tr) (p:List Nat) (t':Tr),t.at p=some t'->p∈t.places
 | .turn a,[],_,_=>by simp [Tr.places]
 | .two _ a b,[],_,_=>by simp [Tr.places]
 | .num _,[],_,_=>by simp [Tr.places]
 | .name _,[],_,_=>by simp [Tr.places]
 | .turn a,0 :: r,t',h=>by
  have:=kR a r t' h
  simp only [Tr.places,List.mem_cons,List.mem_map]
  exact .inr ⟨r,this,rfl⟩
 | .two _ a b,0 :: r,t',h=>by
  have:=kR a r t' h
  simp only [Tr.places,List.mem_cons,List.mem_append,List.mem_map]
  exact .inr (.inl ⟨r,this,rfl⟩)
 | .two _ a b,1 :: r,t',h=>by
  have:=kR b r t' h
  simp only [Tr.places,List.mem_cons,List.mem_append,List.mem_map]
  exact .inr (.inr ⟨r,this,rfl⟩)
 | .turn _,(n + 1) :: r,_,h=>by simp [Tr.at] at h
 | .two _ _ _,(n + 2) :: r,_,h=>by simp [Tr.at] at h
 | .num _,n :: r,_,h=>by simp [Tr.at] at h
 | .name _,n :: r,_,h=>by simp [Tr.at] at h
theorem u4:∀ (t:Tr) (p:List Nat) (t':Tr),t.at p=some t'->jN t.toU p=some t'.toU
 | t,[],t',h=>by rw [dF] at h;cases h;rfl
 | .turn a,0 :: r,t',h=>by simp only [jN,Tr.toU,Bb,Option.bind_some];exact u4 a r t' h
 | .two _ a b,0 :: r,t',h=>by simp only [jN,Tr.toU,Bw,Option.bind_some];exact u4 a r t' h
 | .two _ a b,1 :: r,t',h=>by simp only [jN,Tr.toU,A3,Option.bind_some];exact u4 b r t' h
 | .turn _,(n + 1) :: r,_,h=>by simp [Tr.at] at h
 | .two _ _ _,(n + 2) :: r,_,h=>by simp [Tr.at] at h
 | .num _,n :: r,_,h=>by simp [Tr.at] at h
 | .name _,n :: r,_,h=>by simp [Tr.at] at h
theorem kH:∀ (t:Tr) (p e:List Nat) (t':Tr),t.at p=some t'->t.at (p++e)=t'.at e
 | t,[],e,t',h=>by rw [dF] at h;cases h;rfl
 | .turn a,0 :: r,e,t',h=>kH a r e t' h
 | .two _ a b,0 :: r,e,t',h=>kH a r e t' h
 | .two _ a b,1 :: r,e,t',h=>kH b r e t' h
 | .turn _,(n + 1) :: r,_,_,h=>by simp [Tr.at] at h
 | .two _ _ _,(n + 2) :: r,_,_,h=>by simp [Tr.at] at h
 | .num _,n :: r,_,_,h=>by simp [Tr.at] at h
 | .name _,n :: r,_,_,h=>by simp [Tr.at] at h
theorem m9:∀ (t:Tr) (p:List Nat) (t':Tr),t.at p=some t'->t'.size<=t.size
 | t,[],t',h=>by rw [dF] at h;cases h;omega
 | .turn a,0 :: r,t',h=>by have:=m9 a r t' h;simp only [Tr.size];omega
 | .two _ a b,0 :: r,t',h=>by have:=m9 a r t' h;simp only [Tr.size];omega
 | .two _ a b,1 :: r,t',h=>by have:=m9 b r t' h;simp only [Tr.size];omega
 | .turn _,(n + 1) :: r,_,h=>by simp [Tr.at] at h
 | .two _ _ _,(n + 2) :: r,_,h=>by simp [Tr.at] at h
 | .num _,n :: r,_,h=>by simp [Tr.at] at h
 | .name _,n :: r,_,h=>by simp [Tr.at] at h
theorem jK:∀ t:Tr,t.places.Pairwise fun x y=>¬ y <+: x
 | .turn a=>by
  simp only [Tr.places]
  refine List.pairwise_cons.mpr ⟨fun y hy=>?_,?_⟩
  ·obtain ⟨q,_,rfl⟩:=List.mem_map.mp hy;simp
  ·rw [List.pairwise_map]
   refine (jK a).imp fun {x y} h h2=>h ?_
   simpa using h2
 | .two o a b=>by
  simp only [Tr.places]
  refine List.pairwise_cons.mpr ⟨fun y hy=>?_,?_⟩
  ·rcases List.mem_append.mp hy with hy | hy
   ·obtain ⟨q,_,rfl⟩:=List.mem_map.mp hy;simp
   ·obtain ⟨q,_,rfl⟩:=List.mem_map.mp hy;simp
  ·refine List.pairwise_append.mpr ⟨?_,?_,fun x hx y hy=>?_⟩
   ·rw [List.pairwise_map]
    refine (jK a).imp fun {x y} h h2=>h ?_
    simpa using h2
   ·rw [List.pairwise_map]
    refine (jK b).imp fun {x y} h h2=>h ?_
    simpa using h2
   ·obtain ⟨q,_,rfl⟩:=List.mem_map.mp hx
    obtain ⟨q',_,rfl⟩:=List.mem_map.mp hy
    simp
 | .num _=>by simp [Tr.places]
 | .name _=>by simp [Tr.places]
noncomputable def mQ:Pt->Nat
 | .hole _=>0
 | .any=>1
 | .fr _ _=>1
 | .turn a=>1 + mQ a
 | .two _ a b=>1 + (mQ a + mQ b)
theorem nB:∀ (pt:Pt) (t:Tr) (pre:List Nat),cN pt t=true->∃ bs:List Nat,bs.length=((b9 pt pre).filterMap hF).length/\bs.sum + mQ pt=t.size/\∀ (i:Nat) (e:List Nat × Str) (b:Nat),((b9 pt pre).filterMap hF)[i]?=some e->bs[i]?=some b->∃ s t',e.1=pre++s/\t.at s=some t'/\t'.size=b/\(s=[]->∃ c,pt=.hole c)/\(iJ pt t)[i]?=some (t',e.2)
 | .hole c,t,pre,_=>⟨[t.size],rfl,by simp [mQ],fun i e b h1 h2=>by
   match i,h1,h2 with
   | 0,h1,h2=>cases h1;cases h2;exact ⟨[],t,by simp,dF t,rfl,fun _=>⟨c,rfl⟩,by cases t <;> rfl⟩
   | i + 1,h1,h2=>cases h1⟩
 | .any,.name x,pre,_=>⟨[],rfl,rfl,fun i e b h1 h2=>by cases h1⟩
 | .fr l h,.num n,pre,_=>⟨[],rfl,rfl,fun i e b h1 h2=>by cases h1⟩
 | .turn p,.turn a,pre,hl=>by
  obtain ⟨bs,h1,h2,h3⟩:=nB p a (pre++[0]) hl
  refine ⟨bs,by simp only [b9,List.filterMap_cons,hF];exact h1,by simp only [mQ,Tr.size];omega,fun i e b he hb=>?_⟩
  simp only [b9,List.filterMap_cons,hF] at he
  obtain ⟨s,t',e1,e2,e3,_,e5⟩:=h3 i e b he hb
  exact ⟨0 :: s,t',by rw [e1];simp,e2,e3,(fun z=>by cases z),e5⟩
 | .two o p q,.two o' a b,pre,hl=>by
  simp only [cN,Bool.and_eq_true] at hl
  obtain ⟨ho,hl1,hl2⟩:=hl
  obtain ⟨bs,h1,h2,h3⟩:=nB p a (pre++[0]) hl1
  obtain ⟨cs,k1,k2,k3⟩:=nB q b (pre++[1]) hl2
  refine ⟨bs++cs,by simp only [b9,List.filterMap_cons,hF,List.filterMap_append,List.length_append,h1,k1],by simp only [List.sum_append,mQ,Tr.size];omega,fun i e bb he hb=>?_⟩
  simp only [b9,List.filterMap_cons,hF,List.filterMap_append] at he
  rw [List.getElem?_append] at he hb
  split at he
  ·rename_i hi
   rw [if_pos (by omega)] at hb
   obtain ⟨s,t',e1,e2,e3,_,e5⟩:=h3 i e bb he hb
   have hl1':=(oU p a (pre++[0]) hl1).1
   exact ⟨0 :: s,t',by rw [e1];simp,e2,e3,(fun z=>by cases z),by simp only [iJ];rw [List.getElem?_append_left (by omega)];exact e5⟩
  ·rename_i hi
   rw [if_neg (by omega),h1] at hb
   obtain ⟨s,t',e1,e2,e3,_,e5⟩:=k3 _ e bb he hb
   have hl1':=(oU p a (pre++[0]) hl1).1
   exact ⟨1 :: s,t',by rw [e1];simp,e2,e3,(fun z=>by cases z),by simp only [iJ];rw [List.getElem?_append_right (by omega),<- hl1'];exact e5⟩
 | .any,.num _,_,h=>by cases h
 | .any,.turn _,_,h=>by cases h
 | .any,.two _ _ _,_,h=>by cases h
 | .fr _ _,.name _,_,h=>by cases h
 | .fr _ _,.turn _,_,h=>by cases h
 | .fr _ _,.two _ _ _,_,h=>by cases h
 | .turn _,.num _,_,h=>by cases h
 | .turn _,.name _,_,h=>by cases h
 | .turn _,.two _ _ _,_,h=>by cases h
 | .two _ _ _,.num _,_,h=>by cases h
 | .two _ _ _,.name _,_,h=>by cases h
 | .two _ _ _,.turn _,_,h=>by cases h
theorem EK {σ:Type} {g:σ->Option Int}:∀ {l:List σ} {bs:List Nat} {w:Int},bs.length=l.length->(∀ (i:Nat) s b,l[i]?=some s->bs[i]?=some b->∀ a,g s=some a->a<=6000 * (b:Int))->cI g l=some w->w<=6000 * (bs.sum:Int)
 | [],[],w,_,_,h=>by cases h;simp
 | [],_ :: _,_,h,_,_=>by cases h
 | _ :: _,[],_,h,_,_=>by cases h
 | s :: l,b :: bs,w,hl,hb,h=>by
  obtain ⟨a,c,h1,h2,rfl⟩:=iN h
  have k1:=hb 0 s b rfl rfl a h1
  have k2:=EK (l:=l) (bs:=bs) (by simpa using hl) (fun i s b h1 h2=>hb (i + 1) s b h1 h2) h2
  rw [List.sum_cons]
  push_cast
  omega
inductive Bd (t:Tr) (tls:List Tl) (cs:List Str):List (List Nat)->VS->CS->Prop
 | nil:Bd t tls cs [] [] []
 | snoc {ps:List (List Nat)} {vs:VS} {chs:CS} {p:List Nat} {t':Tr} {m:VM} {ch:CM} (b:Bd t tls cs ps vs chs) (hp:p ∉ ps) (ht:t.at p=some t') (hf:DV cs vs p t'.size (bY t' p 0 tls) m ch):Bd t tls cs (ps++[p]) (vs++[(p,m)]) (chs++[(p,ch)])
section
variable {t:Tr} {tls:List Tl} {cs:List Str} {ps:List (List Nat)} {vs:VS} {chs:CS}
theorem Bd.keysV (b:Bd t tls cs ps vs chs):vs.map (·.1)=ps:=by
 induction b with
 | nil=>rfl
 | snoc b hp ht hf ih=>rw [List.map_append,ih];rfl
theorem Bd.keysC (b:Bd t tls cs ps vs chs):chs.map (·.1)=ps:=by
 induction b with
 | nil=>rfl
 | snoc b hp ht hf ih=>rw [List.map_append,ih];rfl
theorem Bd.lenV (b:Bd t tls cs ps vs chs):vs.length=ps.length:=by rw [<- b.keysV,List.length_map]
theorem Bd.lenC (b:Bd t tls cs ps vs chs):chs.length=ps.length:=by rw [<- b.keysC,List.length_map]
theorem Bd.noV (b:Bd t tls cs ps vs chs) {p:List Nat} (h:p ∉ ps):asc vs p=none:=by rw [t7,b.keysV];exact h
theorem Bd.noC (b:Bd t tls cs ps vs chs) {p:List Nat} (h:p ∉ ps):asc chs p=none:=by rw [t7,b.keysC];exact h
theorem Bd.val (b:Bd t tls cs ps vs chs):∀ s v,bL vs s=some v->∃ t',t.at s.1=some t'/\0<=v/\v<=6000 * t'.size:=by
 induction b with
 | nil=>intro s v h;cases h
 | @snoc ps vs chs p t' m ch b hp ht hf ih =>
  intro s v h
  rw [<- iB (b.noV hp)] at h
  unfold cur at h
  split at h
  ·rename_i e
   obtain ⟨h1,h2,_⟩:=hf.just _ _ h
   exact ⟨t',by rw [e];exact ht,h1,h2⟩
  ·exact ih s v h
theorem Bd.low (b:Bd t tls cs ps vs chs) (hs:t.size<=1000):FD vs:=fun s v h=>by
 obtain ⟨t',h1,h2,h3⟩:=b.val s v h
 have:=m9 t s.1 t' h1
 exact ⟨h2,by omega⟩
theorem nN {t:Tr} {p:List Nat}:∀ {tls:List Tl} {k:Nat} {l:Ld},l∈bY t p k tls->∃ (i:Nat) (tl:Tl),tls[i]?=some tl/\cN tl.pt t=true/\l=⟨k + i,tl.cls,tl.cost,(eF tl.pt).map fun e=>(p++e.1,e.2)⟩
 | [],k,l,h=>by cases h
 | a :: r,k,l,h=>by
  simp only [bY,List.mem_append] at h
  rcases h with h | h
  ·split at h
   ·rename_i hl
    cases List.mem_singleton.mp h
    exact ⟨0,a,rfl,hl,rfl⟩
   ·cases h
  ·obtain ⟨i,tl,h1,h2,h3⟩:=nN h
   exact ⟨i + 1,tl,h1,h2,by rw [h3,show k + 1 + i=k + (i + 1) by omega]⟩
theorem Bd.ld {A B:List (List Nat)} {p:List Nat} {t':Tr} (hT:Tab cs tls) (hpl:t.places=A++p :: B) (ht:t.at p=some t') (b:Bd t tls cs B.reverse vs chs):∀ l∈bY t' p 0 tls,AJ cs vs p t'.size l:=by
 intro l hl
 obtain ⟨i,tl,h1,h2,rfl⟩:=nN hl
 have hg:=hT.good tl (List.mem_of_getElem? h1)
 have hg1:tl.pt.ok:=hg.1
 have hg2:tl.pt.dep<=4:=hg.2.1
 have hg3:tl.cls∈cs:=hg.2.2.1
 have hg4:0<=tl.cost:=hg.2.2.2.1
 have hg5:tl.cost<=1000:=hg.2.2.2.2
 obtain ⟨bs,g1,g2,g3⟩:=nB tl.pt t' [] h2
 have hh:=wH tl.pt (by omega)
 have hpre:=jK t
 rw [hpl] at hpre
 have below:∀ (s:List Nat) (t2:Tr),t'.at s=some t2->s≠[]->(p++s)∈B.reverse:=fun s t2 hs hne=>by
  have hin:p++s∈t.places:=kR t _ t2 (by rw [kH t p s t' ht];exact hs)
  rw [hpl] at hin
  rcases List.mem_append.mp hin with hin | hin
  ·have:=(List.pairwise_append.mp hpre).2.2 _ hin p List.mem_cons_self
   exact absurd (List.prefix_append p s) this
  ·rcases List.mem_cons.mp hin with hin | hin
   ·exact absurd (List.append_right_eq_self.mp hin) hne
   ·exact List.mem_reverse.mpr hin
 have each:∀ (j:Nat) (e:List Nat × Str),(eF tl.pt)[j]?=some e->∃ s t2 bb,bs[j]?=some bb/\e.1=s/\t'.at s=some t2/\t2.size=bb/\(s=[]->∃ c,tl.pt=.hole c):=fun j e he=>by
  have hj:=(List.getElem?_eq_some_iff.mp he).1
  have hb:bs[j]?=some (bs[j]'(by rw [g1];exact hj)):=List.getElem?_eq_getElem _
  obtain ⟨s,t2,e1,e2,e3,e4,_⟩:=g3 j e _ he hb
  exact ⟨s,t2,_,hb,by simpa using e1,e2,e3,e4⟩
 refine ⟨hg4,hg5,hg3,by rw [List.length_map];exact hh,fun s hs=>?_,?_⟩
 ·obtain ⟨e,he,rfl⟩:=List.mem_map.mp hs
  obtain ⟨j,hj⟩:=List.getElem?_of_mem he
  obtain ⟨s,t2,bb,_,e1,e2,_⟩:=each j e hj
  rw [e1]
  by_cases hn:s=[]
  ·left;rw [hn];simp
  ·right
   rw [dZ,b.keysV]
   exact below s t2 e2 hn
 ·cases hpt:tl.pt with
  | hole c=>left;exact ⟨c,by simp [eF,b9,hF]⟩
  | _ =>
   right
   have hnh:∀ c,tl.pt≠.hole c:=fun c z=>by rw [hpt] at z;cases z
   have hbk:1<=mQ tl.pt:=by rw [hpt];simp [mQ]
   rw [<- hpt]
   refine ⟨fun s hs=>?_,fun w hw=>?_⟩
   ·obtain ⟨e,he,rfl⟩:=List.mem_map.mp hs
    obtain ⟨j,hj⟩:=List.getElem?_of_mem he
    obtain ⟨s,t2,bb,_,e1,e2,_,e4⟩:=each j e hj
    intro z
    have z':p++e.1=p:=z
    rw [List.append_right_eq_self,e1] at z'
    obtain ⟨c,hc⟩:=e4 z'
    exact hnh c hc
   ·have:=EK (bs:=bs) (by rw [g1,List.length_map];rfl) (fun i s bb hs hb a ha=>?_) hw
    ·omega
    ·rw [List.getElem?_map] at hs
     cases hj:(eF tl.pt)[i]? with
     | none=>rw [hj] at hs;cases hs
     | some e =>
      rw [hj] at hs
      cases hs
      obtain ⟨s,t2,bb',hb',e1,e2,e3,_⟩:=each i e hj
      rw [hb] at hb';cases hb'
      obtain ⟨t3,k1,k2,k3⟩:=b.val _ _ ha
      dsimp only at k1
      rw [e1,kH t p s t' ht,e2] at k1
      cases k1
      rw [<- e3];exact k3
end
section
variable {κ γ:Type} {H:Hp} {M1 M':aE}
theorem Bv (st:aS H M1 H M') {k:κ} {u u':U} (hu:∀ x,aK K H M1 u x->aK K H M' u' x):∀ {xs:List (κ × U)} {ws:List (κ × V)},bX K H M1 (xs++[(k,u)]) ws->bX K H M' (xs++[(k,u')]) ws
 | [],ws,r=>by
  cases r with
  | cons h t=>cases t;exact .cons ⟨h.1,hu _ h.2⟩ .nil
 | x :: xs,ws,r=>by
  cases r with
  | cons h t=>exact .cons ⟨h.1,h.2.stp st⟩ (Bv st hu t)
theorem yK {α:Type} (k:α->κ) (g:γ->U) {M:aE}:∀ {l:List (α × γ)} {ws:List (κ × V)},bX K H M (l.map fun e=>(k e.1,g e.2)) ws->l.map (fun e=>k e.1)=ws.map (·.1)/\aJ K H M (l.map fun e=>g e.2) (ws.map (·.2))
 | [],ws,r=>by cases r;exact ⟨rfl,.nil⟩
 | e :: l,ws,r=>by
  rw [List.map_cons] at r
  cases r with
  | cons h t =>
   obtain ⟨h1,h2⟩:=yK k g t
   refine ⟨?_,.cons h.2 h2⟩
   rw [List.map_cons,List.map_cons,h1]
   exact congrArg (· :: _) h.1
end
theorem Cs {H:Hp} {M1 M':aE} {γ:Type} (g:γ->U) {l:List (Str × γ)} {a:Addr} (rm:RelM K H M1) (h:M1 a=some (.dK (l.map fun e=>(Sum.inr e.1,g e.2)))) (hn:M' a=none) (st:aS H M1 H M'):aK K H M' (.dic (l.map fun e=>[Sum.inr e.1]) false (l.map fun e=>g e.2)) (.ref a):=by
 obtain ⟨ws,h1,r⟩:=rm a _ h
 obtain ⟨h2,h3⟩:=yK (fun c:Str=>(Sum.inr c:Key)) g r
 simp only [aK]
 refine ⟨a,ws.map (·.2),rfl,hn,⟨ws,.inl h1,?_,rfl⟩,h3.stp st⟩
 have:=congrArg (List.map fun k:Key=>[k]) h2
 rw [List.map_map,List.map_map] at this
 exact this
theorem Dt {H:Hp} {M1 M':aE} {γ:Type} (g:γ->U) {l:List (List Nat × γ)} {a:Addr} (rm:RelM K H M1) (h:M1 a=some (.dT (l.map fun e=>(pk e.1,g e.2)))) (hn:M' a=none) (st:aS H M1 H M'):aK K H M' (.dic (l.map fun e=>pk e.1) true (l.map fun e=>g e.2)) (.ref a):=by
 obtain ⟨ws,h1,r⟩:=rm a _ h
 obtain ⟨h2,h3⟩:=yK pk g r
 simp only [aK]
 exact ⟨a,ws.map (·.2),rfl,hn,⟨ws,.inl h1,h2,rfl⟩,h3.stp st⟩
noncomputable def IH (fj:Addr):dB:=fun us M Q=>∃ (ls:List Ld) (p:List Nat) (v c:Addr) (vs:VS) (chs:CS) (cs:List Str) (sz:Nat),us=[.lst (ls.map Ld.toU),aO p,.ref v,.ref c,.ref fj]/\v≠c/\M v=some (.dT (kM vs))/\M c=some (.dT (kQ chs))/\asc vs p=none/\asc chs p=none/\vs.length<=1000/\chs.length<=1000/\ls.length<=1000/\FD vs/\cs.length<=6/\1<=sz/\sz<=1000/\(∀ l∈ls,AJ cs vs p sz l) /\
 ∀ (m:VM) (ch:CM),DV cs vs p sz ls m ch->Q .non (mup (mup M v (.dT (kM (vs++[(p,m)])))) c (.dT (kQ (chs++[(p,ch)]))))
theorem N6 {fj:Addr} (C:Callee P w K mg base 3 "fill_least" (E5 fj) []):Callee P w K mg base 3 "fill_least" (IH fj) []:=by
 refine Callee.conv C fun us M Q h=>?_
 obtain ⟨ls,p,v,c,vs,chs,cs,sz,rfl,hvc,hMv,hMc,h1,h2,h3,h4,h5,h6,h7,h8,h9,h10,q⟩:=h
 refine ⟨ls,p,v,c,vs,chs,cs,sz,rfl,hvc,hMv,hMc,h1,h2,h3,h4,h5,h6,h7,h8,h9,h10,fun p1 p2 m ch hp1 hp2 hp12 hf=>?_⟩
 have hv1:v≠p1:=fun z=>by subst z;rw [hMv] at hp1;cases hp1
 have hc1:c≠p1:=fun z=>by subst z;rw [hMc] at hp1;cases hp1
 have hv2:v≠p2:=fun z=>by subst z;rw [hMv] at hp2;cases hp2
 have hc2:c≠p2:=fun z=>by subst z;rw [hMc] at hp2;cases hp2
 have ap:Ap v c p1 p2:=⟨hvc,hv1,hv2,hc1,hc2,hp12⟩
 refine ⟨.non,_,fun K H x rm ru=>?_,q m ch hf⟩
 generalize hM1:gX M v c p1 p2 (kM vs++[(pk p,.ref p1)]) (kQ chs++[(pk p,.ref p2)]) m ch=M1 at *
 generalize hM':mup (mup M v (.dT (kM (vs++[(p,m)])))) c (.dT (kQ (chs++[(p,ch)])))=M' at *
 have a1:M1 p1=some (.dK (mD m)):=by rw [<- hM1];exact zQ ap
 have a2:M1 p2=some (.dK (tW ch)):=by rw [<- hM1];exact MG
 have av:M1 v=some (.dT (kM vs++[(pk p,.ref p1)])):=by rw [<- hM1];exact Cm ap
 have ac:M1 c=some (.dT (kQ chs++[(pk p,.ref p2)])):=by rw [<- hM1];exact Mr ap
 have n1:M' p1=none:=by rw [<- hM',aM (fun e=>hc1 e.symm),aM (fun e=>hv1 e.symm)];exact hp1
 have n2:M' p2=none:=by rw [<- hM',aM (fun e=>hc2 e.symm),aM (fun e=>hv2 e.symm)];exact hp2
 have oth:∀ b,b≠v->b≠c->b≠p1->b≠p2->M1 b=M b/\M' b=M b:=fun b b1 b2 b3 b4=>by
  rw [<- hM1,<- hM'];unfold gX
  rw [aM b4,aM b3,aM b2,aM b1,aM b2,aM b1];exact ⟨rfl,rfl⟩
 have st:aS H M1 H M':=aS.less fun b hb=>by
  have b1:b≠v:=fun z=>by subst z;rw [av] at hb;cases hb
  have b2:b≠c:=fun z=>by subst z;rw [ac] at hb;cases hb
  have b3:b≠p1:=fun z=>by subst z;rw [a1] at hb;cases hb
  have b4:b≠p2:=fun z=>by subst z;rw [a2] at hb;cases hb
  obtain ⟨o1,o2⟩:=oth b b1 b2 b3 b4
  rw [o2,<- o1];exact hb
 refine ⟨st,fun a mo e=>?_,ru.stp st⟩
 by_cases e2:a=c
 ·subst e2
  rw [<- hM',aG] at e
  cases e
  obtain ⟨ws,g1,r⟩:=rm a _ ac
  refine ⟨ws,g1,?_⟩
  have ec:kQ (chs++[(p,ch)])=kQ chs++[(pk p,mZ ch)]:=by simp [kQ]
  rw [ec]
  exact Bv st (fun x rx=>by rw [rx.ref];exact Cs rX rm a2 n2 st) r
 ·by_cases e1:a=v
  ·subst e1
   rw [<- hM',aM e2,aG] at e
   cases e
   obtain ⟨ws,g1,r⟩:=rm a _ av
   refine ⟨ws,g1,?_⟩
   have ec:kM (vs++[(p,m)])=kM vs++[(pk p,nK m)]:=by simp [kM]
   rw [ec]
   exact Bv st (fun x rx=>by rw [rx.ref];exact Cs U.int rm a1 n1 st) r
  ·have e3:a≠p1:=fun z=>by subst z;rw [n1] at e;cases e
   have e4:a≠p2:=fun z=>by subst z;rw [n2] at e;cases e
   obtain ⟨o1,o2⟩:=oth a e1 e2 e3 e4
   rw [o2,<- o1] at e
   refine (rm a mo e).stp (fun b q hb=>?_) st rfl
   by_cases b2:b=c
   ·subst b2;rw [<- hM',aG] at hb;cases hb
   ·by_cases b1:b=v
    ·subst b1;rw [<- hM',aM b2,aG] at hb;cases hb
    ·have b3:b≠p1:=fun z=>by subst z;rw [n1] at hb;cases hb
     have b4:b≠p2:=fun z=>by subst z;rw [n2] at hb;cases hb
     obtain ⟨o1,o2⟩:=oth b b1 b2 b3 b4
     rw [o1,<- o2];exact hb
noncomputable def Fw (vs:VS):U:=.dic (vs.map fun e=>pk e.1) true (vs.map fun e=>nK e.2)
noncomputable def BQ (cs:CS):U:=.dic (cs.map fun e=>pk e.1) true (cs.map fun e=>mZ e.2)
theorem FZ {γ:Type} (g:γ->U):∀ m:List (List Nat × γ),(m.map fun e=>pk e.1).zip (m.map fun e=>g e.2)=m.map fun e=>(pk e.1,g e.2)
 | []=>rfl
 | e :: m=>by simp only [List.map_cons,List.zip_cons_cons];rw [FZ g m]
theorem RX {M:aE} (m:VS):eX M (Fw m)=some (.dT (kM m)):=by simp only [Fw,eX];rw [FZ nK m];rfl
theorem Mh {M:aE} (m:CS):eX M (BQ m)=some (.dT (kQ m)):=by simp only [BQ,eX];rw [FZ mZ m];rfl
theorem MP {M:aE} {v c:Addr} {a b a' b':MO} (h:v≠c):mup (mup (mup (mup M v a) c b) v a') c b'=mup (mup M v a') c b':=by
 funext z
 by_cases e1:z=c
 ·subst e1;rw [aG,aG]
 ·rw [aM e1,aM e1]
  by_cases e2:z=v
  ·subst e2;rw [aG,aG]
  ·rw [aM e2,aM e1,aM e2,aM e2]
noncomputable def De (fj:Addr):dB:=fun us M Q=>∃ (cs:List Str) (tls:List Tl) (t:Tr),us=[fB cs tls,t.toU,.ref fj]/\Tab cs tls/\t.dep<=31/\t.size<=1000/\∀ (v c:Addr) (vs:VS) (chs:CS),M v=none->M c=none->v≠c->Bd t tls cs t.places.reverse vs chs->Q (.tup [.ref v,.ref c]) (mup (mup M v (.dT (kM vs))) c (.dT (kQ chs)))
theorem Iv {fj:Addr} (F:dM K "least_of_all" "least_of_all" nF f fd) (hm:mg "least_of_all"=some (.ref f)) (gD:mg "reversed"=none) (pN:Callee P w K mg base 33 "places" (iK 31) []) (tN:Callee P w K mg base 10 "tiles_at" vQ []) (Dw:Callee P w K mg base 3 "fill_least" (IH fj) []):Callee P w K mg base 34 "least_of_all" (De fj) []:=by
 refine bP F hm kC (D9 fun _ _ _ _ _ _ _ _ _=>rfl) (aD (aU 3 kC.nd (jZ true))
 (aD (aU 4 kC.nd (jZ true))
 (aD (eL (xS gD (aA (aR pN (aA (uv 1) aB)) aB)) (aN (k:=1000) 5 kC.nd)
 (aI (iD (aR Dw (aA (aR tN (aA (uv 0) (aA (uv 1) (aA (uv 5) aB)))) (aA (uv 5) (aA (uv 3) (aA (uv 4) (aA (uv 2) aB)))))))))
 (aI (bJ (bD (aA (uv 3) (aA (uv 4) aB)))))))) ?_
 rintro us M Q ⟨cs,tls,t,rfl,hT,hd,hs,q⟩
 refine ⟨rfl,?_⟩
 have hpl:=gE t
 have hnd:t.places.Nodup:=(jK t).imp fun {x y} h z=>h (by rw [z];exact List.prefix_refl _)
 refine aH fun V hV=>?_
 simp_all! only [bC,hName]
 intro v hv
 subst hV
 refine aH fun V hV=>?_
 simp_all! only [bC,hName]
 intro c hc
 have hvc:v≠c:=fun z=>by subst z;rw [aG] at hc;cases hc
 rw [aM (fun e=>hvc e.symm)] at hc
 have e0:mup (mup M v (xT true)) c (xT true)=mup (mup M v (.dT (kM []))) c (.dT (kQ [])):=rfl
 rw [e0]
 subst hV
 refine aH fun V hV=>?_
 refine fL (S:=⟨none,(t.places.map aO).reverse⟩) (M1:=mup (mup M v (.dT (kM []))) c (.dT (kQ []))) (fun R r=>by
   simp_all! only [true_and]
   exact ⟨t,rfl,hd,hs,r⟩)
  (fun i τ Mi=>∃ (vs:VS) (chs:CS) (z5:Option U),τ=[some (fB cs tls),some t.toU,some (.ref fj),some (.ref v),some (.ref c),z5]/\Mi=mup (mup M v (.dT (kM vs))) c (.dT (kQ chs))/\Bd t tls cs (t.places.reverse.take i) vs chs) ⟨[],[],none,rfl,rfl,.nil⟩ nk ?_ ?_
 ·rintro i x τ Mi e ⟨vs,chs,z5,rfl,rfl,b⟩
  have e':(t.places.map aO).reverse[i]?=some x:=e
  rw [<- List.map_reverse,List.getElem?_map] at e'
  cases hj:t.places.reverse[i]? with
  | none=>rw [hj] at e';cases e'
  | some p =>
   rw [hj] at e'
   cases e'
   have hi:=(List.getElem?_eq_some_iff.mp hj).1
   have hsplit:t.places.reverse=t.places.reverse.take i++p :: t.places.reverse.drop (i + 1):=by
    have:=List.getElem_cons_drop hi
    rw [(List.getElem?_eq_some_iff.mp hj).2] at this
    rw [this,List.take_append_drop]
   have hpl2:t.places=(t.places.reverse.drop (i + 1)).reverse++p :: (t.places.reverse.take i).reverse:=by
    have:=congrArg List.reverse hsplit
    rw [List.reverse_reverse,List.reverse_append,List.reverse_cons,List.append_assoc] at this
    exact this
   have hmem:p∈t.places:=List.mem_reverse.mp (List.mem_of_getElem? hj)
   obtain ⟨t',ht⟩:=nE t p hmem
   have hnew:p ∉ t.places.reverse.take i:=by
    have h2:t.places.reverse.Nodup:=List.pairwise_reverse.mpr (hnd.imp fun {a b} h=>Ne.symm h)
    rw [hsplit] at h2
    exact fun z=>(List.nodup_append.mp h2).2.2 p z p List.mem_cons_self rfl
   have hok:=Bd.ld (vs:=vs) (chs:=chs) (B:=(t.places.reverse.take i).reverse) hT hpl2 ht (by rw [List.reverse_reverse];exact b)
   have hsz:=m9 t p t' ht
   have hll:=qA t' p tls 0
   have htl:=hT.len
   have hlv:=b.lenV
   have hlc:=b.lenC
   rw [List.length_take,List.length_reverse] at hlv hlc
   have hps:=i6 t p hmem
   simp_all! only [kY,hName]
   refine ⟨cs,tls,t,t',p,rfl,u4 t p t' ht,fun tl h=>by have h2:tl.pt.dep<=4:=(hT.good tl h).2.1;omega,by omega,by omega,?_⟩
   refine ⟨bY t' p 0 tls,p,v,c,vs,chs,cs,t'.size,rfl,hvc,by rw [aM hvc,aG],aG,b.noV hnew,b.noC hnew,by omega,by omega,by omega,b.low hs,hT.cls.len,size_pos t',by omega,hok,fun m ch hf=>?_⟩
   refine ⟨vs++[(p,m)],chs++[(p,ch)],_,rfl,MP hvc,?_⟩
   ·have hb:=Bd.snoc b hnew ht hf
    rw [List.take_add_one,hj]
    exact hb
 ·rintro τ Mi ⟨vs,chs,z5,rfl,rfl,b⟩
  have hlen:(Src.mk none (t.places.map aO).reverse).xs.length=t.places.reverse.length:=by show ((t.places.map aO).reverse).length=_;simp
  rw [hlen,List.take_length] at b
  subst hV
  simp_all! only [fD]
  exact aY (q v c vs chs hv hc hvc b)
noncomputable def AY (fj:Addr):dB:=fun us M Q=>∃ (cs:List Str) (tls:List Tl) (t:Tr),us=[fB cs tls,t.toU,.ref fj]/\Tab cs tls/\t.dep<=31/\t.size<=1000/\∀ (vs:VS) (chs:CS),Bd t tls cs t.places.reverse vs chs->Q (.tup [Fw vs,BQ chs]) M
theorem Au {fj:Addr} (C:Callee P w K mg base 34 "least_of_all" (De fj) []):Callee P w K mg base 34 "least_of_all" (AY fj) []:=by
 refine Callee.conv C fun us M Q h=>?_
 obtain ⟨cs,tls,t,rfl,hT,hd,hs,q⟩:=h
 refine ⟨cs,tls,t,rfl,hT,hd,hs,fun v c vs chs hv hc hvc b=>?_⟩
 refine ⟨.tup [Fw vs,BQ chs],M,fun K H x rm ru=>?_,q vs chs b⟩
 generalize hM1:mup (mup M v (.dT (kM vs))) c (.dT (kQ chs))=M1 at *
 have av:M1 v=some (.dT (kM vs)):=by rw [<- hM1,aM hvc,aG]
 have ac:M1 c=some (.dT (kQ chs)):=by rw [<- hM1,aG]
 have oth:∀ b,b≠v->b≠c->M1 b=M b:=fun b b1 b2=>by rw [<- hM1,aM b2,aM b1]
 have st:aS H M1 H M:=aS.less fun b hb=>by
  have b1:b≠v:=fun z=>by subst z;rw [av] at hb;cases hb
  have b2:b≠c:=fun z=>by subst z;rw [ac] at hb;cases hb
  rw [<- oth b b1 b2];exact hb
 refine ⟨st,fun a mo e=>?_,?_⟩
 ·have b1:a≠v:=fun z=>by subst z;rw [hv] at e;cases e
  have b2:a≠c:=fun z=>by subst z;rw [hc] at e;cases e
  rw [<- oth a b1 b2] at e
  exact (rm a mo e).stp (fun b q hb=>by rw [oth b (fun z=>by subst z;rw [hv] at hb;cases hb) (fun z=>by subst z;rw [hc] at hb;cases hb)];exact hb) st rfl
 ·simp only [aK] at ru ⊢
  obtain ⟨a,xs,rfl,h1,h2⟩:=ru
  obtain ⟨x1,r1,rfl,k1,k2⟩:=h2.inv_cons
  obtain ⟨x2,rfl,k3⟩:=k2.one
  rw [k1.ref,k3.ref] at h1
  refine ⟨a,_,rfl,?_,.cons (Dt nK rm av hv st) (.cons (Dt mZ rm ac hc st) .nil)⟩
  obtain ⟨m1,h1⟩:=h1
  exact ⟨(st a _ h1 m1).2,h1⟩
end
noncomputable def dY (chs:CS) (s:List Nat × Str):Option Ld:=(asc chs s.1).bind fun m=>asc m s.2
inductive Wd (look:List Nat × Str->Option Ld):List Nat × Str->List Int->Prop
 | mk {s:List Nat × Str} {l:Ld} {wss:List (List Int)} (h:look s=some l) (hl:wss.length=l.spots.length) (hw:∀ (i:Nat) s' w,l.spots[i]?=some s'->wss[i]?=some w->Wd look s' w):Wd look s ((l.n:Int) :: wss.flatten)
theorem Wd.mono {look look':List Nat × Str->Option Ld} (hm:∀ s l,look s=some l->look' s=some l) {s:List Nat × Str} {w:List Int} (h:Wd look s w):Wd look' s w:=by
 induction h with
 | mk h hl hw ih=>exact .mk (hm _ _ h) hl ih
noncomputable def oA (tiles:List Tl):List Int->List Wt->Option (List Wt)
 | [],st=>some st
 | n :: r,st=>(oS tiles n st).bind (oA tiles r)
theorem DS (tiles:List Tl):∀ (a b:List Int) (st:List Wt),oA tiles (a++b) st=(oA tiles a st).bind (oA tiles b)
 | [],b,st=>rfl
 | n :: a,b,st=>by
  simp only [List.cons_append,oA]
  cases oS tiles n st with
  | none=>rfl
  | some st'=>exact DS tiles a b st'
theorem HE (tiles:List Tl):∀ (ws:List Int) (st st':List Wt),oA tiles ws st=some st'->AU tiles (ws.map U.int) st=st'.isEmpty
 | [],st,st',h=>by cases h;rfl
 | n :: r,st,st',h=>by
  simp only [oA] at h
  simp only [List.map_cons,AU]
  cases e:oS tiles n st with
  | none=>rw [e] at h;cases h
  | some s2=>rw [e] at h;exact HE tiles r s2 st' h
theorem DT (tiles:List Tl) (st:List Wt):∀ (wts:List Wt) (wss:List (List Int)),wss.length=wts.length->(∀ (i:Nat) wt w,wts[i]?=some wt->wss[i]?=some w->∀ st,oA tiles w (wt :: st)=some st)->oA tiles wss.flatten (wts++st)=some st
 | [],[],_,_=>rfl
 | [],_ :: _,h,_=>by cases h
 | _ :: _,[],h,_=>by cases h
 | a :: wts,b :: wss,h,hr=>by
  rw [List.flatten_cons,DS,List.cons_append,hr 0 a b rfl rfl]
  exact DT tiles st wts wss (by simpa using h) fun i wt w h1 h2=>hr (i + 1) wt w h1 h2
structure Cv (t:Tr) (tls:List Tl) (cs:List Str) (vs:VS) (chs:CS) (rk:Str->Nat) (s:List Nat × Str) (word:List Int) (seen:List Str):Prop where
 wd:Wd (dY chs) s word
 run:∀ t',t.at s.1=some t'->∀ ps st,(∀ x∈seen,x ∉ ps)->oA tls word (⟨t',s.2,ps⟩ :: st)=some st
 ok:CT tls word
 cost:∀ v,bL vs s=some v->(word.map (iQ tls)).sum=v
 rank:∀ x∈seen,rk x<=rk s.2
 sub:∀ x∈seen,x∈cs
 nd:seen.Nodup
 len:∀ t',t.at s.1=some t'->(word.length:Int) + 6<=6 * (t'.size:Int) + seen.length
theorem mX:∀ (l m:List Str),l.Nodup->(∀ s∈l,s∈m)->l.length<=m.length
 | [],m,_,_=>by simp
 | a :: l,m,hn,hs=>by
  obtain ⟨h1,h2⟩:=List.nodup_cons.mp hn
  have ha:=hs a List.mem_cons_self
  have:=mX l (m.erase a) h2 fun s hsl=>by
   refine (List.mem_erase_of_ne fun z=>?_).mpr (hs s (List.mem_cons_of_mem _ hsl))
   subst z;exact h1 hsl
  rw [List.length_erase_of_mem ha] at this
  have hp:0 < m.length:=List.length_pos_of_mem ha
  simp only [List.length_cons];omega
theorem xN {α β:Type} {R:α->β->Prop}:∀ l:List α,(∀ a∈l,∃ b,R a b)->∃ bs:List β,bs.length=l.length/\∀ (i:Nat) a b,l[i]?=some a->bs[i]?=some b->R a b
 | [],_=>⟨[],rfl,fun i a b h=>by cases h⟩
 | a :: l,h=>by
  obtain ⟨b,hb⟩:=h a List.mem_cons_self
  obtain ⟨bs,h1,h2⟩:=xN l fun x hx=>h x (List.mem_cons_of_mem _ hx)
  refine ⟨b :: bs,by simp [h1],fun i x y hx hy=>?_⟩
  cases i with
  | zero=>cases hx;cases hy;exact hb
  | succ i=>exact h2 i x y hx hy
theorem Ag (tls:List Tl) (g:List Nat × Str->Option Int):∀ (l:List (List Nat × Str)) (wss:List (List Int)) (w:Int),wss.length=l.length->(∀ (i:Nat) s ws,l[i]?=some s->wss[i]?=some ws->∀ v,g s=some v->(ws.map (iQ tls)).sum=v)->cI g l=some w->(wss.flatten.map (iQ tls)).sum=w
 | [],[],w,_,_,h=>by cases h;rfl
 | [],_ :: _,_,h,_,_=>by cases h
 | _ :: _,[],_,h,_,_=>by cases h
 | s :: l,ws :: wss,w,hl,hc,h=>by
  obtain ⟨a,b,h1,h2,rfl⟩:=iN h
  rw [List.flatten_cons,List.map_append,List.sum_append,hc 0 s ws rfl rfl a h1,Ag tls g l wss b (by simpa using hl) (fun i s w h1 h2=>hc (i + 1) s w h1 h2) h2]
theorem BI:∀ (wss:List (List Int)) (bs:List Nat),wss.length=bs.length->(∀ (i:Nat) ws b,wss[i]?=some ws->bs[i]?=some b->(ws.length:Int)<=6 * (b:Int))->(wss.flatten.length:Int)<=6 * (bs.sum:Int)
 | [],[],_,_=>by simp
 | [],_ :: _,h,_=>by cases h
 | _ :: _,[],h,_=>by cases h
 | ws :: wss,b :: bs,h,hb=>by
  have h1:=hb 0 ws b rfl rfl
  have h2:=BI wss bs (by simpa using h) fun i w b h1 h2=>hb (i + 1) w b h1 h2
  rw [List.flatten_cons,List.length_append,List.sum_cons]
  push_cast
  omega
section
variable {t:Tr} {tls:List Tl} {cs:List Str} {ps:List (List Nat)} {vs:VS} {chs:CS}
theorem BF {chs:CS} {p:List Nat} {ch:CM} {s:List Nat × Str} {l:Ld} (h:dY chs s=some l):dY (chs++[(p,ch)]) s=some l:=by
 unfold dY at h ⊢
 rw [jR]
 cases e:asc chs s.1 with
 | none=>rw [e] at h;cases h
 | some m=>rw [e] at h;exact h
theorem qJ {chs:CS} {p:List Nat} {ch:CM} {c:Str} (h:asc chs p=none):dY (chs++[(p,ch)]) (p,c)=asc ch c:=by
 unfold dY
 rw [jR,h]
 show (asc [(p,ch)] p).bind _=_
 rw [eY (p:=(p,ch)) rfl];rfl
theorem Bd.cover (hT:Tab cs tls) (b:Bd t tls cs ps vs chs):∀ s v,bL vs s=some v->∃ rk word seen,Cv t tls cs vs chs rk s word seen:=by
 induction b with
 | nil=>intro s v h;cases h
 | @snoc ps vs chs p t' m ch b hp ht hf ih =>
  have old:∀ s v,s.1≠p->bL (vs++[(p,m)]) s=some v->bL vs s=some v:=fun s v hne h=>by
   rw [<- iB (b.noV hp)] at h
   unfold cur at h
   rw [if_neg hne] at h;exact h
  have keep:∀ s v,s.1≠p->bL vs s=some v->bL (vs++[(p,m)]) s=some v:=fun s v hne h=>by
   rw [<- iB (b.noV hp)]
   unfold cur
   rw [if_neg hne];exact h
  have lift:∀ s v,s.1≠p->bL vs s=some v->∃ rk word seen,Cv t tls cs (vs++[(p,m)]) (chs++[(p,ch)]) rk s word seen:=fun s v hne h=>by
   obtain ⟨rk,word,seen,cv⟩:=ih s v h
   exact ⟨rk,word,seen,⟨cv.wd.mono fun s l h=>BF h,cv.run,cv.ok,fun v2 hv2=>cv.cost v2 (old s v2 hne hv2),cv.rank,cv.sub,cv.nd,cv.len⟩⟩
  obtain ⟨rk,hrk⟩:=hf.rk
  have main:∀ n c v,rk c < n->asc m c=some v->∃ word seen,Cv t tls cs (vs++[(p,m)]) (chs++[(p,ch)]) rk (p,c) word seen:=by
   intro n
   induction n with
   | zero=>intro c v h;omega
   | succ n ihn =>
    intro c v hn h
    obtain ⟨h0,h1,l,a1,a2,a3,w,a4,a5⟩:=hf.just c v h
    have lkv:bL (vs++[(p,m)]) (p,c)=some v:=by
     rw [<- iB (b.noV hp)];unfold cur;rw [if_pos rfl];exact h
    have lkc:dY (chs++[(p,ch)]) (p,c)=some l:=by rw [qJ (b.noC hp)];exact a1
    have a4':cI (bL (vs++[(p,m)])) l.spots=some w:=by rw [<- a4];exact oK fun s _=>(iB (b.noV hp) s).symm
    obtain ⟨i,tl,e1,e2,rfl⟩:=nN a2
    have hi:i < tls.length:=(List.getElem?_eq_some_iff.mp e1).1
    have htm:=List.mem_of_getElem? e1
    have hg:=hT.good tl htm
    have hcls:tl.cls=c:=a3
    have hcost:iQ tls ((0 + i:Nat):Int)=tl.cost:=by
     unfold iQ
     rw [Nat.zero_add,gO (xs:=tls) (j:=i) e1]
    have hok0:0<=((0 + i:Nat):Int)/\((0 + i:Nat):Int) < tls.length:=⟨by omega,by omega⟩
    have hstep:∀ ps st,c ∉ ps->oS tls ((0 + i:Nat):Int) (⟨t',c,ps⟩ :: st)=some (K34.below tl ⟨t',c,ps⟩++st):=fun ps st hc=>by
     have e3:tls[(((0 + i:Nat):Int)).toNat]?=some tl:=by rw [Int.toNat_natCast,Nat.zero_add];exact e1
     simp only [oS,hok0,e3,hcls,e2,hc,and_self,if_true,not_false_eq_true]
    obtain ⟨bs,g1,g2,g3⟩:=nB tl.pt t' [] e2
    have g0:=(oU tl.pt t' [] e2).1
    have each:∀ (j:Nat) (e:List Nat × Str),(eF tl.pt)[j]?=some e->∃ t2 bb,bs[j]?=some bb/\t'.at e.1=some t2/\t2.size=bb/\(e.1=[]->∃ c,tl.pt=.hole c)/\(iJ tl.pt t')[j]?=some (t2,e.2):=fun j e he=>by
     have hj:=(List.getElem?_eq_some_iff.mp he).1
     have hb:bs[j]?=some (bs[j]'(by rw [g1];exact hj)):=List.getElem?_eq_getElem _
     obtain ⟨s,t2,e1,e2,e3,e4,e5⟩:=g3 j e _ he hb
     have e1':e.1=s:=by simpa using e1
     subst e1'
     exact ⟨t2,_,hb,e2,e3,e4,e5⟩
    cases hps:tl.pass with
    | true =>
     obtain ⟨c2,hpt⟩:∃ c2,tl.pt=.hole c2:=by
      unfold Tl.pass at hps
      cases hh:tl.pt with
      | hole c2=>exact ⟨c2,rfl⟩
      | _=>rw [hh] at hps;cases hps
     have hspots:((eF tl.pt).map fun e=>(p++e.1,e.2))=[(p,c2)]:=by rw [hpt];simp [eF,b9,hF]
     dsimp only at a4' a4 a1 lkc
     rw [hspots] at a4 a4'
     obtain ⟨x,y,k1,k2,rfl⟩:=iN a4
     cases k2
     have k1':asc m c2=some x:=by unfold cur at k1;rw [if_pos rfl] at k1;exact k1
     have hlt:rk c2 < rk c:=hrk c _ a1 (p,c2) (by rw [hspots];exact List.mem_cons_self) rfl
     obtain ⟨word,seen,cv⟩:=ihn c2 x (by omega) k1'
     have hcn:c ∉ seen:=fun z=>by have:=cv.rank c z;dsimp only at this;omega
     refine ⟨((0 + i:Nat):Int) :: word,c :: seen,?_,?_,?_,?_,?_,?_,?_,?_⟩
     ·have:=Wd.mk (look:=dY (chs++[(p,ch)])) (s:=(p,c)) (wss:=[word]) lkc (by rw [hspots];rfl) (fun j s' w h1 h2=>by
       dsimp only at h1
       rw [hspots] at h1
       match j,h1,h2 with
       | 0,h1,h2=>cases h1;cases h2;exact cv.wd
       | j + 1,h1,h2=>cases h1)
      simpa using this
     ·intro t2 ht2 ps st hps2
      dsimp only at ht2 ⊢
      rw [ht] at ht2;cases ht2
      have hcp:c ∉ ps:=hps2 c List.mem_cons_self
      simp only [oA,hstep ps st hcp,Option.bind_some]
      have hb:K34.below tl ⟨t',c,ps⟩=[⟨t',c2,ps++[c]⟩]:=by
       unfold K34.below nZ
       rw [hps,hpt,hcls]
       cases t' <;> rfl
      rw [hb]
      refine cv.run t' ht (ps++[c]) st fun x hx=>?_
      simp only [List.mem_append,List.mem_singleton,not_or]
      exact ⟨hps2 x (List.mem_cons_of_mem _ hx),fun z=>by subst z;exact hcn hx⟩
     ·intro k hk
      rcases List.mem_cons.mp hk with rfl | hk
      ·exact hok0
      ·exact cv.ok k hk
     ·intro v2 hv2
      rw [lkv] at hv2;cases hv2
      rw [List.map_cons,List.sum_cons,hcost,cv.cost x (by rw [<- iB (b.noV hp)];unfold cur;rw [if_pos rfl];exact k1')]
      have a5':v=tl.cost + (x + 0):=a5
      omega
     ·intro x hx
      rcases List.mem_cons.mp hx with rfl | hx
      ·exact Nat.le_refl _
      ·have:=cv.rank x hx;dsimp only at this ⊢;omega
     ·intro x hx
      rcases List.mem_cons.mp hx with rfl | hx
      ·have:tl.cls∈cs:=hg.2.2.1
       rw [<- hcls];exact this
      ·exact cv.sub x hx
     ·exact List.nodup_cons.mpr ⟨hcn,cv.nd⟩
     ·intro t2 ht2
      have:=cv.len t2 ht2
      simp only [List.length_cons];push_cast;omega
    | false =>
     have hnh:∀ c2,tl.pt≠.hole c2:=fun c2 z=>by unfold Tl.pass at hps;rw [z] at hps;cases hps
     have hbk:1<=mQ tl.pt:=by
      cases hh:tl.pt with
      | hole c2=>exact absurd hh (hnh c2)
      | _=>simp [mQ]
     have hall:∀ s∈(eF tl.pt).map (fun e=>(p++e.1,e.2)),∃ ws:List Int,(∃ rk seen,Cv t tls cs (vs++[(p,m)]) (chs++[(p,ch)]) rk s ws seen):=fun s hs=>by
      obtain ⟨e,he,rfl⟩:=List.mem_map.mp hs
      obtain ⟨j,hj⟩:=List.getElem?_of_mem he
      obtain ⟨t2,bb,q1,q2,q3,q4,q5⟩:=each j e hj
      have hne:p++e.1≠p:=fun z=>by
       rw [List.append_right_eq_self] at z
       obtain ⟨c2,hc2⟩:=q4 z
       exact hnh c2 hc2
      obtain ⟨a,ha⟩:=tQ a4' (p++e.1,e.2) (List.mem_map.mpr ⟨e,he,rfl⟩)
      obtain ⟨rk2,word,seen,cv⟩:=lift (p++e.1,e.2) a hne (old _ _ hne ha)
      exact ⟨word,rk2,seen,cv⟩
     obtain ⟨wss,w1,w2⟩:=xN _ hall
     rw [List.length_map] at w1
     refine ⟨((0 + i:Nat):Int) :: wss.flatten,[c],?_,?_,?_,?_,?_,?_,?_,?_⟩
     ·exact Wd.mk (look:=dY (chs++[(p,ch)])) (s:=(p,c)) (wss:=wss) lkc (by dsimp only;rw [List.length_map];exact w1) (fun j s' w h1 h2=>by
       obtain ⟨rk2,seen,cv⟩:=w2 j s' w h1 h2
       exact cv.wd)
     ·intro t2 ht2 ps st hps2
      dsimp only at ht2 ⊢
      rw [ht] at ht2;cases ht2
      have hcp:c ∉ ps:=hps2 c List.mem_cons_self
      simp only [oA,hstep ps st hcp,Option.bind_some]
      have hpd:nZ tl ⟨t',c,ps⟩=[]:=by unfold nZ;rw [hps];rfl
      refine DT tls st _ wss (by rw [K34.below,List.length_map,<- g0];exact w1) fun j wt w h1 h2 st'=>?_
      rw [K34.below,hpd,List.getElem?_map] at h1
      cases hj:(iJ tl.pt t')[j]? with
      | none=>rw [hj] at h1;cases h1
      | some x =>
       rw [hj] at h1
       cases h1
       have hjl:j < (eF tl.pt).length:=by
        have:=(List.getElem?_eq_some_iff.mp hj).1
        rw [<- g0] at this;exact this
       obtain ⟨e,he⟩:∃ e,(eF tl.pt)[j]?=some e:=⟨_,List.getElem?_eq_getElem hjl⟩
       obtain ⟨t2,bb,q1,q2,q3,q4,q5⟩:=each j e he
       rw [hj] at q5;cases q5
       obtain ⟨rk2,seen,cv⟩:=w2 j (p++e.1,e.2) w (by rw [List.getElem?_map,he];rfl) h2
       exact cv.run t2 (by dsimp only;rw [kH t p e.1 t' ht];exact q2) [] st' fun x hx=>by simp
     ·intro k hk
      rcases List.mem_cons.mp hk with rfl | hk
      ·exact hok0
      ·obtain ⟨ws,hws,hk⟩:=List.mem_flatten.mp hk
       obtain ⟨j,hj⟩:=List.getElem?_of_mem hws
       have hjl:j < (eF tl.pt).length:=by rw [<- w1];exact (List.getElem?_eq_some_iff.mp hj).1
       obtain ⟨e,he⟩:∃ e,(eF tl.pt)[j]?=some e:=⟨_,List.getElem?_eq_getElem hjl⟩
       obtain ⟨rk2,seen,cv⟩:=w2 j (p++e.1,e.2) ws (by rw [List.getElem?_map,he];rfl) hj
       exact cv.ok k hk
     ·intro v2 hv2
      rw [lkv] at hv2;cases hv2
      rw [List.map_cons,List.sum_cons,hcost,Ag tls (bL (vs++[(p,m)])) _ wss w (by rw [List.length_map];exact w1) (fun j s ws h1 h2 v hv=>by
       obtain ⟨rk2,seen,cv⟩:=w2 j s ws h1 h2
       exact cv.cost v hv) a4',a5]
     ·intro x hx;cases List.mem_singleton.mp hx;exact Nat.le_refl _
     ·intro x hx
      cases List.mem_singleton.mp hx
      have:tl.cls∈cs:=hg.2.2.1
      rw [<- hcls];exact this
     ·simp
     ·intro t2 ht2
      dsimp only at ht2
      rw [ht] at ht2;cases ht2
      have hlen:=BI wss bs (by rw [w1,g1];rfl) fun j ws bb h1 h2=>by
       have hjl:j < (eF tl.pt).length:=by rw [<- w1];exact (List.getElem?_eq_some_iff.mp h1).1
       obtain ⟨e,he⟩:∃ e,(eF tl.pt)[j]?=some e:=⟨_,List.getElem?_eq_getElem hjl⟩
       obtain ⟨t2,bb',q1,q2,q3,q4,q5⟩:=each j e he
       rw [h2] at q1;cases q1
       obtain ⟨rk2,seen,cv⟩:=w2 j (p++e.1,e.2) ws (by rw [List.getElem?_map,he];rfl) h1
       have k1:=cv.len t2 (by dsimp only;rw [kH t p e.1 t' ht];exact q2)
       have k2:=mX seen cs cv.nd cv.sub
       have k3:=hT.cls.len
       rw [q3] at k1
       omega
      simp only [List.length_cons,List.length_nil]
      push_cast
      omega
  intro s v h
  by_cases e:s.1=p
  ·obtain ⟨s1,s2⟩:=s
   dsimp only at e
   subst e
   rw [<- iB (b.noV hp)] at h
   unfold cur at h
   rw [if_pos rfl] at h
   obtain ⟨word,seen,cv⟩:=main (rk s2 + 1) s2 v (by omega) h
   exact ⟨rk,word,seen,cv⟩
  ·exact lift s v e (old s v e h)
theorem Bd.both (b:Bd t tls cs ps vs chs) (s:List Nat × Str):(dY chs s).isSome=(bL vs s).isSome:=by
 induction b with
 | nil=>rfl
 | @snoc ps vs chs p t' m ch b hp ht hf ih =>
  by_cases e:s.1=p
  ·obtain ⟨s1,s2⟩:=s
   dsimp only at e
   subst e
   rw [qJ (b.noC hp),<- iB (b.noV hp)]
   unfold cur
   rw [if_pos rfl]
   have k1:=@dZ _ _ _ s2 m
   have k2:=@dZ _ _ _ s2 ch
   rw [hf.keys] at k1
   exact Bool.eq_iff_iff.mpr (k2.trans k1.symm)
  ·rw [<- iB (b.noV hp)]
   unfold cur
   rw [if_neg e,<- ih]
   unfold dY
   rw [jR]
   cases q:asc chs s.1 with
   | some m=>rfl
   | none =>
    show ((asc [(p,ch)] s.1).bind _).isSome=_
    rw [eS (p:=(p,ch)) (fun z=>e z.symm)];rfl
theorem Bd.spots (hT:Tab cs tls) (b:Bd t tls cs ps vs chs):∀ s l,dY chs s=some l->l.spots.length<=64/\∀ s'∈l.spots,∃ l',dY chs s'=some l':=by
 induction b with
 | nil=>intro s l h;cases h
 | @snoc ps vs chs p t' m ch b hp ht hf ih =>
  have hb:=Bd.snoc b hp ht hf
  intro s l h
  by_cases e:s.1=p
  ·obtain ⟨s1,s2⟩:=s
   dsimp only at e
   subst e
   rw [qJ (b.noC hp)] at h
   have hm:(asc m s2).isSome=true:=by rw [dZ,hf.keys,<- dZ,h];rfl
   obtain ⟨v,hv⟩:=Option.isSome_iff_exists.mp hm
   obtain ⟨h0,h1,l1,a1,a2,a3,w,a4,a5⟩:=hf.just s2 v hv
   rw [h] at a1;cases a1
   refine ⟨?_,fun s' hs'=>?_⟩
   ·obtain ⟨i,tl,e1,e2,rfl⟩:=nN a2
    have hg:=hT.good tl (List.mem_of_getElem? e1)
    have:tl.pt.dep<=4:=hg.2.1
    rw [List.length_map];exact wH tl.pt (by omega)
   ·obtain ⟨a,ha⟩:=tQ a4 s' hs'
    rw [iB (b.noV hp)] at ha
    have:(dY (chs++[(s1,ch)]) s').isSome=true:=by rw [hb.both,ha];rfl
    exact Option.isSome_iff_exists.mp this
  ·have h':dY chs s=some l:=by
    unfold dY at h ⊢
    rw [jR] at h
    cases q:asc chs s.1 with
    | some m=>rw [q] at h;exact h
    | none =>
     rw [q] at h
     have h:(asc [(p,ch)] s.1).bind _=some l:=h
     rw [eS (p:=(p,ch)) (fun z=>e z.symm)] at h;cases h
   obtain ⟨k1,k2⟩:=ih s l h'
   exact ⟨k1,fun s' hs'=>let ⟨l',hl'⟩:=k2 s' hs';⟨l',BF hl'⟩⟩
theorem m5 {M:aE} {x:U} {kvs:List (List Key × U)} (p:List Nat) (h:eX M x=some (.dT kvs)):cS true M x (aO p)=some (cP kvs (pk p)):=by
 simp only [cS,h,aO,oV,Option.map_some]
inductive rQ (look:List Nat × Str->Option Ld):List (List Nat × Str)->List (List Int)->Prop
 | nil:rQ look [] []
 | cons {s:List Nat × Str} {w:List Int} {st:List (List Nat × Str)} {ws:List (List Int)} (h:Wd look s w) (t:rQ look st ws):rQ look (s :: st) (w :: ws)
theorem rQ.app {look:List Nat × Str->Option Ld}:∀ {a:List (List Nat × Str)} {x:List (List Int)} {b:List (List Nat × Str)} {y:List (List Int)},rQ look a x->rQ look b y->rQ look (a++b) (x++y)
 | _,_,_,_,.nil,h=>h
 | _,_,_,_,.cons h t,k=>.cons h (rQ.app t k)
theorem rQ.of {look:List Nat × Str->Option Ld}:∀ {l:List (List Nat × Str)} {wss:List (List Int)},wss.length=l.length->(∀ (i:Nat) s w,l[i]?=some s->wss[i]?=some w->Wd look s w)->rQ look l wss
 | [],[],_,_=>.nil
 | [],_ :: _,h,_=>by cases h
 | _ :: _,[],h,_=>by cases h
 | s :: l,w :: wss,h,hw=>.cons (hw 0 s w rfl rfl) (rQ.of (by simpa using h) fun i s w h1 h2=>hw (i + 1) s w h1 h2)
noncomputable def GI (r:Addr) (M:aE):Nat:=match M r with
 | some (.lst us)=>us.length
 | _=>0
noncomputable def CK:dB:=fun us M Q=>∃ (chs:CS) (c:Str) (word:List Int),us=[BQ chs,.str c]/\(∀ s l,dY chs s=some l->l.spots.length<=64)/\Wd (dY chs) ([],c) word/\word.length<=1300/\∀ r,M r=none->Q (.ref r) (mup M r (.lst (word.map U.int)))
theorem JA (F:dM K "chosen_cover" "chosen_cover" nI f fd) (hm:mg "chosen_cover"=some (.ref f)) (hNK:jJ K) (mI:mg "list"=none) (gD:mg "reversed"=none):Callee P w K mg base 1 "chosen_cover" CK []:=by
 refine bP F hm iP (qY fun _ _ _ _ _ _ _ _=>rfl) (aD (aU 2 iP.nd (i9 (own:=true) aB))
 (aD (aU 3 iP.nd (i9 (own:=true) (aA (bD (aA (bD aB) (aA (uv 1) aB))) aB)))
 (aD (yN (rR (uv 3))
 (aD (aU 4 iP.nd (HA (uv 3)))
 (aD (aU 5 iP.nd (dP false j4 (dP true (fun _=>hNK) (uv 0) (aQ (uv 4) aP)) (aQ (uv 4) aP)))
 (aD (iD (qP (uv 2) (aA (aQ (uv 5) aP) aB)))
 (aI (iD (vT (uv 3) (aA (Gq (own:=false) mI gD (aA (aQ (uv 5) aP) aB)) aB))))))))
 (aI (bJ (uv 2)))))) ?_
 rintro us M Q ⟨chs,c,word,rfl,h64,hwd,hwl,q⟩
 refine ⟨rfl,?_⟩
 refine aH fun V hV=>?_
 simp_all! only [bC,hName]
 intro r hr
 subst hV
 refine aH fun V hV=>?_
 simp_all! only [bC,hName]
 intro g hg
 have hrg:r≠g:=fun z=>by subst z;rw [aG] at hg;cases hg
 have hMg:M g=none:=by rw [aM (fun z=>hrg z.symm)] at hg;exact hg
 have e0:mup (mup M r (.lst [])) g (.lst [.tup [.tup [],.str c]])=cT M r g (([]:List Int).map U.int) (([([],c)]:List (List Nat × Str)).reverse.map dS):=rfl
 rw [e0]
 subst hV
 refine aH fun V hV=>?_
 refine xX (fun τ Mi=>∃ (st:List (List Nat × Str)) (ws:List (List Int)) (dn:List Int) (z4 z5:Option U),τ=[some (BQ chs),some (.str c),some (.ref r),some (.ref g),z4,z5]/\Mi=cT M r g (dn.map U.int) (st.reverse.map dS)/\rQ (dY chs) st ws/\dn++ws.flatten=word/\st.length<=1 + 64 * dn.length) (fun _ M'=>word.length - GI r M')
  ⟨[([],c)],[word],[],none,none,rfl,rfl,.cons hwd .nil,by simp,by simp⟩ ?_
 rintro τ Mi ⟨st,ws,dn,z4,z5,rfl,rfl,hws,hdn,hsl⟩
 have vg:∀ T R,view (cT M r g T R) (.ref g)=.lst R:=fun T R=>kP mH
 have vr:∀ T R,view (cT M r g T R) (.ref r)=.lst T:=fun T R=>kP (mO hrg)
 have lm:∀ (d:List Int) R,GI r (cT M r g (d.map U.int) R)=d.length:=fun d R=>by unfold GI;rw [mO hrg];simp
 cases hws with
 | nil =>
  simp_all! only [vg,List.reverse_nil,List.isEmpty_nil]
  have hd:dn=word:=by simpa using hdn
  subst hd
  subst hV
  simp_all! only [fD]
  refine ⟨.ref r,mup M r (.lst (dn.map U.int)),fun z o hz=>?_,.inl rfl,q r hr⟩
  have hzg:z≠g:=fun e=>by subst e;rw [aM (fun e=>hrg e.symm),hMg] at hz;cases hz
  show mup (mup M r _) g _ z=_
  rw [aM hzg];exact hz
 | @cons s w st ws h tl =>
  have hie:(st.reverse.map dS++[dS s]).isEmpty=false:=by simp
  simp_all! only [vg,List.reverse_cons,List.map_append,hie]
  obtain ⟨hlk,hl,hw⟩:=h
  rename_i l wss
  have hlen:dn.length < word.length:=by rw [<- hdn];simp
  have h5:=h64 s l hlk
  have hch:∃ ch,asc chs s.1=some ch/\asc ch s.2=some l:=by
   unfold dY at hlk
   cases e:asc chs s.1 with
   | none=>rw [e] at hlk;cases hlk
   | some ch=>rw [e] at hlk;exact ⟨ch,rfl,hlk⟩
  obtain ⟨ch,hc1,hc2⟩:=hch
  refine aH fun V1 hV1=>?_
  simp_all! only [bC,hName,mH,PQ,P0,pH,vg]
  refine ⟨⟨_,vg _ _⟩,?_⟩
  subst hV1
  refine aH fun V1 hV1=>?_
  have l1:∀ Mx:aE,cS true Mx (BQ chs) (aO s.1)=some (some (mZ ch)):=fun Mx=>by rw [m5 s.1 (Mh chs),Gw,hc1];rfl
  have l2:∀ Mx:aE,cS false Mx (mZ ch) (.str s.2)=some (some (rX l)):=fun Mx=>by rw [lN s.2 (IU ch),HR,hc2];rfl
  simp_all! only [bC,hName,dS,l1,l2]
  subst hV1
  refine aH fun V1 hV1=>?_
  simp_all! only [kY,rX,mO hrg,lU hrg]
  refine ⟨⟨_,vr _ _⟩,big (by rw [List.length_map];omega),?_⟩
  subst hV1
  simp_all! only [kY,rX,mH,pH]
  refine ⟨⟨_,vg _ _⟩,small (by rw [List.length_map,List.length_reverse,List.length_reverse,List.length_map];simp only [List.length_cons] at hsl;omega),?_⟩
  refine ⟨⟨l.spots++st,wss++ws,dn++[(l.n:Int)],_,_,rfl,?_,(rQ.of hl hw).app tl,?_,?_⟩,?_⟩
  ·rw [List.reverse_append,List.map_append,List.map_append,List.map_reverse (l:=l.spots)];rfl
  ·rw [<- hdn];simp
  ·simp only [List.length_append,List.length_cons,List.length_nil] at hsl ⊢;omega
  ·have e1:dn.map U.int++[U.int l.n]=(dn++[(l.n:Int)]).map U.int:=by simp
   rw [e1,lm]
   have e2:GI r (cT M r g (dn.map U.int) (st.reverse.map dS++[dS s]))=dn.length:=lm dn _
   first | rw [e2] | skip
   simp only [List.length_append,List.length_cons,List.length_nil]
   omega
noncomputable def yE (cs:List Str) (vs:VS) (p:List Nat):U:=.tup [aO p,.tup (cs.map fun c=>oB (bL vs (p,c)))]
noncomputable def FE:dB:=fun us M Q=>∃ (cs:List Str) (tls:List Tl) (t:Tr) (vs:VS),us=[fB cs tls,t.toU,Fw vs]/\t.dep<=31/\t.size<=1000/\cs.length<=6/\(∀ p∈t.places,∃ m,asc vs p=some m)/\Q (.lst (t.places.map (yE cs vs))) M
theorem Ez (F:dM K "as_paper" "as_paper" uN f fd) (hm:mg "as_paper"=some (.ref f)) (hNK:jJ K) (o4:mg "tuple"=none) (pN:Callee P w K mg base 33 "places" (iK 31) []):Callee P w K mg base 34 "as_paper" FE []:=by
 refine bP F hm Ep (D9 fun _ _ _ _ _ _ _ _ _=>rfl) (aI (bJ (Ky false ["place","table","values"] [0,2] (dN (aR pN (aA (uv 1) aB))) (bD (aA (uv 0) (aA (vE Fi o4 (aA (k5 false ["cls","values","place"] 1 [2,0] (dN (aQ (uv 1) aP)) (aN (k:=1) 0 (by dsimp only [bM];decide +kernel)) gK (o7 false j4 (dP true (fun _=>hNK) (uv 1) (uv 2)) (uv 0))) aB)) aB)))))) ?_
 rintro us M Q ⟨cs,tls,t,vs,rfl,hd,hs,h6,hat,q⟩
 refine ⟨rfl,?_⟩
 have hpl:=gE t
 simp_all! only [fD]
 refine dE (S:=⟨none,t.places.map aO⟩) (M1:=M) (t.places.map (yE cs vs)) (fun R r=>⟨t,rfl,hd,hs,r⟩) (by simp) (small (by show (t.places.map aO).length<=_;rw [List.length_map];omega)) (fun a e=>by cases e) ?_ (aY q)
 intro j x y hx hy M' hS R r'
 have hx':(t.places.map aO)[j]?=some x:=hx
 rw [List.getElem?_map] at hx' hy
 cases hj:t.places[j]? with
 | none=>rw [hj] at hx';cases hx'
 | some p =>
  rw [hj] at hx' hy
  cases hx';cases hy
  obtain ⟨m,hm'⟩:=hat p (List.mem_of_getElem? hj)
  simp_all! only [hName]
  refine dE (S:=⟨none,cs.map U.str⟩) (M1:=M') (cs.map fun c=>oB (bL vs (p,c))) (fun R r=>by simp_all! only [pE,uX];exact r) (by simp) (small (by show (cs.map U.str).length<=_;rw [List.length_map];omega)) (fun a e=>by cases e) ?_ ?_
  ·intro j x y hx hy M2 hS R r'
   have hx':(cs.map U.str)[j]?=some x:=hx
   rw [List.getElem?_map] at hx' hy
   cases hj:cs[j]? with
   | none=>rw [hj] at hx';cases hx'
   | some c =>
    rw [hj] at hx' hy
    cases hx';cases hy
    have l1:cS true M2 (Fw vs) (aO p)=some (some (nK m)):=by rw [m5 p (RX vs),FW,hm'];rfl
    have l2:cS false M2 (nK m) (.str c)=some ((asc m c).map U.int):=by rw [lN c (DD m),AE]
    have l3:uF M2 (nK m)=true:=Cp (DD m)
    simp_all! only [hName,l1,l2,l3]
    have r2:R (oB (bL vs (p,c))) M2:=r'
    unfold bL at r2
    dsimp only at r2
    rw [hm'] at r2
    have r3:R (oB (asc m c)) M2:=r2
    cases hc:asc m c with
    | none=>rw [hc] at r3;exact r3
    | some a=>rw [hc] at r3;exact r3
  ·simp_all! only [true_and]
   exact r'
noncomputable def CO:dB:=fun us M Q=>∃ (cs:List Str) (tls:List Tl) (t:Tr),us=[fB cs tls,t.toU]/\Tab cs tls/\t.dep<=31/\t.size<=1000/\∀ (vs:VS) (chs:CS),Bd t tls cs t.places.reverse vs chs->Q (.lst (t.places.map (yE cs vs))) M
theorem Iy {fj:Addr} (F:dM K "labels" "labels" x6 f fd) (hm:mg "labels"=some (.ref f)) (dR:mg "joined_price"=some (.ref fj)) (G5:Callee P w K mg base 34 "as_paper" FE []) (mY:Callee P w K mg base 34 "least_of_all" (AY fj) []):Callee P w K mg base 35 "labels" CO []:=by
 refine bP F hm Ic (qY fun _ _ _ _ _ _ _ _=>rfl) (aI (bJ (aR G5 (aA (uv 0) (aA (uv 1) (aA (aQ (aR mY (aA (uv 0) (aA (uv 1) (aA (DX dR) aB)))) aP) aB)))))) ?_
 rintro us M Q ⟨cs,tls,t,rfl,hT,hd,hs,q⟩
 refine ⟨rfl,?_⟩
 simp_all! only [fD]
 refine ⟨cs,tls,t,rfl,hT,hd,hs,fun vs chs b=>?_⟩
 simp_all! only [true_and]
 refine ⟨cs,tls,t,vs,rfl,hd,hs,hT.cls.len,fun p hp=>?_,aY (q vs chs b)⟩
 have:(asc vs p).isSome=true:=by rw [dZ,b.keysV];exact List.mem_reverse.mpr hp
 exact Option.isSome_iff_exists.mp this
noncomputable def CF:dB:=fun us M Q=>∃ (cs:List Str) (tls:List Tl) (t:Tr) (c:Str),us=[fB cs tls,t.toU,.str c]/\Tab cs tls/\t.dep<=31/\t.size<=200/\∀ (vs:VS) (chs:CS),Bd t tls cs t.places.reverse vs chs->match bL vs ([],c) with
 | none=>Q .non M
 | some v=>∀ (word:List Int) (r:Addr),M r=none->AU tls (word.map U.int) [⟨t,c,[]⟩]=true->CT tls word->(word.map (iQ tls)).sum=v->word.length<=1300->Q (.ref r) (mup M r (.lst (word.map U.int)))
theorem NM (t:Tr):([]:List Nat)∈t.places:=kR t [] t (dF t)
theorem Kh {fj:Addr} (F:dM K "least" "least" AH f fd) (hm:mg "least"=some (.ref f)) (hNK:jJ K) (dR:mg "joined_price"=some (.ref fj)) (mY:Callee P w K mg base 34 "least_of_all" (AY fj) []) (AI:Callee P w K mg base 1 "chosen_cover" CK []):Callee P w K mg base 35 "least" CF []:=by
 refine bP F hm D3 (D9 fun _ _ _ _ _ _ _ _ _=>rfl) (aD (aU 3 D3.nd (aQ (aR mY (aA (uv 0) (aA (uv 1) (aA (DX dR) aB)))) aP))
 (aI (bJ (Cq (dC (GN false j4) (uv 2) (dP true (fun _=>hNK) (uv 3) (bD aB))) (aR AI (aA (uv 3) (aA (uv 2) aB))) Cu)))) ?_
 rintro us M Q ⟨cs,tls,t,c,rfl,hT,hd,hs,q⟩
 refine ⟨rfl,?_⟩
 refine aH fun V hV=>?_
 simp_all! only [bC,hName]
 refine ⟨cs,tls,t,rfl,hT,hd,by omega,fun vs chs b=>?_⟩
 simp_all! only [true_and]
 have q2:=q vs chs b
 have hin:∃ ch,asc chs []=some ch:=by
  have:(asc chs []).isSome=true:=by rw [dZ,b.keysC];exact List.mem_reverse.mpr (NM t)
  exact Option.isSome_iff_exists.mp this
 obtain ⟨ch,hch⟩:=hin
 have hlk:dY chs ([],c)=asc ch c:=by unfold dY;rw [hch];rfl
 have l1:cS true M (BQ chs) (.tup [])=some (some (mZ ch)):=by
  have:=m5 (M:=M) [] (Mh chs)
  rw [Gw,hch] at this
  exact this
 have l2:cS false M (mZ ch) (.str c)=some ((asc ch c).map rX):=by rw [lN c (IU ch),HR]
 have hboth:=b.both ([],c)
 rw [hlk] at hboth
 subst hV
 simp_all! only [fD,l1,l2]
 cases hv:bL vs ([],c) with
 | none =>
  rw [hv] at q2 hboth
  cases hc:asc ch c with
  | some l=>rw [hc] at hboth;cases hboth
  | none =>
   simp_all! only [Option.map_none,Option.isSome_none]
   exact aY q2
 | some v =>
  rw [hv] at q2 hboth
  cases hc:asc ch c with
  | none=>rw [hc] at hboth;cases hboth
  | some l =>
   simp_all! only [Option.map_some,Option.isSome_some]
   obtain ⟨rk,word,seen,cv⟩:=b.cover hT ([],c) v hv
   have k1:=cv.len t (dF t)
   have k2:=mX seen cs cv.nd cv.sub
   have k3:=hT.cls.len
   refine ⟨chs,c,word,rfl,fun s l h=>(b.spots hT s l h).1,cv.wd,by omega,fun r hr=>?_⟩
   have hrun:=cv.run t (dF t) [] [] fun x hx=>by simp
   exact aY (q2 word r hr (HE tls word _ _ hrun) cv.ok (cv.cost v hv) (by omega))
end
abbrev Bs:=Option (Int × Int)
noncomputable def bR:Bs->Bs->Bs
 | none,b=>b
 | a,none=>a
 | some (p,n),some (q,m)=>if p < q then some (p,n) else if q < p then some (q,m) else some (p,n + m)
noncomputable def aZ:Bs->Bs->Bs
 | some (p,n),some (q,m)=>some (p + q,n * m)
 | _,_=>none
theorem cD (a:Bs):bR a none=a:=by cases a <;> rfl
theorem d4 (a:Bs):bR none a=a:=rfl
theorem bS (a:Bs):aZ a none=none:=by cases a <;> rfl
theorem wQ (a b:Bs):bR a b=bR b a:=by
 rcases a with _ | ⟨p,n⟩ <;> rcases b with _ | ⟨q,m⟩ <;> simp only [bR]
 by_cases h1:p < q
 ·rw [if_pos h1,if_neg (by omega),if_pos h1]
 ·by_cases h2:q < p
  ·rw [if_neg h1,if_pos h2,if_pos h2]
  ·rw [if_neg h1,if_neg h2,if_neg h2,if_neg h1]
   have:p=q:=by omega
   subst this;rw [Int.add_comm]
theorem eZ (a b c:Bs):bR (bR a b) c=bR a (bR b c):=by
 rcases a with _ | ⟨p,n⟩
 ·rfl
 rcases b with _ | ⟨q,m⟩
 ·rfl
 rcases c with _ | ⟨r,k⟩
 ·rw [cD,cD]
 simp only [bR]
 by_cases h1:p < q
 ·rw [if_pos h1]
  by_cases h2:q < r
  ·rw [if_pos h2];simp only [bR];rw [if_pos (by omega),if_pos h1]
  ·by_cases h3:r < q
   ·rw [if_neg h2,if_pos h3]
   ·rw [if_neg h2,if_neg h3];simp only [bR];rw [if_pos (by omega),if_pos h1]
 ·by_cases h2:q < p
  ·rw [if_neg h1,if_pos h2]
   by_cases h3:q < r
   ·rw [if_pos h3];simp only [bR];rw [if_pos h3,if_neg h1,if_pos h2]
   ·by_cases h4:r < q
    ·rw [if_neg h3,if_pos h4];simp only [bR];rw [if_neg h3,if_pos h4,if_neg (by omega),if_pos (by omega)]
    ·rw [if_neg h3,if_neg h4];simp only [bR];rw [if_neg h3,if_neg h4,if_neg h1,if_pos h2]
  ·have e:p=q:=by omega
   subst e
   rw [if_neg h1,if_neg h2]
   by_cases h3:p < r
   ·rw [if_pos h3];simp only [bR];rw [if_pos h3,if_neg h1,if_neg h2]
   ·by_cases h4:r < p
    ·rw [if_neg h3,if_pos h4];simp only [bR];rw [if_neg h3,if_pos h4,if_neg h3,if_pos h4]
    ·rw [if_neg h3,if_neg h4];simp only [bR];rw [if_neg h3,if_neg h4,if_neg h1,if_neg h1]
     have:p=r:=by omega
     subst this;rw [Int.add_assoc]
theorem jP (a b:Bs):aZ a b=aZ b a:=by
 rcases a with _ | ⟨p,n⟩ <;> rcases b with _ | ⟨q,m⟩ <;> simp only [aZ]
 rw [Int.add_comm,Int.mul_comm]
theorem yS (a b c:Bs):aZ (aZ a b) c=aZ a (aZ b c):=by
 rcases a with _ | ⟨p,n⟩ <;> rcases b with _ | ⟨q,m⟩ <;> rcases c with _ | ⟨r,k⟩ <;> simp only [aZ]
 rw [Int.add_assoc,Int.mul_assoc]
theorem xA (a b c:Bs):aZ a (bR b c)=bR (aZ a b) (aZ a c):=by
 rcases a with _ | ⟨p,n⟩
 ·rfl
 rcases b with _ | ⟨q,m⟩
 ·rfl
 rcases c with _ | ⟨r,k⟩
 ·rfl
 simp only [bR,aZ]
 by_cases h1:q < r
 ·rw [if_pos h1,if_pos (by omega)]
 ·by_cases h2:r < q
  ·rw [if_neg h1,if_pos h2,if_neg (by omega),if_pos (by omega)]
  ·rw [if_neg h1,if_neg h2,if_neg (by omega),if_neg (by omega)];simp only [Int.mul_add]
noncomputable def lJ:Bs:=some (0,1)
theorem nV (a:Bs):aZ a lJ=a:=by rcases a with _ | ⟨p,n⟩ <;> simp [aZ,lJ]
theorem PB (a:Bs):aZ lJ a=a:=by rw [jP,nV]
noncomputable def aW:List Bs->Bs
 | []=>none
 | a :: r=>bR a (aW r)
theorem kT (a b:List Bs):aW (a++b)=bR (aW a) (aW b):=by
 induction a with
 | nil=>rfl
 | cons x r ih=>rw [List.cons_append,aW,ih,aW,eZ]
theorem wX {α:Type} (a:Bs) (g:α->Bs) (l:List α):aW (l.map fun x=>aZ a (g x))=aZ a (aW (l.map g)):=by
 induction l with
 | nil=>rw [List.map_nil,aW,List.map_nil,aW,bS]
 | cons x r ih=>rw [List.map_cons,aW,ih,List.map_cons,aW,xA]
theorem eM {α:Type} {g h:α->Bs} (l:List α) (e:∀ x∈l,g x=h x):aW (l.map g)=aW (l.map h):=by rw [List.map_congr_left e]
theorem gF {α:Type} {g:α->Bs} (l:List α) (e:∀ x∈l,g x=none):aW (l.map g)=none:=by
 induction l with
 | nil=>rfl
 | cons x r ih=>rw [List.map_cons,aW,e x List.mem_cons_self,d4];exact ih fun y hy=>e y (List.mem_cons_of_mem _ hy)
theorem NV (a b c d:Bs):bR (bR a b) (bR c d)=bR (bR a c) (bR b d):=by
 rw [eZ,eZ,<- eZ b c d,wQ b c,eZ c b d]
theorem Bm {α:Type} (g h:α->Bs) (l:List α):aW (l.map fun x=>bR (g x) (h x))=bR (aW (l.map g)) (aW (l.map h)):=by
 induction l with
 | nil=>rfl
 | cons x r ih=>rw [List.map_cons,aW,ih,List.map_cons,List.map_cons,aW,aW,NV]
theorem IG {α β:Type} (g:α->β->Bs) (l:List α) (m:List β):aW (l.map fun x=>aW (m.map fun y=>g x y))=aW (m.map fun y=>aW (l.map fun x=>g x y)):=by
 induction l with
 | nil=>rw [List.map_nil,aW];exact (gF m fun y _=>rfl).symm
 | cons x r ih =>
  rw [List.map_cons,aW,ih,<- Bm]
  exact eM m fun y _=>rfl
theorem Iq {l m:List Bs} (p:l.Perm m):aW l=aW m:=by
 induction p with
 | nil=>rfl
 | cons x _ ih=>rw [aW,aW,ih]
 | swap x y l=>rw [aW,aW,aW,aW,<- eZ,<- eZ,wQ x y]
 | trans _ _ h1 h2=>rw [h1,h2]
abbrev Ed:=(Str × Str) × Bs
noncomputable def cZ (es:List Ed) (f:Str->Bs):Nat->List Str->Str->Bs
 | 0,_,c=>f c
 | n + 1,seen,c=>bR (f c) (aW (es.map fun e=>aZ e.2 (if e.1.1=c/\e.1.2 ∉ seen then cZ es f n (seen++[e.1.2]) e.1.2 else none)))
theorem Dh (es:List Ed) (f:Str->Bs):∀ (n:Nat) (s s':List Str) (c:Str),(∀ x,x∈s ↔ x∈s')->cZ es f n s c=cZ es f n s' c
 | 0,_,_,_,_=>rfl
 | n + 1,s,s',c,h=>by
  rw [cZ,cZ]
  congr 1
  refine eM es fun e _=>?_
  by_cases hc:e.1.1=c/\e.1.2 ∉ s
  ·rw [if_pos hc,if_pos ⟨hc.1,fun z=>hc.2 ((h _).mpr z)⟩]
   rw [Dh es f n (s++[e.1.2]) (s'++[e.1.2]) e.1.2 fun x=>by rw [List.mem_append,List.mem_append,h x]]
  ·rw [if_neg hc,if_neg fun z=>hc ⟨z.1,fun y=>z.2 ((h _).mp y)⟩]
noncomputable def lM (v:Str):Str->Bs:=fun c=>if c=v then lJ else none
theorem uO (es:List Ed) (v:Str):∀ (n:Nat) (s:List Str) (c:Str),v∈s->c≠v->cZ es (lM v) n s c=none
 | 0,_,c,_,hc=>by rw [cZ,lM,if_neg hc]
 | n + 1,s,c,hv,hc=>by
  rw [cZ,lM,if_neg hc,d4]
  refine gF es fun e _=>?_
  by_cases h:e.1.1=c/\e.1.2 ∉ s
  ·rw [if_pos h,uO es v n (s++[e.1.2]) e.1.2 (List.mem_append_left _ hv) (fun z=>h.2 (z ▸ hv)),bS]
  ·rw [if_neg h,bS]
noncomputable def AA (e:Ed):Ed:=((e.1.2,e.1.1),e.2)
theorem tD (es:List Ed) (n:Nat) (S:List Str) (u:Str):cZ es (lM u) n (S++[u]) u=lJ:=by
 cases n with
 | zero=>rw [cZ,lM,if_pos rfl]
 | succ n =>
  rw [cZ,lM,if_pos rfl,gF,cD]
  intro e _
  by_cases h:e.1.1=u/\e.1.2 ∉ S++[u]
  ·have hm:u∈S++[u]:=List.mem_append_right _ (List.mem_singleton.mpr rfl)
   rw [if_pos h,uO es u n ((S++[u])++[e.1.2]) e.1.2 (List.mem_append_left _ hm) (fun z=>h.2 (by rw [z];exact hm)),bS]
  ·rw [if_neg h,bS]
theorem xY (es:List Ed):∀ (n:Nat) (S:List Str) (u v:Str),u ∉ S->v ∉ S->cZ es (lM v) n (S++[u]) u=cZ (es.map AA) (lM u) n (S++[v]) v
 | 0,S,u,v,_,_=>by
  rw [cZ,cZ,lM,lM]
  by_cases h:u=v
  ·rw [if_pos h,if_pos h.symm]
  ·rw [if_neg h,if_neg (Ne.symm h)]
 | 1,S,u,v,hu,hv=>by
  by_cases h:u=v
  ·subst h;rw [tD,tD]
  ·rw [cZ,cZ,lM,lM,if_neg h,if_neg (Ne.symm h),d4,d4,List.map_map]
   refine eM es fun e _=>?_
   show aZ e.2 (if e.1.1=u/\e.1.2 ∉ S++[u] then (if e.1.2=v then lJ else none) else none)=aZ e.2 (if e.1.2=v/\e.1.1 ∉ S++[v] then (if e.1.1=u then lJ else none) else none)
   have hmu:∀ x,x ∉ S++[u] ↔ x ∉ S/\x≠u:=fun x=>by simp
   have hmv:∀ x,x ∉ S++[v] ↔ x ∉ S/\x≠v:=fun x=>by simp
   by_cases h1:e.1.1=u
   ·by_cases h2:e.1.2=v
    ·rw [if_pos ⟨h1,(hmu _).mpr ⟨h2 ▸ hv,fun z=>h (z.symm.trans h2)⟩⟩,if_pos h2,if_pos ⟨h2,(hmv _).mpr ⟨h1 ▸ hu,fun z=>h (h1.symm.trans z)⟩⟩,if_pos h1]
    ·have:aZ e.2 (if e.1.1=u/\e.1.2 ∉ S++[u] then (if e.1.2=v then lJ else none) else none)=none:=by
      rw [if_neg h2];split <;> exact bS _
     rw [this,if_neg fun z=>h2 z.1,bS]
   ·rw [if_neg fun z=>h1 z.1,bS]
    have:aZ e.2 (if e.1.2=v/\e.1.1 ∉ S++[v] then (if e.1.1=u then lJ else none) else none)=none:=by
     rw [if_neg h1];split <;> exact bS _
    rw [this]
 | n + 2,S,u,v,hu,hv=>by
  by_cases h:u=v
  ·subst h;rw [tD,tD]
  have hmu:∀ x,x ∉ S++[u] ↔ x ∉ S/\x≠u:=fun x=>by simp
  have hmv:∀ x,x ∉ S++[v] ↔ x ∉ S/\x≠v:=fun x=>by simp
  have hvu:v ∉ S++[u]:=(hmu v).mpr ⟨hv,Ne.symm h⟩
  have huv:u ∉ S++[v]:=(hmv u).mpr ⟨hu,h⟩
  let mid:Ed->Ed->Bs:=fun e g=>aZ e.2 (aZ g.2 (if e.1.1=u/\e.1.2 ∉ S++[u]/\e.1.2≠v/\g.1.2=v/\g.1.1 ∉ S++[v]/\g.1.1≠u then cZ (es.map AA) (lM e.1.2) n (S++[u]++[v]++[g.1.1]) g.1.1 else none))
  let dir:Ed->Bs:=fun e=>if e.1.1=u/\e.1.2=v then e.2 else none
  have L:cZ es (lM v) (n + 2) (S++[u]) u=bR (aW (es.map dir)) (aW (es.map fun e=>aW (es.map fun g=>mid e g))):=by
   rw [cZ,lM,if_neg h,d4,<- Bm]
   refine eM es fun e _=>?_
   by_cases hc:e.1.1=u/\e.1.2 ∉ S++[u]
   ·rw [if_pos hc,xY es (n + 1) (S++[u]) e.1.2 v hc.2 hvu,cZ,xA]
    congr 1
    ·show _=if e.1.1=u/\e.1.2=v then e.2 else none
     rw [lM]
     by_cases h2:v=e.1.2
     ·rw [if_pos h2,nV,if_pos ⟨hc.1,h2.symm⟩]
     ·rw [if_neg h2,bS,if_neg fun z=>h2 z.2.symm]
    ·rw [<- wX,List.map_map]
     refine eM es fun g _=>?_
     show aZ e.2 (aZ g.2 (if g.1.2=v/\g.1.1 ∉ S++[u]++[v] then cZ (es.map AA) (lM e.1.2) n (S++[u]++[v]++[g.1.1]) g.1.1 else none))=aZ e.2 (aZ g.2 _)
     congr 2
     by_cases hg:g.1.2=v/\g.1.1 ∉ S++[u]++[v]
     ·have hg1:g.1.1 ∉ S/\g.1.1≠u/\g.1.1≠v:=by have:=hg.2;simp at this;exact this
      rw [if_pos hg]
      by_cases h2:e.1.2=v
      ·rw [if_neg fun z=>z.2.2.1 h2,h2]
       refine uO _ _ _ _ _ ?_ hg1.2.2
       simp
      ·rw [if_pos ⟨hc.1,hc.2,h2,hg.1,(hmv _).mpr ⟨hg1.1,hg1.2.2⟩,hg1.2.1⟩]
     ·have hn:¬ (e.1.1=u/\e.1.2 ∉ S++[u]/\e.1.2≠v/\g.1.2=v/\g.1.1 ∉ S++[v]/\g.1.1≠u):=fun z=>by
       have:=(hmv _).mp z.2.2.2.2.1
       exact hg ⟨z.2.2.2.1,by simp [this.1,this.2,z.2.2.2.2.2]⟩
      rw [if_neg hg,if_neg hn]
   ·rw [if_neg hc,bS]
    have h1:dir e=none:=if_neg (c:=e.1.1=u/\e.1.2=v) fun z=>hc ⟨z.1,z.2 ▸ hvu⟩
    have h2:aW (es.map fun g=>mid e g)=none:=gF es fun g _=>by
     show aZ e.2 (aZ g.2 _)=none
     rw [if_neg fun z=>hc ⟨z.1,z.2.1⟩,bS,bS]
    rw [h1,h2];rfl
  have R:cZ (es.map AA) (lM u) (n + 2) (S++[v]) v=bR (aW (es.map dir)) (aW (es.map fun g=>aW (es.map fun e=>mid e g))):=by
   rw [cZ,lM,if_neg (Ne.symm h),d4,<- Bm,List.map_map]
   refine eM es fun g _=>?_
   show aZ g.2 (if g.1.2=v/\g.1.1 ∉ S++[v] then cZ (es.map AA) (lM u) (n + 1) (S++[v]++[g.1.1]) g.1.1 else none)=bR (dir g) (aW (es.map fun e=>mid e g))
   by_cases hc:g.1.2=v/\g.1.1 ∉ S++[v]
   ·rw [if_pos hc,<- xY es (n + 1) (S++[v]) u g.1.1 huv hc.2,cZ,xA]
    congr 1
    ·show _=if g.1.1=u/\g.1.2=v then g.2 else none
     rw [lM]
     by_cases h2:u=g.1.1
     ·rw [if_pos h2,nV,if_pos ⟨h2.symm,hc.1⟩]
     ·rw [if_neg h2,bS,if_neg fun z=>h2 z.1.symm]
    ·rw [<- wX]
     refine eM es fun e _=>?_
     show _=aZ e.2 (aZ g.2 _)
     rw [<- yS e.2,jP e.2 g.2,yS]
     congr 2
     by_cases he:e.1.1=u/\e.1.2 ∉ S++[v]++[u]
     ·have he1:e.1.2 ∉ S/\e.1.2≠v/\e.1.2≠u:=by have:=he.2;simp at this;exact this
      rw [if_pos he]
      by_cases h2:g.1.1=u
      ·rw [if_neg fun z=>z.2.2.2.2.2 h2,h2]
       refine uO _ _ _ _ _ ?_ he1.2.2
       simp
      ·rw [if_pos ⟨he.1,(hmu _).mpr ⟨he1.1,he1.2.2⟩,he1.2.1,hc.1,hc.2,h2⟩]
       rw [xY es n (S++[v]++[u]) e.1.2 g.1.1 he.2 (by have:=(hmv _).mp hc.2;simp [this.1,this.2,h2])]
       exact Dh _ _ _ _ _ _ fun x=>by simp [or_comm,or_left_comm,or_assoc]
     ·have hn:¬ (e.1.1=u/\e.1.2 ∉ S++[u]/\e.1.2≠v/\g.1.2=v/\g.1.1 ∉ S++[v]/\g.1.1≠u):=fun z=>by
       have:=(hmu _).mp z.2.1
       exact he ⟨z.1,by simp [this.1,this.2,z.2.2.1]⟩
      rw [if_neg he,if_neg hn]
   ·rw [if_neg hc,bS]
    have h1:dir g=none:=if_neg (c:=g.1.1=u/\g.1.2=v) fun z=>hc ⟨z.2,z.1 ▸ huv⟩
    have h2:aW (es.map fun e=>mid e g)=none:=gF es fun e _=>by
     show aZ e.2 (aZ g.2 _)=none
     rw [if_neg fun z=>hc ⟨z.2.2.2.1,z.2.2.2.2.1⟩,bS,bS]
    rw [h1,h2];rfl
  rw [L,R,IG]
section
variable {κ:Type} [DecidableEq κ]
noncomputable def fP (m:List (κ × (Int × Int))) (k:κ) (p n:Int):List (κ × (Int × Int)):=match asc m k with
 | none=>d5 m k (p,n)
 | some b=>if p < b.1 then d5 m k (p,n) else if p=b.1 then d5 m k (p,b.2 + n) else m
theorem yT (m:List (κ × (Int × Int))) (k x:κ) (p n:Int):asc (fP m k p n) x=if x=k then bR (asc m k) (some (p,n)) else asc m x:=by
 unfold fP
 cases h:asc m k with
 | none=>simp only;rw [jY];rfl
 | some b =>
  obtain ⟨q,c⟩:=b
  simp only [bR]
  by_cases h1:p < q
  ·have h1':¬ q < p:=by omega
   rw [if_pos h1,jY,if_neg h1',if_pos h1]
  ·rw [if_neg h1]
   by_cases h2:p=q
   ·subst h2
    rw [if_pos rfl,jY,if_neg h1,if_neg h1]
   ·have h2':q < p:=by omega
    rw [if_neg h2,if_pos h2']
    by_cases e:x=k
    ·rw [if_pos e,e,h]
    ·rw [if_neg e]
theorem qG (m:List (κ × (Int × Int))) (k:κ) (p n:Int):(fP m k p n).map (·.1)=if (asc m k).isSome then m.map (·.1) else m.map (·.1)++[k]:=by
 unfold fP
 cases h:asc m k with
 | none=>simp only;rw [kN,h]
 | some b =>
  simp only
  split
  ·rw [kN,h]
  ·split
   ·rw [kN,h]
   ·rfl
theorem t6 {m:List (κ × (Int × Int))} {k:κ} {p n:Int} (h:(m.map (·.1)).Nodup):((fP m k p n).map (·.1)).Nodup:=by
 rw [qG]
 cases hk:(asc m k).isSome with
 | true=>exact h
 | false =>
  have:k ∉ m.map (·.1):=fun z=>by rw [dZ.mpr z] at hk;cases hk
  exact List.nodup_append.mpr ⟨h,by simp,fun a ha b hb=>by
   cases List.mem_singleton.mp hb
   intro z;subst z;exact this ha⟩
theorem yC (m:List (κ × (Int × Int))) (k:κ) (p n:Int):(fP m k p n).length<=m.length + 1:=by
 have:=congrArg List.length (qG m k p n)
 rw [List.length_map] at this
 rw [this]
 split <;> simp
theorem DJ {r:List (κ × (Int × Int))} {x:κ × (Int × Int)} {b:Int × Int} (h:x.1 ∉ r.map (·.1)):d5 (x :: r) x.1 b=(x.1,b) :: r:=by
 unfold d5
 rw [if_pos (by simp),List.map_cons,if_pos rfl]
 congr 1
 conv=>rhs;rw [<- List.map_id r]
 refine List.map_congr_left fun y hy=>?_
 have:¬ y.1=x.1:=fun z=>h (z ▸ List.mem_map.mpr ⟨y,hy,rfl⟩)
 rw [if_neg this];rfl
theorem DK {r:List (κ × (Int × Int))} {x:κ × (Int × Int)} {k:κ} {b:Int × Int} (h:x.1≠k):d5 (x :: r) k b=x :: d5 r k b:=by
 unfold d5
 rw [List.any_cons,decide_eq_false h,Bool.false_or]
 split
 ·rw [List.map_cons,if_neg h]
 ·rfl
theorem pI (g:κ->Bs):∀ (m:List (κ × (Int × Int))) (k:κ) (b b':Int × Int),(m.map (·.1)).Nodup->bR (match asc m k with | some a=>some a | none=>none) (some b)=some b'->aW ((d5 m k b').map fun e=>aZ (some e.2) (g e.1))=bR (aW (m.map fun e=>aZ (some e.2) (g e.1))) (aZ (some b) (g k))
 | [],k,b,b',_,h=>by
  have:b=b':=by
   have h':bR none (some b)=some b':=h
   rw [d4] at h';exact Option.some.inj h'
  subst this
  show bR _ none=bR none _
  rw [cD,d4]
 | x :: r,k,b,b',hn,h=>by
  rw [List.map_cons,List.nodup_cons] at hn
  by_cases e:x.1=k
  ·subst e
   rw [eY rfl] at h
   rw [DJ hn.1,List.map_cons,List.map_cons,aW,aW]
   show bR (aZ (some b') (g x.1)) _=_
   rw [<- h,jP,xA,jP (g x.1),jP (g x.1),eZ,wQ (aZ (some b) (g x.1)),<- eZ]
  ·rw [eS e] at h
   rw [DK e,List.map_cons,List.map_cons,aW,aW,pI g r k b b' hn.2 h,eZ]
theorem C2 (g:κ->Bs) (m:List (κ × (Int × Int))) (k:κ) (p n:Int) (hn:(m.map (·.1)).Nodup):aW ((fP m k p n).map fun e=>aZ (some e.2) (g e.1))=bR (aW (m.map fun e=>aZ (some e.2) (g e.1))) (aZ (some (p,n)) (g k)):=by
 unfold fP
 cases h:asc m k with
 | none=>simp only;exact pI g m k (p,n) (p,n) hn (by rw [h];rfl)
 | some b =>
  obtain ⟨q,c⟩:=b
  simp only
  by_cases h1:p < q
  ·have h1':¬ q < p:=by omega
   rw [if_pos h1]
   exact pI g m k (p,n) (p,n) hn (by rw [h];simp only [bR];rw [if_neg h1',if_pos h1])
  ·rw [if_neg h1]
   by_cases h2:p=q
   ·subst h2
    rw [if_pos rfl]
    exact pI g m k (p,n) (p,c + n) hn (by rw [h];simp only [bR];rw [if_neg h1,if_neg h1])
   ·have h2':q < p:=by omega
    rw [if_neg h2]
    have:=pI g m k (p,n) (q,c) hn (by rw [h];simp only [bR];rw [if_pos h2'])
    have e:d5 m k (q,c)=m:=by
     clear this
     induction m with
     | nil=>cases h
     | cons x r ih =>
      rw [List.map_cons,List.nodup_cons] at hn
      by_cases e:x.1=k
      ·subst e
       rw [eY rfl] at h
       rw [DJ hn.1,<- Option.some.inj h]
      ·rw [eS e] at h
       rw [DK e,ih hn.2 h]
    rw [e] at this
    exact this
theorem JP {m:List (κ × (Int × Int))} {k:κ} {p n B:Int} (hB:0<=B) (hn:0<=n) (h:∀ e∈m,0<=e.2.2/\e.2.2<=B):∀ e∈fP m k p n,0<=e.2.2/\e.2.2<=B + n:=by
 have hput:∀ b:Int × Int,0<=b.2->b.2<=B + n->∀ e∈d5 m k b,0<=e.2.2/\e.2.2<=B + n:=fun b h0 h1 e he=>by
  unfold d5 at he
  split at he
  ·obtain ⟨x,hx,rfl⟩:=List.mem_map.mp he
   have:=h x hx
   split
   ·exact ⟨h0,h1⟩
   ·exact ⟨this.1,by omega⟩
  ·rcases List.mem_append.mp he with he | he
   ·have:=h e he;exact ⟨this.1,by omega⟩
   ·cases List.mem_singleton.mp he;exact ⟨h0,h1⟩
 intro e he
 unfold fP at he
 cases hk:asc m k with
 | none =>
  rw [hk] at he
  exact hput (p,n) hn (by show n<=B + n;omega) e he
 | some b =>
  rw [hk] at he
  have hb:=h (k,b) (Bo hk)
  simp only at he
  split at he
  ·exact hput (p,n) hn (by show n<=B + n;have:=hb.1;have:=hb.2;simp only at *;omega) e he
  ·split at he
   ·exact hput (p,b.2 + n) (by show 0<=b.2 + n;have:=hb.1;simp only at *;omega) (by show b.2 + n<=B + n;have:=hb.2;simp only at *;omega) e he
   ·have:=h e he;exact ⟨this.1,by omega⟩
end
noncomputable def bA (tls:List Tl):List ((Str × Str) × Int):=tls.filterMap fun tl=>match tl.pt with
 | .hole h=>some ((tl.cls,h),tl.cost)
 | _=>none
def vJ (l:List ((Str × Str) × Int)):List Ed:=l.map fun e=>(e.1,some (e.2,1))
def p9 (m:List ((Str × Str) × (Int × Int))):List Ed:=m.map fun e=>(e.1,some e.2)
noncomputable def aX (l:List ((Str × Str) × Int)):List ((Str × Str) × (Int × Int)):=l.foldl (fun m e=>fP m e.1 e.2 1) []
theorem xM (l:List ((Str × Str) × Int)) (e:(Str × Str) × Int):aX (l++[e])=fP (aX l) e.1 e.2 1:=by simp [aX,List.foldl_append]
theorem snoc_ind {α:Type} {P:List α->Prop} (h0:P []) (h1:∀ l v,P l->P (l++[v])) (l:List α):P l:=by
 have:∀ r:List α,P r.reverse:=by
  intro r
  induction r with
  | nil=>exact h0
  | cons a r ih=>rw [List.reverse_cons];exact h1 _ _ ih
 have:=this l.reverse
 rwa [List.reverse_reverse] at this
structure Q8 (l:List ((Str × Str) × Int)) (m:List ((Str × Str) × (Int × Int))):Prop where
 nd:(m.map (·.1)).Nodup
 len:m.length<=l.length
 many:∀ e∈m,0<=e.2.2/\e.2.2<=l.length
 key:∀ e∈m,e.1∈l.map (·.1)
 sum:∀ g:Str × Str->Bs,aW (m.map fun e=>aZ (some e.2) (g e.1))=aW (l.map fun e=>aZ (some (e.2,1)) (g e.1))
theorem qH (l:List ((Str × Str) × Int)):Q8 l (aX l):=by
 refine snoc_ind (P:=fun l=>Q8 l (aX l)) ⟨by simp [aX],by simp [aX],(fun e he=>by simp [aX] at he),(fun e he=>by simp [aX] at he),fun g=>rfl⟩ (fun l v ih=>?_) l
 rw [xM]
 refine ⟨t6 ih.nd,?_,fun e he=>?_,fun e he=>?_,fun g=>?_⟩
 ·have:=yC (aX l) v.1 v.2 1
  have:=ih.len
  rw [List.length_append];simp;omega
 ·have:=JP (B:=l.length) (by omega) (by decide) ih.many e he
  rw [List.length_append]
  refine ⟨this.1,?_⟩
  have:=this.2
  simp;omega
 ·have hk:e.1∈(fP (aX l) v.1 v.2 1).map (·.1):=List.mem_map.mpr ⟨e,he,rfl⟩
  rw [qG] at hk
  rw [List.map_append]
  split at hk
  ·obtain ⟨e',he',h⟩:=List.mem_map.mp hk
   exact List.mem_append_left _ (h ▸ ih.key e' he')
  ·rcases List.mem_append.mp hk with hk | hk
   ·obtain ⟨e',he',h⟩:=List.mem_map.mp hk
    exact List.mem_append_left _ (h ▸ ih.key e' he')
   ·exact List.mem_append_right _ (by simpa using hk)
 ·rw [C2 g _ _ _ _ ih.nd,ih.sum g,List.map_append,kT]
  congr 1
  show _=bR _ none
  rw [cD]
theorem BR (l:List ((Str × Str) × Int)) (f:Str->Bs):∀ (n:Nat) (s:List Str) (c:Str),cZ (p9 (aX l)) f n s c=cZ (vJ l) f n s c
 | 0,_,_=>rfl
 | n + 1,s,c=>by
  rw [cZ,cZ]
  congr 1
  have h:=(qH l).sum fun k=>if k.1=c/\k.2 ∉ s then cZ (vJ l) f n (s++[k.2]) k.2 else none
  have hr:aW ((vJ l).map fun e=>aZ e.2 (if e.1.1=c/\e.1.2 ∉ s then cZ (vJ l) f n (s++[e.1.2]) e.1.2 else none))=aW (l.map fun e=>aZ (some (e.2,1)) (if e.1.1=c/\e.1.2 ∉ s then cZ (vJ l) f n (s++[e.1.2]) e.1.2 else none)):=by
   conv=>lhs;arg 1;arg 2;rw [vJ]
   rw [List.map_map];rfl
  have hl:aW ((p9 (aX l)).map fun e=>aZ e.2 (if e.1.1=c/\e.1.2 ∉ s then cZ (p9 (aX l)) f n (s++[e.1.2]) e.1.2 else none))=aW ((aX l).map fun e=>aZ (some e.2) (if e.1.1=c/\e.1.2 ∉ s then cZ (p9 (aX l)) f n (s++[e.1.2]) e.1.2 else none)):=by
   conv=>lhs;arg 1;arg 2;rw [p9]
   rw [List.map_map];rfl
  rw [hr,hl,<- h]
  refine eM _ fun e _=>?_
  rw [BR l f n]
structure Seen (cs seen:List Str):Prop where
 nd:seen.Nodup
 sub:∀ s∈seen,s∈cs
theorem Seen.len {cs seen:List Str} (h:Seen cs seen):seen.length<=cs.length:=mX seen cs h.nd h.sub
theorem Seen.add {cs seen:List Str} {h:Str} (s:Seen cs seen) (hn:h ∉ seen) (hc:h∈cs):Seen cs (seen++[h]):=⟨by
 refine List.nodup_append.mpr ⟨s.nd,by simp,fun a ha b hb=>?_⟩
 cases List.mem_singleton.mp hb
 exact fun z=>hn (z ▸ ha),fun x hx=>by
 rcases List.mem_append.mp hx with hx | hx
 ·exact s.sub x hx
 ·cases List.mem_singleton.mp hx;exact hc⟩
noncomputable def Wc (cs:List Str) (es:List Ed) (f:Str->Bs) (seen:List Str) (c:Str):Bs:=cZ es f (cs.length - seen.length) seen c
theorem Nm {cs:List Str} {es:List Ed} (he:∀ e∈es,e.1.2∈cs) (f:Str->Bs) {seen:List Str} (c:Str) (hs:Seen cs seen) :
  Wc cs es f seen c=bR (f c) (aW (es.map fun e=>aZ e.2 (if e.1.1=c/\e.1.2 ∉ seen then Wc cs es f (seen++[e.1.2]) e.1.2 else none))):=by
 unfold Wc
 have hl:=hs.len
 cases h:cs.length - seen.length with
 | zero =>
  rw [cZ,gF,cD]
  intro e hm
  have:¬ (e.1.1=c/\e.1.2 ∉ seen):=fun z=>by
   have:=(hs.add z.2 (he e hm)).len
   rw [List.length_append] at this
   simp at this;omega
  rw [if_neg this,bS]
 | succ n =>
  rw [cZ]
  congr 1
  refine eM es fun e _=>?_
  rw [List.length_append,show cs.length - (seen.length + [e.1.2].length)=n by simp;omega]
noncomputable def nodes (ks:List (Str × Str)):Nat->List Str->Str->Nat
 | 0,_,_=>1
 | n + 1,seen,c=>1 + (ks.map fun k=>if k.1=c/\k.2 ∉ seen then nodes ks n (seen++[k.2]) k.2 else 0).sum
theorem AM {α:Type} {g:α->Nat} {B:Nat}:∀ (l:List α),(∀ x∈l,g x<=B)->(l.map g).sum<=l.length * B
 | [],_=>by simp
 | a :: l,e=>by
  have h1:=e a List.mem_cons_self
  have h2:=AM l fun x hx=>e x (List.mem_cons_of_mem _ hx)
  rw [List.map_cons,List.sum_cons,List.length_cons,Nat.add_mul];omega
theorem Dn (ks:List (Str × Str)):∀ (n:Nat) (s:List Str) (c:Str),nodes ks n s c<=(ks.length + 1) ^ n
 | 0,_,_=>by simp [nodes]
 | n + 1,s,c=>by
  have h:=AM (g:=fun k=>if k.1=c/\k.2 ∉ s then nodes ks n (s++[k.2]) k.2 else 0) (B:=(ks.length + 1) ^ n) ks fun k _=>by
   split
   ·exact Dn ks n _ _
   ·exact Nat.zero_le _
  have hp:1<=(ks.length + 1) ^ n:=Nat.pow_pos (by omega)
  rw [nodes,Nat.pow_succ,Nat.mul_add,Nat.mul_one,Nat.mul_comm]
  omega
noncomputable def Nc (cs:List Str) (ks:List (Str × Str)) (seen:List Str) (c:Str):Nat:=nodes ks (cs.length - seen.length) seen c
theorem NH {cs:List Str} {ks:List (Str × Str)} (he:∀ e∈ks,e.2∈cs) {seen:List Str} (c:Str) (hs:Seen cs seen) :
  Nc cs ks seen c=1 + (ks.map fun k=>if k.1=c/\k.2 ∉ seen then Nc cs ks (seen++[k.2]) k.2 else 0).sum:=by
 unfold Nc
 have hl:=hs.len
 cases h:cs.length - seen.length with
 | zero =>
  rw [nodes]
  have:(ks.map fun k=>if k.1=c/\k.2 ∉ seen then nodes ks (cs.length - (seen++[k.2]).length) (seen++[k.2]) k.2 else 0).sum=0:=by
   have:=AM (g:=fun k=>if k.1=c/\k.2 ∉ seen then nodes ks (cs.length - (seen++[k.2]).length) (seen++[k.2]) k.2 else 0) (B:=0) ks fun k hm=>by
    have:¬ (k.1=c/\k.2 ∉ seen):=fun z=>by
     have:=(hs.add z.2 (he k hm)).len
     rw [List.length_append] at this
     simp at this;omega
    rw [if_neg this];exact Nat.le_refl _
   omega
  rw [this]
 | succ n =>
  rw [nodes]
  congr 2
  refine List.map_congr_left fun k _=>?_
  rw [List.length_append,show cs.length - (seen.length + [k.2].length)=n by simp;omega]
theorem Qg (cs:List Str) (ks:List (Str × Str)) (seen:List Str) (c:Str):1<=Nc cs ks seen c:=by
 unfold Nc
 cases cs.length - seen.length <;> rw [nodes] <;> omega
structure Fx (cs:List Str) (tls:List Tl):Prop where
 tab:Tab cs tls
 nd:cs.Nodup
 hole:∀ tl∈tls,∀ h,tl.pt=.hole h->h∈cs
theorem Fx.edge {cs:List Str} {tls:List Tl} (h:Fx cs tls):∀ e∈bA tls,e.1.1∈cs/\e.1.2∈cs:=fun e he=>by
 obtain ⟨tl,h1,h2⟩:=List.mem_filterMap.mp he
 have hc:=(h.tab.good tl h1).2.2.1
 have hh:=h.hole tl h1
 cases hp:tl.pt with
 | hole s=>rw [hp] at h2;cases h2;exact ⟨hc,hh s hp⟩
 | any=>rw [hp] at h2;cases h2
 | fr=>rw [hp] at h2;cases h2
 | turn=>rw [hp] at h2;cases h2
 | two=>rw [hp] at h2;cases h2
section
variable {P:Program} {w:World} {K:PySem.W.Frag} {mg:Str->Option Value} {base:Heap} {f d d2 fl:Addr} {fd:FuncData}
noncomputable def bU (b:Int × Int):U:=.tup [.int b.1,.int b.2]
noncomputable def r9 (k:Str × Str):List Key:=[Sum.inr k.1,Sum.inr k.2]
theorem Fg:∀ a b:Str × Str,r9 a=r9 b->a=b:=fun a b h=>by
 obtain ⟨a1,a2⟩:=a
 obtain ⟨b1,b2⟩:=b
 simp only [r9,List.cons.injEq,Sum.inr.injEq,and_true] at h
 rw [h.1,h.2]
noncomputable def dD (m:List (Str × (Int × Int))):List (Key × U):=m.map fun e=>(Sum.inr e.1,bU e.2)
noncomputable def lC (m:List ((Str × Str) × (Int × Int))):List (List Key × U):=m.map fun e=>(r9 e.1,bU e.2)
theorem zH (m:List (Str × (Int × Int))) (c:Str):cP (dD m) (.inr c)=(asc m c).map bU:=iT (fun c:Str=>(Sum.inr c:Key)) nG bU c m
theorem OT (m:List ((Str × Str) × (Int × Int))) (c:Str × Str):cP (lC m) (r9 c)=(asc m c).map bU:=iT r9 Fg bU c m
theorem Bt (m:List (Str × (Int × Int))) (c:Str) (b:Int × Int):fW (dD m) (.inr c) (bU b)=dD (d5 m c b):=tE (fun c:Str=>(Sum.inr c:Key)) nG bU c b m
theorem A0 (m:List ((Str × Str) × (Int × Int))) (c:Str × Str) (b:Int × Int):fW (lC m) (r9 c) (bU b)=lC (d5 m c b):=tE r9 Fg bU c b m
def zV:dB:=fun us M Q=>∃ (d:Addr) (m:List (Str × (Int × Int))) (k:Str) (p n:Int),us=[.ref d,.str k,.int p,.int n]/\M d=some (.dK (dD m))/\m.length<=1000/\Q .non (mup M d (.dK (dD (fP m k p n))))
noncomputable def Jm:dB:=fun us M Q=>∃ (d:Addr) (m:List ((Str × Str) × (Int × Int))) (k:Str × Str) (p n:Int),us=[.ref d,.tup [.str k.1,.str k.2],.int p,.int n]/\M d=some (.dT (lC m))/\m.length<=1000/\Q .non (mup M d (.dT (lC (fP m k p n))))
theorem NN (F:dM K "put_in" "put_in" uK f fd) (hm:mg "put_in"=some (.ref f)):Callee P w K mg base 1 "put_in" zV []:=by
 refine bP F hm qF (O8 fun _ _ _ _ _ _ _ _ _ _=>rfl) (aD (aU 4 qF.nd (o7 false j4 (uv 0) (uv 1)))
 (aI (dX (pK.pt (wJ (dC Mw (uv 4) Cu) (vX (dC zC (uv 2) (aQ (uv 4) aP)))))
 (aI (jV false j4 (bD (aA (uv 2) (aA (uv 3) aB))) (uv 0) (uv 1)))
 (aI (dX (dC gB (uv 2) (aQ (uv 4) aP))
 (aI (jV false j4 (bD (aA (uv 2) (aA (cG (own:=false) (aQ (uv 4) aP) (uv 3)) aB))) (uv 0) (uv 1)))
 cQ))))) ?_
 rintro us M Q ⟨d,m,k,p,n,rfl,hd,hl,q⟩
 refine ⟨rfl,?_⟩
 have hlb:(dD m).length < sizeLine:=big (by unfold dD;rw [List.length_map];omega)
 refine aH fun V hV=>?_
 have lk:cS false M (.ref d) (.str k)=_:=lN k (kvs:=dD m) (show eX M (.ref d)=some (.dK (dD m)) from hd)
 have isd:uF M (.ref d)=true:=Cp (show eX M (.ref d)=some (.dK (dD m)) from hd)
 simp! only [bC,hName,rW,lk,isd,zH,aF]
 subst hV
 unfold fP at q
 cases h:asc m k with
 | none =>
  rw [h] at q
  simp only at q
  simp! only [Option.map_none,Option.getD_none,kZ,hd,lG,gC,tO,vR,aF]
  refine ⟨hlb,?_⟩
  have e:fW (dD m) (.inr k) (bU (p,n))=_:=Bt m k (p,n)
  exact aY (e ▸ q)
 | some b =>
  obtain ⟨b1,b2⟩:=b
  rw [h] at q
  simp only at q
  simp! only [Option.map_some,bU,tO,vR,aF]
  by_cases h1:p < b1
  ·rw [if_pos h1] at q
   simp! only [h1,kZ,hd,lG,gC,aF]
   refine ⟨hlb,?_⟩
   have e:fW (dD m) (.inr k) (bU (p,n))=_:=Bt m k (p,n)
   exact aY (e ▸ q)
  ·rw [if_neg h1] at q
   simp! only [h1,aF]
   by_cases h2:p=b1
   ·rw [if_pos h2] at q
    simp! only [h2,kZ,hd,lG,gC,aF]
    refine ⟨hlb,?_⟩
    have e:fW (dD m) (.inr k) (bU (p,b2 + n))=_:=Bt m k (p,b2 + n)
    subst h2
    exact aY (e ▸ q)
   ·rw [if_neg h2] at q
    simp! only [h2,eW,aF]
    rw [lX hd] at q
    exact aY q
theorem Nh (F:dM K "put_in" "put_in" uK f fd) (hm:mg "put_in"=some (.ref f)):Callee P w K mg base 1 "put_in" Jm []:=by
 refine bP F hm qF (O8 fun _ _ _ _ _ _ _ _ _ _=>rfl) (aD (aU 4 qF.nd (o7 true (fun _=>True.intro) (uv 0) (uv 1)))
 (aI (dX (pK.pt (wJ (dC Mw (uv 4) Cu) (vX (dC zC (uv 2) (aQ (uv 4) aP)))))
 (aI (jV true (fun _=>True.intro) (bD (aA (uv 2) (aA (uv 3) aB))) (uv 0) (uv 1)))
 (aI (dX (dC gB (uv 2) (aQ (uv 4) aP))
 (aI (jV true (fun _=>True.intro) (bD (aA (uv 2) (aA (cG (own:=false) (aQ (uv 4) aP) (uv 3)) aB))) (uv 0) (uv 1)))
 cQ))))) ?_
 rintro us M Q ⟨d,m,k,p,n,rfl,hd,hl,q⟩
 refine ⟨rfl,?_⟩
 have hlb:(lC m).length < sizeLine:=big (by unfold lC;rw [List.length_map];omega)
 refine aH fun V hV=>?_
 have lk:cS true M (.ref d) (.tup [.str k.1,.str k.2])=_:=(by show (match eX M (.ref d),U.tup [.str k.1,.str k.2] with | some (.dT kvs),.tup ys=>(gC ys).map (cP kvs) | _,_=>none)=some (cP (lC m) (r9 k));rw [show eX M (.ref d)=some (.dT (lC m)) from hd];rfl:cS true M (.ref d) (.tup [.str k.1,.str k.2])=some (cP (lC m) (r9 k)))
 have isd:uF M (.ref d)=true:=(by show (match eX M (.ref d) with | some (.dK _)=>true | some (.dT _)=>true | _=>false)=true;rw [show eX M (.ref d)=some (.dT (lC m)) from hd])
 simp! only [bC,hName,rW,lk,isd,OT,aF]
 subst hV
 unfold fP at q
 cases h:asc m k with
 | none =>
  rw [h] at q
  simp only at q
  simp! only [Option.map_none,Option.getD_none,kZ,hd,lG,gC,tO,vR,aF]
  refine ⟨hlb,?_⟩
  have e:fW (lC m) (r9 k) (bU (p,n))=_:=A0 m k (p,n)
  exact aY (e ▸ q)
 | some b =>
  obtain ⟨b1,b2⟩:=b
  rw [h] at q
  simp only at q
  simp! only [Option.map_some,bU,tO,vR,aF]
  by_cases h1:p < b1
  ·rw [if_pos h1] at q
   simp! only [h1,kZ,hd,lG,gC,aF]
   refine ⟨hlb,?_⟩
   have e:fW (lC m) (r9 k) (bU (p,n))=_:=A0 m k (p,n)
   exact aY (e ▸ q)
  ·rw [if_neg h1] at q
   simp! only [h1,aF]
   by_cases h2:p=b1
   ·rw [if_pos h2] at q
    simp! only [h2,kZ,hd,lG,gC,aF]
    refine ⟨hlb,?_⟩
    have e:fW (lC m) (r9 k) (bU (p,b2 + n))=_:=A0 m k (p,b2 + n)
    subst h2
    exact aY (e ▸ q)
   ·rw [if_neg h2] at q
    simp! only [h2,eW,aF]
    rw [lX hd] at q
    exact aY q
theorem Gz (l:List Tl) (tl:Tl):bA (l++[tl])=bA l++(match tl.pt with | .hole h=>[((tl.cls,h),tl.cost)] | _=>[]):=by
 unfold bA
 rw [List.filterMap_append]
 congr 1
 cases h:tl.pt <;> simp [h]
theorem BD (l:List Tl):(bA l).length<=l.length:=List.length_filterMap_le _ _
noncomputable def Dk:dB:=fun us M Q=>∃ (cs:List Str) (tls:List Tl),us=[fB cs tls]/\tls.length<=39/\∀ d,M d=none->Q (.ref d) (mup M d (.dT (lC (aX (bA tls)))))
noncomputable def Fq:dB:=fun us M Q=>∃ (cs:List Str) (tls:List Tl),us=[fB cs tls]/\tls.length<=39/\Q (mR (lC (aX (bA tls)))) M
theorem IX (F:dM K "cheapest_steps" "cheapest_steps" lY f fd) (hm:mg "cheapest_steps"=some (.ref f)) (u5:Callee P w K mg base 1 "is_pass" CD []) (lW:Callee P w K mg base 1 "put_in" Jm []):Callee P w K mg base 2 "cheapest_steps" Dk []:=by
 refine bP F hm lI (vH fun _ _ _ _ _ _ _=>rfl) (aD (aU 1 lI.nd (jZ true))
 (aD (eL (dN (aQ (uv 0) aP)) (aN (k:=1000) 2 lI.nd)
 (aI (dX (rR (aR u5 (aA (uv 2) aB)))
 (aI (iD (aR lW (aA (uv 1) (aA (bD (aA (aQ (uv 2) aP) (aA (aQ (aQ (uv 2) aP) aP) aB))) (aA (aQ (uv 2) aP) (aA aP aB)))))))
 cQ)))
 (aI (bJ (uv 1))))) ?_
 rintro us M Q ⟨cs,tls,rfl,hl,q⟩
 refine ⟨rfl,?_⟩
 refine aH fun V hV=>?_
 simp! only [bC,hName,qC,xT,aF]
 intro d hd
 subst hV
 refine aH fun V hV=>?_
 refine fL (S:=⟨none,tls.map Tl.toU⟩) (M1:=mup M d (.dT [])) (fun R r=>by simp! only [pE,aF];exact r)
  (fun i τ Mj=>∃ y:Option U,τ=[some (fB cs tls),some (.ref d),y]/\Mj=mup M d (.dT (lC (aX (bA (tls.take i)))))) ⟨none,rfl,rfl⟩ nk ?_ ?_
 ·rintro i u τ Mj e ⟨y,rfl,rfl⟩
  have e':(tls.map Tl.toU)[i]?=some u:=e
  rw [List.getElem?_map] at e'
  cases hj:tls[i]? with
  | none=>rw [hj] at e';cases e'
  | some tl =>
   rw [hj] at e'
   cases e'
   have tk:tls.take (i + 1)=tls.take i++[tl]:=by rw [List.take_add_one,hj];rfl
   have hk:=Gz (tls.take i) tl
   have hlen:(aX (bA (tls.take i))).length<=39:=by
    have h1:=(qH (bA (tls.take i))).len
    have h2:=BD (tls.take i)
    have h3:(tls.take i).length<=tls.length:=by rw [List.length_take];omega
    omega
   simp! only [hName,aF]
   refine fG fun A B hA hB=>?_
   simp! only [aF]
   refine ⟨tl,rfl,?_⟩
   obtain ⟨nm,cl,pt,co⟩:=tl
   cases pt with
   | hole s =>
    have e1:Tl.pass ⟨nm,cl,.hole s,co⟩=true:=rfl
    simp only [e1,l8,if_true]
    subst hA
    simp! only [kY,zG,Pt.toU,aF]
    refine ⟨d,aX (bA (tls.take i)),(cl,s),co,1,rfl,aG,by omega,_,rfl,?_⟩
    rw [tk,hk,bN]
    simp only
    rw [xM]
   | _ =>
    simp only [Tl.pass,l8,Bool.false_eq_true,if_false]
    subst hB
    simp only [eW]
    refine ⟨_,rfl,?_⟩
    rw [tk,hk]
    simp
 ·rintro τ Mj ⟨y,rfl,rfl⟩
  show V _ _
  subst hV
  simp! only [fD,aF]
  rw [show tls.take ((⟨none,tls.map Tl.toU⟩:Src).xs.length)=tls from by show tls.take (tls.map Tl.toU).length=tls;rw [List.length_map,List.take_length]]
  exact aY (q d hd)
theorem Ki (C:Callee P w K mg base 2 "cheapest_steps" Dk []):Callee P w K mg base 2 "cheapest_steps" Fq []:=by
 refine Callee.conv C fun us M Q h=>?_
 obtain ⟨cs,tls,rfl,hl,q⟩:=h
 exact ⟨cs,tls,rfl,hl,fun d hd=>FR ((Sub.refl M).mup hd) aG hd q⟩
theorem mC {b:Bool} {A B:Prop} (h1:b=true->A) (h2:¬ b=true->B):if b=true then A else B:=by
 by_cases h:b=true
 ·rw [if_pos h];exact h1 h
 ·rw [if_neg h];exact h2 h
abbrev Cn:=List Str × Int × Int
noncomputable def lZ (x:Cn):U:=.tup [.tup (x.1.map U.str),.int x.2.1,.int x.2.2]
noncomputable def dG (l:List Str):Str:=l.getLast?.getD ""
theorem oH (l:List Str) (a:Str):dG (l++[a])=a:=by simp [dG]
noncomputable def Br (e:(Str × Str) × (Int × Int)):U:=.tup [.tup [.str e.1.1,.str e.1.2],bU e.2]
theorem Eu (l:List ((Str × Str) × (Int × Int))):iX true ((lC l).map (·.1)) ((lC l).map (·.2))=l.map Br:=by
 unfold iX lC
 rw [List.map_map,List.map_map]
 induction l with
 | nil=>rfl
 | cons a r ih =>
  rw [List.map_cons,List.map_cons,List.zip_cons_cons,List.map_cons,ih]
  rfl
noncomputable def j5 (x:Cn) (l:List ((Str × Str) × (Int × Int))):List Cn:=l.filterMap fun e=>if e.1.1=dG x.1/\e.1.2 ∉ x.1 then some (x.1++[e.1.2],x.2.1 + e.2.1,x.2.2 * e.2.2) else none
theorem HP (x:Cn) (l:List ((Str × Str) × (Int × Int))) (e:(Str × Str) × (Int × Int)):j5 x (l++[e])=j5 x l++(if e.1.1=dG x.1/\e.1.2 ∉ x.1 then [(x.1++[e.1.2],x.2.1 + e.2.1,x.2.2 * e.2.2)] else []):=by
 unfold j5
 rw [List.filterMap_append]
 congr 1
 by_cases h:e.1.1=dG x.1/\e.1.2 ∉ x.1
 ·rw [if_pos h];simp [h]
 ·rw [if_neg h];simp [h]
noncomputable def EN (cs:List Str) (es:List Ed) (f:Str->Bs) (x:Cn):Bs:=aZ (some (x.2.1,x.2.2)) (Wc cs es f x.1 (dG x.1))
def vV (cs:List Str) (ks:List (Str × Str)) (x:Cn):Nat:=Nc cs ks x.1 (dG x.1)
theorem CG (cs:List Str) (es:List Ed) (f:Str->Bs) (x:Cn):∀ l:List ((Str × Str) × (Int × Int)),aW ((j5 x l).map (EN cs es f))=aZ (some (x.2.1,x.2.2)) (aW ((p9 l).map fun e=>aZ e.2 (if e.1.1=dG x.1/\e.1.2 ∉ x.1 then Wc cs es f (x.1++[e.1.2]) e.1.2 else none)))
 | []=>by rw [show j5 x []=[] from rfl,show p9 []=[] from rfl,List.map_nil,List.map_nil,aW,bS]
 | e :: l=>by
  have ih:=CG cs es f x l
  unfold j5 at ih ⊢
  rw [List.filterMap_cons,show p9 (e :: l)=(e.1,some e.2) :: p9 l from rfl,List.map_cons,aW,xA,<- ih]
  by_cases h:e.1.1=dG x.1/\e.1.2 ∉ x.1
  ·rw [if_pos h]
   simp only
   rw [List.map_cons,aW,if_pos h]
   congr 1
   show aZ (some (x.2.1 + e.2.1,x.2.2 * e.2.2)) (Wc cs es f (x.1++[e.1.2]) (dG (x.1++[e.1.2])))=_
   rw [oH,<- yS];rfl
  ·rw [if_neg h]
   simp only
   rw [if_neg h,bS,bS,d4]
theorem yZ (cs:List Str) (ks:List (Str × Str)) (x:Cn):∀ l:List ((Str × Str) × (Int × Int)),((j5 x l).map (vV cs ks)).sum=((l.map (·.1)).map fun k=>if k.1=dG x.1/\k.2 ∉ x.1 then Nc cs ks (x.1++[k.2]) k.2 else 0).sum
 | []=>rfl
 | e :: l=>by
  have ih:=yZ cs ks x l
  unfold j5 at ih ⊢
  rw [List.filterMap_cons,List.map_cons,List.map_cons,List.sum_cons,<- ih]
  by_cases h:e.1.1=dG x.1/\e.1.2 ∉ x.1
  ·rw [if_pos h,if_pos h]
   simp only
   rw [List.map_cons,List.sum_cons]
   congr 1
   show Nc cs ks (x.1++[e.1.2]) (dG (x.1++[e.1.2]))=_
   rw [oH]
  ·rw [if_neg h,if_neg h]
   simp
noncomputable def Mf (l:List U):List Str:=l.map fun u=>match u with | .str s=>s | _=>""
theorem MX (l:List Str):Mf (l.map U.str)=l:=by
 unfold Mf
 rw [List.map_map]
 conv=>rhs;rw [<- List.map_id l]
 exact List.map_congr_left fun x _=>rfl
noncomputable def Ly (cs:List Str) (ks:List (Str × Str)) (wt:Addr) (M:aE):Nat:=match M wt with
 | some (.lst us)=>(us.map fun u=>match u with | .tup [.tup cl,_,_]=>Nc cs ks (Mf cl) (dG (Mf cl)) | _=>0).sum
 | _=>0
theorem EO {cs:List Str} {ks:List (Str × Str)} {wt:Addr} {M:aE} {st:List Cn} (h:M wt=some (.lst (st.map lZ))):Ly cs ks wt M=(st.map (vV cs ks)).sum:=by
 unfold Ly
 rw [h]
 simp only [List.map_map]
 congr 1
 refine List.map_congr_left fun x _=>?_
 simp only [Function.comp,lZ,vV,MX]
structure As (cs:List Str) (l:List ((Str × Str) × Int)) (c:Str) (m:List (Str × (Int × Int))) (st:List Cn):Prop where
 nd:(m.map (·.1)).Nodup
 kc:∀ e∈m,e.1∈cs
 ok:∀ x∈st,Seen cs x.1/\x.1≠[]
 few:(st.map (vV cs ((aX l).map (·.1)))).sum<=100000
 sum:∀ f,bR (aW (m.map fun e=>aZ (some e.2) (f e.1))) (aW (st.map (EN cs (p9 (aX l)) f)))=Wc cs (p9 (aX l)) f [c] c
theorem As.len {cs:List Str} {l:List ((Str × Str) × Int)} {c:Str} {m:List (Str × (Int × Int))} {st:List Cn} (h:As cs l c m st):st.length<=100000:=by
 have:=h.few
 have h2:∀ st:List Cn,st.length<=(st.map (vV cs ((aX l).map (·.1)))).sum:=fun st=>by
  induction st with
  | nil=>simp
  | cons a r ih =>
   have:=Qg cs ((aX l).map (·.1)) a.1 (dG a.1)
   rw [List.map_cons,List.sum_cons,List.length_cons]
   unfold vV at ih ⊢
   omega
 have:=h2 st
 omega
theorem As.keys {cs:List Str} {l:List ((Str × Str) × Int)} {c:Str} {m:List (Str × (Int × Int))} {st:List Cn} (h:As cs l c m st):m.length<=cs.length:=by
 have:=mX _ cs h.nd fun s hs=>by obtain ⟨e,he,rfl⟩:=List.mem_map.mp hs;exact h.kc e he
 rwa [List.length_map] at this
theorem As.step {cs:List Str} {l:List ((Str × Str) × Int)} {c:Str} {m:List (Str × (Int × Int))} {st:List Cn} {x:Cn} (hE:∀ e∈l,e.1.1∈cs/\e.1.2∈cs) (h:As cs l c m (st++[x])) :
  As cs l c (fP m (dG x.1) x.2.1 x.2.2) (st++j5 x (aX l))/\((st++j5 x (aX l)).map (vV cs ((aX l).map (·.1)))).sum < ((st++[x]).map (vV cs ((aX l).map (·.1)))).sum:=by
 obtain ⟨hs,hn⟩:=h.ok x (by simp)
 have hlast:dG x.1∈cs:=by
  refine hs.sub _ ?_
  obtain ⟨cl,e0,hce⟩:∃ cl e0,x.1=cl++[e0]:=⟨x.1.dropLast,x.1.getLast hn,(List.dropLast_concat_getLast hn).symm⟩
  rw [hce,oH];simp
 have hks:∀ k∈(aX l).map (·.1),k.2∈cs:=fun k hk=>by
  obtain ⟨e,he,rfl⟩:=List.mem_map.mp hk
  obtain ⟨e',he',h⟩:=List.mem_map.mp ((qH l).key e he)
  rw [<- h];exact (hE e' he').2
 have hes:∀ e∈p9 (aX l),e.1.2∈cs:=fun e he=>by
  obtain ⟨e',he',rfl⟩:=List.mem_map.mp he
  exact hks _ (List.mem_map.mpr ⟨e',he',rfl⟩)
 have hnode:((st++j5 x (aX l)).map (vV cs ((aX l).map (·.1)))).sum < ((st++[x]).map (vV cs ((aX l).map (·.1)))).sum:=by
  rw [List.map_append,List.sum_append,List.map_append,List.sum_append,yZ]
  have:=NH hks (dG x.1) hs
  rw [List.map_cons,List.map_nil,List.sum_cons,List.sum_nil]
  unfold vV
  omega
 refine ⟨⟨t6 h.nd,fun e he=>?_,fun y hy=>?_,by have:=h.few;omega,fun f=>?_⟩,hnode⟩
 ·have hk:e.1∈(fP m (dG x.1) x.2.1 x.2.2).map (·.1):=List.mem_map.mpr ⟨e,he,rfl⟩
  rw [qG] at hk
  have old:∀ k∈m.map (·.1),k∈cs:=fun k hk=>by obtain ⟨e,he,rfl⟩:=List.mem_map.mp hk;exact h.kc e he
  split at hk
  ·exact old _ hk
  ·rcases List.mem_append.mp hk with hk | hk
   ·exact old _ hk
   ·rw [List.mem_singleton.mp hk];exact hlast
 ·rcases List.mem_append.mp hy with hy | hy
  ·exact h.ok y (by simp [hy])
  ·obtain ⟨e,he,h2⟩:=List.mem_filterMap.mp hy
   split at h2
   ·rename_i hc
    cases h2
    exact ⟨hs.add hc.2 (hks _ (List.mem_map.mpr ⟨e,he,rfl⟩)),by simp⟩
   ·cases h2
 ·rw [<- h.sum f,C2 f m _ _ _ h.nd,List.map_append,kT,List.map_append,kT,CG]
  have e1:aW (([x]:List Cn).map (EN cs (p9 (aX l)) f))=EN cs (p9 (aX l)) f x:=by show bR _ none=_;rw [cD]
  rw [e1]
  conv=>rhs;rw [EN,Nm hes f (dG x.1) hs,xA]
  generalize aW (m.map fun e=>aZ (some e.2) (f e.1))=A
  generalize aZ (some (x.2.1,x.2.2)) (f (dG x.1))=B
  generalize aW (st.map (EN cs (p9 (aX l)) f))=C
  rw [eZ,<- eZ B C,wQ B C,eZ C B]
structure DM (cs:List Str) (l:List ((Str × Str) × Int)) (c:Str) (m:List (Str × (Int × Int))):Prop where
 nd:(m.map (·.1)).Nodup
 kc:∀ e∈m,e.1∈cs
 sum:∀ f,aW (m.map fun e=>aZ (some e.2) (f e.1))=Wc cs (vJ l) f [c] c
noncomputable def HK (cs:List Str) (l:List ((Str × Str) × Int)):Prop:=(cs.length<=4/\l.length<=20)\/(cs.length<=6/\l.length<=9)
theorem NL {cs:List Str} {l:List ((Str × Str) × Int)} (h:HK cs l) {k:Nat} (hk:k<=l.length) {n:Nat} (hn:n + 1<=cs.length):(k + 1) ^ n<=100000:=by
 rcases h with ⟨h1,h2⟩ | ⟨h1,h2⟩
 ·have a:(k + 1) ^ n<=21 ^ n:=Nat.pow_le_pow_left (by omega) n
  have b:21 ^ n<=21 ^ 3:=Nat.pow_le_pow_right (by omega) (by omega)
  have c:(21:Nat) ^ 3<=100000:=by decide
  omega
 ·have a:(k + 1) ^ n<=10 ^ n:=Nat.pow_le_pow_left (by omega) n
  have b:10 ^ n<=10 ^ 5:=Nat.pow_le_pow_right (by omega) (by omega)
  have c:(10:Nat) ^ 5<=100000:=by decide
  omega
noncomputable def BC:dB:=fun us M Q=>∃ (cs:List Str) (tls:List Tl) (c:Str),us=[fB cs tls,.str c]/\Fx cs tls/\HK cs (bA tls)/\c∈cs/\∀ (d wt:Addr) (m:List (Str × (Int × Int))),M d=none->M wt=none->d≠wt->DM cs (bA tls) c m->Q (.ref d) (mup (mup M d (.dK (dD m))) wt (.lst []))
noncomputable def DQ:dB:=fun us M Q=>∃ (cs:List Str) (tls:List Tl) (c:Str),us=[fB cs tls,.str c]/\Fx cs tls/\HK cs (bA tls)/\c∈cs/\∀ m:List (Str × (Int × Int)),DM cs (bA tls) c m->Q (fS (dD m)) M
theorem G3 (F:dM K "cheapest_chains" "cheapest_chains" lE f fd) (hm:mg "cheapest_chains"=some (.ref f)) (yH:Callee P w K mg base 2 "cheapest_steps" Fq []) (lW:Callee P w K mg base 1 "put_in" zV []):Callee P w K mg base 3 "cheapest_chains" BC []:=by
 refine bP F hm cU (qY fun _ _ _ _ _ _ _ _=>rfl) (aD (aU 2 cU.nd (aR yH (aA (uv 0) aB)))
 (aD (aU 3 cU.nd (jZ false))
 (aD (aU 4 cU.nd (i9 (own:=true) (aA (bD (aA (bD (aA (uv 1) aB)) (aA aP (aA aP aB)))) aB)))
 (aD (yN (rR (uv 4))
 (aD (aU 5 cU.nd (HA (uv 4)))
 (aD (aU 6 cU.nd (aQ (uv 5) aP))
 (aD (iD (aR lW (aA (uv 3) (aA (aQ (uv 6) (HZ aP)) (aA (aQ (uv 5) aP) (aA (aQ (uv 5) aP) aB))))))
 (aI (eL (Dq (uv 2)) (eN (n:=2) (aV (aN (k:=1000) 7 cU.nd) (aV (aN (k:=1000) 8 cU.nd) dQ)))
 (aI (dX (pK.pt (Ik (dC gB (aQ (uv 7) aP) (aQ (uv 6) (HZ aP))) (Fn (dC N1 (aQ (uv 7) aP) (uv 6)))))
 (aI (iD (qP (uv 4) (aA (bD (aA (cG (own:=false) (uv 6) (bD (aA (aQ (uv 7) aP) aB))) (aA (cG (own:=false) (aQ (uv 5) aP) (aQ (uv 8) aP)) (aA (eR (own:=false) (aQ (uv 5) aP) (aQ (uv 8) aP)) aB)))) aB))))
 cQ))))))))
 (aI (bJ (uv 3))))))) ?_
 rintro us M Q ⟨cs,tls,c,rfl,hR,hF,hc,q⟩
 refine ⟨rfl,?_⟩
 have htl:=hR.tab.len
 have hso:=qH (bA tls)
 have hpl:=BD tls
 have hsl:(aX (bA tls)).length<=39:=by have:=hso.len;omega
 have hcs:cs.length<=6:=hR.tab.cls.len
 refine aH fun V hV=>?_
 simp! only [bC,hName,aF]
 refine ⟨cs,tls,rfl,htl,?_⟩
 subst hV
 refine aH fun V hV=>?_
 simp! only [bC,hName,qC,xT,aF]
 intro d hd
 subst hV
 refine aH fun V hV=>?_
 simp! only [bC,hName,aF]
 intro wt hwt
 have hdw:d≠wt:=fun z=>by subst z;rw [aG] at hwt;cases hwt
 rw [aM (Ne.symm hdw)] at hwt
 subst hV
 have hs1:Seen cs [c]:=⟨by simp,fun s hs=>by cases List.mem_singleton.mp hs;exact hc⟩
 have p0:As cs (bA tls) c [] [([c],0,1)]:=by
  refine ⟨by simp,(fun e he=>by cases he),fun x hx=>?_,?_,fun f=>?_⟩
  ·cases List.mem_singleton.mp hx
   exact ⟨hs1,by simp⟩
  ·show Nc cs _ [c] _<=100000
   have h1:=Dn ((aX (bA tls)).map (·.1)) (cs.length - [c].length) [c] (dG [c])
   have h2:1<=cs.length:=hs1.len
   have h3:=NL hF (k:=((aX (bA tls)).map (·.1)).length) (by rw [List.length_map];exact hso.len) (n:=cs.length - [c].length) (by simp;omega)
   exact Nat.le_trans h1 h3
  ·show bR none (bR (aZ lJ _) none)=_
   rw [d4,cD,PB];rfl
 refine aH fun V hV=>?_
 refine xX (fun τ Mi=>∃ (m:List (Str × (Int × Int))) (st:List Cn) (z5 z6 z7 z8:Option U),τ=[some (fB cs tls),some (.str c),some (mR (lC (aX (bA tls)))),some (.ref d),some (.ref wt),z5,z6,z7,z8]/\As cs (bA tls) c m st/\Mi=mup (mup M d (.dK (dD m))) wt (.lst (st.map lZ))) (fun τ Mi=>Ly cs ((aX (bA tls)).map (·.1)) wt Mi) ⟨[],[([c],0,1)],none,none,none,none,rfl,p0,rfl⟩ ?_
 rintro τ Mi ⟨m,st,z5,z6,z7,z8,rfl,p,rfl⟩
 have hv:view (mup (mup M d (.dK (dD m))) wt (.lst (st.map lZ))) (.ref wt)=.lst (st.map lZ):=by simp only [view,aG]
 simp! only [hv,aF]
 rcases List.eq_nil_or_concat st with rfl | ⟨st,x,rfl⟩
 ·simp only [List.map_nil,List.isEmpty_nil,Bool.not_true,Bool.false_eq_true,if_false]
  show V _ _
  subst hV
  simp! only [fD,aF]
  refine aY (q d wt m hd hwt hdw ⟨p.nd,p.kc,fun f=>?_⟩)
  have:=p.sum f
  rw [List.map_nil,aW,cD] at this
  rw [this]
  unfold Wc
  exact BR _ _ _ _ _
 ·rw [List.concat_eq_append] at *
  obtain ⟨p2,hdec⟩:=p.step hR.edge
  have hlen2:=p2.len
  have hml:m.length<=6:=by have:=p.keys;omega
  have hne:(List.map lZ (st++[x])).isEmpty=false:=by simp
  obtain ⟨hS,hxn⟩:=p.ok x (by simp)
  have hSl:=hS.len
  obtain ⟨cl,e0,hce⟩:∃ cl e0,x.1=cl++[e0]:=⟨x.1.dropLast,x.1.getLast hxn,(List.dropLast_concat_getLast hxn).symm⟩
  have hlast:dG x.1=e0:=by rw [hce,oH]
  simp only [hne,Bool.not_false,if_true]
  refine aH fun V1 hV1=>?_
  have hm1:(st++[x]).map lZ=st.map lZ++[lZ x]:=by simp
  simp! only [bC,hName,hm1,PQ,P0,aF]
  refine ⟨⟨_,by rw [<- hm1];exact hv⟩,?_⟩
  subst hV1
  refine aH fun V1 hV1=>?_
  simp! only [bC,hName,lZ,aF]
  subst hV1
  have hat:fQ (x.1.map U.str) (-1)=some (.str e0):=by rw [hce];simp only [List.map_append,List.map_cons,List.map_nil,Qx]
  refine aH fun V1 hV1=>?_
  simp! only [kY,hat,aF]
  have hdM:(mup (mup M d (.dK (dD m))) wt (.lst (st.map lZ))) d=some (.dK (dD m)):=by rw [aM hdw,aG]
  refine ⟨d,m,e0,x.2.1,x.2.2,rfl,hdM,by omega,?_⟩
  rw [<- hlast]
  have hM2:mup (mup (mup M d (.dK (dD m))) wt (.lst (st.map lZ))) d (.dK (dD (fP m (dG x.1) x.2.1 x.2.2)))=mup (mup M d (.dK (dD (fP m (dG x.1) x.2.1 x.2.2)))) wt (.lst (st.map lZ)):=by
   rw [mW (Ne.symm hdw),bN]
  rw [hM2]
  subst hV1
  generalize hM3:mup M d (.dK (dD (fP m (dG x.1) x.2.1 x.2.2)))=M3
  refine fL (S:=⟨none,(aX (bA tls)).map Br⟩) (M1:=mup M3 wt (.lst (st.map lZ))) (fun R r=>by simp! only [zO,mR,Eu,aF];exact r)
   (fun i τ Mj=>∃ (y7 y8:Option U),τ=[some (fB cs tls),some (.str c),some (mR (lC (aX (bA tls)))),some (.ref d),some (.ref wt),some (lZ x),some (.tup (x.1.map U.str)),y7,y8]/\Mj=mup M3 wt (.lst ((st++j5 x ((aX (bA tls)).take i)).map lZ))) ⟨z7,z8,rfl,by simp [j5]⟩ nk ?_ ?_
  ·rintro i u τ Mj e ⟨y7,y8,rfl,rfl⟩
   have e':((aX (bA tls)).map Br)[i]?=some u:=e
   rw [List.getElem?_map] at e'
   cases hj:(aX (bA tls))[i]? with
   | none=>rw [hj] at e';cases e'
   | some pp =>
    rw [hj] at e'
    cases e'
    have tk:(aX (bA tls)).take (i + 1)=(aX (bA tls)).take i++[pp]:=by rw [List.take_add_one,hj];rfl
    have hmem:pp∈aX (bA tls):=List.mem_of_getElem? hj
    have hnext:=HP x ((aX (bA tls)).take i) pp
    rw [<- tk] at hnext
    have hgl:(j5 x ((aX (bA tls)).take i)).length<=39:=by
     unfold j5
     refine Nat.le_trans (List.length_filterMap_le _ _) ?_
     rw [List.length_take];omega
    have hstl:st.length<=100000:=by rw [List.length_append] at hlen2;omega
    refine ⟨rfl,?_⟩
    simp! only [Br,jB,gU,j6,hName,aF]
    refine fG fun A B hA hB=>?_
    have hno:(¬ (pp.1.1=dG x.1/\pp.1.2 ∉ x.1))->B (mup M3 wt (.lst ((st++j5 x ((aX (bA tls)).take i)).map lZ))):=fun h=>by
     rw [if_neg h,List.append_nil] at hnext
     subst hB
     simp only [eW]
     exact ⟨_,_,rfl,by rw [hnext]⟩
    have hyes:(pp.1.1=dG x.1/\pp.1.2 ∉ x.1)->A (mup M3 wt (.lst ((st++j5 x ((aX (bA tls)).take i)).map lZ))):=fun h=>by
     rw [if_pos h] at hnext
     subst hA
     have hlen1:(x.1.map U.str).length + 1<=sizeLine:=small (by rw [List.length_map];omega)
     have hmul:l9 x.2.2 pp.2.2:=.inl (.inr (by have:=hso.many pp hmem;constructor <;> omega))
     simp! only [kY,bU,lZ,hmul,hlen1,aF]
     refine ⟨w9,?_,_,_,rfl,by rw [hnext];simp [lZ]⟩
     rw [List.length_map,List.length_append,PySem.sizeLine_eq]
     omega
    simp! only [hat,aF]
    rw [<- hlast]
    refine mC (fun h1=>⟨rfl,Hq _,?_⟩) (fun h1=>hno fun z=>h1 (decide_eq_true z.1))
    rw [OI]
    refine mC (fun h2=>hyes ⟨of_decide_eq_true h1,?_⟩) (fun h2=>hno fun z=>?_)
    ·simpa using h2
    ·simp at h2;exact z.2 h2
  ·rintro τ Mj ⟨y7,y8,rfl,rfl⟩
   have hl3:(Src.mk none ((aX (bA tls)).map Br)).xs.length=(aX (bA tls)).length:=by show ((aX (bA tls)).map Br).length=_;simp
   rw [hl3,List.take_length]
   subst hM3
   refine ⟨⟨_,_,_,_,_,_,rfl,p2,rfl⟩,?_⟩
   rw [EO (st:=st++j5 x (aX (bA tls))) aG,EO (st:=st++[x]) aG]
   exact hdec
theorem Jp (C:Callee P w K mg base 3 "cheapest_chains" BC []):Callee P w K mg base 3 "cheapest_chains" DQ []:=by
 refine Callee.conv C fun us M Q h=>?_
 obtain ⟨cs,tls,c,rfl,hR,hF,hc,q⟩:=h
 refine ⟨cs,tls,c,rfl,hR,hF,hc,fun d wt m hd hwt hdw ho=>?_⟩
 exact IM (((Sub.refl M).mup hd).mup hwt) (by rw [aM hdw,aG]) hd (q m ho)
theorem HL {κ:Type} [DecidableEq κ] {kvs:List (κ × U)} {k:κ} (h:k ∉ kvs.map (·.1)):cP kvs k=none:=by
 induction kvs with
 | nil=>rfl
 | cons a r ih =>
  rw [List.map_cons,List.mem_cons,not_or] at h
  rw [kO (fun z=>h.1 z.symm)];exact ih h.2
theorem Io {o:Bool} {k:Nat} {ix:List Nat} {wi:UI} {g:UG} {tc:UT} {te:UE} {τ:SU} {M M1:aE} {Q:UK} {S:Src} (zs:List (Option U)) (hw:∀ R:Src->aE->Prop,R S M1->wi τ M R) (hl:zs.length=S.xs.length) (hz:S.xs.length<=sizeLine) (hs:S.ok M1)
  (h:∀ (i:Nat) x z,S.xs[i]?=some x->zs[i]?=some z->∀ M,Sub M1 M->∀ R:Option U->aE->Prop,R z M->g x (cY k ix τ) M fun τ2 M2=>tc τ2 M2 fun ok M3=>if ok=true then te τ2 M3 fun y M4=>R (some y) M4 else R none M3)
  (q:iL o (zs.filterMap id) M1 Q):qQ o k ix wi g tc te τ M Q:=by
 refine hw _ ⟨hz,fun D hD=>⟨fun i ys M=>ys=(zs.take i).filterMap id/\M=mup M1 D (.lst ys)/\i<=S.xs.length,⟨by simp,rfl,Nat.zero_le _⟩,?_,?_,?_⟩⟩
 ·rintro i ys M ⟨rfl,rfl,hi⟩
  refine ⟨fun a e=>?_,aG,?_⟩
  ·have:=hs a e
   rw [aM (fun z=>by subst z;rw [hD] at this;cases this)]
   exact this
  ·refine Nat.le_trans (List.length_filterMap_le _ _) ?_
   rw [List.length_take];omega
 ·rintro i x ys M e ⟨rfl,rfl,hi⟩
  have hlt:i < S.xs.length:=(List.getElem?_eq_some_iff.mp e).1
  have hy:zs[i]?=some zs[i]:=by simp [show i < zs.length by omega]
  have tk:zs.take (i + 1)=zs.take i++[zs[i]]:=by rw [List.take_add_one,hy];rfl
  generalize hzi:zs[i]=z at hy tk
  refine h i x z e hy (mup M1 D (.lst ((zs.take i).filterMap id))) ((Sub.refl M1).mup hD) (fun r M4=>match r with
   | some y=>M4 D=some (.lst ((zs.take i).filterMap id))/\((zs.take i).filterMap id++[y]=(zs.take (i + 1)).filterMap id/\mup M4 D (.lst ((zs.take i).filterMap id++[y]))=mup M1 D (.lst ((zs.take i).filterMap id++[y]))/\i + 1<=S.xs.length)
   | none=>(zs.take i).filterMap id=(zs.take (i + 1)).filterMap id/\M4=mup M1 D (.lst ((zs.take i).filterMap id))/\i + 1<=S.xs.length) ?_
  cases z with
  | some y=>exact ⟨aG,by rw [tk,List.filterMap_append];rfl,bN,hlt⟩
  | none=>exact ⟨by rw [tk,List.filterMap_append];simp,rfl,hlt⟩
 ·rintro ys M ⟨rfl,rfl,hi⟩
  rw [show zs.take S.xs.length=zs by rw [<- hl];exact List.take_length]
  cases o with
  | true=>exact q D hD
  | false=>exact ⟨M1,(Sub.refl M1).mup hD,hD,q⟩
noncomputable def qW (tls:List Tl) (l:Ld):Bool:=match tls[l.n]? with
 | some tl=>tl.pass
 | none=>false
noncomputable def dH (tls:List Tl) (t:Tr) (p:List Nat):List Ld:=match t.at p with
 | some t'=>(bY t' p 0 tls).filter fun l=>!qW tls l
 | none=>[]
noncomputable def Ck (tls:List Tl) (t:Tr) (p:List Nat):U:=.lst ((dH tls t p).map Ld.toU)
noncomputable def fO (tls:List Tl) (t:Tr) (ps:List (List Nat)):List (List Key × U):=ps.map fun p=>(pk p,Ck tls t p)
theorem Dd (t:Tr) (p:List Nat):∀ (l:List Tl) (k:Nat),∀ x∈bY t p k l,k<=x.n/\∃ tl,l[x.n - k]?=some tl/\x.cls=tl.cls/\x.price=tl.cost/\cN tl.pt t=true/\x.spots=(eF tl.pt).map fun e=>(p++e.1,e.2)
 | [],k,x,h=>by cases h
 | a :: l,k,x,h=>by
  simp only [bY] at h
  rcases List.mem_append.mp h with h | h
  ·split at h
   ·rename_i hl
    cases List.mem_singleton.mp h
    exact ⟨Nat.le_refl _,a,by simp,rfl,rfl,hl,rfl⟩
   ·cases h
  ·obtain ⟨h1,tl,h2,h3⟩:=Dd t p l (k + 1) x h
   refine ⟨by omega,tl,?_,h3⟩
   rw [show x.n - k=(x.n - (k + 1)) + 1 by omega]
   simpa using h2
theorem Eh {tls:List Tl} {t:Tr} {ps:List (List Nat)} {p:List Nat} (h:p ∉ ps):cP (fO tls t ps) (pk p)=none:=by
 refine HL fun z=>h ?_
 obtain ⟨x,hx,e⟩:=List.mem_map.mp z
 obtain ⟨q,hq,rfl⟩:=List.mem_map.mp hx
 exact vN e ▸ hq
theorem xU {tls:List Tl} {t:Tr}:∀ {ps:List (List Nat)} {p:List Nat},p∈ps->cP (fO tls t ps) (pk p)=some (Ck tls t p)
 | q :: ps,p,h=>by
  by_cases e:q=p
  ·subst e;exact jM rfl
  ·have:cP (fO tls t (q :: ps)) (pk p)=cP (fO tls t ps) (pk p):=kO (fun z=>e (vN z))
   rw [this]
   exact xU ((List.mem_cons.mp h).resolve_left fun z=>e z.symm)
 | [],_,h=>by cases h
noncomputable def Fj:dB:=fun us M Q=>∃ (cs:List Str) (tls:List Tl) (t:Tr),us=[fB cs tls,t.toU]/\Tab cs tls/\t.dep<=31/\t.size<=100/\∀ d,M d=none->Q (.ref d) (mup M d (.dT (fO tls t t.places)))
noncomputable def FQ:dB:=fun us M Q=>∃ (cs:List Str) (tls:List Tl) (t:Tr),us=[fB cs tls,t.toU]/\Tab cs tls/\t.dep<=31/\t.size<=100/\Q (mR (fO tls t t.places)) M
theorem BZ (t:Tr):t.places.Nodup:=(jK t).imp fun {x y} h z=>h (by rw [z];exact List.prefix_refl _)
theorem LS (F:dM K "laid_tiles" "laid_tiles" pU f fd) (hm:mg "laid_tiles"=some (.ref f)) (pN:Callee P w K mg base 33 "places" (iK 31) []) (tN:Callee P w K mg base 10 "tiles_at" vQ []) (u5:Callee P w K mg base 1 "is_pass" CD []):Callee P w K mg base 34 "laid_tiles" Fj []:=by
 refine bP F hm n8 (qY fun _ _ _ _ _ _ _ _=>rfl) (aD (aU 2 n8.nd (jZ true))
 (aD (eL (dN (aR pN (aA (uv 1) aB))) (aN (k:=1000) 3 n8.nd)
 (aI (jV true (fun _=>True.intro) (k5 false ["tile","table"] 1 [0] (dN (aR tN (aA (uv 0) (aA (uv 1) (aA (uv 3) aB))))) (aN (k:=1) 0 (by dsimp only [bM];decide +kernel)) (E8 (P8 (rR (aR u5 (aA (aQ (aQ (uv 1) aP) (aQ (uv 0) aP)) aB))))) (uv 0)) (uv 2) (uv 3))))
 (aI (bJ (uv 2))))) ?_
 rintro us M Q ⟨cs,tls,t,rfl,hT,hdp,hs,q⟩
 refine ⟨rfl,?_⟩
 have hpl:=gE t
 have hnd:=BZ t
 refine aH fun V hV=>?_
 simp! only [bC,hName,aF]
 intro d hd
 subst hV
 refine aH fun V hV=>?_
 refine fL (S:=⟨none,t.places.map aO⟩) (M1:=mup M d (.dT (fO tls t []))) (fun R r=>by
   simp! only [aF]
   exact ⟨t,rfl,hdp,by omega,r⟩)
  (fun i τ Mi=>∃ z:Option U,τ=[some (fB cs tls),some t.toU,some (.ref d),z]/\Mi=mup M d (.dT (fO tls t (t.places.take i)))) ⟨none,rfl,rfl⟩ nk ?_ ?_
 ·rintro i x τ Mi e ⟨z,rfl,rfl⟩
  have e':(t.places.map aO)[i]?=some x:=e
  rw [List.getElem?_map] at e'
  cases hj:t.places[i]? with
  | none=>rw [hj] at e';cases e'
  | some p =>
   rw [hj] at e'
   cases e'
   have hi:=(List.getElem?_eq_some_iff.mp hj).1
   have hmem:=List.mem_of_getElem? hj
   obtain ⟨t',ht⟩:=nE t p hmem
   have hps:=i6 t p hmem
   have hnew:p ∉ t.places.take i:=fun z=>by
    obtain ⟨k,hk,e⟩:=List.getElem_of_mem z
    rw [List.getElem_take] at e
    rw [List.length_take] at hk
    have:=(List.getElem_inj hnd).mp (e.trans (List.getElem?_eq_some_iff.mp hj).2.symm)
    omega
   have hll:=qA t' p tls 0
   have htl:=hT.len
   simp! only [hName,kZ,aF]
   refine Io (S:=⟨none,(bY t' p 0 tls).map Ld.toU⟩) (M1:=mup M d (.dT (fO tls t (t.places.take i)))) ((bY t' p 0 tls).map fun l=>if qW tls l then none else some l.toU) (fun R r=>by
     simp! only [aF]
     exact ⟨cs,tls,t,t',p,rfl,u4 t p t' ht,fun tl h=>by have:=(hT.good tl h).2.1;simp only [Tl.k] at this;omega,by omega,by omega,r⟩) (by simp) (small (by show ((bY t' p 0 tls).map Ld.toU).length<=_;rw [List.length_map];omega)) (fun a e=>by cases e) ?_ ?_
   ·intro k x z' hx hz M' hS R r'
    have hx':((bY t' p 0 tls).map Ld.toU)[k]?=some x:=hx
    rw [List.getElem?_map] at hx' hz
    cases hk:(bY t' p 0 tls)[k]? with
    | none=>rw [hk] at hx';cases hx'
    | some l =>
     rw [hk] at hx' hz
     cases hx';cases hz
     obtain ⟨_,tl,h2,_⟩:=Dd t' p tls 0 l (List.mem_of_getElem? hk)
     rw [Nat.sub_zero] at h2
     have hat:fQ (tls.map Tl.toU) (l.n:Int)=some tl.toU:=by
      have:(tls.map Tl.toU)[l.n]?=some tl.toU:=by rw [List.getElem?_map,h2];rfl
      exact gO this
     have hp:qW tls l=tl.pass:=by unfold qW;rw [h2]
     have r':R (if qW tls l=true then none else some l.toU) M':=r'
     rw [hp] at r'
     simp! only [hName,Ld.toU,pE,hat,aF]
     refine ⟨tl,rfl,?_⟩
     cases htp:tl.pass with
     | true=>rw [htp] at r';simp only [l8,Bool.not_true,Bool.false_eq_true,if_false];exact r'
     | false=>rw [htp] at r';simp! only [aF];exact r'
   ·have ef:((bY t' p 0 tls).map fun l=>if qW tls l then none else some l.toU).filterMap id=((bY t' p 0 tls).filter fun l=>!qW tls l).map Ld.toU:=by
     generalize bY t' p 0 tls=L
     induction L with
     | nil=>rfl
     | cons a r ih =>
      rw [List.map_cons,List.filterMap_cons,List.filter_cons]
      cases qW tls a with
      | true=>exact ih
      | false=>simpa using ih
    have elu:U.lst (((bY t' p 0 tls).filter fun l=>!qW tls l).map Ld.toU)=Ck tls t p:=by unfold Ck dH;rw [ht]
    simp! only [ef,elu,aO,oV,aF]
    refine ⟨big (by simp only [fO,List.length_map,List.length_take];omega),_,rfl,?_⟩
    rw [p8 (Eh hnew),List.take_add_one,hj]
    simp [fO]
 ·rintro τ Mi ⟨z,rfl,rfl⟩
  have hlen:(Src.mk none (t.places.map aO)).xs.length=t.places.length:=by show (t.places.map aO).length=_;simp
  rw [hlen,List.take_length]
  subst hV
  simp! only [fD,aF]
  exact aY (q d hd)
theorem Cf (C:Callee P w K mg base 34 "laid_tiles" Fj []):Callee P w K mg base 34 "laid_tiles" FQ []:=by
 refine Callee.conv C fun us M Q h=>?_
 obtain ⟨cs,tls,t,rfl,hT,hdp,hs,q⟩:=h
 exact ⟨cs,tls,t,rfl,hT,hdp,hs,fun d hd=>FR ((Sub.refl M).mup hd) aG hd q⟩
abbrev Fs:=List (List Nat × List (Str × (Int × Int)))
noncomputable def jO (fs:Fs):List (List Key × U):=fs.map fun e=>(pk e.1,fS (dD e.2))
theorem C6 (fs:Fs) (p:List Nat):cP (jO fs) (pk p)=(asc fs p).map fun m=>fS (dD m):=iT pk (fun _ _=>vN) (fun m=>fS (dD m)) p fs
noncomputable def bH (fs:Fs) (s:List Nat × Str):Bs:=(asc fs s.1).bind fun m=>asc m s.2
noncomputable def gS:List Bs->Bs
 | []=>lJ
 | a :: r=>aZ a (gS r)
noncomputable def HQ:Bs->U
 | none=>.non
 | some b=>bU b
noncomputable def fV (fs:Fs) (ls:List Ld) (e:Str):Bs:=aW (ls.map fun l=>if l.cls=e then aZ (some (l.price,1)) (gS (l.spots.map (bH fs))) else none)
noncomputable def Px (m:List (Str × (Int × Int))) (l:Ld):Bs->List (Str × (Int × Int))
 | none=>m
 | some b=>fP m l.cls (l.price + b.1) b.2
noncomputable def dU (fs:Fs) (ls:List Ld):List (Str × (Int × Int)):=ls.foldl (fun m l=>Px m l (gS (l.spots.map (bH fs)))) []
theorem rB (fs:Fs) (ls:List Ld) (l:Ld):dU fs (ls++[l])=Px (dU fs ls) l (gS (l.spots.map (bH fs))):=by simp [dU,List.foldl_append]
structure QG (fs:Fs) (ls:List Ld) (m:List (Str × (Int × Int))):Prop where
 nd:(m.map (·.1)).Nodup
 len:m.length<=ls.length
 at_:∀ e,asc m e=fV fs ls e
theorem BP (fs:Fs) (ls:List Ld):QG fs ls (dU fs ls):=by
 refine snoc_ind (P:=fun ls=>QG fs ls (dU fs ls)) ⟨by simp [dU],by simp [dU],fun e=>rfl⟩ (fun l v ih=>?_) ls
 rw [rB]
 have hs:∀ e,fV fs (l++[v]) e=bR (asc (dU fs l) e) (if v.cls=e then aZ (some (v.price,1)) (gS (v.spots.map (bH fs))) else none):=fun e=>by
  rw [ih.at_]
  unfold fV
  rw [List.map_append,kT]
  show bR _ (bR _ none)=_
  rw [cD]
 cases hp:gS (v.spots.map (bH fs)) with
 | none =>
  refine ⟨ih.nd,by have:=ih.len;rw [List.length_append];show (dU fs l).length<=_;omega,fun e=>?_⟩
  rw [hs,hp,bS]
  show asc (dU fs l) e=bR _ (if v.cls=e then none else none)
  rw [ite_self,cD]
 | some b =>
  refine ⟨t6 ih.nd,?_,fun e=>?_⟩
  ·have:=yC (dU fs l) v.cls (v.price + b.1) b.2
   have:=ih.len
   rw [List.length_append]
   show (fP (dU fs l) v.cls (v.price + b.1) b.2).length<=_
   simp;omega
  ·show asc (fP (dU fs l) v.cls (v.price + b.1) b.2) e=_
   rw [yT,hs,hp]
   by_cases h:e=v.cls
   ·rw [if_pos h,if_pos h.symm,h]
    show _=bR _ (some (v.price + b.1,1 * b.2))
    rw [Int.one_mul]
   ·rw [if_neg h,if_neg (Ne.symm h),cD]
theorem Callee.ofAt {j:Nat} {x:Str} {sp:dB} (A:uE P w K mg base j f sp) (hm:mg x=some (.ref f)):Callee P w K mg base j x sp [] :=
 let ⟨fd,ps,F,kp,hb⟩:=A.ex;⟨f,fd,ps,[],[],F,hm,kp,hb,.nil,fun H M=>.nil⟩
theorem bits_mul {x y:Int} {m n N:Nat} (hx:Builtin.Int.intBits x<=m) (hy:Builtin.Int.intBits y<=n) (h:m + n<=N):Builtin.Int.intBits (x * y)<=N:=Nat.le_trans (PySem.intBits_mul_le hx hy) h
noncomputable def Fz (b:Int × Int):Prop:=0<=b.1/\b.1<=100000000/\Builtin.Int.intBits b.2<=100000
theorem D5 (fs:Fs):∀ spots:List (List Nat × Str),(∀ s∈spots,∀ b,bH fs s=some b->Fz b) ->
  (gS (spots.map (bH fs))=none/\none∈spots.map (bH fs))\/∃ bs:List (Int × Int),spots.map (bH fs)=bs.map some/\gS (spots.map (bH fs))=some ((bs.map (·.1)).sum,(bs.map (·.2)).foldr (· * ·) 1)/\∀ b∈bs,Fz b
 | [],_=>.inr ⟨[],rfl,rfl,fun b h=>by cases h⟩
 | s :: r,h=>by
  have ih:=D5 fs r fun x hx=>h x (List.mem_cons_of_mem _ hx)
  rw [List.map_cons,gS]
  cases hs:bH fs s with
  | none=>exact .inl ⟨rfl,List.mem_cons_self⟩
  | some b =>
   rcases ih with ⟨h1,h2⟩ | ⟨bs,h1,h2,h3⟩
   ·exact .inl ⟨by rw [h1];rfl,List.mem_cons_of_mem _ h2⟩
   ·refine .inr ⟨b :: bs,by rw [h1];rfl,by rw [h2];rfl,fun x hx=>?_⟩
    rcases List.mem_cons.mp hx with rfl | hx
    ·exact h s List.mem_cons_self x hs
    ·exact h3 x hx
noncomputable def Af:Bs->PyData
 | none=>.none
 | some b=>.tuple [.int b.1,.int b.2]
theorem N5 (l:List Bs):fX (l.map HQ)=some (l.map Af)/\PyData.canLayAll0 (l.map Af)=true/\((l.map Af).any fun e=>PyData.eqv e .none)=decide (none∈l):=by
 induction l with
 | nil=>exact ⟨rfl,rfl,rfl⟩
 | cons a r ih =>
  obtain ⟨h1,h2,h3⟩:=ih
  cases a with
  | none=>exact ⟨by simp [fX,toD,HQ,Af,h1],by simp [PyData.canLayAll0,Af,PyData.canLay0,h2],by simp [Af,PyData.eqv]⟩
  | some b=>exact ⟨by simp [fX,toD,HQ,bU,Af,h1],by simp [PyData.canLayAll0,Af,PyData.canLay0,h2],by rw [List.map_cons,List.any_cons,h3];simp [Af,PyData.eqv]⟩
noncomputable def Dl:dB:=fun us M Q=>∃ (ls:List Ld) (fo:Addr) (fs:Fs),us=[.lst (ls.map Ld.toU),.ref fo]/\M fo=some (.dT (jO fs))/\ls.length<=39/\(∀ l∈ls,l.spots.length<=64/\∀ s∈l.spots,(∃ m,asc fs s.1=some m)/\∀ b,bH fs s=some b->Fz b)/\∀ d,M d=none->Q (.ref d) (mup M d (.dK (dD (dU fs ls))))
noncomputable def Fb:dB:=fun us M Q=>∃ (ls:List Ld) (fo:Addr) (fs:Fs),us=[.lst (ls.map Ld.toU),.ref fo]/\M fo=some (.dT (jO fs))/\ls.length<=39/\(∀ l∈ls,l.spots.length<=64/\∀ s∈l.spots,(∃ m,asc fs s.1=some m)/\∀ b,bH fs s=some b->Fz b)/\Q (fS (dD (dU fs ls))) M
theorem I0 (F:dM K "first_tiles" "first_tiles" n6 f fd) (hm:mg "first_tiles"=some (.ref f)) (Bg:Callee P w K mg base 1 "joined_price" JY []) (lW:Callee P w K mg base 1 "put_in" zV []):Callee P w K mg base 2 "first_tiles" Dl []:=by
 refine bP F hm cR (qY fun _ _ _ _ _ _ _ _=>rfl) (aD (aU 2 cR.nd (jZ false))
 (aD (eL (dN (uv 0)) (eN (n:=4) (aV (aN (k:=1000) 3 cR.nd) (aV (aN (k:=1000) 4 cR.nd) (aV (aN (k:=1000) 5 cR.nd) (aV (aN (k:=1000) 6 cR.nd) dQ)))))
 (aD (oW 7 cR.nd false ["place","kind","below"] 2 [1] (dN (uv 6)) (eN (n:=2) (aV (aN (k:=2) 0 (by dsimp only [bM];decide +kernel)) (aV (aN (k:=2) 1 (by dsimp only [bM];decide +kernel)) dQ))) gK (o7 false j4 (dP true (fun _=>True.intro) (uv 2) (uv 0)) (uv 1)))
 (aI (dX (dC Kg Cu (uv 7))
 (aD (aU 8 cR.nd aP)
 (aD (eL (dN (uv 7)) (eN (n:=2) (aV (aN (k:=1000) 9 cR.nd) (aV (aN (k:=1000) 10 cR.nd) dQ)))
 (aI (aU 8 cR.nd (eR (own:=false) (uv 8) (uv 10)))))
 (aI (iD (aR lW (aA (uv 2) (aA (uv 4) (aA (aR Bg (aA (uv 5) (aA (k5 false ["cost","count"] 2 [] (dN (uv 7)) (eN (n:=2) (aV (aN (k:=2) 0 (by dsimp only [bM];decide +kernel)) (aV (aN (k:=2) 1 (by dsimp only [bM];decide +kernel)) dQ))) gK (uv 0)) aB))) (aA (uv 8) aB)))))))))
 cQ))))
 (aI (bJ (uv 2))))) ?_
 rintro us M Q ⟨ls,fo,fs,rfl,hfo,hl,hsp,q⟩
 refine ⟨rfl,?_⟩
 refine aH fun V hV=>?_
 simp! only [bC,hName,qC,xT,aF]
 intro d hd
 have hfd:fo≠d:=fun z=>by rw [<- z,hfo] at hd;cases hd
 subst hV
 refine aH fun V hV=>?_
 refine fL (S:=⟨none,ls.map Ld.toU⟩) (M1:=mup M d (.dK [])) (fun R r=>by simp! only [aF];exact r)
  (fun i τ Mj=>∃ y3 y4 y5 y6 y7 y8 y9 y10:Option U,τ=[some (.lst (ls.map Ld.toU)),some (.ref fo),some (.ref d),y3,y4,y5,y6,y7,y8,y9,y10]/\Mj=mup M d (.dK (dD (dU fs (ls.take i))))) ⟨none,none,none,none,none,none,none,none,rfl,rfl⟩ nk ?_ ?_
 ·rintro i u τ Mj e ⟨y3,y4,y5,y6,y7,y8,y9,y10,rfl,rfl⟩
  have e':(ls.map Ld.toU)[i]?=some u:=e
  rw [List.getElem?_map] at e'
  cases hj:ls[i]? with
  | none=>rw [hj] at e';cases e'
  | some l =>
   rw [hj] at e'
   cases e'
   have tk:ls.take (i + 1)=ls.take i++[l]:=by rw [List.take_add_one,hj];rfl
   obtain ⟨hs64,hs0⟩:=hsp l (List.mem_of_getElem? hj)
   have hlen:(dU fs (ls.take i)).length<=39:=by
    have h1:=(BP fs (ls.take i)).len
    have h3:(ls.take i).length<=ls.length:=by rw [List.length_take];omega
    omega
   generalize hMi:mup M d (.dK (dD (dU fs (ls.take i))))=Mi
   have hMif:Mi fo=some (.dT (jO fs)):=by rw [<- hMi,aM hfd];exact hfo
   refine ⟨rfl,?_⟩
   simp! only [Ld.toU,jB,gU,j6,hName,aF]
   refine aH fun V1 hV1=>?_
   refine dE (S:=⟨none,l.spots.map dS⟩) (M1:=Mi) ((l.spots.map (bH fs)).map HQ) (fun R r=>by simp! only [aF];exact r) (by simp) (small (by show (l.spots.map dS).length<=_;rw [List.length_map];omega)) (fun a e=>by cases e) ?_ ?_
   ·intro k x y hx hy M' hS R r'
    have hx':(l.spots.map dS)[k]?=some x:=hx
    rw [List.getElem?_map] at hx'
    rw [List.getElem?_map,List.getElem?_map] at hy
    cases hk:l.spots[k]? with
    | none=>rw [hk] at hx';cases hx'
    | some s =>
     rw [hk] at hx' hy
     cases hx';cases hy
     obtain ⟨⟨m,hm1⟩,_⟩:=hs0 s (List.mem_of_getElem? hk)
     have hMf':M' fo=some (.dT (jO fs)):=hS fo _ hMif
     have l1:cS true M' (.ref fo) (aO s.1)=some (some (fS (dD m))):=by
      rw [m5 s.1 (show eX M' (.ref fo)=some (.dT (jO fs)) from hMf'),C6,hm1];rfl
     have l2:cS false M' (fS (dD m)) (.str s.2)=some ((asc m s.2).map bU):=by rw [lN s.2 (tV M' _),zH]
     have l3:uF M' (fS (dD m))=true:=Cp (tV M' _)
     have l4:bH fs s=asc m s.2:=by unfold bH;rw [hm1];rfl
     rw [l4] at r'
     refine ⟨rfl,?_⟩
     simp! only [jB,gU,j6,hName,rW,nO,l1,l2,l3,aF]
     cases hb:asc m s.2 with
     | none=>rw [hb] at r';exact r'
     | some b=>rw [hb] at r';exact r'
   ·simp! only [hName,aF]
    subst hV1
    obtain ⟨nY,hd2,hd3⟩:=N5 (l.spots.map (bH fs))
    refine fG fun A B hA hB=>?_
    simp! only [aF]
    refine ⟨_,_,.none,rfl,nY,rfl,hd2,rfl,by decide,?_⟩
    rw [hd3]
    rcases D5 fs l.spots (fun s hs=>(hs0 s hs).2) with ⟨hp,hn⟩ | ⟨bs,hbs,hp,hsm⟩
    ·simp only [decide_eq_true hn,Bool.not_true,Bool.false_eq_true,if_true,if_false]
     subst hB
     simp only [eW]
     refine ⟨_,_,_,_,_,_,_,_,rfl,?_⟩
     rw [tk,rB,hp,<- hMi];rfl
    ·have hn:none ∉ l.spots.map (bH fs):=by rw [hbs];simp
     simp only [decide_eq_false hn,Bool.not_false,if_true]
     subst hA
     have hbl:bs.length=l.spots.length:=by have:=congrArg List.length hbs;simpa using this.symm
     have hmapU:(l.spots.map (bH fs)).map HQ=bs.map bU:=by rw [hbs,List.map_map];rfl
     rw [hmapU]
     refine aH fun V1 hV1=>?_
     simp! only [bC,hName,aF]
     subst hV1
     refine aH fun V1 hV1=>?_
     generalize htot:(bs.map (·.2)).foldr (· * ·) 1=tot at hp
     refine fL (S:=⟨none,bs.map bU⟩) (M1:=Mi) (fun R r=>by simp! only [aF];exact r)
      (fun k τ Mj=>∃ (ways:Int) (y9 y10:Option U),τ=[some (.lst (ls.map Ld.toU)),some (.ref fo),some (.ref d),some (.int (l.n:Int)),some (.str l.cls),some (.int l.price),some (.lst (l.spots.map dS)),some (.lst (bs.map bU)),some (.int ways),y9,y10]/\Mj=Mi/\ways * ((bs.drop k).map (·.2)).foldr (· * ·) 1=tot/\Builtin.Int.intBits ways<=1 + 100000 * k) ⟨1,y9,y10,rfl,rfl,by rw [List.drop_zero,htot,Int.one_mul],by decide⟩ nk ?_ ?_
     ·rintro k u τ Mj e ⟨ways,z9,z10,rfl,rfl,hw,hwb⟩
      have e':(bs.map bU)[k]?=some u:=e
      rw [List.getElem?_map] at e'
      cases hk:bs[k]? with
      | none=>rw [hk] at e';cases e'
      | some b =>
       rw [hk] at e'
       cases e'
       have hkl:=(List.getElem?_eq_some_iff.mp hk).1
       have hsb:=(hsm b (List.mem_of_getElem? hk)).2.2
       have hdr:bs.drop k=b :: bs.drop (k + 1):=by
        rw [List.drop_eq_getElem_cons hkl,(List.getElem?_eq_some_iff.mp hk).2]
       have hmul:l9 ways b.2:=.inr ⟨by omega,by omega⟩
       refine ⟨rfl,?_⟩
       simp! only [bU,jB,gU,j6,hName,bC,hmul,aF]
       refine ⟨ways * b.2,_,_,rfl,?_,?_⟩
       ·rw [hdr,List.map_cons,List.foldr_cons] at hw
        rw [Int.mul_assoc];exact hw
       ·exact bits_mul hwb hsb (by omega)
     ·rintro τ Mj ⟨ways,z9,z10,rfl,rfl,hw,hwb⟩
      rw [show (⟨none,bs.map bU⟩:Src).xs.length=bs.length from by show (bs.map bU).length=_;simp,List.drop_length,List.map_nil,List.foldr_nil,Int.mul_one] at hw
      subst hw
      show V1 _ _
      subst hV1
      simp! only [kY,aF]
      refine dE (S:=⟨none,bs.map bU⟩) (M1:=Mj) ((bs.map (·.1)).map U.int) (fun R r=>by simp! only [aF];exact r) (by simp) (small (by show (bs.map bU).length<=_;rw [List.length_map];omega)) (fun a e=>by cases e) ?_ ?_
      ·intro k x y hx hy M' hS R r'
       have hx':(bs.map bU)[k]?=some x:=hx
       rw [List.getElem?_map] at hx'
       rw [List.getElem?_map,List.getElem?_map] at hy
       cases hk:bs[k]? with
       | none=>rw [hk] at hx';cases hx'
       | some b =>
        rw [hk] at hx' hy
        cases hx';cases hy
        refine ⟨rfl,?_⟩
        simp! only [jB,gU,j6,hName,aF]
        exact r'
      ·simp only [iL]
       refine ⟨l.price,bs.map (·.1),rfl,fun n hn=>?_,by rw [List.length_map];omega,d,dU fs (ls.take i),l.cls,l.price + (bs.map (·.1)).sum,ways,rfl,by rw [<- hMi];exact aG,by omega,_,_,_,_,_,_,_,_,rfl,?_⟩
       ·obtain ⟨b,hb,rfl⟩:=List.mem_map.mp hn
        exact ⟨(hsm b hb).1,(hsm b hb).2.1⟩
       ·rw [tk,rB,hp,<- hMi,bN];rfl
 ·rintro τ Mj ⟨y3,y4,y5,y6,y7,y8,y9,y10,rfl,rfl⟩
  show V _ _
  subst hV
  simp! only [fD,aF]
  rw [show ls.take ((⟨none,ls.map Ld.toU⟩:Src).xs.length)=ls from by show ls.take (ls.map Ld.toU).length=ls;rw [List.length_map,List.take_length]]
  exact aY (q d hd)
theorem K4 (C:Callee P w K mg base 2 "first_tiles" Dl []):Callee P w K mg base 2 "first_tiles" Fb []:=by
 refine Callee.conv C fun us M Q h=>?_
 obtain ⟨ls,fo,fs,rfl,hfo,hl,hsp,q⟩:=h
 exact ⟨ls,fo,fs,rfl,hfo,hl,hsp,fun d hd=>IM ((Sub.refl M).mup hd) aG hd q⟩
theorem Gs {o:Bool} {k:Nat} {ix:List Nat} {wi:UI} {g:UG} {te:UE} {τ:SU} {M M1:aE} {Q:UK} {S:Src} (Pd:Nat->U->Prop) (hw:∀ R:Src->aE->Prop,R S M1->wi τ M R) (hz:S.xs.length<=sizeLine) (hs:S.ok M1)
  (h:∀ (i:Nat) x,S.xs[i]?=some x->∀ M,Sub M1 M->∀ R:UK,(∀ y,Pd i y->R y M)->g x (cY k ix τ) M fun τ2 M2=>te τ2 M2 R)
  (q:∀ zs:List U,zs.length=S.xs.length->(∀ (i:Nat) z,zs[i]?=some z->Pd i z)->iL o zs M1 Q):qQ o k ix wi g (fun _ M Q=>Q true M) te τ M Q:=by
 refine hw _ ⟨hz,fun D hD=>⟨fun i ys M=>ys.length=i/\(∀ (j:Nat) y,ys[j]?=some y->Pd j y)/\M=mup M1 D (.lst ys)/\i<=S.xs.length,⟨rfl,(fun j y h=>by simp at h),rfl,Nat.zero_le _⟩,?_,?_,?_⟩⟩
 ·rintro i ys M ⟨rfl,hy,rfl,hi⟩
  refine ⟨fun a e=>?_,aG,?_⟩
  ·have:=hs a e
   rw [aM (fun z=>by subst z;rw [hD] at this;cases this)]
   exact this
  ·omega
 ·rintro i x ys M e ⟨rfl,hy,rfl,hi⟩
  have hlt:ys.length < S.xs.length:=(List.getElem?_eq_some_iff.mp e).1
  refine h ys.length x e (mup M1 D (.lst ys)) ((Sub.refl M1).mup hD) (fun y M4=>M4 D=some (.lst ys)/\((ys++[y]).length=ys.length + 1/\(∀ (j:Nat) z,(ys++[y])[j]?=some z->Pd j z)/\mup M4 D (.lst (ys++[y]))=mup M1 D (.lst (ys++[y]))/\ys.length + 1<=S.xs.length)) fun y py=>?_
  refine ⟨aG,by simp,fun j z hz=>?_,bN,hlt⟩
  by_cases hj:j < ys.length
  ·rw [List.getElem?_append_left hj] at hz;exact hy j z hz
  ·rw [List.getElem?_append_right (by omega)] at hz
   have hj2:j - ys.length=0:=by
    have:=(List.getElem?_eq_some_iff.mp hz).1
    simp at this;omega
   have hj3:j=ys.length:=by omega
   rw [hj2] at hz
   cases hz
   rw [hj3];exact py
 ·rintro ys M ⟨hl,hy,rfl,hi⟩
  have:=q ys hl hy
  cases o with
  | true=>exact this D hD
  | false=>exact ⟨M1,(Sub.refl M1).mup hD,hD,this⟩
theorem CH {β:Type} {R:Str->β->Prop} {h:β->U}:∀ (cs:List Str) (zs:List U),zs.length=cs.length->(∀ (i:Nat) z,zs[i]?=some z->∃ k m,cs[i]?=some k/\z=.tup [.str k,h m]/\R k m) ->
  ∃ L:List (Str × β),L.map (·.1)=cs/\zs=L.map (fun e=>.tup [.str e.1,h e.2])/\∀ e∈L,R e.1 e.2
 | [],[],_,_=>⟨[],rfl,rfl,fun e he=>by cases he⟩
 | c :: cs,z :: zs,hl,H=>by
  obtain ⟨k,m,h1,h2,h3⟩:=H 0 z rfl
  cases h1
  obtain ⟨L,g1,g2,g3⟩:=CH cs zs (by simpa using hl) fun i z e=>by simpa using H (i + 1) z (by simpa using e)
  refine ⟨(c,m) :: L,by rw [List.map_cons,g1],by rw [List.map_cons,<- g2,h2],fun e he=>?_⟩
  rcases List.mem_cons.mp he with rfl | he
  ·exact h3
  ·exact g3 e he
 | [],_ :: _,hl,_=>by cases hl
 | _ :: _,[],hl,_=>by cases hl
theorem Al:∀ (kvs acc:List (Key × U)),(kvs.map (·.1)).Nodup->(∀ kv∈kvs,cP acc kv.1=none)->pY acc kvs=acc++kvs
 | [],acc,_,_=>by simp [pY]
 | kv :: r,acc,hn,h=>by
  rw [List.map_cons,List.nodup_cons] at hn
  show pY (fW acc kv.1 kv.2) r=_
  rw [p8 (h kv List.mem_cons_self),Al r _ hn.2 fun kv' hk=>?_]
  ·simp
  ·rw [nM,h kv' (List.mem_cons_of_mem _ hk)]
   show cP [(kv.1,kv.2)] kv'.1=none
   exact kO (fun z=>hn.1 (by rw [show kv.1=kv'.1 from z];exact List.mem_map.mpr ⟨kv',hk,rfl⟩))
noncomputable def Rf:Bs->Int
 | none=>0
 | some b=>b.2
def uQ (L:List (Str × List (Str × (Int × Int)))):List (Key × U):=L.map fun e=>(Sum.inr e.1,fS (dD e.2))
theorem Et {t:Tr} {tls:List Tl} {p:List Nat} {t':Tr} (ht:t.at p=some t') {l:Ld} (hl:l∈dH tls t p):l.spots.length<=64\/∃ tl∈tls,tl.pt.dep > 6:=by
 unfold dH at hl
 rw [ht] at hl
 obtain ⟨i,tl,h1,h2,rfl⟩:=nN (List.mem_filter.mp hl).1
 by_cases h:tl.pt.dep<=6
 ·left
  rw [List.length_map]
  exact wH tl.pt h
 ·right;exact ⟨tl,List.mem_of_getElem? h1,by omega⟩
theorem LF {t:Tr} {tls:List Tl} {p:List Nat} {t':Tr} (ht:t.at p=some t') {l:Ld} (hl:l∈dH tls t p):∀ s∈l.spots,∃ s' t2,s.1=p++s'/\s'≠[]/\t'.at s'=some t2/\∃ tl∈tls,∃ e∈eF tl.pt,e.2=s.2:=by
 unfold dH at hl
 rw [ht] at hl
 obtain ⟨hl1,hl2⟩:=List.mem_filter.mp hl
 obtain ⟨_,tl,h1,h2,h3,h4,h5⟩:=Dd t' p tls 0 l hl1
 rw [Nat.sub_zero] at h1
 intro s hs
 rw [h5] at hs
 obtain ⟨e,he,rfl⟩:=List.mem_map.mp hs
 obtain ⟨bs,g1,g2,g3⟩:=nB tl.pt t' [] h4
 obtain ⟨j,hj⟩:=List.getElem?_of_mem he
 have hjl:=(List.getElem?_eq_some_iff.mp hj).1
 have hb:bs[j]?=some (bs[j]'(by rw [g1];exact hjl)):=List.getElem?_eq_getElem _
 obtain ⟨s',t2,e1,e2,e3,e4,_⟩:=g3 j e _ hj hb
 refine ⟨s',t2,by rw [e1];simp,fun z=>?_,e2,tl,List.mem_of_getElem? h1,e,he,rfl⟩
 obtain ⟨c,hc⟩:=e4 z
 have:qW tls l=true:=by unfold qW;rw [h1];show (match tl.pt with | .hole _=>true | _=>false)=true;rw [hc]
 rw [this] at hl2;cases hl2
structure P6 (cs:List Str) (tls:List Tl) (t:Tr) (HV:Tr->Str->Bs):Prop where
 step:∀ (t':Tr) (p:List Nat) (fs:Fs),t.at p=some t'->(∀ s t2,s≠[]->t'.at s=some t2->∀ k∈cs,bH fs (p++s,k)=HV t2 k) ->
  (∀ k∈cs,Wc cs (vJ (bA tls)) (fV fs (dH tls t p)) [k] k=HV t' k)/\∀ e b,fV fs (dH tls t p) e=some b->Builtin.Int.intBits b.2<=1000000
 sml:∀ t2 k b,t2.size<=100->HV t2 k=some b->Fz b
 chn:∀ c∈cs,∀ m,DM cs (bA tls) c m->∀ e∈m,Builtin.Int.intBits e.2.2<=1000000
 hol:∀ tl∈tls,∀ e∈eF tl.pt,e.2∈cs
noncomputable def Mk:dB:=fun us M Q=>∃ (cs:List Str) (tls:List Tl) (t:Tr) (c:Str) (HV:Tr->Str->Bs),us=[fB cs tls,t.toU,.str c]/\Fx cs tls/\HK cs (bA tls)/\c∈cs/\t.dep<=31/\t.size<=100/\P6 cs tls t HV/\Q (.int (Rf (HV t c))) M
structure yQ (cs:List Str) (t:Tr) (HV:Tr->Str->Bs) (ps:List (List Nat)) (fs:Fs):Prop where
 key:fs.map (·.1)=ps
 val:∀ q∈ps,∀ t2,t.at q=some t2->∀ k∈cs,bH fs (q,k)=HV t2 k
theorem yQ.nil (cs:List Str) (t:Tr) (HV:Tr->Str->Bs):yQ cs t HV [] []:=⟨rfl,fun q h=>by cases h⟩
theorem yQ.snoc {cs:List Str} {t:Tr} {HV:Tr->Str->Bs} {ps:List (List Nat)} {fs:Fs} (h:yQ cs t HV ps fs) {p:List Nat} {m:List (Str × (Int × Int))} (hp:p ∉ ps) {t':Tr} (ht:t.at p=some t') (hm:∀ k∈cs,asc m k=HV t' k):yQ cs t HV (ps++[p]) (fs++[(p,m)]):=by
 have hno:asc fs p=none:=by rw [t7,h.key];exact hp
 refine ⟨by rw [List.map_append,h.key];rfl,fun q hq t2 h2 k hk=>?_⟩
 unfold bH
 rw [jR]
 by_cases e:q=p
 ·subst e
  rw [ht] at h2;cases h2
  simp only [hno]
  rw [eY rfl]
  exact hm k hk
 ·have hq':q∈ps:=(List.mem_append.mp hq).resolve_right fun z=>e (List.mem_singleton.mp z)
  obtain ⟨m',hm'⟩:∃ m',asc fs q=some m':=Option.isSome_iff_exists.mp (dZ.mpr (by rw [h.key];exact hq'))
  have:=h.val q hq' t2 h2 k hk
  unfold bH at this
  simp only [hm'] at this ⊢
  exact this
theorem OO (F:dM K "how_many_least" "how_many_least" lR f fd) (hm:mg "how_many_least"=some (.ref f)) (Dp:mg "dict"=none) (mI:mg "list"=none) (gD:mg "reversed"=none) (xD:Callee P w K mg base 3 "cheapest_chains" DQ []) (C4:Callee P w K mg base 34 "laid_tiles" FQ []) (Cd:Callee P w K mg base 2 "first_tiles" Fb []) (lW:Callee P w K mg base 1 "put_in" zV []):Callee P w K mg base 35 "how_many_least" Mk []:=by
 refine bP F hm cO (D9 fun _ _ _ _ _ _ _ _ _=>rfl) (aD (aU 3 cO.nd (vE Nx Dp (aA (k5 false ["kind","table"] 1 [0] (dN (aQ (uv 0) aP)) (aN (k:=1) 0 (by dsimp only [bM];decide +kernel)) gK (bD (aA (uv 0) (aA (aR xD (aA (uv 1) (aA (uv 0) aB))) aB)))) aB)))
 (aD (aU 4 cO.nd (aR C4 (aA (uv 0) (aA (uv 1) aB))))
 (aD (aU 5 cO.nd (jZ true))
 (aD (eL (xS gD (aA (vE (NW (own:=false)) mI (aA (uv 4) aB)) aB)) (aN (k:=1000) 6 cO.nd)
 (aD (aU 7 cO.nd (aR Cd (aA (dP true (fun _=>True.intro) (uv 4) (uv 6)) (aA (uv 5) aB))))
 (aD (jV true (fun _=>True.intro) (jZ false) (uv 5) (uv 6))
 (aI (RO (eL (dN (aQ (uv 0) aP)) (aN (k:=1000) 8 cO.nd)
 (aI (eL (Dq (dP false j4 (uv 3) (uv 8))) (eN (n:=2) (aV (aN (k:=1000) 9 cO.nd) (aV (aN (k:=1000) 10 cO.nd) dQ)))
 (aI (dX (dC (GN false j4) (uv 9) (uv 7))
 (aI (iD (aR lW (aA (dP true (fun _=>True.intro) (uv 5) (uv 6)) (aA (uv 8) (aA (cG (own:=false) (aQ (uv 10) aP) (aQ (dP false j4 (uv 7) (uv 9)) aP)) (aA (eR (own:=false) (aQ (uv 10) aP) (aQ (dP false j4 (uv 7) (uv 9)) aP)) aB)))))))
 cQ))))))))))
 (aI (bJ (Cq (dC (GN false j4) (uv 2) (dP true (fun _=>True.intro) (uv 5) (bD aB))) (aQ (dP false j4 (dP true (fun _=>True.intro) (uv 5) (bD aB)) (uv 2)) aP) aP))))))) ?_
 rintro us M Q ⟨cs,tls,t,c,HV,rfl,hR,hF,hc,hdp,hsz,hV0,q⟩
 refine ⟨rfl,?_⟩
 have htl:=hR.tab.len
 have hcs:cs.length<=6:=hR.tab.cls.len
 have hps:=gE t
 have hnd:=BZ t
 refine aH fun V hV=>?_
 simp! only [bC,hName,aF]
 refine Gs (S:=⟨none,cs.map U.str⟩) (M1:=M) (fun i y=>∃ k m,cs[i]?=some k/\y=.tup [.str k,fS (dD m)]/\DM cs (bA tls) k m) (fun R r=>by simp! only [pE,uX,aF];exact r) (small (by show (cs.map U.str).length<=_;rw [List.length_map];omega)) (fun a e=>by cases e) ?_ ?_
 ·intro i u hu M' hS R r
  have hu':(cs.map U.str)[i]?=some u:=hu
  rw [List.getElem?_map] at hu'
  cases hj:cs[i]? with
  | none=>rw [hj] at hu';cases hu'
  | some k =>
   rw [hj] at hu'
   cases hu'
   simp! only [hName,aF]
   refine ⟨cs,tls,k,rfl,hR,hF,List.mem_of_getElem? hj,fun m ho=>?_⟩
   exact r _ ⟨k,m,hj,rfl,ho⟩
 ·intro zs hz hzs
  have hz':zs.length=cs.length:=by rw [hz];show (cs.map U.str).length=_;simp
  obtain ⟨L,hL1,rfl,hL3⟩:=CH (h:=fun m=>fS (dD m)) cs zs hz' hzs
  have hndL:((uQ L).map (·.1)).Nodup:=by
   have:(uQ L).map (·.1)=cs.map Sum.inr:=by unfold uQ;rw [List.map_map,<- hL1,List.map_map];rfl
   rw [this]
   exact List.Pairwise.map _ (fun a b h z=>h (Sum.inr.inj z)) hR.nd
  simp only [iL,DN,pO]
  refine ⟨uQ L,by unfold uQ;rw [List.map_map];rfl,fun p hp=>?_⟩
  rw [Al (uQ L) [] hndL (fun kv _=>rfl),List.nil_append]
  subst hV
  refine aH fun V hV=>?_
  simp! only [bC,hName,aF]
  refine ⟨cs,tls,t,rfl,hR.tab,hdp,hsz,?_⟩
  subst hV
  refine aH fun V hV=>?_
  simp! only [bC,hName,qC,xT,aF]
  intro d1 nY
  have hd1p:d1≠p:=fun z=>by rw [z,aG] at nY;cases nY
  rw [aM hd1p] at nY
  subst hV
  refine aH fun V hV=>?_
  have hat:∀ M':aE,M' p=some (.dK (uQ L))->∀ k,cS false M' (.ref p) (.str k)=some ((asc L k).map fun m=>fS (dD m)):=fun M' h k=>by
   rw [lN k (show eX M' (.ref p)=some (.dK (uQ L)) from h)]
   exact congrArg some (iT (fun c:Str=>(Sum.inr c:Key)) nG (fun m=>fS (dD m)) k L)
  have hlaid:∀ (M':aE) (q:List Nat),q∈t.places->cS true M' (mR (fO tls t t.places)) (aO q)=some (some (.lst ((dH tls t q).map Ld.toU))):=fun M' q hq=>by
   rw [m5 q (KA M' _),xU hq];rfl
  have hkeys:(qD true ((fO tls t t.places).map (·.1))).reverse=t.places.reverse.map aO:=by
   unfold qD fO
   rw [List.map_map,List.map_map,List.map_reverse]
   congr 1
   refine List.map_congr_left fun q _=>?_
   show keyOf true (pk q)=aO q
   unfold keyOf pk aO
   rw [if_pos rfl,List.map_map];rfl
  let M0:aE:=mup M p (.dK (uQ L))
  have hM0d:M0 d1=none:=by show mup M p _ d1=none;rw [aM hd1p];exact nY
  refine fL (S:=⟨none,t.places.reverse.map aO⟩) (M1:=mup M0 d1 (.dT [])) (fun R r=>by simp! only [C5,mR,hkeys,aF];exact r)
   (fun i τ Mj=>∃ (z6 z7 z8 z9 z10:Option U) (fs:Fs),τ=[some (fB cs tls),some t.toU,some (.str c),some (.ref p),some (mR (fO tls t t.places)),some (.ref d1),z6,z7,z8,z9,z10]/\Mj=mup M0 d1 (.dT (jO fs))/\yQ cs t HV (t.places.reverse.take i) fs) ⟨none,none,none,none,none,[],rfl,rfl,yQ.nil _ _ _⟩ nk ?_ ?_
  ·rintro i u τ Mj e ⟨z6,z7,z8,z9,z10,fs,rfl,rfl,hfs⟩
   have e':(t.places.reverse.map aO)[i]?=some u:=e
   rw [List.getElem?_map] at e'
   cases hj:t.places.reverse[i]? with
   | none=>rw [hj] at e';cases e'
   | some pl =>
    rw [hj] at e'
    cases e'
    have hil:=(List.getElem?_eq_some_iff.mp hj).1
    rw [List.length_reverse] at hil
    have hplm:pl∈t.places:=List.mem_reverse.mp (List.mem_of_getElem? hj)
    obtain ⟨t',ht'⟩:=nE t pl hplm
    have tkr:t.places.reverse.take (i + 1)=t.places.reverse.take i++[pl]:=by rw [List.take_add_one,hj];rfl
    have hndr:t.places.reverse.Nodup:=List.pairwise_reverse.mpr (hnd.imp Ne.symm)
    have hnew:pl ∉ t.places.reverse.take i:=fun z=>by
     obtain ⟨k,hk,e⟩:=List.getElem_of_mem z
     rw [List.getElem_take] at e
     rw [List.length_take] at hk
     have:=(List.getElem_inj hndr).mp (e.trans (List.getElem?_eq_some_iff.mp hj).2.symm)
     omega
    have hdone:∀ s t2,s≠[]->t'.at s=some t2->pl++s∈t.places.reverse.take i:=fun s t2 hne hs=>by
     have hin:pl++s∈t.places:=kR t _ t2 (by rw [kH t pl s t' ht'];exact hs)
     have hpre:t.places.reverse.Pairwise fun y x=>¬ y <+: x:=List.pairwise_reverse.mpr (jK t)
     have hsplit:t.places.reverse=t.places.reverse.take i++pl :: t.places.reverse.drop (i + 1):=by
      conv=>lhs;rw [<- List.take_append_drop (i + 1) t.places.reverse,tkr]
      simp
     have hin2:pl++s∈t.places.reverse:=List.mem_reverse.mpr hin
     rw [hsplit] at hin2 hpre
     rcases List.mem_append.mp hin2 with h | h
     ·exact h
     ·rcases List.mem_cons.mp h with h | h
      ·exact absurd (List.append_right_eq_self.mp h) hne
      ·have h2:=(List.pairwise_append.mp hpre).2.1
       exact absurd (List.prefix_append pl s) ((List.pairwise_cons.mp h2).1 _ h)
    have hkid:∀ s t2,s≠[]->t'.at s=some t2->∀ k∈cs,bH fs (pl++s,k)=HV t2 k:=fun s t2 hne hs k hk =>
     hfs.val _ (hdone s t2 hne hs) t2 (by rw [kH t pl s t' ht'];exact hs) k hk
    obtain ⟨hst1,hst2⟩:=hV0.step t' pl fs ht' hkid
    have hllen:(dH tls t pl).length<=39:=by
     unfold dH
     rw [ht']
     exact Nat.le_trans (List.length_filter_le _ _) (Nat.le_trans (qA t' pl tls 0) htl)
    have hspot:∀ l∈dH tls t pl,l.spots.length<=64/\∀ s∈l.spots,(∃ m,asc fs s.1=some m)/\∀ b,bH fs s=some b->Fz b:=fun l hl=>by
     refine ⟨?_,fun s hs=>?_⟩
     ·rcases Et ht' hl with h | ⟨tl,h1,h2⟩
      ·exact h
      ·have:=(hR.tab.good tl h1).2.1
       simp only [Tl.k] at this
       omega
     ·obtain ⟨s',t2,e1,e2,e3,tl,htm,en,hen,e4⟩:=LF ht' hl s hs
      have hd:=hdone s' t2 e2 e3
      have hk2:s.2∈cs:=e4 ▸ hV0.hol tl htm en hen
      refine ⟨?_,fun b hb=>?_⟩
      ·rw [e1]
       exact Option.isSome_iff_exists.mp (dZ.mpr (by rw [hfs.key];exact hd))
      ·have hv:=hkid s' t2 e2 e3 s.2 hk2
       rw [<- e1] at hv
       rw [show (s.1,s.2)=s from rfl,hb] at hv
       have hsz2:=m9 t _ t2 (by rw [kH t pl s' t' ht'];exact e3)
       exact hV0.sml t2 s.2 b (by omega) hv.symm
    have hMjp:∀ fs',mup M0 d1 (.dT fs') p=some (.dK (uQ L)):=fun fs'=>by show mup (mup M p _) d1 _ p=_;rw [aM (Ne.symm hd1p),aG]
    simp! only [hName,aF]
    refine aH fun V1 hV1=>?_
    simp! only [bC,hName,nO,hlaid _ pl hplm,aF]
    refine ⟨dH tls t pl,d1,fs,rfl,aG,hllen,hspot,?_⟩
    have hFs:=BP fs (dH tls t pl)
    generalize eF:dH tls t pl=ls at *
    subst hV1
    refine aH fun V1 hV1=>?_
    simp! only [kZ,qC,xT,aF]
    intro d2 hd2
    have hd21:d2≠d1:=fun z=>by rw [z,aG] at hd2;cases hd2
    rw [aM hd21] at hd2
    have hd2p:d2≠p:=fun z=>by rw [show M0 d2=_ from congrArg M0 z] at hd2;have:M0 p=some (.dK (uQ L)):=aG;rw [this] at hd2;cases hd2
    rw [aM (Ne.symm hd21),aG]
    simp only [aO,oV]
    have hlfs:(jO fs).length < sizeLine:=big (by
     unfold jO
     have:=congrArg List.length hfs.key
     rw [List.length_map,List.length_take] at this
     rw [List.length_map]
     omega)
    refine ⟨hlfs,?_⟩
    have hnv:cP (jO fs) (pk pl)=none:=by
     rw [C6,show asc fs pl=none from by rw [t7,hfs.key];exact hnew];rfl
    rw [p8 hnv]
    let ST:List (Str × (Int × Int))->aE:=fun m2=>mup (mup M0 d1 (.dT (jO fs++[(pk pl,.ref d2)]))) d2 (.dK (dD m2))
    have hM2:mup (mup (mup M0 d1 (.dT (jO fs))) d2 (.dK [])) d1 (.dT (jO fs++[(pk pl,.ref d2)]))=ST []:=by
     show _=mup (mup M0 d1 (.dT (jO fs++[(pk pl,.ref d2)]))) d2 (.dK (dD []))
     rw [mW hd21,bN];rfl
    rw [hM2]
    subst hV1
    have hSp:∀ m2,ST m2 p=some (.dK (uQ L)):=fun m2=>by show mup (mup M0 d1 _) d2 _ p=_;rw [aM (Ne.symm hd2p)];exact hMjp _
    have hS1:∀ m2,ST m2 d1=some (.dT (jO fs++[(pk pl,.ref d2)])):=fun m2=>by show mup (mup M0 d1 _) d2 _ d1=_;rw [aM (Ne.symm hd21),aG]
    have hS2:∀ m2,ST m2 d2=some (.dK (dD m2)):=fun m2=>aG
    have hfirst:∀ (M':aE) e,cS false M' (fS (dD (dU fs ls))) (.str e)=some ((fV fs ls e).map bU):=fun M' e=>by
     rw [lN e (tV M' _),zH,hFs.at_]
    simp only [RY]
    refine fL (S:=⟨none,cs.map U.str⟩) (M1:=ST []) (fun R r=>by simp! only [pE,uX,aF];exact r)
     (fun i τ Mj=>∃ (z8 z9 z10:Option U) (m2:List (Str × (Int × Int))),τ=[some (fB cs tls),some t.toU,some (.str c),some (.ref p),some (mR (fO tls t t.places)),some (.ref d1),some (aO pl),some (fS (dD (dU fs ls))),z8,z9,z10]/\Mj=ST m2/\m2.length<=6 * i/\(∀ k,k ∉ cs.take i->asc m2 k=none)/\∀ k∈cs.take i,asc m2 k=Wc cs (vJ (bA tls)) (fV fs ls) [k] k) ⟨z8,z9,z10,[],rfl,rfl,by simp,(fun k _=>rfl),fun k h=>by simp at h⟩ nk ?_ ?_
    ·rintro i u τ Mj e ⟨z8,z9,z10,m2,rfl,rfl,hml,hno,hyes⟩
     have e':(cs.map U.str)[i]?=some u:=e
     rw [List.getElem?_map] at e'
     cases hj:cs[i]? with
     | none=>rw [hj] at e';cases e'
     | some kd =>
      rw [hj] at e'
      cases e'
      have hi6:i < 6:=by have:=(List.getElem?_eq_some_iff.mp hj).1;omega
      have tk:cs.take (i + 1)=cs.take i++[kd]:=by rw [List.take_add_one,hj];rfl
      have hkn:kd ∉ cs.take i:=fun z=>by
       obtain ⟨k,hk,e⟩:=List.getElem_of_mem z
       rw [List.getElem_take] at e
       rw [List.length_take] at hk
       have:=(List.getElem_inj hR.nd).mp (e.trans (List.getElem?_eq_some_iff.mp hj).2.symm)
       omega
      obtain ⟨mk,hmk⟩:∃ mk,asc L kd=some mk:=by
       have:kd∈L.map (·.1):=by rw [hL1];exact List.mem_of_getElem? hj
       exact Option.isSome_iff_exists.mp (dZ.mpr this)
      have hok:DM cs (bA tls) kd mk:=hL3 _ (Bo hmk)
      have hmkl:mk.length<=6:=by
       have:=mX _ cs hok.nd fun s hs=>by obtain ⟨e,he,rfl⟩:=List.mem_map.mp hs;exact hok.kc e he
       rw [List.length_map] at this;omega
      have hpairs:iX false ((dD mk).map fun e=>[e.1]) ((dD mk).map (·.2))=mk.map fun e=>.tup [.str e.1,bU e.2]:=by
       unfold iX dD
       rw [List.map_map,List.map_map]
       clear hok hmk hmkl
       induction mk with
       | nil=>rfl
       | cons a r ih =>
        rw [List.map_cons,List.map_cons,List.zip_cons_cons,List.map_cons,ih];rfl
      simp! only [hName,aF]
      refine fL (S:=⟨none,mk.map fun e=>.tup [.str e.1,bU e.2]⟩) (M1:=ST m2) (fun R r=>by simp! only [zO,nO,hat _ (hSp m2),hmk,Option.map_some,fS,hpairs,aF];exact r)
       (fun j τ Mj=>∃ (z9 z10:Option U) (m3:List (Str × (Int × Int))),τ=[some (fB cs tls),some t.toU,some (.str c),some (.ref p),some (mR (fO tls t t.places)),some (.ref d1),some (aO pl),some (fS (dD (dU fs ls))),some (.str kd),z9,z10]/\Mj=ST m3/\m3.length<=m2.length + j/\(∀ k,k≠kd->asc m3 k=asc m2 k)/\asc m3 kd=aW ((mk.take j).map fun e=>aZ (some e.2) (fV fs ls e.1))) ⟨z9,z10,m2,rfl,rfl,by omega,(fun k _=>rfl),by rw [hno kd hkn];rfl⟩ nk ?_ ?_
      ·rintro j u τ Mj e ⟨z9,z10,m3,rfl,rfl,hm3,ho3,hk3⟩
       have e':(mk.map fun e=>U.tup [.str e.1,bU e.2])[j]?=some u:=e
       rw [List.getElem?_map] at e'
       cases hjj:mk[j]? with
       | none=>rw [hjj] at e';cases e'
       | some en =>
        rw [hjj] at e'
        cases e'
        have hjl:=(List.getElem?_eq_some_iff.mp hjj).1
        have tk3:mk.take (j + 1)=mk.take j++[en]:=by rw [List.take_add_one,hjj];rfl
        refine ⟨rfl,?_⟩
        simp! only [jB,gU,j6,hName,bU,aF]
        refine fG fun A B hA hB=>?_
        simp! only [vZ,hfirst,aF]
        have hsum:aW ((mk.take (j + 1)).map fun e=>aZ (some e.2) (fV fs ls e.1))=bR (asc m3 kd) (aZ (some en.2) (fV fs ls en.1)):=by
         rw [tk3,List.map_append,kT,<- hk3]
         show bR _ (bR (aZ (some en.2) (fV fs ls en.1)) none)=_
         rw [cD]
        cases hfe:fV fs ls en.1 with
        | none =>
         simp only [Option.map_none,Option.isSome_none,Bool.false_eq_true,if_false]
         subst hB
         simp only [eW]
         exact ⟨_,_,m3,rfl,rfl,by omega,ho3,by rw [hsum,hfe,bS,cD]⟩
        | some b =>
         obtain ⟨b1,b2⟩:=b
         simp only [Option.map_some,Option.isSome_some,if_true]
         subst hA
         have l1:cS true (ST m3) (.ref d1) (aO pl)=some (some (.ref d2)):=by
          rw [m5 pl (show eX (ST m3) (.ref d1)=some (.dT (jO fs++[(pk pl,.ref d2)])) from hS1 m3),nM,hnv]
          exact congrArg some (jM rfl)
         have hmul:l9 en.2.2 b2:=.inr ⟨Nat.le_trans (hV0.chn kd (List.mem_of_getElem? hj) mk hok en (List.mem_of_getElem? hjj)) (by decide),Nat.le_trans (hst2 en.1 _ hfe) (by decide)⟩
         simp! only [kY,nO,l1,hfirst,hfe,hmul,bU,Option.map_some,aF]
         refine ⟨d2,m3,kd,en.2.1 + b1,en.2.2 * b2,rfl,hS2 m3,by omega,_,_,fP m3 kd (en.2.1 + b1) (en.2.2 * b2),rfl,bN,?_,fun k hk=>?_,?_⟩
         ·have:=yC m3 kd (en.2.1 + b1) (en.2.2 * b2)
          omega
         ·rw [yT,if_neg hk];exact ho3 k hk
         ·rw [yT,if_pos rfl,hsum,hfe];rfl
      ·rintro τ Mj ⟨z9,z10,m3,rfl,rfl,hm3,ho3,hk3⟩
       have hl3:(Src.mk none (mk.map fun e=>U.tup [.str e.1,bU e.2])).xs.length=mk.length:=by show (mk.map fun e=>U.tup [.str e.1,bU e.2]).length=_;simp
       rw [hl3] at hm3 hk3
       rw [List.take_length] at hk3
       refine ⟨_,_,_,m3,rfl,rfl,by omega,fun k hk=>?_,fun k hk=>?_⟩
       ·rw [tk] at hk
        have h1:k≠kd:=fun z=>hk (by rw [z];simp)
        rw [ho3 k h1]
        exact hno k fun z=>hk (List.mem_append_left _ z)
       ·rw [tk] at hk
        rcases List.mem_append.mp hk with hk | hk
        ·rw [ho3 k fun z=>hkn (z ▸ hk)];exact hyes k hk
        ·cases List.mem_singleton.mp hk
         rw [hk3];exact hok.sum _
    ·rintro τ Mj ⟨z8,z9,z10,m2,rfl,rfl,hml,hno,hyes⟩
     refine ⟨_,_,NO hd2 (Ne.symm hd21),_,_,_,_,_,fs++[(pl,m2)],rfl,?_,?_⟩
     ·unfold jO;rw [List.map_append];rfl
     ·rw [tkr]
      refine hfs.snoc hnew ht' fun k hk=>?_
      rw [<- hst1 k hk]
      refine hyes k ?_
      rw [show (Src.mk none (cs.map U.str)).xs.length=cs.length from by show (cs.map U.str).length=_;simp,List.take_length]
      exact hk
  ·rintro τ Mj ⟨z6,z7,z8,z9,z10,fs,rfl,rfl,hfs⟩
   rw [show (⟨none,t.places.reverse.map aO⟩:Src).xs.length=t.places.reverse.length from by show (t.places.reverse.map aO).length=_;simp,List.take_length] at hfs
   show V _ _
   subst hV
   have hroot:([]:List Nat)∈t.places.reverse:=List.mem_reverse.mpr (kR t [] t (dF t))
   obtain ⟨m2,hm2⟩:∃ m2,asc fs []=some m2:=Option.isSome_iff_exists.mp (dZ.mpr (by rw [hfs.key];exact hroot))
   have hv:=hfs.val [] hroot t (dF t) c hc
   have hv2:asc m2 c=HV t c:=by unfold bH at hv;rw [hm2] at hv;exact hv
   have hS1:mup M0 d1 (.dT (jO fs)) d1=some (.dT (jO fs)):=aG
   have l1:cS true (mup M0 d1 (.dT (jO fs))) (.ref d1) (.tup [])=some (some (fS (dD m2))):=by
    have:=m5 (M:=mup M0 d1 (.dT (jO fs))) [] (show eX (mup M0 d1 (.dT (jO fs))) (.ref d1)=some (.dT (jO fs)) from hS1)
    rw [C6,hm2] at this
    exact this
   have l2:cS false (mup M0 d1 (.dT (jO fs))) (fS (dD m2)) (.str c)=some ((HV t c).map bU):=by
    rw [lN c (tV _ _),zH,hv2]
   have hsub:Sub M (mup M0 d1 (.dT (jO fs))):=((Sub.refl M).mup hp).mup nY
   simp! only [fD,vZ,nO,l1,l2,aF]
   cases ha:HV t c with
   | none =>
    rw [ha] at q
    simp! only [Option.map_none,Option.isSome_none,aF]
    exact ⟨_,M,hsub,.inl rfl,q⟩
   | some b =>
    rw [ha] at q
    simp! only [Option.map_some,Option.isSome_some,l1,l2,ha,bU,aF]
    exact ⟨_,M,hsub,.inl rfl,q⟩
def Tr.pl:Tr->Prop
 | .num _=>False
 | .name _=>True
 | .turn a=>a.pl
 | .two o a b=>o=.sum/\a.pl/\b.pl
theorem Qb:(Tr.name (Str.ofString "a")).ok:=⟨by decide +kernel,by decide +kernel⟩
theorem Sx:(Tr.name (Str.ofString "x")).ok:=⟨by decide +kernel,by decide +kernel⟩
noncomputable def QI (n:Nat):dB:=fun us M Q=>∃ (t r:Addr) (ns:List Int) (a b c x:Int),us=[.ref t,.int (n:Int),.ref r]/\1<=n/\n<=8/\t≠r/\M t=some (.lst (eV ns a b c))/\M r=some (.lst [.int x])/\x<=60/\0<=a/\a + 1000 * (n:Int)<=20000 /\
 ∀ (tr:Tr) (a' b' c':Int),tr.ok->tr.pl->tr.dep<=n->(tr.size:Int)<=max (x - 1) 0 + n->(x<=2->tr.size=1)->a<=a'->a'<=a + 5 * tr.size->Q tr.toU (cT M t r (eV ns a' b' c') [.int (x - tr.size)])
def rS (N:Nat):dB:=fun us M Q=>∃ n,n<=N/\QI n us M Q
theorem OH {N:Nat} (F:dM K "_law_tree" "_law_tree" oN f fd) (hm:mg "_law_tree"=some (.ref f)) (cW:Callee P w K mg base 1 "_law_draw" sE []) (oP:Callee P w K mg base (N + 2) "_law_tree" (rS N) []):Callee P w K mg base (N + 3) "_law_tree" (rS (N + 1)) []:=by
 refine bP F hm rL (D9 fun _ _ _ _ _ _ _ _ _=>rfl) (aD (oZ (vG (aQ (uv 2) aP) aP) (uv 2) aP)
 (aD (aU 3 rL.nd (aR cW (aA (uv 0) (aA aP aB))))
 (aD (dX (pK.pt (wJ (dC gB (uv 1) aP) (wJ (dC zC (aQ (uv 2) aP) aP) (vX (dC gB (uv 3) aP)))))
 (aI (bJ (bD (aA dI (aA dI aB)))))
 cQ)
 (aD (aU 4 rL.nd (aR oP (aA (uv 0) (aA (vG (uv 1) aP) (aA (uv 2) aB)))))
 (aD (dX (dC gB (uv 3) aP)
 (aI (bJ (bD (aA dI (aA (uv 4) aB)))))
 cQ)
 (aI (bJ (bD (aA dI (aA (uv 4) (aA (aR oP (aA (uv 0) (aA (vG (uv 1) aP) (aA (uv 2) aB)))) aB))))))))))) ?_
 rintro us M Q ⟨n1,hnN,t,r,ns,a,b,c,x,rfl,hn1,hn12,htr,hMt,hMr,hx,ha0,ha1,q⟩
 refine ⟨rfl,?_⟩
 obtain ⟨n,rfl⟩:∃ n,n1=n + 1:=⟨n1 - 1,by omega⟩
 have hrt:r≠t:=fun z=>htr z.symm
 have hMM:=KP hMt hMr
 rw [<- hMM]
 have vt:∀ T R,view (cT M t r T R) (.ref t)=.lst T:=fun T R=>kP (mO htr)
 have vr:∀ T R,view (cT M t r T R) (.ref r)=.lst R:=fun T R=>kP mH
 refine aH fun V hV=>?_
 simp! only [aF,vr,aF]
 simp only [mH]
 refine ⟨0,rfl,?_⟩
 simp only [pH,List.set_cons_zero]
 subst hV
 refine aH fun V hV=>?_
 simp! only [bC,hName,aF]
 refine ⟨t,ns,a,b,c,5,rfl,by decide,by decide,mO htr,ha0,by omega,fun way a1 b1 c1 w0 w1 l1 l2=>?_⟩
 rw [lU htr]
 subst hV
 refine aH fun V hV=>?_
 refine fG fun A B hA hB=>?_
 have leaf:A (cT M t r (eV ns a1 b1 c1) [.int (x - 1)]):=by
  subst hA
  simp! only [fD,aF]
  exact aY (q (.name (Str.ofString "a")) a1 b1 c1 Qb trivial (by simp [Tr.dep]) (by simp only [Tr.size];omega) (fun _=>rfl) (by omega) (by simp only [Tr.size];omega))
 simp! only [vr,aF]
 refine mC (fun _=>leaf) (fun hn=>mC (fun _=>leaf) (fun hx2=>mC (fun _=>leaf) (fun hw=>?_)))
 have hn':1<=n:=by
  have:¬ ((n + 1:Nat):Int)=1:=by simpa using hn
  omega
 have hx3:2<=x - 1:=by
  have:¬ x - 1 < 2:=by simpa using hx2
  omega
 have en:((n + 1:Nat):Int) - 1=(n:Int):=by omega
 subst hB
 simp only [eW]
 subst hV
 refine aH fun V hV=>?_
 simp! only [bC,hName,en,aF]
 refine ⟨n,by omega,t,r,ns,a1,b1,c1,x - 1,rfl,hn',by omega,htr,mO htr,mH,by omega,by omega,by omega,fun p1 a2 b2 c2 po1 pp1 pd1 ps1 pl1 g1 g2=>?_⟩
 rw [A5 htr]
 have sp1:=size_pos p1
 subst hV
 refine aH fun V hV=>?_
 refine fG fun A B hA hB=>?_
 simp! only [aF]
 refine mC (fun _=>?_) (fun h3=>?_)
 ·subst hA
  simp! only [fD,aF]
  have e:x - 1 - (p1.size:Int)=x - ((Tr.turn p1).size:Int):=by simp only [Tr.size];omega
  rw [e]
  exact aY (q (.turn p1) a2 b2 c2 po1 pp1 (by simp only [Tr.dep];omega) (by simp only [Tr.size];omega) (fun h=>by omega) (by omega) (by simp only [Tr.size];omega))
 ·subst hB
  simp only [eW]
  subst hV
  simp! only [fD,en,aF]
  refine ⟨n,by omega,t,r,ns,a2,b2,c2,x - 1 - p1.size,rfl,hn',by omega,htr,mO htr,mH,by omega,by omega,by omega,fun p2 a3 b3 c3 po2 pp2 pd2 ps2 pl2 g3 g4=>?_⟩
  rw [A5 htr]
  have sp2:=size_pos p2
  try simp! only [aF]
  have e:x - 1 - (p1.size:Int) - (p2.size:Int)=x - ((Tr.two .sum p1 p2).size:Int):=by simp only [Tr.size];omega
  rw [e]
  refine aY (q (.two .sum p1 p2) a3 b3 c3 ⟨po1,po2⟩ ⟨rfl,pp1,pp2⟩ (by simp only [Tr.dep];omega) ?_ (fun h=>by omega) (by omega) (by simp only [Tr.size];omega))
  simp only [Tr.size]
  by_cases h:x - 1 - (p1.size:Int)<=2
  ·have:=pl2 h;omega
  ·omega
theorem D0 (F:dM K "_law_tree" "_law_tree" oN f fd) (hm:mg "_law_tree"=some (.ref f)) (cW:Callee P w K mg base 1 "_law_draw" sE []):∀ n,Callee P w K mg base (n + 2) "_law_tree" (rS n) []
 | 0=>by
  have no:∀ us M Q,¬ rS 0 us M Q:=fun us M Q h=>by
   obtain ⟨_,h0,_,_,_,_,_,_,_,_,h,_⟩:=h
   omega
  refine ⟨f,fd,["tape","left","room"],[],[],⟨fun vs H Q E h=>?_,fun A outer s H args us vs Q E _ _ _ _ h=>?_⟩,hm,F.kp,F.binds (D9 fun _ _ _ _ _ _ _ _ _=>rfl),.nil,fun H M=>.nil⟩
  ·obtain ⟨us,M,Q',_,_,h,_⟩:=h;exact absurd h (no us M Q')
  ·obtain ⟨us,M,Q',_,_,h,_⟩:=h;exact absurd h (no us M Q')
 | n + 1=>OH F hm cW (D0 F hm cW n)
noncomputable def Ir:dB:=fun us M Q=>∃ (t:Addr) (ns:List Int) (a b c:Int),us=[.ref t]/\M t=some (.lst (eV ns a b c))/\0<=a/\a<=20000/\∀ (tr:Tr) (a' b' c':Int),tr.ok->tr.pl->tr.dep<=31->tr.size<=100->a<=a'->a'<=a + 30->Q tr.toU (mup M t (.lst (eV ns a' b' c')))
theorem MN (F:dM K "_law_deep" "_law_deep" tR f fd) (hm:mg "_law_deep"=some (.ref f)) (k6:mg "range"=none) (cW:Callee P w K mg base 1 "_law_draw" sE []):Callee P w K mg base 2 "_law_deep" Ir []:=by
 refine bP F hm lP (vH fun _ _ _ _ _ _ _=>rfl) (aD (aU 1 lP.nd (bD (aA dI (aA dI aB))))
 (aD (eL (A7 k6 (aA aP aB)) (aN (k:=1000) 2 lP.nd)
 (aI (dX (dC gB (aR cW (aA (uv 0) (aA aP aB))) aP)
 (aI (aU 1 lP.nd (bD (aA dI (aA (uv 1) (aA (bD (aA dI (aA dI aB))) aB))))))
 (aI (aU 1 lP.nd (bD (aA dI (aA (bD (aA dI (aA dI aB))) (aA (uv 1) aB)))))))))
 (aI (bJ (uv 1))))) ?_
 rintro us M Q ⟨t,ns,a,b,c,rfl,hM,h0,h1,q⟩
 refine ⟨rfl,?_⟩
 rw [<- lX hM]
 refine aH fun V hV=>?_
 simp! only [bC,hName,aF]
 subst hV
 refine aH fun V hV=>?_
 simp! only [Dg,aF]
 refine ⟨by decide,by decide,fun i τ Mi=>∃ (tr:Tr) (a' b' c':Int) (z2:Option U),τ=[some (.ref t),some tr.toU,z2]/\Mi=mup M t (.lst (eV ns a' b' c'))/\tr.ok/\tr.pl/\tr.dep=i + 1/\tr.size=2 * i + 1/\a<=a'/\a'<=a + i,⟨.name (Str.ofString "x"),a,b,c,none,rfl,rfl,Sx,trivial,rfl,rfl,by omega,by omega⟩,nk,?_,?_⟩
 ·rintro i x τ Mi e ⟨tr,a1,b1,c1,z2,rfl,rfl,ho,hp,hd,hs,g0,g1⟩
  obtain ⟨rfl,hi⟩:=Ax e
  have hi:i < 30:=hi
  simp! only [hName,aF]
  refine fG fun A B hA hB=>?_
  simp! only [aF]
  refine ⟨t,ns,a1,b1,c1,2,rfl,by decide,by decide,aG,by omega,by omega,fun k a2 b2 c2 k0 k1 g2 g3=>?_⟩
  rw [bN]
  simp! only [aF]
  refine mC (fun _=>?_) (fun _=>?_)
  ·subst hA
   simp! only [bC,hName,aF]
   exact ⟨.two .sum tr (.name (Str.ofString "a")),a2,b2,c2,_,rfl,rfl,⟨ho,Qb⟩,⟨rfl,hp,trivial⟩,by simp only [Tr.dep];omega,by simp only [Tr.size];omega,by omega,by omega⟩
  ·subst hB
   simp! only [bC,hName,aF]
   exact ⟨.two .sum (.name (Str.ofString "a")) tr,a2,b2,c2,_,rfl,rfl,⟨Qb,ho⟩,⟨rfl,trivial,hp⟩,by simp only [Tr.dep];omega,by simp only [Tr.size];omega,by omega,by omega⟩
 ·rintro τ Mi ⟨tr,a1,b1,c1,z2,rfl,rfl,ho,hp,hd,hs,g0,g1⟩
  rw [tT] at hd hs g1
  have e30:((30:Int)).toNat=30:=rfl
  show V _ _
  subst hV
  simp! only [fD,aF]
  exact aY (q tr a1 b1 c1 ho hp (by omega) (by omega) g0 (by omega))
noncomputable def Tr.word:Tr->Str
 | .num _=>"num"
 | .name _=>"name"
 | .turn _=>"turn"
 | .two o _ _=>o.word
noncomputable def bT (a s:Str):Nat:=if a=s then 1 else 0
theorem sU (a s:Str):bT a s<=1:=by unfold bT;split <;> omega
noncomputable def Tr.cnt (s:Str):Tr->Nat
 | .turn a=>bT (Str.ofString "turn") s + a.cnt s
 | .two o a b=>bT o.word s + a.cnt s + b.cnt s
 | .num _=>bT (Str.ofString "num") s
 | .name _=>bT (Str.ofString "name") s
theorem p7 (s:Str):∀ t:Tr,t.cnt s<=t.size
 | .turn a=>by have:=p7 s a;have:=sU (Str.ofString "turn") s;simp only [Tr.cnt,Tr.size];omega
 | .two o a b=>by have:=p7 s a;have:=p7 s b;have:=sU o.word s;simp only [Tr.cnt,Tr.size];omega
 | .num _=>sU _ _
 | .name _=>sU _ _
noncomputable def AG (n:Nat):dB:=fun us M Q=>∃ (t:Tr) (s:Str),us=[t.toU,.str s]/\t.pl/\t.dep<=n/\t.size<=100/\Q (.int (t.cnt s:Nat)) M
theorem QW {n:Nat} (F:dM K "_law_count" "_law_count" nQ f fd) (hm:mg "_law_count"=some (.ref f)) (lQ:mg "int"=none) (rF:Callee P w K mg base (n + 1) "_law_count" (AG n) []):Callee P w K mg base (n + 2) "_law_count" (AG (n + 1)) []:=by
 refine bP F hm mM (qY fun _ _ _ _ _ _ _ _=>rfl) (aD (aU 2 mM.nd (vE GQ lQ (aA (yJ gB (aQ (uv 0) aP) (uv 1)) aB)))
 (aD (dX (dC zY (aQ (uv 0) aP) dI)
 (aI (eL (dN (vA (own:=false) (uv 0) (sM aP) sG)) (aN (k:=1000) 3 mM.nd)
 (aI (aU 2 mM.nd (cG (own:=false) (uv 2) (aR rF (aA (uv 3) (aA (uv 1) aB))))))))
 cQ)
 (aI (bJ (uv 2))))) ?_
 rintro us M Q ⟨t,s,rfl,hp,hd,hs,q⟩
 refine ⟨rfl,?_⟩
 have hz:=p7 s t
 have hB:∀ M':aE,∀ z r,t.toU=.tup (.str z :: r)->view M' t.toU=.tup (.str z :: r):=fun M' z r h=>by rw [h];rfl
 obtain ⟨r,hr1,hr2⟩:∃ r,t.toU=.tup (.str t.word :: r)/\(t.leafy=false->r=t.parts.map Tr.toU):=by
  cases t with
  | num _=>exact ⟨_,rfl,fun h=>by cases h⟩
  | name _=>exact ⟨_,rfl,fun h=>by cases h⟩
  | turn a=>exact ⟨_,rfl,fun _=>rfl⟩
  | two o a b=>exact ⟨_,rfl,fun _=>rfl⟩
 have hc:t.cnt s=bT t.word s + ((t.parts.map fun a=>a.cnt s).sum):=by
  cases t with
  | num _=>rfl
  | name _=>rfl
  | turn a=>rfl
  | two o a b=>simp only [Tr.cnt,Tr.parts,Tr.word,List.map_cons,List.map_nil,List.sum_cons,List.sum_nil];omega
 have hw:(t.word=Str.ofString "name") ↔ t.leafy=true:=by
  cases t with
  | num _=>cases hp
  | name _=>exact ⟨fun _=>rfl,fun _=>rfl⟩
  | turn a=>exact ⟨fun h=>absurd h (by show ¬ Str.ofString "turn"=Str.ofString "name";decide +kernel),fun h=>by cases h⟩
  | two o a b =>
   obtain ⟨rfl,_⟩:=hp
   exact ⟨fun h=>absurd h (by show ¬ Str.ofString "sum"=Str.ofString "name";decide +kernel),fun h=>by cases h⟩
 have hkid:∀ (i:Nat) a,t.parts[i]?=some a->a.pl:=fun i a h=>by
  cases t with
  | num _=>cases hp
  | name _=>cases h
  | turn b=>cases i with
   | zero=>cases h;exact hp
   | succ i=>cases h
  | two o b d =>
   obtain ⟨_,h1,h2⟩:=hp
   match i,h with
   | 0,h=>cases h;exact h1
   | 1,h=>cases h;exact h2
 refine aH fun V hV=>?_
 simp! only [bC,hName,hB _ _ _ hr1,aF]
 have e0:(if decide (t.word=s)=true then (1:Int) else 0)=((bT t.word s:Nat):Int):=by unfold bT;by_cases h:t.word=s <;> simp [h]
 rw [e0]
 subst hV
 refine aH fun V hV=>?_
 refine fG fun A B hA hBB=>?_
 simp! only [hB _ _ _ hr1,aF]
 cases hl:t.leafy with
 | true =>
  rw [if_neg (by simp [hw.mpr hl])]
  subst hBB
  simp only [eW]
  subst hV
  simp! only [fD,aF]
  rw [hc,xP hl] at q
  exact aY q
 | false =>
  have hne:¬ t.word=Str.ofString "name":=fun z=>by rw [hw.mp z] at hl;cases hl
  rw [if_pos (by simp [hne])]
  subst hA
  have hr:=hr2 hl
  have hcut:i7 (U.str t.word :: r) (some 1) none=t.parts.map Tr.toU:=by rw [hr];unfold i7;simp [HT.bK];rw [List.take_of_length_le (by simp)]
  refine fL (S:=⟨none,t.parts.map Tr.toU⟩) (M1:=M) (fun R z=>by simp! only [hB _ _ _ hr1,hcut,aF];exact z)
   (fun i τ Mj=>∃ z3:Option U,τ=[some t.toU,some (.str s),some (.int ((bT t.word s + (((t.parts.take i).map fun a=>a.cnt s).sum):Nat):Int)),z3]/\Mj=M) ⟨none,by simp,rfl⟩ nk ?_ ?_
  ·rintro i u τ Mj e ⟨z3,rfl,rfl⟩
   have e':(t.parts.map Tr.toU)[i]?=some u:=e
   rw [List.getElem?_map] at e'
   cases hj:t.parts[i]? with
   | none=>rw [hj] at e';cases e'
   | some a =>
    rw [hj] at e'
    cases e'
    have tk:t.parts.take (i + 1)=t.parts.take i++[a]:=by rw [List.take_add_one,hj];rfl
    have h1:=BU hj
    have h2:=An hj
    simp! only [hName,bC,aF]
    refine ⟨a,s,rfl,hkid i a hj,by omega,by omega,?_⟩
    simp! only [aF]
    refine ⟨some a.toU,?_⟩
    rw [tk,List.map_append,List.sum_append]
    simp;omega
  ·rintro τ Mj ⟨z3,rfl,rfl⟩
   have hln:(Src.mk none (t.parts.map Tr.toU)).xs.length=t.parts.length:=by show (t.parts.map Tr.toU).length=_;simp
   rw [hln,List.take_length,<- hc]
   show V _ _
   subst hV
   simp! only [fD,aF]
   exact aY q
theorem EZ (F:dM K "_law_count" "_law_count" nQ f fd) (hm:mg "_law_count"=some (.ref f)) (lQ:mg "int"=none):∀ n,Callee P w K mg base (n + 1) "_law_count" (AG n) []
 | 0=>by
  have no:∀ us M Q,¬ AG 0 us M Q:=fun us M Q h=>by
   obtain ⟨t,_,_,_,h,_⟩:=h
   have:1<=t.dep:=by cases t <;> simp [Tr.dep]
   omega
  refine ⟨f,fd,["tree","sign"],[],[],⟨fun vs H Q E h=>?_,fun A outer s H args us vs Q E _ _ _ _ h=>?_⟩,hm,F.kp,F.binds (qY fun _ _ _ _ _ _ _ _=>rfl),.nil,fun H M=>.nil⟩
  ·obtain ⟨us,M,Q',_,_,h,_⟩:=h;exact absurd h (no us M Q')
  ·obtain ⟨us,M,Q',_,_,h,_⟩:=h;exact absurd h (no us M Q')
 | n + 1=>QW F hm lQ (EZ F hm lQ n)
structure nW (c:Str) (p:Pt) (g:List Tl) (low many:Int):Prop where
 all:∀ tl∈g,tl.cls=c/\tl.pt=p/\low<=tl.cost/\tl.cost<=10
 has:∃ tl∈g,tl.cost=low
 sum:aW (g.map fun tl=>some (tl.cost,1))=some (low,many)
 len:g.length<=8
 lo:0<=low/\low<=5
 mn:1<=many/\many<=5
structure sY (c:Str) (p:Pt) (T:List Tl) (low many:Int) (i:Nat):Prop where
 all:∀ tl∈T,tl.cls=c/\tl.pt=p/\low<=tl.cost/\tl.cost<=10
 has:0 < i->∃ tl∈T,tl.cost=low
 sum:aW (T.map fun tl=>some (tl.cost,1))=if i=0 then none else some (low,if (i:Int) < many then (i:Int) else many)
 len:T.length=i
theorem sY.nil (c:Str) (p:Pt) (low many:Int):sY c p [] low many 0:=⟨(fun tl h=>by cases h),(fun h=>by omega),rfl,rfl⟩
theorem sY.snoc {c:Str} {p:Pt} {T:List Tl} {low many:Int} {i:Nat} (h:sY c p T low many i) (hm:1<=many) (nm:Str) {co:Int} (h1:(i:Int) < many->co=low) (h2:¬ (i:Int) < many->low < co) (h3:co<=10):sY c p (T++[⟨nm,c,p,co⟩]) low many (i + 1):=by
 refine ⟨fun tl ht=>?_,fun _=>?_,?_,by rw [List.length_append,h.len];rfl⟩
 ·rcases List.mem_append.mp ht with ht | ht
  ·exact h.all tl ht
  ·cases List.mem_singleton.mp ht
   refine ⟨rfl,rfl,?_,h3⟩
   show low<=co
   by_cases z:(i:Int) < many
   ·have:=h1 z;omega
   ·have:=h2 z;omega
 ·by_cases z:0 < i
  ·obtain ⟨tl,k1,k2⟩:=h.has z
   exact ⟨tl,List.mem_append_left _ k1,k2⟩
  ·exact ⟨_,List.mem_append_right _ (List.mem_singleton.mpr rfl),h1 (by omega)⟩
 ·rw [List.map_append,kT,h.sum]
  show bR _ (bR (some (co,1)) none)=_
  rw [cD]
  rw [if_neg (show ¬ i + 1=0 by omega)]
  by_cases z0:i=0
  ·rw [if_pos z0,d4,h1 (by omega)]
   subst z0
   congr 2
   split <;> omega
  ·rw [if_neg z0]
   by_cases z:(i:Int) < many
   ·rw [if_pos z,h1 z]
    simp only [bR]
    rw [if_neg (by omega),if_neg (by omega)]
    congr 2
    split <;> omega
   ·rw [if_neg z]
    have:=h2 z
    simp only [bR]
    rw [if_pos this]
    congr 2
    split <;> omega
theorem sY.rot {c:Str} {p:Pt} {T:List Tl} {low many:Int} {i:Nat} (h:sY c p T low many i) (hm:1<=many/\many<=5) (hl:0<=low/\low<=5) (hi:many<=i) (hi8:i<=8) (k:Nat):nW c p (T.drop k++T.take k) low many:=by
 have hp:(T.drop k++T.take k).Perm T:=by
  have:(T.drop k++T.take k).Perm (T.take k++T.drop k):=List.perm_append_comm
  rwa [List.take_append_drop] at this
 obtain ⟨tl,k1,k2⟩:=h.has (by omega)
 refine ⟨fun tl ht=>h.all tl (hp.mem_iff.mp ht),⟨tl,hp.mem_iff.mpr k1,k2⟩,?_,by rw [hp.length_eq,h.len];exact hi8,hl,hm⟩
 rw [Iq (hp.map _),h.sum,if_neg (by omega),if_neg (by omega)]
noncomputable def FC:dB:=fun us M Q=>∃ (t:Addr) (ns:List Int) (a b c:Int) (nm cls:Str) (pt:Pt) (most:Int),us=[.ref t,.str nm,.str cls,pt.toU,.int most]/\nm.length<=10/\1<=most/\most<=5/\M t=some (.lst (eV ns a b c))/\0<=a/\a<=10000/\∀ (g:List Tl) (low many a' b' c':Int),nW cls pt g low many->a<=a'->a'<=a + 20->Q (.tup [.lst (g.map Tl.toU),.int many,.int low]) (mup M t (.lst (eV ns a' b' c')))
theorem KR (F:dM K "_law_tiles" "_law_tiles" rM f fd) (hm:mg "_law_tiles"=some (.ref f)) (lQ:mg "int"=none) (k6:mg "range"=none) (mN:mg "len"=none) (cW:Callee P w K mg base 1 "_law_draw" sE []):Callee P w K mg base 2 "_law_tiles" FC []:=by
 refine bP F hm fI (Sb fun _ _ _ _ _ _ _ _ _ _ _=>rfl) (aD (aU 5 fI.nd (aR cW (aA (uv 0) (aA aP aB))))
 (aD (aU 6 fI.nd (cG (own:=false) aP (aR cW (aA (uv 0) (aA (uv 4) aB)))))
 (aD (aU 7 fI.nd (aR cW (aA (uv 0) (aA aP aB))))
 (aD (aU 8 fI.nd (i9 (own:=true) aB))
 (aD (eL (A7 k6 (aA (cG (own:=false) (uv 6) (uv 7)) aB)) (aN (k:=1000) 9 fI.nd)
 (aD (aU 10 fI.nd (cG (own:=false) (uv 5) (eR (own:=false) (vE GQ lQ (aA (yJ Py (uv 9) (uv 6)) aB)) (cG (own:=false) aP (aR cW (aA (uv 0) (aA aP aB)))))))
 (aI (iD (qP (uv 8) (aA (bD (aA (cG (own:=false) (uv 1) (eR (own:=false) (aQ dI (uv 9)) (cG (own:=false) aP (mL (uv 9) aP)))) (aA (uv 2) (aA (uv 3) (aA (uv 10) aB))))) aB))))))
 (aD (aU 11 fI.nd (aR cW (aA (uv 0) (aA (tL Aw mN (aA (uv 8) aB)) aB))))
 (aI (bJ (bD (aA (cG (own:=false) (vA (own:=false) (uv 8) (sM (uv 11)) sG) (vA (own:=false) (uv 8) sG (sM (uv 11)))) (aA (uv 6) (aA (uv 5) aB)))))))))))) ?_
 rintro us M Q ⟨t,ns,a,b,c,nm,cls,pt,most,rfl,hnm,hm1,hm5,hM,h0,h1,q⟩
 refine ⟨rfl,?_⟩
 rw [<- lX hM]
 refine aH fun V hV=>?_
 simp! only [bC,hName,aF]
 refine ⟨t,ns,a,b,c,6,rfl,by decide,by decide,aG,by omega,by omega,fun low a1 b1 c1 lo0 lo1 g1 g2=>?_⟩
 rw [bN]
 subst hV
 refine aH fun V hV=>?_
 simp! only [bC,hName,aF]
 refine ⟨t,ns,a1,b1,c1,most,rfl,by omega,by omega,aG,by omega,by omega,fun mx a2 b2 c2 mx0 mx1 g3 g4=>?_⟩
 rw [bN]
 simp! only [aF]
 obtain ⟨many,hmany⟩:∃ many,many=1 + mx:=⟨_,rfl⟩
 rw [<- hmany]
 subst hV
 refine aH fun V hV=>?_
 simp! only [bC,hName,aF]
 refine ⟨t,ns,a2,b2,c2,4,rfl,by decide,by decide,aG,by omega,by omega,fun more a3 b3 c3 mo0 mo1 g5 g6=>?_⟩
 rw [bN]
 subst hV
 refine aH fun V hV=>?_
 simp! only [bC,hName,aF]
 intro d hd
 have hdt:d≠t:=fun z=>by rw [z,aG] at hd;cases hd
 have htd:t≠d:=Ne.symm hdt
 rw [aM hdt] at hd
 subst hV
 refine aH fun V hV=>?_
 simp! only [Dg,aF]
 have e3:mup (mup M t (.lst (eV ns a3 b3 c3))) d (.lst [])=cT M t d (eV ns a3 b3 c3) (([]:List Tl).map Tl.toU):=rfl
 rw [e3]
 refine ⟨by omega,by omega,fun i τ Mi=>∃ (T:List Tl) (a' b' c':Int) (z9 z10:Option U),τ=[some (.ref t),some (.str nm),some (.str cls),some pt.toU,some (.int most),some (.int low),some (.int many),some (.int more),some (.ref d),z9,z10,none]/\Mi=cT M t d (eV ns a' b' c') (T.map Tl.toU)/\sY cls pt T low many i/\a<=a'/\a'<=a + 3 + i,⟨[],a3,b3,c3,none,none,rfl,rfl,sY.nil _ _ _ _,by omega,by omega⟩,nk,?_,?_⟩
 ·rintro i x τ Mi e ⟨T,a4,b4,c4,z9,z10,rfl,rfl,hG,k0,k1⟩
  obtain ⟨rfl,hi⟩:=Ax e
  have hi8:i < 8:=by omega
  simp! only [hName,aF]
  refine aH fun V2 hV2=>?_
  simp! only [bC,hName,aF]
  refine ⟨t,ns,a4,b4,c4,3,rfl,by decide,by decide,mO htd,by omega,by omega,fun dr a5 b5 c5 dr0 dr1 k2 k3=>?_⟩
  rw [lU htd]
  simp! only [aF]
  have hcmp:decide (many<=0 + (i:Int))=decide (many<=(i:Int)):=by rw [Int.zero_add]
  rw [hcmp,Int.zero_add]
  obtain ⟨co,hco⟩:∃ co,co=low + (if decide (many<=(i:Int))=true then 1 else 0) * (1 + dr):=⟨_,rfl⟩
  rw [<- hco]
  have hc1:(i:Int) < many->co=low:=fun h=>by rw [hco,if_neg (by simp;omega)];omega
  have hc2:¬ (i:Int) < many->low < co/\co<=10:=fun h=>by rw [hco,if_pos (by simp;omega)];omega
  have hc3:co<=10:=by
   by_cases h:(i:Int) < many
   ·have:=hc1 h;omega
   ·exact (hc2 h).2
  refine ⟨mulR (by omega) (by omega),?_⟩
  subst hV2
  simp! only [kY,aF]
  obtain ⟨ch,hch⟩:∃ ch,fQ (Str.ofString "abcdefghi").cps.toList (i:Int)=some ch:=by
   have hl:(Str.ofString "abcdefghi").cps.toList.length=9:=by decide +kernel
   have hlt:i < (Str.ofString "abcdefghi").cps.toList.length:=by omega
   exact ⟨(Str.ofString "abcdefghi").cps.toList[i],gO (by simp [hlt])⟩
  have hm0:=Int.emod_nonneg (i:Int) (show (2:Int)≠0 by decide)
  have hm1:=Int.emod_lt_of_pos (i:Int) (show (0:Int) < 2 by decide)
  have hl1:({ cps:=#[ch] }:Str).length=1:=rfl
  have hrep:(wB { cps:=#[ch] } (1 + (i:Int) % 2)).length<=3:=by
   have e:1 + (i:Int) % 2=1\/1 + (i:Int) % 2=2:=by omega
   rcases e with e | e <;> rw [e]
   ·exact (by decide:1<=3)
   ·exact (by decide:2<=3)
  have hTl:=hG.len
  refine ⟨⟨_,kP mH⟩,by decide +kernel,ch,hch,by decide,by omega,by omega,by rw [hl1];decide,by rw [hl1];omega,small (by omega),?_⟩
  simp only [mH,pH]
  refine ⟨by rw [List.length_map,PySem.sizeLine_eq];omega,T++[⟨nm++wB { cps:=#[ch] } (1 + (i:Int) % 2),cls,pt,co⟩],a5,b5,c5,_,_,rfl,by rw [List.map_append];rfl,hG.snoc (by omega) _ hc1 (fun h=>(hc2 h).1) hc3,by omega,by omega⟩
 ·rintro τ Mi ⟨T,a4,b4,c4,z9,z10,rfl,rfl,hG,k0,k1⟩
  rw [tT] at hG k1
  have hTl:=hG.len
  show V _ _
  subst hV
  refine aH fun V hV=>?_
  simp! only [bC,hName,kP (mH (M:=M) (t:=t) (r:=d)),List.length_map,aF]
  refine ⟨t,ns,a4,b4,c4,(T.length:Int),rfl,by omega,by omega,mO htd,by omega,by omega,fun u1 a5 b5 c5 u10 u11 k2 k3=>?_⟩
  rw [lU htd]
  subst hV
  obtain ⟨j,rfl⟩:∃ j:Nat,u1=(j:Int):=⟨_,(Int.toNat_of_nonneg u10).symm⟩
  have cA:i7 T none (some (j:Int))=T.take j:=by
   unfold i7
   have e:HT.bK T.length T.length (some (j:Int))=j:=by
    simp only [HT.bK];rw [if_neg (by omega)];omega
   rw [e];simp [HT.bK]
  have cB:i7 T (some (j:Int)) none=T.drop j:=by
   unfold i7
   have e:HT.bK T.length 0 (some (j:Int))=j:=by
    simp only [HT.bK];rw [if_neg (by omega)];omega
   have e2:HT.bK T.length T.length none=T.length:=rfl
   rw [e,e2,List.take_of_length_le (by rw [List.length_drop];omega)]
  simp! only [fD,kP (mH (M:=M) (t:=t) (r:=d)),Fm,cA,cB,aF]
  refine ⟨small (by rw [List.length_map,List.length_map,List.length_drop,List.length_take];omega),?_⟩
  rw [<- List.map_append]
  refine ⟨_,mup M t (.lst (eV ns a5 b5 c5)),?_,.inl rfl,q _ low many a5 b5 c5 (hG.rot (by omega) (by omega) (by omega) (by omega) j) (by omega) (by omega)⟩
  exact (Sub.refl _).mup (by rw [aM hdt];exact hd)
end
theorem vS {vs:VS} {q:List Nat} {m:VM} {s:List Nat × Str} (h:asc vs q=none) (hne:s.1≠q):bL (vs++[(q,m)]) s=bL vs s:=by
 rw [<- iB h];unfold cur;rw [if_neg hne]
theorem IW {vs:VS} {q:List Nat} {m:VM} {c:Str} (h:asc vs q=none):bL (vs++[(q,m)]) (q,c)=asc m c:=by
 rw [<- iB h];unfold cur;rw [if_pos rfl]
theorem Jt {chs:CS} {q:List Nat} {ch:CM} {s:List Nat × Str} (hne:s.1≠q):dY (chs++[(q,ch)]) s=dY chs s:=by
 unfold dY
 rw [jR]
 cases e:asc chs s.1 with
 | some m=>rfl
 | none =>
  show (asc [(q,ch)] s.1).bind _=_
  rw [eS (p:=(q,ch)) (fun z=>hne z.symm)];rfl
structure R3 (t:Tr) (tls:List Tl) (cs:List Str) (vs:VS) (chs:CS) (p:List Nat) (t':Tr) (vs0:VS) (m:VM) (ch:CM):Prop where
 f:DV cs vs0 p t'.size (bY t' p 0 tls) m ch
 v:∀ c,bL vs (p,c)=asc m c
 c:∀ c,dY chs (p,c)=asc ch c
 old:∀ s:List Nat × Str,(asc vs0 s.1).isSome=true->bL vs s=bL vs0 s
 sub:∀ x,(asc vs0 x).isSome=true->(asc vs x).isSome=true
 ok:∀ l∈bY t' p 0 tls,AJ cs vs0 p t'.size l
theorem Bd.fillAt {t:Tr} {tls:List Tl} {cs:List Str} {ps:List (List Nat)} {vs:VS} {chs:CS} (hT:Tab cs tls) (b:Bd t tls cs ps vs chs):(∃ A,t.places=A++ps.reverse)->∀ p∈ps,∀ t',t.at p=some t'->∃ vs0 m ch,R3 t tls cs vs chs p t' vs0 m ch:=by
 induction b with
 | nil=>intro _ p hp;cases hp
 | @snoc ps vs chs q tq mq chq b hq htq hf ih =>
  rintro ⟨A,hA⟩ p hp t' ht
  have nov:=b.noV hq
  have keys:∀ x,(asc vs x).isSome=true->x≠q:=fun x hx z=>by subst z;rw [nov] at hx;cases hx
  rw [List.reverse_append] at hA
  have hA':t.places=A++q :: ps.reverse:=hA
  have up:∀ x,(asc vs x).isSome=true->(asc (vs++[(q,mq)]) x).isSome=true:=fun x hx=>by
   rw [jR]
   cases e:asc vs x with
   | none=>rw [e] at hx;cases hx
   | some m=>rfl
  rcases List.mem_append.mp hp with hp' | hp'
  ·obtain ⟨vs0,m,ch,k⟩:=ih ⟨A++[q],by rw [hA'];simp⟩ p hp' t' ht
   have hne:p≠q:=fun z=>by subst z;exact hq hp'
   exact ⟨vs0,m,ch,k.f,fun c=>by rw [vS nov (s:=(p,c)) hne];exact k.v c,fun c=>by rw [Jt (s:=(p,c)) hne];exact k.c c,fun s hs=>by rw [vS nov (keys _ (k.sub _ hs))];exact k.old s hs,fun x hx=>up x (k.sub x hx),k.ok⟩
  ·cases List.mem_singleton.mp hp'
   rw [htq] at ht;cases ht
   exact ⟨vs,mq,chq,hf,fun c=>IW nov,fun c=>qJ (b.noC hq),fun s hs=>vS nov (keys _ hs),up,Bd.ld (A:=A) (B:=ps.reverse) hT hA' htq (by rw [List.reverse_reverse];exact b)⟩
theorem Bd.full {t:Tr} {tls:List Tl} {cs:List Str} {vs:VS} {chs:CS} (hT:Tab cs tls) (b:Bd t tls cs t.places.reverse vs chs) {p:List Nat} {t':Tr} (ht:t.at p=some t'):∃ vs0 m ch,R3 t tls cs vs chs p t' vs0 m ch :=
 b.fillAt hT ⟨[],by simp⟩ p (List.mem_reverse.mpr (kR t p t' ht)) t' ht
theorem EW {t:Tr} {p:List Nat}:∀ {tls:List Tl} {k i:Nat} {tl:Tl},tls[i]?=some tl->cN tl.pt t=true->(⟨k + i,tl.cls,tl.cost,(eF tl.pt).map fun e=>(p++e.1,e.2)⟩:Ld)∈bY t p k tls
 | [],k,i,tl,h,_=>by cases h
 | a :: r,k,0,tl,h,hl=>by
  cases h
  simp only [bY,hl,if_true,List.mem_append,List.mem_singleton]
  exact .inl (by rw [Nat.add_zero])
 | a :: r,k,i + 1,tl,h,hl=>by
  have:=EW (p:=p) (k:=k + 1) (tls:=r) (i:=i) h hl
  rw [show k + 1 + i=k + (i + 1) by omega] at this
  simp only [bY,List.mem_append]
  exact .inr this
theorem CP {tls:List Tl} {t:Tr} {p:List Nat} (F:Str->Int->List (List Nat × Str)->Bs):∀ (r pre:List Tl),tls=pre++r ->
  aW (((bY t p pre.length r).filter fun l=>!qW tls l).map fun l=>F l.cls l.price l.spots)=aW (r.map fun tl=>if cN tl.pt t=true/\tl.pass=false then F tl.cls tl.cost ((eF tl.pt).map fun e=>(p++e.1,e.2)) else none)
 | [],pre,_=>rfl
 | a :: r,pre,ht=>by
  have ih:=CP (tls:=tls) (t:=t) (p:=p) F r (pre++[a]) (by rw [ht];simp)
  rw [List.length_append,show pre.length + [a].length=pre.length + 1 from rfl] at ih
  have hat:tls[pre.length]?=some a:=by rw [ht];simp
  rw [bY,List.filter_append,List.map_append,kT,ih,List.map_cons,aW]
  congr 1
  have hi:∀ c q s,qW tls ⟨pre.length,c,q,s⟩=a.pass:=fun c q s=>by unfold qW;rw [show (Ld.mk pre.length c q s).n=pre.length from rfl,hat]
  by_cases hl:cN a.pt t=true
  ·rw [if_pos hl]
   cases hp:a.pass with
   | true =>
    rw [List.filter_cons,hi,hp,if_neg (by simp)]
    simp [aW]
   | false =>
    rw [List.filter_cons,hi,hp,if_pos (by simp),if_pos ⟨hl,rfl⟩]
    simp [aW,cD]
  ·rw [if_neg hl,if_neg (fun z=>hl z.1)];rfl
structure gR (im:Bool) (tls:List Tl) (n s t w:Int × Int):Prop where
 eq:∃ ways sums names turns:List Tl,tls=ways++sums++names++turns/\nW (if im then "mem" else "r") .any names n.1 n.2/\nW "r" (.two .sum (.hole "r") (.hole "r")) sums s.1 s.2/\nW "r" (.turn (.hole "r")) turns t.1 t.2/\if im then nW "r" (.hole "mem") ways w.1 w.2 else ways=[]/\w=(0,1)
noncomputable def lD:List Str:=["r","mem"]
noncomputable def cE (n s t w:Int × Int):Tr->Int × Int
 | .num _=>(0,0)
 | .name _=>(n.1 + w.1,n.2 * w.2)
 | .turn a=>(t.1 + (cE n s t w a).1,t.2 * (cE n s t w a).2)
 | .two _ a b=>(s.1 + ((cE n s t w a).1 + (cE n s t w b).1),s.2 * ((cE n s t w a).2 * (cE n s t w b).2))
noncomputable def Dc (im:Bool) (n:Int × Int):Tr->Bs
 | .name _=>if im then some n else none
 | _=>none
noncomputable def Hy (im:Bool) (n s t w:Int × Int) (tr:Tr) (k:Str):Bs:=if k="r" then some (cE n s t w tr) else Dc im n tr
theorem jI:¬ (Str.ofString "mem")=(Str.ofString "r"):=by decide +kernel
theorem Nf {c:Str} {p:Pt} {g:List Tl} {low many:Int} (h:nW c p g low many) (e:Str) (X:Bs) (t:Tr) (F:Str->Int->List (List Nat × Str)->Bs) (pl:List Nat) (hF:∀ co,F c co ((eF p).map fun e=>(pl++e.1,e.2))=if c=e then aZ (some (co,1)) X else none) (hl:cN p t=true) (hp:∀ q:Pt,q=p->(match q with | .hole _=>true | _=>false)=false) :
  aW (g.map fun tl=>if cN tl.pt t=true/\tl.pass=false then F tl.cls tl.cost ((eF tl.pt).map fun e=>(pl++e.1,e.2)) else none)=if c=e then aZ (some (low,many)) X else none:=by
 have:∀ tl∈g,(if cN tl.pt t=true/\tl.pass=false then F tl.cls tl.cost ((eF tl.pt).map fun e=>(pl++e.1,e.2)) else none)=if c=e then aZ X (some (tl.cost,1)) else none:=fun tl ht=>by
  obtain ⟨h1,h2,_⟩:=h.all tl ht
  have hps:tl.pass=false:=hp tl.pt h2
  rw [if_pos ⟨by rw [h2];exact hl,hps⟩,h1,h2,hF,jP]
 rw [eM g this]
 by_cases z:c=e
 ·simp only [if_pos z]
  rw [wX X,h.sum,jP]
 ·simp only [if_neg z]
  exact gF g fun _ _=>rfl
theorem DL {c:Str} {p:Pt} {g:List Tl} {low many:Int} (h:nW c p g low many) (t:Tr) (F:Str->Int->List (List Nat × Str)->Bs) (pl:List Nat) (hl:cN p t=false\/∃ c,p=.hole c) :
  aW (g.map fun tl=>if cN tl.pt t=true/\tl.pass=false then F tl.cls tl.cost ((eF tl.pt).map fun e=>(pl++e.1,e.2)) else none)=none:=by
 refine gF g fun tl ht=>if_neg fun z=>?_
 obtain ⟨h1,h2,_⟩:=h.all tl ht
 rcases hl with hl | ⟨c',hl⟩
 ·rw [h2,hl] at z;cases z.1
 ·have:tl.pass=true:=by unfold Tl.pass;rw [h2,hl]
  rw [this] at z;cases z.2
noncomputable def yD (im:Bool) (n s t:Int × Int) (fs:Fs) (pl:List Nat):Tr->Str->Bs
 | .num _,_=>none
 | .name _,e=>if (if im then (Str.ofString "mem") else (Str.ofString "r"))=e then some n else none
 | .turn _,e=>if (Str.ofString "r")=e then aZ (some t) (bH fs (pl++[0],"r")) else none
 | .two _ _ _,e=>if (Str.ofString "r")=e then aZ (some s) (aZ (bH fs (pl++[0],"r")) (bH fs (pl++[1],"r"))) else none
theorem Qj {im:Bool} {tls:List Tl} {n s t w:Int × Int} (h:gR im tls n s t w) {tr t':Tr} {pl:List Nat} (fs:Fs) (ht:tr.at pl=some t') (hp:t'.pl) (e:Str):fV fs (dH tls tr pl) e=yD im n s t fs pl t' e:=by
 unfold fV dH
 rw [ht]
 have:=CP (tls:=tls) (t:=t') (p:=pl) (fun c q sp=>if c=e then aZ (some (q,1)) (gS (sp.map (bH fs))) else none) tls [] rfl
 refine this.trans ?_
 obtain ⟨ways,sums,names,turns,rfl,hN,hS,hT,hW⟩:=h.eq
 simp only [List.map_append,kT]
 have hw0:aW (ways.map fun tl=>if cN tl.pt t'=true/\tl.pass=false then (if tl.cls=e then aZ (some (tl.cost,1)) (gS (((eF tl.pt).map fun e=>(pl++e.1,e.2)).map (bH fs))) else none) else none)=none:=by
  cases im with
  | true=>exact DL hW t' (fun c q sp=>if c=e then aZ (some (q,1)) (gS (sp.map (bH fs))) else none) pl (.inr ⟨_,rfl⟩)
  | false=>rw [hW.1];rfl
 rw [hw0,d4]
 have gz:∀ {c:Str} {p:Pt} {g:List Tl} {low many:Int},nW c p g low many->cN p t'=false->aW (g.map fun tl=>if cN tl.pt t'=true/\tl.pass=false then (if tl.cls=e then aZ (some (tl.cost,1)) (gS (((eF tl.pt).map fun e=>(pl++e.1,e.2)).map (bH fs))) else none) else none)=none:=fun hg hl=>DL hg t' (fun c q sp=>if c=e then aZ (some (q,1)) (gS (sp.map (bH fs))) else none) pl (.inl hl)
 have gs:∀ {c:Str} {p:Pt} {g:List Tl} {low many:Int},nW c p g low many->cN p t'=true->(∀ q:Pt,q=p->(match q with | .hole _=>true | _=>false)=false)->aW (g.map fun tl=>if cN tl.pt t'=true/\tl.pass=false then (if tl.cls=e then aZ (some (tl.cost,1)) (gS (((eF tl.pt).map fun e=>(pl++e.1,e.2)).map (bH fs))) else none) else none)=if c=e then aZ (some (low,many)) (gS (((eF p).map fun e=>(pl++e.1,e.2)).map (bH fs))) else none:=fun hg hl hh=>Nf hg e _ t' (fun c q sp=>if c=e then aZ (some (q,1)) (gS (sp.map (bH fs))) else none) pl (fun co=>rfl) hl hh
 cases t' with
 | num _=>cases hp
 | name x =>
  rw [gz hS rfl,gz hT rfl,gs hN rfl (fun q e=>by subst e;rfl),d4,cD]
  show (if _ then aZ (some (n.1,n.2)) (gS []) else none)=_
  show (if _ then aZ (some n) lJ else none)=_
  rw [nV];rfl
 | turn a =>
  rw [gz hS rfl,gz hN rfl,gs hT rfl (fun q e=>by subst e;rfl),d4,d4]
  show (if _ then aZ (some t) (aZ (bH fs (pl++[0],"r")) lJ) else none)=_
  rw [nV];rfl
 | two o a b =>
  obtain ⟨rfl,h1,h2⟩:=hp
  rw [gz hT rfl,gz hN rfl,gs hS rfl (fun q e=>by subst e;rfl),cD,cD]
  show (if _ then aZ (some s) (aZ (bH fs (pl++[0],"r")) (aZ (bH fs (pl++[1],"r")) lJ)) else none)=_
  rw [nV];rfl
theorem gR.mem {im:Bool} {tls:List Tl} {n s t w:Int × Int} (h:gR im tls n s t w):∀ tl∈tls,0<=tl.cost/\tl.cost<=10/\((tl.cls=(if im then (Str.ofString "mem") else (Str.ofString "r"))/\tl.pt=.any/\n.1<=tl.cost)\/(tl.cls="r"/\tl.pt=.two .sum (.hole "r") (.hole "r")/\s.1<=tl.cost)\/(tl.cls="r"/\tl.pt=.turn (.hole "r")/\t.1<=tl.cost)\/(im=true/\tl.cls="r"/\tl.pt=.hole "mem"/\w.1<=tl.cost)):=by
 obtain ⟨ways,sums,names,turns,rfl,hN,hS,hT,hW⟩:=h.eq
 have n0:=hN.lo;have s0:=hS.lo;have t0:=hT.lo
 intro tl hm
 rcases List.mem_append.mp hm with hm | hm
 ·rcases List.mem_append.mp hm with hm | hm
  ·rcases List.mem_append.mp hm with hm | hm
   ·cases im with
    | true =>
     have hW':nW "r" (.hole "mem") ways w.1 w.2:=hW
     obtain ⟨a,b,c,d⟩:=hW'.all tl hm
     have w0:=hW'.lo
     exact ⟨by omega,d,.inr (.inr (.inr ⟨rfl,a,b,c⟩))⟩
    | false=>rw [hW.1] at hm;cases hm
   ·obtain ⟨a,b,c,d⟩:=hS.all tl hm
    exact ⟨by omega,d,.inr (.inl ⟨a,b,c⟩)⟩
  ·obtain ⟨a,b,c,d⟩:=hN.all tl hm
   exact ⟨by omega,d,.inl ⟨a,b,c⟩⟩
 ·obtain ⟨a,b,c,d⟩:=hT.all tl hm
  exact ⟨by omega,d,.inr (.inr (.inl ⟨a,b,c⟩))⟩
theorem Om:R9 lD:=⟨by decide,by decide,by decide +kernel⟩
theorem oT:(Str.ofString "r")∈lD:=List.mem_cons_self
theorem Hc:(Str.ofString "mem")∈lD:=List.mem_cons_of_mem _ List.mem_cons_self
theorem Lz:PyData.strOk (Str.ofString "r")=true:=by decide +kernel
theorem So:PyData.strOk (Str.ofString "mem")=true:=by decide +kernel
theorem gR.tab {im:Bool} {tls:List Tl} {n s t w:Int × Int} (h:gR im tls n s t w):Tab lD tls:=by
 refine ⟨Om,fun tl hm=>?_,?_⟩
 ·obtain ⟨c0,c1,hc⟩:=h.mem tl hm
  obtain ⟨nm,cl,pt,co⟩:=tl
  simp only at hc c0 c1
  have hi:(if im then (Str.ofString "mem") else (Str.ofString "r"))∈lD:=by cases im;exact oT;exact Hc
  rcases hc with ⟨rfl,rfl,_⟩ | ⟨rfl,rfl,_⟩ | ⟨rfl,rfl,_⟩ | ⟨_,rfl,rfl,_⟩
  ·exact ⟨trivial,by show 1<=4;decide,hi,c0,by show co<=1000;omega⟩
  ·exact ⟨⟨Lz,Lz⟩,by show 2<=4;decide,oT,c0,by show co<=1000;omega⟩
  ·exact ⟨Lz,by show 2<=4;decide,oT,c0,by show co<=1000;omega⟩
  ·exact ⟨So,by show 1<=4;decide,oT,c0,by show co<=1000;omega⟩
 ·obtain ⟨ways,sums,names,turns,rfl,hN,hS,hT,hW⟩:=h.eq
  have l1:=hN.len;have l2:=hS.len;have l3:=hT.len
  have l4:ways.length<=8:=by
   cases im with
   | true=>exact (show nW "r" (.hole "mem") ways w.1 w.2 from hW).len
   | false=>rw [hW.1];decide
  simp only [List.length_append];omega
theorem gR.rng {im:Bool} {tls:List Tl} {n s t w:Int × Int} (h:gR im tls n s t w):Fx lD tls:=by
 refine ⟨h.tab,by decide +kernel,fun tl hm c hc=>?_⟩
 obtain ⟨_,_,h1⟩:=h.mem tl hm
 rcases h1 with ⟨_,e,_⟩ | ⟨_,e,_⟩ | ⟨_,e,_⟩ | ⟨_,_,e,_⟩
 ·rw [e] at hc;cases hc
 ·rw [e] at hc;cases hc
 ·rw [e] at hc;cases hc
 ·rw [e] at hc;cases hc;exact Hc
theorem v8 {c:Str} {p:Pt} {g:List Tl} {low many:Int} (h:nW c p g low many) (hp:∀ x,p≠.hole x):bA g=[]:=by
 unfold bA
 rw [List.filterMap_eq_nil_iff]
 intro tl ht
 obtain ⟨_,h2,_⟩:=h.all tl ht
 cases e:tl.pt with
 | hole x=>exact absurd (h2 ▸ e) (hp x)
 | any=>rfl
 | fr l h=>rfl
 | turn a=>rfl
 | two o a b=>rfl
theorem vF (a b:List Tl):bA (a++b)=bA a++bA b:=List.filterMap_append
theorem DP {c x:Str}:∀ {g:List Tl},(∀ tl∈g,tl.cls=c/\tl.pt=.hole x)->bA g=g.map fun tl=>((c,x),tl.cost)
 | [],_=>rfl
 | a :: r,h=>by
  obtain ⟨h1,h2⟩:=h a List.mem_cons_self
  rw [List.map_cons,<- DP (g:=r) fun tl ht=>h tl (List.mem_cons_of_mem _ ht)]
  unfold bA
  rw [List.filterMap_cons,h2,h1]
theorem gR.way {im:Bool} {tls:List Tl} {n s t w:Int × Int} (h:gR im tls n s t w) (f:Str->Bs):Wc lD (vJ (bA tls)) f ["r"] "r"=bR (f "r") (if im then aZ (some w) (f "mem") else none)/\Wc lD (vJ (bA tls)) f ["mem"] "mem"=f "mem"/\(bA tls).length<=8:=by
 obtain ⟨ways,sums,names,turns,rfl,hN,hS,hT,hW⟩:=h.eq
 have e:bA (ways++sums++names++turns)=bA ways:=by
  rw [vF,vF,vF,v8 hS (fun x z=>by cases z),v8 hN (fun x z=>by cases z),v8 hT (fun x z=>by cases z)];simp
 rw [e]
 cases im with
 | false =>
  rw [hW.1]
  exact ⟨rfl,cD _,by decide⟩
 | true =>
  have hW':nW "r" (.hole "mem") ways w.1 w.2:=hW
  rw [DP (c:="r") (x:="mem") fun tl ht=>⟨(hW'.all tl ht).1,(hW'.all tl ht).2.1⟩]
  refine ⟨?_,?_,by rw [List.length_map];exact hW'.len⟩
  ·show bR (f "r") (aW (((ways.map fun tl=>(((Str.ofString "r"),(Str.ofString "mem")),tl.cost)).map fun e=>(e.1,some (e.2,1))).map fun e:Ed=>aZ e.2 (if e.1.1=(Str.ofString "r")/\e.1.2 ∉ [Str.ofString "r"] then f e.1.2 else none)))=_
   rw [List.map_map,List.map_map]
   congr 1
   refine (eM (h:=fun tl:Tl=>aZ (f "mem") (some (tl.cost,1))) ways fun tl _=>?_).trans ?_
   ·show aZ (some (tl.cost,1)) (if (Str.ofString "r")=(Str.ofString "r")/\(Str.ofString "mem") ∉ [Str.ofString "r"] then f "mem" else none)=_
    rw [if_pos ⟨rfl,by decide +kernel⟩,jP]
   ·rw [wX,hW'.sum,jP,if_pos rfl]
  ·show bR (f "mem") (aW (((ways.map fun tl=>(((Str.ofString "r"),(Str.ofString "mem")),tl.cost)).map fun e=>(e.1,some (e.2,1))).map fun e:Ed=>aZ e.2 (if e.1.1=(Str.ofString "mem")/\e.1.2 ∉ [Str.ofString "mem"] then f e.1.2 else none)))=_
   rw [List.map_map,List.map_map,gF,cD]
   intro tl _
   show aZ (some (tl.cost,1)) (if (Str.ofString "r")=(Str.ofString "mem")/\(Str.ofString "mem") ∉ [Str.ofString "mem"] then f "mem" else none)=none
   rw [if_neg (fun z=>jI z.1.symm),bS]
theorem gR.few {im:Bool} {tls:List Tl} {n s t w:Int × Int} (h:gR im tls n s t w):HK lD (bA tls):=.inl ⟨by decide,by have:=(h.way fun _=>none).2.2;omega⟩
theorem tJ {x:Int} (h1:0<=x) (h2:x<=5):Builtin.Int.intBits x<=3:=by
 have e:x=0\/x=1\/x=2\/x=3\/x=4\/x=5:=by omega
 rcases e with rfl | rfl | rfl | rfl | rfl | rfl <;> decide
structure Small (n s t w:Int × Int):Prop where
 n:0<=n.1/\n.1<=5/\0<=n.2/\n.2<=5
 s:0<=s.1/\s.1<=5/\0<=s.2/\s.2<=5
 t:0<=t.1/\t.1<=5/\0<=t.2/\t.2<=5
 w:0<=w.1/\w.1<=5/\0<=w.2/\w.2<=5
theorem gR.small {im:Bool} {tls:List Tl} {n s t w:Int × Int} (h:gR im tls n s t w):Small n s t w:=by
 obtain ⟨ways,sums,names,turns,rfl,hN,hS,hT,hW⟩:=h.eq
 have a1:=hN.lo;have a2:=hN.mn;have b1:=hS.lo;have b2:=hS.mn;have c1:=hT.lo;have c2:=hT.mn
 refine ⟨⟨a1.1,a1.2,by omega,a2.2⟩,⟨b1.1,b1.2,by omega,b2.2⟩,⟨c1.1,c1.2,by omega,c2.2⟩,?_⟩
 cases im with
 | true =>
  have hW':nW "r" (.hole "mem") ways w.1 w.2:=hW
  have d1:=hW'.lo;have d2:=hW'.mn
  exact ⟨d1.1,d1.2,by omega,d2.2⟩
 | false=>rw [hW.2];decide
theorem rV {n s t w:Int × Int} (h:Small n s t w):∀ tr:Tr,0<=(cE n s t w tr).1/\(cE n s t w tr).1<=10 * tr.size/\Builtin.Int.intBits (cE n s t w tr).2<=6 * tr.size
 | .num _=>by simp only [cE,Tr.size];exact ⟨by omega,by omega,by decide⟩
 | .name _=>by
  have h1:=h.n;have h2:=h.w
  simp only [cE,Tr.size]
  exact ⟨by omega,by omega,bits_mul (tJ h1.2.2.1 h1.2.2.2) (tJ h2.2.2.1 h2.2.2.2) (by decide)⟩
 | .turn a=>by
  obtain ⟨i1,i2,i3⟩:=rV h a
  have h1:=h.t
  simp only [cE,Tr.size]
  exact ⟨by omega,by omega,bits_mul (tJ h1.2.2.1 h1.2.2.2) i3 (by omega)⟩
 | .two o a b=>by
  obtain ⟨i1,i2,i3⟩:=rV h a
  obtain ⟨j1,j2,j3⟩:=rV h b
  have h1:=h.s
  simp only [cE,Tr.size]
  exact ⟨by omega,by omega,bits_mul (tJ h1.2.2.1 h1.2.2.2) (bits_mul i3 j3 (Nat.le_refl _)) (by omega)⟩
theorem G0 {im:Bool} {n s t w:Int × Int} {tr:Tr}:Hy im n s t w tr "r"=some (cE n s t w tr):=if_pos rfl
theorem RQ {im:Bool} {n s t w:Int × Int} {tr:Tr}:Hy im n s t w tr "mem"=Dc im n tr:=if_neg jI
theorem zB:∀ (tr:Tr) (p:List Nat) (t':Tr),tr.pl->tr.at p=some t'->t'.pl
 | tr,[],t',hp,h=>by rw [dF] at h;cases h;exact hp
 | .num _,_ :: _,t',hp,h=>by cases hp
 | .name _,_ :: _,t',hp,h=>by simp [Tr.at] at h
 | .turn a,0 :: r,t',hp,h=>zB a r t' hp h
 | .turn a,(_ + 1) :: r,t',hp,h=>by simp [Tr.at] at h
 | .two _ a b,0 :: r,t',hp,h=>zB a r t' hp.2.1 h
 | .two _ a b,1 :: r,t',hp,h=>zB b r t' hp.2.2 h
 | .two _ a b,(_ + 2) :: r,t',hp,h=>by simp [Tr.at] at h
theorem Iw {m:List (Str × (Int × Int))} (hn:(m.map (·.1)).Nodup) {e:Str × (Int × Int)} (he:e∈m):aW (m.map fun x=>aZ (some x.2) (if x.1=e.1 then lJ else none))=some e.2:=by
 induction m with
 | nil=>cases he
 | cons a r ih =>
  rw [List.map_cons,List.nodup_cons] at hn
  rw [List.map_cons,aW]
  rcases List.mem_cons.mp he with rfl | he'
  ·rw [if_pos rfl,nV,gF,cD]
   intro x hx
   rw [if_neg (fun z:x.1=e.1=>hn.1 (z ▸ List.mem_map.mpr ⟨x,hx,rfl⟩)),bS]
  ·rw [if_neg (fun z:a.1=e.1=>hn.1 (z ▸ List.mem_map.mpr ⟨e,he',rfl⟩)),bS,d4]
   exact ih hn.2 he'
section
variable {n s t:Int × Int} {fs:Fs} {p:List Nat} {x:Str} {im:Bool} {a b:Tr} {o:Op}
theorem Q0:yD true n s t fs p (.name x) "mem"=some n:=by
 show (if (Str.ofString "mem")=(Str.ofString "mem") then some n else none)=_
 rw [if_pos rfl]
theorem Ny:yD true n s t fs p (.name x) "r"=none:=by
 show (if (Str.ofString "mem")=(Str.ofString "r") then some n else none)=_
 rw [if_neg jI]
theorem Po:yD false n s t fs p (.name x) "r"=some n:=by
 show (if (Str.ofString "r")=(Str.ofString "r") then some n else none)=_
 rw [if_pos rfl]
theorem OB:yD false n s t fs p (.name x) "mem"=none:=by
 show (if (Str.ofString "r")=(Str.ofString "mem") then some n else none)=_
 rw [if_neg (fun z=>jI z.symm)]
theorem O9:yD im n s t fs p (.turn a) "mem"=none:=by
 show (if (Str.ofString "r")=(Str.ofString "mem") then aZ (some t) (bH fs (p++[0],"r")) else none)=_
 rw [if_neg (fun z=>jI z.symm)]
theorem O4:yD im n s t fs p (.two o a b) "mem"=none:=by
 show (if (Str.ofString "r")=(Str.ofString "mem") then aZ (some s) (aZ (bH fs (p++[0],"r")) (bH fs (p++[1],"r"))) else none)=_
 rw [if_neg (fun z=>jI z.symm)]
end
theorem gR.hv {im:Bool} {tls:List Tl} {n s t w:Int × Int} (h:gR im tls n s t w) {tr:Tr} (hp:tr.pl) (hs:tr.size<=100):P6 lD tls tr (Hy im n s t w):=by
 have hsm:=h.small
 have b1:Builtin.Int.intBits 1<=1000000:=by decide
 refine ⟨fun t' p fs ht hk=>?_,fun t2 k b hs2 hb=>?_,fun c hc m ho e he=>?_,fun tl ht e he=>?_⟩
 ·have hp':=zB tr p t' hp ht
  have hz:=m9 tr p t' ht
  have hv:=rV hsm t'
  have htop:=fun e=>Qj h fs ht hp' e
  have hr:∀ (a:Tr) (i:Nat),t'.at [i]=some a->bH fs (p++[i],"r")=some (cE n s t w a):=fun a i ha=>by rw [hk [i] a (by simp) ha "r" oT,G0]
  have hm0:=htop "mem"
  have hr0:=htop "r"
  have key:fV fs (dH tls tr p) "mem"=Dc im n t'/\bR (fV fs (dH tls tr p) "r") (if im then aZ (some w) (fV fs (dH tls tr p) "mem") else none)=some (cE n s t w t'):=by
   cases t' with
   | num _=>cases hp'
   | name x =>
    cases im with
    | true =>
     have e1:fV fs (dH tls tr p) "mem"=some n:=by rw [hm0];exact Q0
     have e2:fV fs (dH tls tr p) "r"=none:=by rw [hr0];exact Ny
     refine ⟨e1,?_⟩
     rw [e2,e1,d4,if_pos rfl,jP];rfl
    | false =>
     have e1:fV fs (dH tls tr p) "mem"=none:=by rw [hm0];exact OB
     have e2:fV fs (dH tls tr p) "r"=some n:=by rw [hr0];exact Po
     refine ⟨e1,?_⟩
     have hw:w=(0,1):=by
      obtain ⟨_,_,_,_,_,_,_,_,hW⟩:=h.eq
      exact hW.2
     rw [e2,if_neg (by decide),cD,hw]
     simp only [cE,Int.add_zero,Int.mul_one]
   | turn a =>
    have e1:fV fs (dH tls tr p) "mem"=none:=by rw [hm0];exact O9
    have e2:fV fs (dH tls tr p) "r"=some (cE n s t w (.turn a)):=by
     rw [hr0]
     show (if (Str.ofString "r")=(Str.ofString "r") then aZ (some t) (bH fs (p++[0],"r")) else none)=_
     rw [if_pos rfl,hr a 0 (dF a)];rfl
    refine ⟨e1,?_⟩
    rw [e2,e1,bS,ite_self,cD]
   | two o a b =>
    have e1:fV fs (dH tls tr p) "mem"=none:=by rw [hm0];exact O4
    have e2:fV fs (dH tls tr p) "r"=some (cE n s t w (.two o a b)):=by
     rw [hr0]
     show (if (Str.ofString "r")=(Str.ofString "r") then aZ (some s) (aZ (bH fs (p++[0],"r")) (bH fs (p++[1],"r"))) else none)=_
     rw [if_pos rfl,hr a 0 (dF a),hr b 1 (dF b)];rfl
    refine ⟨e1,?_⟩
    rw [e2,e1,bS,ite_self,cD]
  refine ⟨fun k hk'=>?_,fun e b he=>?_⟩
  ·rcases List.mem_cons.mp hk' with rfl | hk'
   ·rw [(h.way _).1,key.2];exact G0.symm
   ·cases List.mem_singleton.mp hk'
    rw [(h.way _).2.1,key.1];exact RQ.symm
  ·rw [htop e] at he
   have n5:Builtin.Int.intBits n.2<=1000000:=Nat.le_trans (tJ hsm.n.2.2.1 hsm.n.2.2.2) (by decide)
   cases t' with
   | num _=>cases he
   | name x =>
    have he':(if (if im then (Str.ofString "mem") else (Str.ofString "r"))=e then some n else none)=some b:=he
    by_cases z:(if im then (Str.ofString "mem") else (Str.ofString "r"))=e
    ·rw [if_pos z] at he';cases he';exact n5
    ·rw [if_neg z] at he';cases he'
   | turn a =>
    have he':(if (Str.ofString "r")=e then aZ (some t) (bH fs (p++[0],"r")) else none)=some b:=he
    split at he'
    ·rw [hr a 0 (dF a)] at he'
     have:b=cE n s t w (.turn a):=(Option.some.inj he').symm
     rw [this];omega
    ·cases he'
   | two o a b' =>
    have he':(if (Str.ofString "r")=e then aZ (some s) (aZ (bH fs (p++[0],"r")) (bH fs (p++[1],"r"))) else none)=some b:=he
    split at he'
    ·rw [hr a 0 (dF a),hr b' 1 (dF b')] at he'
     have:b=cE n s t w (.two o a b'):=(Option.some.inj he').symm
     rw [this];omega
    ·cases he'
 ·unfold Hy at hb
  split at hb
  ·cases hb
   obtain ⟨h1,h2,h3⟩:=rV hsm t2
   exact ⟨h1,by omega,by omega⟩
  ·cases t2 with
   | name x =>
    have hb':(if im then some n else none)=some b:=hb
    split at hb'
    ·cases hb'
     exact ⟨hsm.n.1,by have:=hsm.n;omega,Nat.le_trans (tJ hsm.n.2.2.1 hsm.n.2.2.2) (by decide)⟩
    ·cases hb'
   | num _=>cases hb
   | turn a=>cases hb
   | two o a b=>cases hb
 ·have hsum:=ho.sum (fun x=>if x=e.1 then lJ else none)
  rw [Iw ho.nd he] at hsum
  have hw5:Builtin.Int.intBits w.2<=1000000:=Nat.le_trans (tJ hsm.w.2.2.1 hsm.w.2.2.2) (by decide)
  rcases List.mem_cons.mp hc with rfl | hc
  ·rw [(h.way _).1] at hsum
   rcases List.mem_cons.mp (ho.kc e he) with z | z
   ·have z2:¬ (Str.ofString "mem")=e.1:=fun q=>jI (q.trans z)
    simp only [z2,if_false] at hsum
    rw [if_pos (show (Str.ofString "r")=e.1 from z.symm),bS,ite_self,cD] at hsum
    have:e.2=(0,1):=Option.some.inj hsum
    rw [this];exact b1
   ·have z:=List.mem_singleton.mp z
    have z2:¬ (Str.ofString "r")=e.1:=fun q=>jI (z.symm.trans q.symm)
    simp only [z2,if_false] at hsum
    rw [if_pos (show (Str.ofString "mem")=e.1 from z.symm),d4,nV] at hsum
    cases im with
    | true =>
     have:e.2=w:=Option.some.inj hsum
     rw [this];exact hw5
    | false=>cases hsum
  ·cases List.mem_singleton.mp hc
   rw [(h.way _).2.1] at hsum
   split at hsum
   ·have:e.2=(0,1):=Option.some.inj hsum
    rw [this];exact b1
   ·cases hsum
 ·obtain ⟨_,_,h1⟩:=h.mem tl ht
  rcases h1 with ⟨_,e1,_⟩ | ⟨_,e1,_⟩ | ⟨_,e1,_⟩ | ⟨_,_,e1,_⟩
  ·rw [e1] at he;cases he
  ·rw [e1] at he
   have:e∈[([0],(Str.ofString "r")),([1],(Str.ofString "r"))]:=he
   rcases List.mem_cons.mp this with rfl | this
   ·exact oT
   ·cases List.mem_singleton.mp this;exact oT
  ·rw [e1] at he
   have:e∈[([0],(Str.ofString "r"))]:=he
   cases List.mem_singleton.mp this;exact oT
  ·rw [e1] at he
   have:e∈[(([]:List Nat),(Str.ofString "mem"))]:=he
   cases List.mem_singleton.mp this;exact Hc
theorem Bd.jf {t:Tr} {tls:List Tl} {cs:List Str} {vs:VS} {chs:CS} (hT:Tab cs tls) (b:Bd t tls cs t.places.reverse vs chs) {p:List Nat} {t':Tr} (ht:t.at p=some t') :
  (∀ c v,bL vs (p,c)=some v->∃ tl∈tls,cN tl.pt t'=true/\tl.cls=c/\∃ w,cI (bL vs) ((eF tl.pt).map fun e=>(p++e.1,e.2))=some w/\v=tl.cost + w) /\
  ∀ tl∈tls,cN tl.pt t'=true->∀ w,cI (bL vs) ((eF tl.pt).map fun e=>(p++e.1,e.2))=some w->∃ v,bL vs (p,tl.cls)=some v/\v<=tl.cost + w:=by
 obtain ⟨vs0,m,ch,k⟩:=b.full hT ht
 have hc:∀ l∈bY t' p 0 tls,cI (cur vs0 p m) l.spots=cI (bL vs) l.spots:=fun l hl=>oK fun s hs=>by
  unfold cur
  by_cases z:s.1=p
  ·rw [if_pos z,<- k.v s.2,<- z]
  ·rw [if_neg z,k.old s (((k.ok l hl).there s hs).resolve_left z)]
 refine ⟨fun c v hv=>?_,fun tl ht hl w hw=>?_⟩
 ·rw [k.v] at hv
  obtain ⟨_,_,l,_,a2,a3,w,a4,a5⟩:=k.f.just c v hv
  rw [hc l a2] at a4
  obtain ⟨i,tl,e1,e2,rfl⟩:=nN a2
  exact ⟨tl,List.mem_of_getElem? e1,e2,a3,w,a4,a5⟩
 ·obtain ⟨i,hi⟩:=List.getElem?_of_mem ht
  have hin:=EW (t:=t') (p:=p) (k:=0) hi hl
  rw [<- hc _ hin] at hw
  obtain ⟨v,h1,h2⟩:=k.f.fix _ hin w hw
  exact ⟨v,by rw [k.v];exact h1,h2⟩
theorem yF {f:List Nat × Str->Option Int} {s:List Nat × Str} {a:Int} (h:f s=some a):cI f [s]=some a:=by
 have:=qL (r:=[]) (b:=0) h rfl
 rwa [Int.add_zero] at this
theorem BK {f:List Nat × Str->Option Int} {s:List Nat × Str} {w:Int} (h:cI f [s]=some w):f s=some w:=by
 obtain ⟨a,b,h1,h2,rfl⟩:=iN h
 have:b=0:=(Option.some.inj h2).symm
 rw [this,Int.add_zero];exact h1
theorem CI {f:List Nat × Str->Option Int} {s s':List Nat × Str} {a a':Int} (h:f s=some a) (h':f s'=some a'):cI f [s,s']=some (a + a'):=qL h (yF h')
theorem Im {f:List Nat × Str->Option Int} {s s':List Nat × Str} {w a a':Int} (h:f s=some a) (h':f s'=some a') (e:cI f [s,s']=some w):w=a + a':=by rw [CI h h'] at e;exact (Option.some.inj e).symm
theorem gR.has {im:Bool} {tls:List Tl} {n s t w:Int × Int} (h:gR im tls n s t w):(∃ tl∈tls,tl.cls=(if im then (Str.ofString "mem") else (Str.ofString "r"))/\tl.pt=.any/\tl.cost=n.1)/\(∃ tl∈tls,tl.cls=(Str.ofString "r")/\tl.pt=.two .sum (.hole "r") (.hole "r")/\tl.cost=s.1)/\(∃ tl∈tls,tl.cls=(Str.ofString "r")/\tl.pt=.turn (.hole "r")/\tl.cost=t.1)/\(im=true->∃ tl∈tls,tl.cls=(Str.ofString "r")/\tl.pt=.hole "mem"/\tl.cost=w.1)/\(im=false->w=(0,1)):=by
 obtain ⟨ways,sums,names,turns,rfl,hN,hS,hT,hW⟩:=h.eq
 refine ⟨?_,?_,?_,fun hi=>?_,fun hi=>?_⟩
 ·obtain ⟨tl,h1,h2⟩:=hN.has
  exact ⟨tl,by simp [h1],(hN.all tl h1).1,(hN.all tl h1).2.1,h2⟩
 ·obtain ⟨tl,h1,h2⟩:=hS.has
  exact ⟨tl,by simp [h1],(hS.all tl h1).1,(hS.all tl h1).2.1,h2⟩
 ·obtain ⟨tl,h1,h2⟩:=hT.has
  exact ⟨tl,by simp [h1],(hT.all tl h1).1,(hT.all tl h1).2.1,h2⟩
 ·subst hi
  have hW':nW "r" (.hole "mem") ways w.1 w.2:=hW
  obtain ⟨tl,h1,h2⟩:=hW'.has
  exact ⟨tl,by simp [h1],(hW'.all tl h1).1,(hW'.all tl h1).2.1,h2⟩
 ·subst hi;exact hW.2
theorem gR.label {im:Bool} {tls:List Tl} {n s t w:Int × Int} (h:gR im tls n s t w) {tr:Tr} (hp:tr.pl) {vs:VS} {chs:CS} (b:Bd tr tls lD tr.places.reverse vs chs):∀ (k:Nat) (t':Tr) (p:List Nat),t'.size<=k->tr.at p=some t'->bL vs (p,"mem")=(Dc im n t').map (·.1)/\bL vs (p,"r")=some (cE n s t w t').1:=by
 intro k
 induction k with
 | zero=>intro t' p h;have:=size_pos t';omega
 | succ k ih =>
  intro t' p hk ht
  obtain ⟨J,F⟩:=b.jf h.tab ht
  have hp':=zB tr p t' hp ht
  obtain ⟨⟨tn,tn1,tn2,tn3,tn4⟩,⟨ts,ts1,ts2,ts3,ts4⟩,⟨tt,tt1,tt2,tt3,tt4⟩,hw1,hw0⟩:=h.has
  have kid:∀ (a:Tr) (i:Nat),t'.at [i]=some a->a.size < t'.size->bL vs (p++[i],"r")=some (cE n s t w a).1:=fun a i ha hz=>(ih a (p++[i]) (by omega) (by rw [kH tr p [i] t' ht];exact ha)).2
  have hmem:bL vs (p,"mem")=(Dc im n t').map (·.1):=by
   cases hv:bL vs (p,"mem") with
   | none =>
    cases t' with
    | name x =>
     cases im with
     | true =>
      obtain ⟨v,v1,_⟩:=F tn tn1 (by rw [tn3];rfl) 0 (by rw [tn3];rfl)
      rw [tn2] at v1
      have v1':bL vs (p,"mem")=some v:=v1
      rw [hv] at v1';cases v1'
     | false=>rfl
    | num _=>rfl
    | turn _=>rfl
    | two _ _ _=>rfl
   | some v =>
    obtain ⟨tl,hm,hl,hc,w1,hw,rfl⟩:=J _ _ hv
    obtain ⟨_,_,hcs⟩:=h.mem tl hm
    rcases hcs with ⟨c1,c2,c3⟩ | ⟨c1,_⟩ | ⟨c1,_⟩ | ⟨_,c1,_⟩
    ·rw [c2] at hl hw
     cases t' with
     | name x =>
      cases im with
      | true =>
       have hw':w1=0:=(Option.some.inj hw).symm
       obtain ⟨v,v1,v2⟩:=F tn tn1 (by rw [tn3];rfl) 0 (by rw [tn3];rfl)
       rw [tn2] at v1
       have v1':bL vs (p,"mem")=some v:=v1
       rw [hv] at v1'
       have v3:tl.cost + w1=v:=Option.some.inj v1'
       show some (tl.cost + w1)=some n.1
       congr 1;omega
      | false=>exact absurd (c1.symm.trans hc).symm jI
     | num _=>cases hl
     | turn _=>cases hl
     | two _ _ _=>cases hl
    ·exact absurd (c1.symm.trans hc).symm jI
    ·exact absurd (c1.symm.trans hc).symm jI
    ·exact absurd (c1.symm.trans hc).symm jI
  refine ⟨hmem,?_⟩
  have hex:∃ v,bL vs (p,"r")=some v/\v<=(cE n s t w t').1:=by
   cases t' with
   | num _=>cases hp'
   | name x =>
    cases im with
    | true =>
     obtain ⟨tw,tw1,tw2,tw3,tw4⟩:=hw1 rfl
     obtain ⟨v,v1,v2⟩:=F tw tw1 (by rw [tw3];rfl) n.1 (by
      rw [tw3]
      show cI (bL vs) [(p++[],"mem")]=_
      rw [List.append_nil]
      exact yF (by rw [hmem];rfl))
     rw [tw2] at v1
     exact ⟨v,v1,by simp only [cE];omega⟩
    | false =>
     obtain ⟨v,v1,v2⟩:=F tn tn1 (by rw [tn3];rfl) 0 (by rw [tn3];rfl)
     rw [tn2] at v1
     have:=hw0 rfl
     exact ⟨v,v1,by simp only [cE,this];omega⟩
   | turn a =>
    obtain ⟨v,v1,v2⟩:=F tt tt1 (by rw [tt3];rfl) (cE n s t w a).1 (by
     rw [tt3]
     exact yF (s:=(p++[0],"r")) (kid a 0 (dF a) (by simp only [Tr.size];omega)))
    rw [tt2] at v1
    exact ⟨v,v1,by simp only [cE];omega⟩
   | two o a b' =>
    obtain ⟨rfl,_,_⟩:=hp'
    have za:=size_pos a;have zb:=size_pos b'
    obtain ⟨v,v1,v2⟩:=F ts ts1 (by rw [ts3];rfl) ((cE n s t w a).1 + (cE n s t w b').1) (by
     rw [ts3]
     exact CI (s:=(p++[0],"r")) (s':=(p++[1],"r")) (kid a 0 (dF a) (by simp only [Tr.size];omega)) (kid b' 1 (dF b') (by simp only [Tr.size];omega)))
    rw [ts2] at v1
    exact ⟨v,v1,by simp only [cE];omega⟩
  obtain ⟨v,hv,hle⟩:=hex
  obtain ⟨tl,hm,hl,hc,w1,hw,hvw⟩:=J _ _ hv
  obtain ⟨_,_,hcs⟩:=h.mem tl hm
  have hge:(cE n s t w t').1<=v:=by
   rcases hcs with ⟨c1,c2,c3⟩ | ⟨c1,c2,c3⟩ | ⟨c1,c2,c3⟩ | ⟨hi,c1,c2,c3⟩
   ·rw [c2] at hl hw
    cases t' with
    | name x =>
     cases im with
     | true=>exact absurd (c1.symm.trans hc) jI
     | false =>
      have hw':w1=0:=(Option.some.inj hw).symm
      have:=hw0 rfl
      simp only [cE,this];omega
    | num _=>cases hl
    | turn _=>cases hl
    | two _ _ _=>cases hl
   ·rw [c2] at hl hw
    cases t' with
    | name x=>cases hl
    | num _=>cases hl
    | turn _=>cases hl
    | two o a b' =>
     have za:=size_pos a;have zb:=size_pos b'
     have:=Im (s:=(p++[0],"r")) (s':=(p++[1],"r")) (kid a 0 (dF a) (by simp only [Tr.size];omega)) (kid b' 1 (dF b') (by simp only [Tr.size];omega)) hw
     simp only [cE];omega
   ·rw [c2] at hl hw
    cases t' with
    | name x=>cases hl
    | num _=>cases hl
    | two _ _ _=>cases hl
    | turn a =>
     have h1:=kid a 0 (dF a) (by simp only [Tr.size];omega)
     have h2:=BK (s:=(p++[0],"r")) hw
     rw [h1] at h2
     have:(cE n s t w a).1=w1:=Option.some.inj h2
     simp only [cE];omega
   ·rw [c2] at hw
    have h2:=BK (s:=(p++[],"mem")) hw
    rw [List.append_nil] at h2
    have h2':=hmem.symm.trans h2
    cases t' with
    | name x =>
     subst hi
     have:n.1=w1:=Option.some.inj h2'
     simp only [cE];omega
    | num _=>cases h2'
    | turn _=>cases h2'
    | two _ _ _=>cases h2'
  rw [hv];congr 1;omega
noncomputable def fY (im:Bool):Tr->Nat
 | .num _=>1
 | .name _=>if im then 2 else 1
 | .turn a=>1 + fY im a
 | .two _ a b=>1 + (fY im a + fY im b)
theorem LJ (im:Bool):∀ t:Tr,1<=fY im t
 | .num _=>by simp [fY]
 | .name _=>by cases im <;> simp [fY]
 | .turn a=>by simp [fY]
 | .two _ a b=>by simp [fY]
noncomputable def Hg (im:Bool) (w:Wt):Nat:=if w.c="r" then fY im w.t else fY im w.t - 1
theorem gR.run {im:Bool} {tls:List Tl} {n s t w:Int × Int} (h:gR im tls n s t w):∀ (ks:List Int) (ws:List Wt),(∀ x∈ws,x.t.pl)->AU tls (ks.map U.int) ws=true->ks.length=(ws.map (Hg im)).sum
 | [],ws,_,hr=>by
  have:ws=[]:=List.isEmpty_iff.mp hr
  rw [this];rfl
 | k :: ks,ws,hw,hr=>by
  have hr':(match oS tls k ws with | some st'=>AU tls (ks.map U.int) st' | none=>false)=true:=hr
  cases hs:oS tls k ws with
  | none=>rw [hs] at hr';cases hr'
  | some st =>
   rw [hs] at hr'
   cases ws with
   | nil=>cases hs
   | cons x ws =>
    simp only [oS] at hs
    split at hs
    ·split at hs
     ·rename_i tl htl
      split at hs
      ·rename_i hcond
       obtain ⟨q1,q2,q3⟩:=hcond
       have hst:st=below tl x++ws:=(Option.some.inj hs).symm
       have hx:=hw x List.mem_cons_self
       have hws:∀ y∈ws,y.t.pl:=fun y hy=>hw y (List.mem_cons_of_mem _ hy)
       obtain ⟨_,_,hcs⟩:=h.mem tl (List.mem_of_getElem? htl)
       have main:(∀ y∈below tl x,y.t.pl)/\Hg im x=1 + ((below tl x).map (Hg im)).sum:=by
        obtain ⟨xt,xc,xp⟩:=x
        simp only at q1 q2 q3 hx
        unfold below
        rcases hcs with ⟨c1,c2,c3⟩ | ⟨c1,c2,c3⟩ | ⟨c1,c2,c3⟩ | ⟨hi,c1,c2,c3⟩
        ·rw [c2] at q3 ⊢
         cases xt with
         | name z =>
          refine ⟨fun y hy=>(by cases hy),?_⟩
          rw [<- q1,c1]
          cases im with
          | true =>
           show (if (Str.ofString "mem")=(Str.ofString "r") then 2 else 2 - 1)=1
           rw [if_neg jI]
          | false =>
           show (if (Str.ofString "r")=(Str.ofString "r") then 1 else 1 - 1)=1
           rw [if_pos rfl]
         | num _=>cases q3
         | turn _=>cases q3
         | two _ _ _=>cases q3
        ·rw [c2] at q3 ⊢
         cases xt with
         | name z=>cases q3
         | num _=>cases q3
         | turn _=>cases q3
         | two o a b =>
          refine ⟨fun y hy=>?_,?_⟩
          ·have hy':y∈[(⟨a,"r",nZ tl ⟨.two o a b,xc,xp⟩⟩:Wt),⟨b,"r",nZ tl ⟨.two o a b,xc,xp⟩⟩]:=hy
           rcases List.mem_cons.mp hy' with rfl | hy'
           ·exact hx.2.1
           ·cases List.mem_singleton.mp hy';exact hx.2.2
          ·rw [<- q1,c1]
           show (if (Str.ofString "r")=(Str.ofString "r") then 1 + (fY im a + fY im b) else _)=1 + ((if (Str.ofString "r")=(Str.ofString "r") then fY im a else _) + ((if (Str.ofString "r")=(Str.ofString "r") then fY im b else _) + 0))
           rw [if_pos rfl,if_pos rfl,if_pos rfl];omega
        ·rw [c2] at q3 ⊢
         cases xt with
         | name z=>cases q3
         | num _=>cases q3
         | two _ _ _=>cases q3
         | turn a =>
          refine ⟨fun y hy=>?_,?_⟩
          ·have hy':y∈[(⟨a,"r",nZ tl ⟨.turn a,xc,xp⟩⟩:Wt)]:=hy
           cases List.mem_singleton.mp hy';exact hx
          ·rw [<- q1,c1]
           show (if (Str.ofString "r")=(Str.ofString "r") then 1 + fY im a else _)=1 + ((if (Str.ofString "r")=(Str.ofString "r") then fY im a else _) + 0)
           rw [if_pos rfl,if_pos rfl];omega
        ·rw [c2] at q3 ⊢
         refine ⟨fun y hy=>?_,?_⟩
         ·have hy':y∈[(⟨xt,"mem",nZ tl ⟨xt,xc,xp⟩⟩:Wt)]:=by cases xt <;> exact hy
          cases List.mem_singleton.mp hy';exact hx
         ·have e:(iJ (.hole (Str.ofString "mem")) xt)=[(xt,Str.ofString "mem")]:=by cases xt <;> rfl
          rw [e,<- q1,c1]
          have:=LJ im xt
          show (if (Str.ofString "r")=(Str.ofString "r") then fY im xt else _)=1 + ((if (Str.ofString "mem")=(Str.ofString "r") then fY im xt else fY im xt - 1) + 0)
          rw [if_pos rfl,if_neg jI];omega
       rw [hst] at hr'
       have ih:=gR.run h ks (below tl x++ws) (fun y hy=>(List.mem_append.mp hy).elim (main.1 y) (hws y)) hr'
       rw [List.map_append,List.sum_append] at ih
       rw [List.length_cons,ih,List.map_cons,List.sum_cons,main.2];omega
      ·cases hs
     ·cases hs
    ·cases hs
theorem sF (n s t w:Int × Int):∀ tr:Tr,tr.pl->(cE n s t w tr).1=(n.1 + w.1) * (tr.cnt "name":Nat) + s.1 * (tr.cnt "sum":Nat) + t.1 * (tr.cnt "turn":Nat)/\(cE n s t w tr).2=(n.2 * w.2) ^ tr.cnt "name" * s.2 ^ tr.cnt "sum" * t.2 ^ tr.cnt "turn"
 | .num _,h=>by cases h
 | .name x,_=>by
  have e1:(Tr.name x).cnt "name"=1:=by show bT _ _=1;decide +kernel
  have e2:(Tr.name x).cnt "sum"=0:=by show bT _ _=0;decide +kernel
  have e3:(Tr.name x).cnt "turn"=0:=by show bT _ _=0;decide +kernel
  rw [e1,e2,e3]
  refine ⟨by simp [cE],?_⟩
  simp [cE,Int.pow_succ]
 | .turn a,h=>by
  obtain ⟨i1,i2⟩:=sF n s t w a h
  have e1:(Tr.turn a).cnt "name"=a.cnt "name":=by show bT _ _ + _=_;rw [show bT (Str.ofString "turn") (Str.ofString "name")=0 by decide +kernel];omega
  have e2:(Tr.turn a).cnt "sum"=a.cnt "sum":=by show bT _ _ + _=_;rw [show bT (Str.ofString "turn") (Str.ofString "sum")=0 by decide +kernel];omega
  have e3:(Tr.turn a).cnt "turn"=a.cnt "turn" + 1:=by show bT _ _ + _=_;rw [show bT (Str.ofString "turn") (Str.ofString "turn")=1 by decide +kernel];omega
  rw [e1,e2,e3]
  simp only [cE,i1,i2]
  refine ⟨?_,?_⟩
  ·rw [show ((a.cnt "turn" + 1:Nat):Int)=(a.cnt "turn":Nat) + 1 by omega,Int.mul_add,Int.mul_one];omega
  ·rw [Int.pow_succ];ac_rfl
 | .two o a b,h=>by
  obtain ⟨rfl,h1,h2⟩:=h
  obtain ⟨i1,i2⟩:=sF n s t w a h1
  obtain ⟨j1,j2⟩:=sF n s t w b h2
  have e1:(Tr.two .sum a b).cnt "name"=a.cnt "name" + b.cnt "name":=by show bT _ _ + _ + _=_;rw [show bT (Op.word .sum) (Str.ofString "name")=0 by decide +kernel];omega
  have e2:(Tr.two .sum a b).cnt "sum"=a.cnt "sum" + b.cnt "sum" + 1:=by show bT _ _ + _ + _=_;rw [show bT (Op.word .sum) (Str.ofString "sum")=1 by decide +kernel];omega
  have e3:(Tr.two .sum a b).cnt "turn"=a.cnt "turn" + b.cnt "turn":=by show bT _ _ + _ + _=_;rw [show bT (Op.word .sum) (Str.ofString "turn")=0 by decide +kernel];omega
  rw [e1,e2,e3]
  simp only [cE,i1,i2,j1,j2]
  refine ⟨?_,?_⟩
  ·rw [show ((a.cnt "sum" + b.cnt "sum" + 1:Nat):Int)=(a.cnt "sum":Nat) + (b.cnt "sum":Nat) + 1 by omega,show ((a.cnt "name" + b.cnt "name":Nat):Int)=(a.cnt "name":Nat) + (b.cnt "name":Nat) by omega,show ((a.cnt "turn" + b.cnt "turn":Nat):Int)=(a.cnt "turn":Nat) + (b.cnt "turn":Nat) by omega]
   simp only [Int.mul_add,Int.mul_one];omega
  ·rw [Int.pow_succ,Int.pow_add,Int.pow_add,Int.pow_add];ac_rfl
theorem wF (im:Bool):∀ tr:Tr,tr.pl->fY im tr=tr.cnt "name" + tr.cnt "sum" + tr.cnt "turn" + (if im then tr.cnt "name" else 0)
 | .num _,h=>by cases h
 | .name x,_=>by
  have e1:(Tr.name x).cnt "name"=1:=by show bT _ _=1;decide +kernel
  have e2:(Tr.name x).cnt "sum"=0:=by show bT _ _=0;decide +kernel
  have e3:(Tr.name x).cnt "turn"=0:=by show bT _ _=0;decide +kernel
  rw [e1,e2,e3]
  cases im <;> rfl
 | .turn a,h=>by
  have i1:=wF im a h
  have e1:(Tr.turn a).cnt "name"=a.cnt "name":=by show bT _ _ + _=_;rw [show bT (Str.ofString "turn") (Str.ofString "name")=0 by decide +kernel];omega
  have e2:(Tr.turn a).cnt "sum"=a.cnt "sum":=by show bT _ _ + _=_;rw [show bT (Str.ofString "turn") (Str.ofString "sum")=0 by decide +kernel];omega
  have e3:(Tr.turn a).cnt "turn"=a.cnt "turn" + 1:=by show bT _ _ + _=_;rw [show bT (Str.ofString "turn") (Str.ofString "turn")=1 by decide +kernel];omega
  rw [e1,e2,e3]
  simp only [fY,i1];omega
 | .two o a b,h=>by
  obtain ⟨rfl,h1,h2⟩:=h
  have i1:=wF im a h1
  have j1:=wF im b h2
  have e1:(Tr.two .sum a b).cnt "name"=a.cnt "name" + b.cnt "name":=by show bT _ _ + _ + _=_;rw [show bT (Op.word .sum) (Str.ofString "name")=0 by decide +kernel];omega
  have e2:(Tr.two .sum a b).cnt "sum"=a.cnt "sum" + b.cnt "sum" + 1:=by show bT _ _ + _ + _=_;rw [show bT (Op.word .sum) (Str.ofString "sum")=1 by decide +kernel];omega
  have e3:(Tr.two .sum a b).cnt "turn"=a.cnt "turn" + b.cnt "turn":=by show bT _ _ + _ + _=_;rw [show bT (Op.word .sum) (Str.ofString "turn")=0 by decide +kernel];omega
  rw [e1,e2,e3]
  simp only [fY,i1,j1]
  cases im <;> simp <;> omega
section
variable {P:Program} {w:World} {K:PySem.W.Frag} {mg:Str->Option Value} {base:Heap} {f d d2 fl:Addr} {fd:FuncData}
def zA:dB:=fun us M Q=>∃ ns:List Int,us=[.lst (ns.map .int)]/\ns.length<=63/\Q (.bl true) M
theorem O2 (F:dM K "law" "law" oJ f fd) (mI:mg "list"=none) (o4:mg "tuple"=none) (oO:mg "zip"=none) (k6:mg "range"=none) (mN:mg "len"=none) (tX:mg "sum"=none) (lQ:mg "int"=none) (cW:Callee P w K mg base 1 "_law_draw" sE []) (nP:Callee P w K mg base 2 "_law_tiles" FC []) (oP:Callee P w K mg base 10 "_law_tree" (rS 8) []) (Gk:Callee P w K mg base 2 "_law_deep" Ir []) (rF:Callee P w K mg base 32 "_law_count" (AG 31) []) (Lr:Callee P w K mg base 35 "labels" CO []) (xW:Callee P w K mg base 35 "how_many_least" Mk []) (OD:Callee P w K mg base 35 "least" CF []):j7 P w K mg base sN 36 f fd ["script"] (jF K zA):=by
 refine FG F cH (fun us M Q h=>by obtain ⟨x,rfl,_⟩:=h;rfl) (aD (aU 1 cH.nd (i9 (own:=true) (aA (vE (Qu (own:=false)) mI (aA (vA (own:=false) (uv 0) sG (sM aP)) aB)) (aA aP (aA aP (aA aP aB))))))
 (aD (aU 2 cH.nd (bD (aA dI (aA dI aB))))
 (aD (aU 3 cH.nd (aQ (i9 (own:=false) (aA dI (aA dI aB))) (aR cW (aA (uv 1) (aA aP aB)))))
 (aD (zJ (aR nP (aA (uv 1) (aA dI (aA (uv 3) (aA (bD (aA dI aB)) (aA aP aB)))))) (eN (n:=3) (aV (aN (k:=1000) 4 cH.nd) (aV (aN (k:=1000) 5 cH.nd) (aV (aN (k:=1000) 6 cH.nd) dQ)))))
 (aD (zJ (aR nP (aA (uv 1) (aA dI (aA dI (aA (bD (aA dI (aA (uv 2) (aA (uv 2) aB)))) (aA aP aB)))))) (eN (n:=3) (aV (aN (k:=1000) 7 cH.nd) (aV (aN (k:=1000) 8 cH.nd) (aV (aN (k:=1000) 9 cH.nd) dQ)))))
 (aD (zJ (aR nP (aA (uv 1) (aA dI (aA dI (aA (bD (aA dI (aA (uv 2) aB))) (aA aP aB)))))) (eN (n:=3) (aV (aN (k:=1000) 10 cH.nd) (aV (aN (k:=1000) 11 cH.nd) (aV (aN (k:=1000) 12 cH.nd) dQ)))))
 (aD (zJ (aR nP (aA (uv 1) (aA dI (aA dI (aA (bD (aA dI (aA dI aB))) (aA aP aB)))))) (eN (n:=3) (aV (aN (k:=1000) 13 cH.nd) (aV (aN (k:=1000) 14 cH.nd) (aV (aN (k:=1000) 15 cH.nd) dQ)))))
 (aD (dX (dC gB (uv 3) dI)
 (aI (Nu 13 14 15 cH.nd (aA (i9 (own:=false) aB) (aA aP (aA aP aB)))))
 cQ)
 (aD (aU 16 cH.nd (bD (aA (bD (aA dI (aA dI aB))) (aA (vE Fi o4 (aA (cG (own:=false) (cG (own:=false) (cG (own:=false) (uv 13) (uv 7)) (uv 4)) (uv 10)) aB)) aB))))
 (aD (aU 17 cH.nd (aR oP (aA (uv 1) (aA aP (aA (i9 (own:=true) (aA aP aB)) aB)))))
 (aD (dX (dC gB (aR cW (aA (uv 1) (aA aP aB))) aP)
 (aI (aU 17 cH.nd (aR Gk (aA (uv 1) aB))))
 cQ)
 (aD (oW 18 cH.nd false ["sign","tree"] 1 [17] (dN (i9 (own:=false) (aA dI (aA dI (aA dI aB))))) (aN (k:=1) 0 (by dsimp only [bM];decide +kernel)) gK (aR rF (aA (uv 1) (aA (uv 0) aB))))
 (aD (aU 19 cH.nd aP)
 (aD (eL (J7 oO (aA (i9 (own:=false) (aA (eR (own:=false) (uv 5) (uv 14)) (aA (uv 8) (aA (uv 11) aB)))) (aA (uv 18) aB))) (eN (n:=2) (aV (aN (k:=1000) 20 cH.nd) (aV (aN (k:=1000) 21 cH.nd) dQ)))
 (aI (eL (A7 k6 (aA (uv 21) aB)) (aN (k:=1000) 22 cH.nd)
 (aI (aU 19 cH.nd (eR (own:=false) (uv 19) (uv 20)))))))
 (aD (aU 23 cH.nd (cG (own:=false) (cG (own:=false) (eR (own:=false) (cG (own:=false) (uv 6) (uv 15)) (aQ (uv 18) aP)) (eR (own:=false) (uv 9) (aQ (uv 18) aP))) (eR (own:=false) (uv 12) (aQ (uv 18) aP))))
 (aD (dX (dC zY (aQ (aQ (aQ (aR Lr (aA (uv 16) (aA (uv 17) aB))) aP) aP) aP) (uv 23))
 (aI (bJ B0))
 cQ)
 (aD (dX (dC zY (aR xW (aA (uv 16) (aA (uv 17) (aA dI aB)))) (uv 19))
 (aI (bJ B0))
 cQ)
 (aD (aU 24 cH.nd (aR OD (aA (uv 16) (aA (uv 17) (aA dI aB)))))
 (aD (oW 25 cH.nd false ["number","table"] 1 [16] (dN (uv 24)) (aN (k:=1) 0 (by dsimp only [bM];decide +kernel)) gK (aQ (aQ (uv 1) aP) (uv 0)))
 (aD (dX (dC zY (tL Aw mN (aA (uv 24) aB)) (cG (own:=false) (tL FY tX (aA (uv 18) aB)) (eR (own:=false) (vE GQ lQ (aA (yJ gB (uv 3) dI) aB)) (aQ (uv 18) aP))))
 (aI (bJ B0))
 cQ)
 (aI (bJ (yJ gB (tL FY tX (aA (k5 false ["tile"] 1 [] (dN (uv 25)) (aN (k:=1) 0 (by dsimp only [bM];decide +kernel)) gK (aQ (uv 0) aP)) aB)) (uv 23)))))))))))))))))))))))) ?_
 rintro us M Q ⟨ns,rfl,hl,q⟩
 refine aH fun V hV=>?_
 simp! only [bC,hName,Fm,aF]
 intro t ht
 generalize i7 ns none (some 63)=tp
 subst hV
 refine aH fun V hV=>?_
 simp! only [bC,hName,aF]
 subst hV
 refine aH fun V hV=>?_
 simp! only [bC,hName,aF]
 refine ⟨t,tp,0,0,0,2,rfl,by decide,by decide,aG,by decide,by decide,fun k a1 b1 c1 k0 k1 g1 g2=>?_⟩
 rw [bN]
 have hat:∃ im:Bool,fQ [U.str (Str.ofString "r"),U.str (Str.ofString "mem")] k=some (.str (if im then (Str.ofString "mem") else (Str.ofString "r"))):=by
  have e:k=0\/k=1:=by omega
  rcases e with rfl | rfl
  ·exact ⟨false,rfl⟩
  ·exact ⟨true,rfl⟩
 obtain ⟨im,him⟩:=hat
 simp! only [him,aF]
 subst hV
 refine aH fun V hV=>?_
 simp! only [bC,hName,aF]
 refine ⟨t,tp,a1,b1,c1,"n",(if im then (Str.ofString "mem") else (Str.ofString "r")),.any,5,rfl,by decide +kernel,by decide,by decide,aG,by omega,by omega,fun gn n1 n2 a2 b2 c2 hN g3 g4=>?_⟩
 rw [bN]
 simp! only [jB,gU,j6,hName,aF]
 subst hV
 refine aH fun V hV=>?_
 simp! only [bC,hName,aF]
 refine ⟨t,tp,a2,b2,c2,"s","r",.two .sum (.hole "r") (.hole "r"),4,rfl,by decide +kernel,by decide,by decide,aG,by omega,by omega,fun gs s1 s2 a3 b3 c3 hS g5 g6=>?_⟩
 rw [bN]
 simp! only [jB,gU,j6,hName,aF]
 subst hV
 refine aH fun V hV=>?_
 simp! only [bC,hName,aF]
 refine ⟨t,tp,a3,b3,c3,"t","r",.turn (.hole "r"),3,rfl,by decide +kernel,by decide,by decide,aG,by omega,by omega,fun gt u1 u2 a4 b4 c4 hT g7 g8=>?_⟩
 rw [bN]
 simp! only [jB,gU,j6,hName,aF]
 subst hV
 refine aH fun V hV=>?_
 simp! only [bC,hName,aF]
 refine ⟨t,tp,a4,b4,c4,"w","r",.hole "mem",4,rfl,by decide +kernel,by decide,by decide,aG,by omega,by omega,fun gw w1 w2 a5 b5 c5 hW g9 g10=>?_⟩
 rw [bN]
 simp! only [jB,gU,j6,hName,aF]
 obtain ⟨n,hn1,hn2⟩:∃ n:Int × Int,n.1=n1/\n.2=n2:=⟨(n1,n2),rfl,rfl⟩
 obtain ⟨s,hs1,hs2⟩:∃ n:Int × Int,n.1=s1/\n.2=s2:=⟨(s1,s2),rfl,rfl⟩
 obtain ⟨u,hu1,hu2⟩:∃ n:Int × Int,n.1=u1/\n.2=u2:=⟨(u1,u2),rfl,rfl⟩
 subst hn1 hn2 hs1 hs2 hu1 hu2
 subst hV
 refine aH fun V hV=>?_
 have go:∀ (gw:List Tl) (w:Int × Int),(if im then nW "r" (.hole "mem") gw w.1 w.2 else gw=[]/\w=(0,1))->V [some (.lst (ns.map U.int)),some (.ref t),some (.tup [.str "at",.str "r"]),some (.str (if im then (Str.ofString "mem") else (Str.ofString "r"))),some (.lst (gn.map Tl.toU)),some (.int n.2),some (.int n.1),some (.lst (gs.map Tl.toU)),some (.int s.2),some (.int s.1),some (.lst (gt.map Tl.toU)),some (.int u.2),some (.int u.1),some (.lst (gw.map Tl.toU)),some (.int w.2),some (.int w.1),none,none,none,none,none,none,none,none,none,none] (mup M t (.lst (eV tp a5 b5 c5))):=by
  clear hW w1 w2
  clear gw
  intro gw w hW
  obtain ⟨tls,htls⟩:∃ tls,tls=gw++gs++gn++gt:=⟨_,rfl⟩
  have hB:gR im tls n s u w:=⟨gw,gs,gn,gt,htls,hN,hS,hT,hW⟩
  have hlen:=hB.tab.len
  have hlen':=hlen
  rw [htls] at hlen'
  simp only [List.length_append] at hlen'
  subst hV
  refine aH fun V hV=>?_
  simp! only [bC,hName,aF]
  refine ⟨small (by simp only [List.length_map];omega),small (by simp only [List.length_map,List.length_append];omega),small (by simp only [List.length_map,List.length_append];omega),?_⟩
  have htab:U.tup [U.tup [U.str (Str.ofString "r"),U.str (Str.ofString "mem")],U.tup (List.map Tl.toU gw++List.map Tl.toU gs++List.map Tl.toU gn++List.map Tl.toU gt)]=fB lD tls:=by
   rw [htls,<- List.map_append,<- List.map_append,<- List.map_append];rfl
  rw [htab]
  subst hV
  refine aH fun V hV=>?_
  simp! only [bC,hName,aF]
  intro r hr
  have htr:t≠r:=fun z=>by subst z;rw [aG] at hr;cases hr
  have hMr:M r=none:=by rw [aM (fun z=>htr z.symm)] at hr;exact hr
  refine ⟨8,by decide,t,r,tp,a5,b5,c5,60,rfl,by decide,by decide,htr,by rw [aM htr,aG],aG,by decide,by omega,by omega,fun tr a6 b6 c6 tok tpl td tsz tl1 g11 g12=>?_⟩
  have e0:cT (mup (mup M t (.lst (eV tp a5 b5 c5))) r (.lst [.int 60])) t r (eV tp a6 b6 c6) [.int (60 - tr.size)]=cT M t r (eV tp a6 b6 c6) [.int (60 - tr.size)]:=A5 htr
  rw [e0]
  have hsz:tr.size<=100:=by omega
  subst hV
  refine aH fun V hV=>?_
  have fin:∀ (tr:Tr) (Mx:aE),tr.pl->tr.dep<=31->tr.size<=100->Sub M Mx->V [some (.lst (ns.map U.int)),some (.ref t),some (.tup [.str "at",.str "r"]),some (.str (if im then (Str.ofString "mem") else (Str.ofString "r"))),some (.lst (gn.map Tl.toU)),some (.int n.2),some (.int n.1),some (.lst (gs.map Tl.toU)),some (.int s.2),some (.int s.1),some (.lst (gt.map Tl.toU)),some (.int u.2),some (.int u.1),some (.lst (gw.map Tl.toU)),some (.int w.2),some (.int w.1),some (fB lD tls),some tr.toU,none,none,none,none,none,none,none,none] Mx:=by
   clear e0
   intro tr Mx tpl td hsz hSub
   subst hV
   refine aH fun V hV=>?_
   simp! only [bC,hName,aF]
   obtain ⟨cn,hcn⟩:∃ cn,cn=tr.cnt "name":=⟨_,rfl⟩
   obtain ⟨cs,hcs⟩:∃ cs,cs=tr.cnt "sum":=⟨_,rfl⟩
   obtain ⟨ct,hct⟩:∃ ct,ct=tr.cnt "turn":=⟨_,rfl⟩
   have bn:cn<=100:=by rw [hcn];exact Nat.le_trans (p7 _ tr) hsz
   have bs:cs<=100:=by rw [hcs];exact Nat.le_trans (p7 _ tr) hsz
   have bt:ct<=100:=by rw [hct];exact Nat.le_trans (p7 _ tr) hsz
   refine dE (S:=⟨none,[U.str (Str.ofString "name"),U.str (Str.ofString "sum"),U.str (Str.ofString "turn")]⟩) (M1:=Mx) [U.int (cn:Nat),U.int (cs:Nat),U.int (ct:Nat)] (fun R r=>by simp! only [aF];exact r) rfl (by decide) (fun a e=>by cases e) ?_ ?_
   ·intro i x z hx hz M' hS R rr
    simp! only [hName,aF]
    match i,hx,hz with
    | 0,hx,hz=>cases hx;cases hz;exact ⟨tr,"name",rfl,tpl,td,hsz,by rw [<- hcn];exact rr⟩
    | 1,hx,hz=>cases hx;cases hz;exact ⟨tr,"sum",rfl,tpl,td,hsz,by rw [<- hcs];exact rr⟩
    | 2,hx,hz=>cases hx;cases hz;exact ⟨tr,"turn",rfl,tpl,td,hsz,by rw [<- hct];exact rr⟩
   simp only [iL]
   subst hV
   refine aH fun V hV=>?_
   simp! only [bC,hName,aF]
   subst hV
   refine aH fun V hV=>?_
   have sm:=hB.small
   let ms:List (Int × Nat):=[(n.2 * w.2,cn),(s.2,cs),(u.2,ct)]
   refine fL (S:=⟨none,ms.map fun p=>U.tup [.int p.1,.int (p.2:Nat)]⟩) (M1:=Mx) (fun R r=>by
     simp! only [DC,aF]
     exact ⟨mulR (by have:=sm.w;omega) (by have:=sm.w;omega),r⟩)
    (fun i τ Mj=>∃ z20 z21 z22:Option U,τ=[some (.lst (ns.map U.int)),some (.ref t),some (.tup [.str "at",.str "r"]),some (.str (if im then (Str.ofString "mem") else (Str.ofString "r"))),some (.lst (gn.map Tl.toU)),some (.int n.2),some (.int n.1),some (.lst (gs.map Tl.toU)),some (.int s.2),some (.int s.1),some (.lst (gt.map Tl.toU)),some (.int u.2),some (.int u.1),some (.lst (gw.map Tl.toU)),some (.int w.2),some (.int w.1),some (fB lD tls),some tr.toU,some (.lst [U.int (cn:Nat),U.int (cs:Nat),U.int (ct:Nat)]),some (.int ((ms.take i).foldl (fun a p=>a * p.1 ^ p.2) 1)),z20,z21,z22,none,none,none]/\Mj=Mx) ⟨none,none,none,rfl,rfl⟩ nk ?_ ?_
   ·rintro i x τ Mj e ⟨z20,z21,z22,rfl,rfl⟩
    have e':(ms.map fun p=>U.tup [.int p.1,.int (p.2:Nat)])[i]?=some x:=e
    rw [List.getElem?_map] at e'
    cases hj:ms[i]? with
    | none=>rw [hj] at e';cases e'
    | some pr =>
     rw [hj] at e'
     cases e'
     have tk:ms.take (i + 1)=ms.take i++[pr]:=by rw [List.take_add_one,hj];rfl
     have hnw:0<=n.2 * w.2/\n.2 * w.2<=25:=by
      have h1:=sm.n;have h2:=sm.w
      exact ⟨Int.mul_nonneg h1.2.2.1 h2.2.2.1,Int.le_trans (Int.mul_le_mul h1.2.2.2 h2.2.2.2 h2.2.2.1 (by decide)) (by decide)⟩
     have hpr:0<=pr.1/\pr.1<=25/\pr.2<=100:=by
      have h1:=sm.s;have h2:=sm.t
      rcases List.mem_cons.mp (List.mem_of_getElem? hj) with rfl | h
      ·exact ⟨hnw.1,hnw.2,bn⟩
      ·rcases List.mem_cons.mp h with rfl | h
       ·exact ⟨h1.2.2.1,by show s.2<=25;omega,bs⟩
       ·cases List.mem_singleton.mp h
        exact ⟨h2.2.2.1,by show u.2<=25;omega,bt⟩
     rw [tk,List.foldl_append]
     generalize (ms.take i).foldl (fun a p=>a * p.1 ^ p.2) 1=due
     simp! only [jB,gU,j6,hName,aF]
     refine fL (S:=⟨none,iR 0 pr.2⟩) (M1:=Mj) (fun R r=>by simp! only [Int.toNat_natCast,aF];exact ⟨by omega,by omega,r⟩)
      (fun j τ Mi=>∃ z22:Option U,τ=[some (.lst (ns.map U.int)),some (.ref t),some (.tup [.str "at",.str "r"]),some (.str (if im then (Str.ofString "mem") else (Str.ofString "r"))),some (.lst (gn.map Tl.toU)),some (.int n.2),some (.int n.1),some (.lst (gs.map Tl.toU)),some (.int s.2),some (.int s.1),some (.lst (gt.map Tl.toU)),some (.int u.2),some (.int u.1),some (.lst (gw.map Tl.toU)),some (.int w.2),some (.int w.1),some (fB lD tls),some tr.toU,some (.lst [U.int (cn:Nat),U.int (cs:Nat),U.int (ct:Nat)]),some (.int (due * pr.1 ^ j)),some (.int pr.1),some (.int (pr.2:Nat)),z22,none,none,none]/\Mi=Mj) ⟨z22,by rw [Int.pow_zero,Int.mul_one],rfl⟩ nk ?_ ?_
     ·rintro j x τ Mi e ⟨y22,rfl,rfl⟩
      simp! only [bC,hName,aF]
      refine ⟨mulR (by omega) (by omega),some x,?_⟩
      rw [Int.pow_succ,<- Int.mul_assoc]
     ·rintro τ Mi ⟨y22,rfl,rfl⟩
      refine ⟨some (.int pr.1),some (.int (pr.2:Nat)),y22,?_,rfl⟩
      rw [show (Src.mk none (iR 0 pr.2)).xs.length=pr.2 from tT _ _]
      rfl
   ·rintro τ Mj ⟨z20,z21,z22,rfl,rfl⟩
    show V _ _
    have hdue:(ms.take (Src.mk none (ms.map fun p=>U.tup [.int p.1,.int (p.2:Nat)])).xs.length).foldl (fun a p=>a * p.1 ^ p.2) 1=(cE n s u w tr).2:=by
     rw [(sF n s u w tr tpl).2,<- hcn,<- hcs,<- hct]
     show 1 * (n.2 * w.2) ^ cn * s.2 ^ cs * u.2 ^ ct=_
     rw [Int.one_mul]
    rw [hdue]
    subst hV
    have hval:=sF n s u w tr tpl
    have hvb:=rV sm tr
    obtain ⟨v,hv⟩:∃ v,v=cE n s u w tr:=⟨_,rfl⟩
    rw [<- hv] at hval hvb ⊢
    refine aH fun V hV=>?_
    simp! only [bC,hName,aF]
    refine ⟨mulR (by omega) (by omega),mulR (by omega) (by omega),mulR (by omega) (by omega),?_⟩
    have hcost:(n.1 + w.1) * (cn:Nat) + s.1 * (cs:Nat) + u.1 * (ct:Nat)=v.1:=by rw [hval.1,hcn,hcs,hct]
    rw [hcost]
    subst hV
    refine aH fun V hV=>?_
    refine fG fun A B hA hBB=>?_
    simp! only [aF]
    refine ⟨lD,tls,tr,rfl,hB.tab,td,by omega,fun vs chs b=>?_⟩
    have hrow:tr.places.map (yE lD vs)=yE lD vs [] :: (tr.places.map (yE lD vs)).tail:=by rw [tK];rfl
    rw [hrow]
    have hlab:=(hB.label tpl b tr.size tr [] (Nat.le_refl _) (dF tr)).2
    have hr2:yE lD vs []=.tup [aO [],.tup [.int v.1,oB (bL vs ([],Str.ofString "mem"))]]:=by
     show U.tup [aO [],.tup [oB (bL vs ([],Str.ofString "r")),_]]=_
     rw [hlab,<- hv];rfl
    rw [hr2]
    simp! only [aF]
    subst hBB
    simp only [eW]
    clear hr2 hrow hlab b vs chs
    subst hV
    refine aH fun V hV=>?_
    refine fG fun A B hA hBB=>?_
    simp! only [aF]
    refine ⟨lD,tls,tr,"r",Hy im n s u w,rfl,hB.rng,hB.few,oT,td,hsz,hB.hv tpl hsz,?_⟩
    rw [G0,<- hv]
    simp! only [Rf,aF]
    subst hBB
    simp only [eW]
    subst hV
    refine aH fun V hV=>?_
    simp! only [bC,hName,aF]
    refine ⟨lD,tls,tr,"r",rfl,hB.tab,td,by omega,fun vs chs b=>?_⟩
    rw [(hB.label tpl b tr.size tr [] (Nat.le_refl _) (dF tr)).2]
    intro word r2 hr2 hrun hok hsum hlen
    rw [<- hv] at hsum
    have hwl:word.length=fY im tr:=by
     have:=hB.run word [⟨tr,"r",[]⟩] (fun x hx=>by cases List.mem_singleton.mp hx;exact tpl) hrun
     rw [this]
     show (if (Str.ofString "r")=(Str.ofString "r") then fY im tr else _) + 0=_
     rw [if_pos rfl];rfl
    rw [wF im tr tpl,<- hcn,<- hcs,<- hct] at hwl
    subst hV
    refine aH fun V hV=>?_
    have hz0:∀ k∈word,∃ tl,tl∈tls/\fQ tls k=some tl/\fQ (tls.map Tl.toU) k=some tl.toU/\tls[k.toNat]?=some tl:=fun k hk=>FI (hok k hk).1 (hok k hk).2
    let tk:Int->U:=fun k=>((fQ tls k).map Tl.toU).getD .non
    have htk:∀ k∈word,∃ tl:Tl,fQ (tls.map Tl.toU) k=some tl.toU/\tk k=tl.toU/\iQ tls k=tl.cost:=fun k hk=>by
     obtain ⟨tl,h1,h2,h3,h4⟩:=hz0 k hk
     exact ⟨tl,h3,by show ((fQ tls k).map Tl.toU).getD .non=_;rw [h2];rfl,by unfold iQ;rw [h2]⟩
    simp! only [bC,hName,aF]
    refine dE (S:=⟨some r2,word.map U.int⟩) (M1:=mup Mj r2 (.lst (word.map U.int))) (word.map tk) (fun R r=>by simp! only [aF];exact r) (by show (word.map tk).length=(word.map U.int).length;simp) (small (by show (word.map U.int).length<=_;rw [List.length_map];omega)) (fun a e=>by cases e;exact aG) ?_ ?_
    ·intro i x z hx hz M' hS R rr
     have hx':(word.map U.int)[i]?=some x:=hx
     rw [List.getElem?_map] at hx' hz
     cases hj:word[i]? with
     | none=>rw [hj] at hx';cases hx'
     | some k =>
      rw [hj] at hx' hz
      cases hx';cases hz
      obtain ⟨tl,h1,h2,h3⟩:=htk k (List.mem_of_getElem? hj)
      simp! only [hName,pE,h1,aF]
      rw [<- h2];exact rr
    simp only [iL]
    subst hV
    refine aH fun V hV=>?_
    refine fG fun A B hA hBB=>?_
    have hsumc:intsOf [U.int (cn:Nat),U.int (cs:Nat),U.int (ct:Nat)]=some [(cn:Int),(cs:Int),(ct:Int)]:=rfl
    have hfit:PySem.SumFits [(cn:Int),(cs:Int),(ct:Int)]:=fits_of (fun x hx=>by
     rcases List.mem_cons.mp hx with rfl | hx
     ·omega
     ·rcases List.mem_cons.mp hx with rfl | hx
      ·omega
      ·cases List.mem_singleton.mp hx;omega) (by simp)
    simp! only [hsumc,List.length_map,aF]
    have hi:(if decide ((if im=true then Str.ofString "mem" else Str.ofString "r")=Str.ofString "mem")=true then (1:Int) else 0)=if im then 1 else 0:=by
     cases im with
     | true=>rfl
     | false=>exact if_neg (by decide +kernel)
    rw [hi]
    refine ⟨hfit,mulR (by omega) (by omega),?_⟩
    have hlenE:(word.length:Int)=[(cn:Int),(cs:Int),(ct:Int)].sum + (if im then 1 else 0) * (cn:Int):=by
     rw [hwl]
     show _=(cn:Int) + ((cs:Int) + ((ct:Int) + 0)) + _
     cases im with
     | true=>simp;omega
     | false=>simp;omega
    rw [if_neg (by rw [<- hlenE];simp)]
    subst hBB
    simp only [eW]
    subst hV
    simp! only [fD,aF]
    refine dE (S:=⟨none,word.map tk⟩) (M1:=mup Mj r2 (.lst (word.map U.int))) ((word.map (iQ tls)).map U.int) (fun R r=>by simp! only [aF];exact r) (by show ((word.map (iQ tls)).map U.int).length=(word.map tk).length;simp) (small (by show (word.map tk).length<=_;rw [List.length_map];omega)) (fun a e=>by cases e) ?_ ?_
    ·intro i x z hx hz M' hS R rr
     have hx':(word.map tk)[i]?=some x:=hx
     rw [List.getElem?_map] at hx'
     rw [List.getElem?_map,List.getElem?_map] at hz
     cases hj:word[i]? with
     | none=>rw [hj] at hx';cases hx'
     | some k =>
      rw [hj] at hx' hz
      cases hx';cases hz
      obtain ⟨tl,h1,h2,h3⟩:=htk k (List.mem_of_getElem? hj)
      simp! only [hName,aF]
      rw [h2]
      simp! only [zG,aF]
      rw [<- h3];exact rr
    simp only [iL]
    obtain ⟨hs1,hs2⟩:=HF (fun tl ht=>by
     obtain ⟨c0,c1,_⟩:=hB.mem tl ht
     exact ⟨c0,by omega⟩) hok hlen
    simp! only [hs1,aF]
    refine ⟨hs2,?_⟩
    rw [hsum]
    simp! only [aF]
    exact ⟨_,M,hSub.mup (U2.Sub.none hSub hr2),.inl rfl,q⟩
  refine fG fun A B hA hBB=>?_
  simp! only [aF]
  refine ⟨t,tp,a6,b6,c6,4,rfl,by decide,by decide,mO htr,by omega,by omega,fun k a7 b7 c7 k0 k1 g13 g14=>?_⟩
  rw [lU htr]
  simp! only [aF]
  refine mC (fun _=>?_) (fun _=>?_)
  ·subst hA
   simp! only [bC,hName,aF]
   refine ⟨t,tp,a7,b7,c7,rfl,mO htr,by omega,by omega,fun tr2 a8 b8 c8 tok2 tpl2 td2 tsz2 _ _=>?_⟩
   rw [lU htr]
   exact fin tr2 _ tpl2 td2 tsz2 (((Sub.refl M).mup ht).mup hMr)
  ·subst hBB
   simp only [eW]
   exact fin tr _ tpl (by omega) hsz (((Sub.refl M).mup ht).mup hMr)
 refine fG fun A B hA hBB=>?_
 simp! only [aF]
 cases im with
 | false =>
  rw [if_pos (by decide +kernel)]
  subst hA
  simp! only [Hh,aF]
  refine ⟨_,_,_,rfl,?_⟩
  exact go [] (0,1) ⟨rfl,rfl⟩
 | true =>
  rw [if_neg (by decide +kernel)]
  subst hBB
  simp only [eW]
  exact go gw (w1,w2) hW
end
theorem Ds {K:PySem.W.Frag} {H:Hp} {M:aE}:∀ ns:List Int,aJ K H M (ns.map U.int) (ns.map V.int)
 | []=>.nil
 | _ :: r=>.cons fE (Ds r)
theorem JJ {K:PySem.W.Frag} {H:Hp} {a:Addr} {ns:List Int} {E:XK} (hl:ns.length<=63) (hS:eC K H a (ns.map V.int)):jF K zA [.ref a] H (fun v _=>v=.bl true) E:=by
 refine ⟨[.lst (ns.map .int)],fun _=>none,fun u _=>u=.bl true,(fun a mo e=>by cases e),.cons ?_ .nil,⟨ns,rfl,hl,rfl⟩,fun u v M1 H1 _ _ ru q=>by subst q;exact ru.bl⟩
 simp only [aK]
 refine ⟨a,_,rfl,?_,Ds ns⟩
 rcases hS with h | h
 ·exact .inl ⟨trivial,h⟩
 ·exact .inr h
noncomputable def cX (K:PySem.W.Frag) (n:Str) (st:Stmt) (f:Addr):Prop:=∃ fd,PySem.W.nsIn K mainGlobals n=some (some (.ref f))/\dM K n n st f fd
theorem SD {K:PySem.W.Frag} {n:Str} {st:Stmt} {f:Addr} {oc:Value} {od an:Option Addr} {osl:Array (Option Value)} {kV doc pm cdv ct:Value} (a:PySem.W.nsIn K mainGlobals n=some (some (.ref f))) (l:K.lookup f=some ⟨oc,od,.func (PySem.W.fnOf n n (k9 st) (gG st) (aT st) .none kV doc pm an cdv ct),osl⟩) (c:PySem.W.codeIn K cdv n=true) (k:PySem.W.keepIn K (.ref f)=true):cX K n st f:=⟨_,a,Jl l c k⟩
open PyProof.Rows in
theorem all_mk {l:PySem.W.OpenLaw} {w:World} {K:PySem.W.Frag} {h:Heap} {mg:Str->Option Value} {fa f0 f1 f2 f3 f4 f5 f6 f7 f8 f9 f10 f11 f12 f13 f14 f15 f16 f17 f18 f19 f20 f21 f22 f23 f24 f25 f26 f27 f28 f29 f30:Addr} (X:K.In h) (G:h.Ns mainGlobals mg) (hfa:mg "law"=some (.ref fa))
  (a0:cX K "parts_of" uG f0) (a1:cX K "places_of" jX f1) (a2:cX K "shape_at" tF f2) (a3:cX K "lies_on_leaf" m4 f3) (a4:cX K "is_pass" u9 f4) (a5:cX K "parts" Bi f5) (a6:cX K "places" yI f6) (a7:cX K "tree_at" u0 f7) (a8:cX K "holes" AX f8) (a9:cX K "lies" Ad f9) (a10:cX K "tiles_at" sX f10) (a11:cX K "laid_tiles" pU f11) (a12:cX K "join_spots" pQ f12) (a13:cX K "fill_least" pJ f13) (a14:cX K "least_of_all" nF f14) (a15:cX K "chosen_cover" nI f15) (a16:cX K "as_paper" uN f16) (a17:cX K "cheapest_steps" lY f17) (a18:cX K "put_in" uK f18) (a19:cX K "cheapest_chains" lE f19) (a20:cX K "joined_price" nD f20) (a21:cX K "labels" x6 f21) (a22:cX K "least" AH f22) (a23:cX K "first_tiles" n6 f23) (a24:cX K "how_many_least" lR f24) (a25:cX K "_law_draw" sZ f25) (a26:cX K "_law_tree" oN f26) (a27:cX K "_law_deep" tR f27) (a28:cX K "_law_count" nQ f28) (a29:cX K "_law_tiles" rM f29)
  {od an:Option Addr} {sl:Array (Option Value)} {oc kV dc pm cd ct:Value} (aL:PySem.W.nsIn K mainGlobals "law"=some (some (.ref f30))) (lL:K.lookup f30=some ⟨oc,od,.func (PySem.W.fnOf "law" "law" (k9 oJ) (gG oJ) (aT oJ) .none kV dc pm an cd ct),sl⟩) (cL:PySem.W.codeIn K cd "law"=true) (kL:PySem.W.keepIn K (.ref f30)=true)
  {dt0:Addr} (ta0:PySem.W.nsIn K mainGlobals "SIGNS"=some (some (.ref dt0))) (tb0:KTD.tabLook KTD.flatLooks (fun b=>K.lookup b) dt0 (Bf iS)=true) (tc0:KTD.hashesOf (fun b=>K.lookup b) dt0=(Bf iS).map fun p=>(PySem.strKind l.prog w).hash p.1)
  (z0:PySem.W.nsIn K mainGlobals "len"=some none) (z1:PySem.W.nsIn K mainGlobals "range"=some none) (z2:PySem.W.nsIn K mainGlobals "tuple"=some none) (z3:PySem.W.nsIn K mainGlobals "list"=some none) (z4:PySem.W.nsIn K mainGlobals "all"=some none) (z5:PySem.W.nsIn K mainGlobals "zip"=some none) (z6:PySem.W.nsIn K mainGlobals "enumerate"=some none) (z7:PySem.W.nsIn K mainGlobals "sum"=some none) (z8:PySem.W.nsIn K mainGlobals "reversed"=some none) (z9:PySem.W.nsIn K mainGlobals "dict"=some none) (z10:PySem.W.nsIn K mainGlobals "int"=some none)
  : ∃ fd:FuncData,(∀ (s:Shared) (v:Value),BindsTo s fd ⟨[v],[]⟩ [("script",v)])/\∀ base:Heap,K.In base->base.Ns mainGlobals mg->j7 l.prog w K mg base sN 36 fa fd ["script"] (jF K zA):=by
 have V:∀ {x:Str} {f:Addr},PySem.W.nsIn K mainGlobals x=some (some (.ref f))->mg x=some (.ref f):=PySem.W.mg_of X G
 have N:∀ {x:Str},PySem.W.nsIn K mainGlobals x=some none->mg x=none:=PySem.W.mg_none_of X G
 have e:=hfa.symm.trans (V aL)
 cases e
 have RA:=Jl (st:=oJ) lL cL kL
 obtain ⟨_,tU,G7⟩:=a0;have tU:=V tU
 obtain ⟨_,nR,xQ⟩:=a1;have nR:=V nR
 obtain ⟨_,uJ,GL⟩:=a2;have uJ:=V uJ
 obtain ⟨_,mV,AZ⟩:=a3;have mV:=V mV
 obtain ⟨_,vB,IC⟩:=a4;have vB:=V vB
 obtain ⟨_,Bc,NF⟩:=a5;have Bc:=V Bc
 obtain ⟨_,yV,J9⟩:=a6;have yV:=V yV
 obtain ⟨_,vM,JC⟩:=a7;have vM:=V vM
 obtain ⟨_,Bq,Nd⟩:=a8;have Bq:=V Bq
 obtain ⟨_,CY,O3⟩:=a9;have CY:=V CY
 obtain ⟨_,tH,Hl⟩:=a10;have tH:=V tH
 obtain ⟨_,pF,CZ⟩:=a11;have pF:=V pF
 obtain ⟨_,pZ,DY⟩:=a12;have pZ:=V pZ
 obtain ⟨_,pL,CQ⟩:=a13;have pL:=V pL
 obtain ⟨_,m8,AW⟩:=a14;have m8:=V m8
 obtain ⟨_,nJ,AN⟩:=a15;have nJ:=V nJ
 obtain ⟨_,uB,Gn⟩:=a16;have uB:=V uB
 obtain ⟨_,lS,yP⟩:=a17;have lS:=V lS
 obtain ⟨_,tS,CW⟩:=a18;have tS:=V tS
 obtain ⟨_,lF,xC⟩:=a19;have lF:=V lF
 obtain ⟨_,dR,Bl⟩:=a20;have dR:=V dR
 obtain ⟨_,yM,Lf⟩:=a21;have yM:=V yM
 obtain ⟨_,AK,MS⟩:=a22;have AK:=V AK
 obtain ⟨_,oC,B9⟩:=a23;have oC:=V oC
 obtain ⟨_,lT,yW⟩:=a24;have lT:=V lT
 obtain ⟨_,tM,Ge⟩:=a25;have tM:=V tM
 obtain ⟨_,tY,G8⟩:=a26;have tY:=V tY
 obtain ⟨_,t8,F3⟩:=a27;have t8:=V t8
 obtain ⟨_,rD,Es⟩:=a28;have rD:=V rD
 obtain ⟨_,rC,Ei⟩:=a29;have rC:=V rC
 have By:=V ta0
 have Bx:zT l.prog w K dt0 iS:=tab_of (by decide +kernel) tb0 tc0
 have mN:=N z0
 have k6:=N z1
 have o4:=N z2
 have mI:=N z3
 have wU:=N z4
 have oO:=N z5
 have cM:=N z6
 have tX:=N z7
 have gD:=N z8
 have Dp:=N z9
 have lQ:=N z10
 refine ⟨PySem.W.fnOf "law" "law" (k9 oJ) (gG oJ) (aT oJ) .none kV dc pm an cd ct,fun s v=>.of_eq rfl,fun base _ _=>?_⟩
 have c0:=Eb (P:=l.prog) (w:=w) (base:=base) G7 tU Bx By
 have c1:=LG NF Bc c0
 have c2:=Ah (P:=l.prog) (w:=w) (base:=base) AZ mV
 have c3:=C1 O3 CY wU oO c2 c0 c1 6
 have c4:=y0 xQ nR cM c0 6
 have c5:=xK xQ nR cM c0 31
 have c6:=II J9 yV c5
 have c7:=Em GL uJ c0
 have c8:=F0 JC vM c7
 have c9:=J5 Nd Bq c4 c7
 have d0:=GW (P:=l.prog) (w:=w) (base:=base) IC vB
 have e0:=Ek Hl tH cM c8 c3 c9
 have e1:=Ak (P:=l.prog) (w:=w) (base:=base) (mg:=mg) Bl tX
 have e2:=Cc DY pZ True.intro e1
 have e3:=N6 (LX CQ pL True.intro e2)
 have e4:=Au (Iv AW m8 gD c6 e0 e3)
 have e5:=JA (P:=l.prog) (w:=w) (base:=base) AN nJ True.intro mI gD
 have e6:=Ez Gn uB True.intro o4 c6
 have e7:=Iy Lf yM dR e6 e4
 have e8:=Kh MS AK True.intro dR e4 e5
 have h0:=NN (P:=l.prog) (w:=w) (base:=base) CW tS
 have h1:=Nh (P:=l.prog) (w:=w) (base:=base) CW tS
 have h2:=Ki (IX yP lS d0 h1)
 have h3:=Jp (G3 xC lF h2 h0)
 have h4:=K4 (I0 B9 oC (K34.Callee.ofAt e1 dR) h0)
 have h5:=Cf (LS CZ pF c6 e0 d0)
 have h6:=OO yW lT Dp mI gD h3 h5 h4 h0
 have g0:=Nq (P:=l.prog) (w:=w) (base:=base) Ge tM mN
 have g1:=KR Ei rC lQ k6 mN g0
 have g2:=D0 G8 tY g0 8
 have g3:=MN F3 t8 k6 g0
 have g4:=EZ (P:=l.prog) (w:=w) (base:=base) Es rD lQ 31
 exact O2 RA mI o4 oO k6 mN tX lQ g0 g1 g2 g3 g4 e7 h6 e8
theorem walk {l:PySem.W.OpenLaw} {q:Program} {loose:List Str} {XP:(Str->Option Value)->Heap->Prop} {YP:World->Heap->Prop} {d:DefRec} {K:Params->PySem.W.Frag} (hn:l.most=some 63) (hdf:d.params.defaults=[])
  (hY:∀ (w:World) (h:Heap),YP w h->(K w.params).In h)
  (F:∀ (w:World) (mg:Str->Option Value) (fa:Addr) (h:Heap),(K w.params).In h->h.Ns mainGlobals mg->mg d.name=some (.ref fa) ->
   ∃ fd:FuncData,(∀ (s:Shared) (u:Value),BindsTo s fd ⟨[u],[]⟩ [("script",u)])/\∀ base:Heap,(K w.params).In base->base.Ns mainGlobals mg->j7 l.prog w (K w.params) mg base sN 36 fa fd ["script"] (jF (K w.params) zA)) :
  PySem.W.WalkO q loose XP YP l.row.toRowW d [] (fun f vs=>PySem.call f vs) :=
 L2.Oj (n:=63) (k:=36) (x:="script") (CX:=fun _=>sN) (sp:=fun w=>jF (K w.params) zA) hn (by decide) hdf ⟨rfl,by decide,by decide⟩ hY F (fun _ _ a ns hl _ hS=>JJ hl hS) fun _ _ _ _ _ z=>z
end K34
namespace PySem.W.Fast
def tw10004033907818762501:=0
def tw10059253538992433407:=0
def tw10132935031589672229:=0
def tw10172420118187895827:=0
def tw10199302249012322373:=0
def tw10279147007685639786:=0
def tw10380534316470669592:=0
def tw10387959451913799309:=0
def tw10491759700527745713:=0
def tw10549224057281155257:=0
def tw10674458711334695946:=0
def tw10923776757302177514:=0
def tw1109524087884708965:=0
def tw11207554403828900274:=0
def tw11235731598872715823:=0
def tw11298010246522580643:=0
def tw11367767495788520853:=0
def tw11378309748469976998:=0
def tw11487121657889056328:=0
def tw11507141153954744886:=0
def tw11645950063082484294:=0
def tw11726255645535388838:=0
def tw11970798566809133559:=0
def tw11980858188340039407:=0
def tw12040320306325215271:=0
def tw12052320571806087113:=0
def tw12100230173058539824:=0
def tw12116819006167296193:=0
def tw12153676456828464246:=0
def tw12234099901839829902:=0
def tw12367930184204026802:=0
def tw12482350337767601964:=0
def tw12572188028565608147:=0
def tw13028006608932087883:=0
def tw13109869768193219209:=0
def tw13179986220713590994:=0
def tw13302266512215104998:=0
def tw13381188894151205812:=0
def tw13394622851256478842:=0
def tw13445205590016898556:=0
def tw13566192898873242138:=0
def tw13811195035508092631:=0
def tw13869436076590567257:=0
def tw13926986657946970281:=0
def tw13974057489015238327:=0
def tw14025634156819322145:=0
def tw14058755583955669789:=0
def tw1408226880821424850:=0
def tw1415100962346003557:=0
def tw14266834986082982711:=0
def tw14311686989872731964:=0
def tw14320699412661097252:=0
def tw1453589973651634294:=0
def tw14589436752378470176:=0
def tw14609432151303856346:=0
def tw14731925417740361640:=0
def tw14732441912388257673:=0
def tw14874186940935446200:=0
def tw15060695824411016644:=0
def tw15106887723461158999:=0
def tw1513623756192373160:=0
def tw15316962153038593375:=0
def tw15433468364924215599:=0
def tw15502751707997317351:=0
def tw15585828116190781332:=0
def tw1564064228002297735:=0
def tw15722911568756012562:=0
def tw15900138303730326006:=0
def tw15939659412694112432:=0
def tw16038211001424329275:=0
def tw16039022310045386341:=0
def tw16279409348349434418:=0
def tw16335596872556194928:=0
def tw1639280439503109592:=0
def tw16441938702040415934:=0
def tw16485618787809322023:=0
def tw16502861208004963279:=0
def tw16675727608828689360:=0
def tw16806305872941128366:=0
def tw16890306024674856337:=0
def tw16918503614256757406:=0
def tw17082659988512884513:=0
def tw1708512433963301869:=0
def tw17109856252108075469:=0
def tw17164931495440024267:=0
def tw17171748910801871794:=0
def tw17201559417971949912:=0
def tw17305515082938509101:=0
def tw17319840428747585517:=0
def tw17596947965841516020:=0
def tw17626764311394100863:=0
def tw17655587312237141510:=0
def tw17737102524135171361:=0
def tw17769663277505868031:=0
def tw17802082248748551415:=0
def tw17842484367703851834:=0
def tw17911425050633840467:=0
def tw17946712545830543444:=0
def tw17966858745225884788:=0
def tw18013910600554564438:=0
def tw1803061760062895530:=0
def tw18188632294612153684:=0
def tw18219953419778253012:=0
def tw18300031761423300884:=0
def tw1902684817468570090:=0
def tw197359822485406118:=0
def tw2100966385645344999:=0
def tw2109256709155208639:=0
def tw2434532341583593891:=0
def tw2440314511791531473:=0
def tw2631754684520753364:=0
def tw2801671545901778248:=0
def tw3051783050825467864:=0
def tw3160154210587696852:=0
def tw3163845835298839516:=0
def tw3252265263771769118:=0
def tw3310753896499157791:=0
def tw3361722295967991112:=0
def tw3364397266795468851:=0
def tw3652584766976190660:=0
def tw3756574368395280441:=0
def tw3864870906712190487:=0
def tw3873936958485119158:=0
def tw4007479381277273734:=0
def tw4009471467241497824:=0
def tw4084530938963256839:=0
def tw4148578484406689892:=0
def tw4148975556403202547:=0
def tw4231368471606867586:=0
def tw423360928445131872:=0
def tw4424288642810928633:=0
def tw4445878613868862780:=0
def tw4448198968977414434:=0
def tw4461655943819434382:=0
def tw4669203150662177103:=0
def tw4842214484060214365:=0
def tw4863302154495348570:=0
def tw4865088870895740802:=0
def tw4943041019646962761:=0
def tw4957732888908714996:=0
def tw5007330314758936641:=0
def tw5047195718113455831:=0
def tw507448191115916985:=0
def tw520305587994722187:=0
def tw5386831480278711484:=0
def tw5401983654684318457:=0
def tw5412247710702829526:=0
def tw5420457777650818812:=0
def tw5444081682705055058:=0
def tw5506955777782801375:=0
def tw5534803533965665401:=0
def tw5553189666192229171:=0
def tw5823178204644371636:=0
def tw5917614619128939904:=0
def tw6148287248172024222:=0
def tw6180278002206188198:=0
def tw643639736780303864:=0
def tw6458943438099743450:=0
def tw648057931956566663:=0
def tw6485265386610792077:=0
def tw6509722837588805165:=0
def tw6573183489869373602:=0
def tw6636960968972049421:=0
def tw6736667873095473880:=0
def tw6863844577142372458:=0
def tw7011523004764146485:=0
def tw7112871408169253387:=0
def tw7146513527277569169:=0
def tw7227908342218025658:=0
def tw7245568337237418652:=0
def tw7267374736677636521:=0
def tw7323971819775099724:=0
def tw7345121695008350409:=0
def tw7533616785378994557:=0
def tw7792543195915054734:=0
def tw7913607101934123159:=0
def tw8119197662082725034:=0
def tw8334695607808254205:=0
def tw8581100975897196563:=0
def tw8880866180789569915:=0
def tw893853620525586535:=0
def tw9075050654076955375:=0
def tw9130521965663011032:=0
def tw9143067813493698778:=0
def tw9558795218065412888:=0
def tw9794639199696957090:=0
def tw9986414784558825356:=0
end PySem.W.Fast
open PySem PySem.W PyProof.Rows
set_option maxRecDepth 100000 in
set_option maxHeartbeats 0 in
theorem PySem.Challenge.cw_rowsmith_k34_like_tiles_multiply_holds : PySem.Challenge.rw_rowsmith_k34_like_tiles_multiply.Holds := by
 w_on;o_law;k_head;(case hw=>w_witness2)
 k_fill
 refine K34.walk (l:=PySem.Challenge.rw_rowsmith_k34_like_tiles_multiply) rfl rfl (fun w h Y=>PySem.W.kIn_of Y) ?F
 case F =>
  intro w mg fa h KX G hmg
  refine' K34.all_mk KX G hmg ?a0 ?a1 ?a2 ?a3 ?a4 ?a5 ?a6 ?a7 ?a8 ?a9 ?a10 ?a11 ?a12 ?a13 ?a14 ?a15 ?a16 ?a17 ?a18 ?a19 ?a20 ?a21 ?a22 ?a23 ?a24 ?a25 ?a26 ?a27 ?a28 ?a29 ?aL ?lL ?cL ?kL ?ta0 ?tb0 ?tc0 ?z0 ?z1 ?z2 ?z3 ?z4 ?z5 ?z6 ?z7 ?z8 ?z9 ?z10
  all_goals first | (refine' K34.SD ?a ?l ?c ?k;(case a=>k_is);(case l=>k_is);(case c=>k_is);(case k=>k_is)) | skip
  (case aL=>k_is)
  (case lL=>k_is)
  (case cL=>k_is)
  (case kL=>k_is)
  (case ta0=>k_is)
  (case tb0=>kernel_rfl)
  (case tc0=>kernel_rfl)
  (case z0=>k_is)
  (case z1=>k_is)
  (case z2=>k_is)
  (case z3=>k_is)
  (case z4=>k_is)
  (case z5=>k_is)
  (case z6=>k_is)
  (case z7=>k_is)
  (case z8=>k_is)
  (case z9=>k_is)
  (case z10=>k_is)
#print axioms PySem.Challenge.cw_rowsmith_k34_like_tiles_multiply_holds