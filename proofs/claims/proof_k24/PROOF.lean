import PyProof.Rows.All
import Wide.All
import OpenK.AllK
import Wide.FinOn
import Lean
import PyProof.EqAt
import PyProof.EqKinds
import PyProof.TupleCall
import PySem.Challenge.RW_rowsmith_k24_passes_never_ring
import KE.KRevIter
import PyProof.ListRange
import PyProof.CollectIter
import PyProof.Rows.SortWalk
import PyProof.ListMulRoad
import PyProof.AutoListH
import PyProof.Rows.SumAny
import PyProof.Rows.SetFrom
set_option Elab.async false
set_option linter.all false
set_option maxRecDepth 100000
set_option maxHeartbeats 4000000
namespace L2
open PySem PySem.Spec PyProof.Rows
abbrev Key:=Sum Int Str
def keyIs:Key→Value→Bool
  | .inl k,v=>Value.isInt k v
  | .inr x,v=>Value.isStrOf x v
def keyH (w:World):Key→Int
  | .inl k=>hashInt k
  | .inr x=>hashStr w x
theorem keyIs_shape:∀ {k:Key} {v:Value},keyIs k v=true→(∃ i t,k=Sum.inl i∧v=Value.int i t)∨(∃ x t,k=Sum.inr x∧v=Value.str x t)
  | .inl i,v,h=>by
    obtain ⟨t,e⟩:=Value.isInt_shape (k:=i) (v:=v) h
    exact .inl ⟨i,t,rfl,e⟩
  | .inr x,v,h=>by
    obtain ⟨t,e⟩:=Value.isStrOf_shape (x:=x) (v:=v) h
    exact .inr ⟨x,t,rfl,e⟩
theorem keyIs_int (i:Int) (t:Tok):keyIs (.inl i) (.int i t)=true:=by simp [keyIs,Value.isInt]
theorem keyIs_str (x:Str) (t:Tok):keyIs (.inr x) (.str x t)=true:=by simp [keyIs,Value.isStrOf]
theorem key_ll (a b:Int):decide ((Sum.inl a:Key)=Sum.inl b)=(a == b):=by
  by_cases e:a=b
  · subst e;simp
  · have h:¬ (Sum.inl a:Key)=Sum.inl b:=fun q=>e (Sum.inl.inj q)
    rw [decide_eq_false h]
    exact (beq_eq_false_iff_ne.mpr e).symm
theorem key_rr (a b:Str):decide ((Sum.inr a:Key)=Sum.inr b)=decide (a=b):=by
  by_cases e:a=b
  · subst e;simp
  · have h:¬ (Sum.inr a:Key)=Sum.inr b:=fun q=>e (Sum.inr.inj q)
    rw [decide_eq_false h,decide_eq_false e]
theorem key_lr (a:Int) (b:Str):decide ((Sum.inl a:Key)=Sum.inr b)=false:=decide_eq_false (fun q=>nomatch q)
theorem key_rl (a:Str) (b:Int):decide ((Sum.inr a:Key)=Sum.inl b)=false:=decide_eq_false (fun q=>nomatch q)
def mixKind (prog:Program) (w:World):PySem.KeyKind prog w Key where
  is:=keyIs
  hash:=keyH w
  inj:=fun v a b ha hb=>by
    rcases keyIs_shape ha with ⟨i,t,rfl,rfl⟩ | ⟨x,t,rfl,rfl⟩
    · rcases keyIs_shape hb with ⟨j,u,rfl,e⟩ | ⟨y,u,rfl,e⟩
      · injection e with e1 _;rw [e1]
      · exact nomatch e
    · rcases keyIs_shape hb with ⟨j,u,rfl,e⟩ | ⟨y,u,rfl,e⟩
      · exact nomatch e
      · injection e with e1 _;rw [e1]
  byValue:=fun k v h=>by
    rcases keyIs_shape h with ⟨i,t,rfl,rfl⟩ | ⟨x,t,rfl,rfl⟩ <;> rfl
  pyHash:=fun hv h=>by
    rcases keyIs_shape hv with ⟨i,t,rfl,rfl⟩ | ⟨x,t,rfl,rfl⟩
    · exact wpAny_pyHash_int h
    · exact wpAny_pyHash_str h
  eqBool:=fun hu hv h=>by
    rcases keyIs_shape hu with ⟨i,t,rfl,rfl⟩ | ⟨x,t,rfl,rfl⟩
    · rcases keyIs_shape hv with ⟨j,u,rfl,rfl⟩ | ⟨y,u,rfl,rfl⟩
      · rw [key_ll] at h;exact wpAny_eqBool_int h
      · rw [key_lr] at h;exact SeqAt.EqAt.int_str i t y u _ _ _ _ h
    · rcases keyIs_shape hv with ⟨j,u,rfl,rfl⟩ | ⟨y,u,rfl,rfl⟩
      · rw [key_rl] at h;exact SeqAt.EqAt.str_int x t j u _ _ _ _ h
      · rw [key_rr] at h;exact wpAny_eqBool_str h
  «strs»:=fun k x t v h=>by
    rcases keyIs_shape h with ⟨i,u,rfl,e⟩ | ⟨y,u,rfl,e⟩
    · exact nomatch e
    · injection e with e1 _
      subst e1
      cases v <;> rfl
theorem mixKind_int (prog:Program) (w:World) (i:Int) (t:Tok):(mixKind prog w).is (.inl i) (.int i t)=true:=keyIs_int i t
theorem mixKind_str (prog:Program) (w:World) (x:Str) (t:Tok):(mixKind prog w).is (.inr x) (.str x t)=true:=keyIs_str x t
inductive V where
  | non | bl (b:Bool) | int (i:Int) | str (x:Str) | byt (b:Array UInt8) | flt (b:UInt64) | ref (a:Addr) | ty (n:String)
  deriving DecidableEq
def RelV:V→Value→Prop
  | .non,u=>u=Value.none
  | .bl b,u=>u=Value.bool b
  | .int i,u=>∃ t,u=Value.int i t
  | .str x,u=>∃ t,u=Value.str x t
  | .byt b,u=>∃ t,u=Value.bytes b t
  | .flt b,u=>∃ t,u=Value.float b t
  | .ref a,u=>u=Value.ref a
  | .ty n,u=>u=Value.type n
abbrev Vals:List V→List Value→Prop:=Paired RelV
theorem Vals.length {xs:List V} {us:List Value} (r:Vals xs us):xs.length=us.length:=Paired.length r
theorem Vals.get:∀ {xs:List V} {us:List Value} {i:Nat} {x:V},Vals xs us→xs[i]?=some x→∃ u,us[i]?=some u∧RelV x u
  | _,_,_,_,.nil,e=>by simp at e
  | _,_,0,_,.cons r _,e=>by simp at e;subst e;exact ⟨_,rfl,r⟩
  | _,_,i + 1,x,.cons _ t,e=>by
    obtain ⟨u,h1,h2⟩:=Vals.get (i:=i) (x:=x) t (by simpa using e)
    exact ⟨u,by simpa using h1,h2⟩
theorem Vals.append:∀ {xs ys:List V} {us ws:List Value},Vals xs us→Vals ys ws→Vals (xs++ys) (us++ws)
  | _,_,_,_,.nil,s=>s
  | _,_,_,_,.cons r t,s=>.cons r (Vals.append t s)
theorem Vals.take:∀ {xs:List V} {us:List Value} (n:Nat),Vals xs us→Vals (xs.take n) (us.take n)
  | _,_,0,_=>.nil
  | _,_,_ + 1,.nil=>.nil
  | _,_,n + 1,.cons r t=>.cons r (Vals.take n t)
theorem Vals.drop:∀ {xs:List V} {us:List Value} (n:Nat),Vals xs us→Vals (xs.drop n) (us.drop n)
  | _,_,0,r=>r
  | _,_,_ + 1,.nil=>.nil
  | _,_,n + 1,.cons _ t=>Vals.drop n t
def RelO:Option V→Option Value→Prop
  | some v,some u=>RelV v u
  | none,none=>True
  | _,_=>False
def KV {κ:Type}:List (κ × V)→List (κ × Value)→Prop:=Paired fun (p:κ × V) (q:κ × Value)=>p.1=q.1∧RelV p.2 q.2
def kV:Key→V
  | .inl i=>.int i
  | .inr x=>.str x
inductive HO where
    | lst (xs:List V)
    | tup (xs:List V)
    | dK (kvs:List (Key × V)) | dT (kvs:List (List Key × V))
    | set (S:Int→Bool) (n:Nat)
    | ins (C dx:Addr) (fs:List (Str × V))
    | own (x:Addr)
    | xd (fs:List (Str × V))
    | met (f x:Addr)
    | rng (lo hi:Int)
    | frz (o:Obj) (u:HO)
    | tbl (ps:Array Value)
    | ext (φ:Heap→Prop)
abbrev Hp:=Addr→Option HO
def upd (H:Hp) (a:Addr) (o:HO):Hp:=fun b=>if b=a then some o else H b
theorem upd_same {H:Hp} {a:Addr} {o:HO}:upd H a o a=some o:=by unfold upd;rw [if_pos rfl]
theorem upd_ne {H:Hp} {a b:Addr} {o:HO} (h:b≠a):upd H a o b=H b:=by unfold upd;rw [if_neg h]
theorem ne_of {H:Hp} {a b:Addr} {o u:HO} (h:H a=some o) (h':H b=some u) (d:o≠u):a≠b:=by
  intro e;subst e;rw [h] at h';exact d (Option.some.inj h')
theorem ne_of_none {H:Hp} {a b:Addr} {o:HO} (h:H a=some o) (h':H b=none):a≠b:=by
  intro e;subst e;rw [h] at h';cases h'
section
variable (P:Program) (w:World)
def ObjOk (H:Hp) (h:Heap) (a:Addr):HO→Prop
  | .lst xs=>xs.length≤sizeLine∧∃ (its:List Value) (n:Nat),Vals xs its∧h.get? a=some { cls:=.type "list",data:=.seq its.toArray n }
  | .tup xs=>xs.length≤sizeLine∧∃ its:List Value,Vals xs its∧IsTup h a its.toArray
  | .dK kvs=>kvs.length≤sizeLine∧(a == sysModules)=false∧∃ vs,KV kvs vs∧h.DictOf (mixKind P w) a vs
  | .dT kvs=>kvs.length≤sizeLine∧(a == sysModules)=false∧∃ xs:List (List Key × Addr × Value),
      Paired (fun (p:List Key × V) (q:List Key × Addr × Value)=>p.1=q.1∧H q.2.1=some (.tup (p.1.map kV))∧RelV p.2 q.2.2) kvs xs ∧
      ∃ o es ep,h.get? a=some o∧o.ExactDict∧o.data=.dict es ep∧es.toList=xs.map (entryOfKey (tupleKind (mixKind P w)))∧(xs.map (·.1)).Nodup
  | .set S n=>h.SetOf (intKind P w) a S n
  | .ins C dx fs=>H dx=some (.own a)∧fs.length≤1000∧dx≠a∧h.get? a=some (PySem.W.instObj C dx) ∧
      ∃ mA,h.Ns1 dx mA∧(∀ f,RelO (fs.lookup f) (mA f))∧PySem.Within mA (fs.map (·.1))
  | .own _=>∃ o,h.get? a=some o
  | .xd fs=>∃ mA,h.Ns1 a mA∧∀ f,RelO (fs.lookup f) (mA f)
  | .rng lo hi=>∃ t u v,h.get? a=some { cls:=.type "range",data:=.fields #[.int lo t,.int hi u,.int 1 v] }
  | .frz o u=>h.get? a=some o∧ObjOk H h a u
  | .tbl ps=>h.get? a=some { cls:=.none,data:=.fields ps }
  | .met f x=>h.get? a=some (PySem.W.methodObj (.ref f) (.ref x))
  | .ext φ=>φ h∧(∃ o,h.get? a=some o)∧∀ h1 h2:Heap,φ h1→(∀ o,h1.get? a=some o→h2.get? a=some o)→φ h2
def HOk (H:Hp) (h:Heap):Prop:=∀ a o,H a=some o→ObjOk P w H h a o
end
section
variable {P:Program} {w:World} {H H':Hp} {h h':Heap} {a:Addr} {o:HO}
theorem ObjOk.lt (x:ObjOk P w H h a o):a < h.objs.size:=by
  cases o with
  | lst xs=>obtain ⟨_,_,_,_,e⟩:=x;exact Heap.lt_size e
  | tup xs=>obtain ⟨_,_,_,p⟩:=x;exact p.lt
  | dK kvs=>obtain ⟨_,_,_,_,o,_,_,e,_⟩:=x;exact Heap.lt_size e
  | dT kvs=>obtain ⟨_,_,_,_,o,_,_,e,_⟩:=x;exact Heap.lt_size e
  | set S n=>obtain ⟨o,_,_,_,e,_⟩:=x;exact Heap.lt_size e
  | ins C dx fs=>obtain ⟨_,_,_,e,_⟩:=x;exact Heap.lt_size e
  | own y=>obtain ⟨_,e⟩:=x;exact Heap.lt_size e
  | xd fs=>obtain ⟨_,⟨_,_,_,e,_⟩,_⟩:=x;exact Heap.lt_size e
  | rng lo hi=>obtain ⟨_,_,_,e⟩:=x;exact Heap.lt_size e
  | frz ob u=>obtain ⟨e,_⟩:=x;exact Heap.lt_size e
  | tbl ps=>exact Heap.lt_size (show h.get? a=some _ from x)
  | met f y=>exact Heap.lt_size (show h.get? a=some _ from x)
  | ext φ=>obtain ⟨_,⟨_,e⟩,_⟩:=x;exact Heap.lt_size e
theorem Paired.mapP {α β:Type} {F G:α→β→Prop}:∀ {l₁:List α} {l₂:List β},Paired F l₁ l₂→(∀ a b,F a b→G a b)→Paired G l₁ l₂
  | _,_,.nil,_=>.nil
  | _,_,.cons r t,f=>.cons (f _ _ r) (Paired.mapP t f)
theorem ObjOk.stay (x:ObjOk P w H h a o) (k:∀ b u,(b=a∨H b=some (.own a))→h.get? b=some u→h'.get? b=some u)
    (ho:∀ b,H b=some (.own a)→H' b=some (.own a)) (ht:∀ b xs,H b=some (.tup xs)→H' b=some (.tup xs)):ObjOk P w H' h' a o:=by
  induction o with
  | lst xs=>obtain ⟨z,its,n,r,e⟩:=x;exact ⟨z,its,n,r,k _ _ (.inl rfl) e⟩
  | tup xs=>obtain ⟨z,its,r,ob,e,c⟩:=x;exact ⟨z,its,r,ob,k _ _ (.inl rfl) e,c⟩
  | dK kvs=>obtain ⟨z,y,vs,r,ob,es,ep,e,c⟩:=x;exact ⟨z,y,vs,r,ob,es,ep,k _ _ (.inl rfl) e,c⟩
  | dT kvs =>
    obtain ⟨z,y,xs,r,ob,es,ep,e,c⟩:=x
    exact ⟨z,y,xs,Paired.mapP r fun p q z=>⟨z.1,ht _ _ z.2.1,z.2.2⟩,ob,es,ep,k _ _ (.inl rfl) e,c⟩
  | set S n=>obtain ⟨ob,es,ep,t,e,c⟩:=x;exact ⟨ob,es,ep,t,k _ _ (.inl rfl) e,c⟩
  | ins C dx fs =>
    obtain ⟨d,z,ne,e,mA,⟨od,es,ep,e2,c⟩,r⟩:=x
    exact ⟨ho _ d,z,ne,k _ _ (.inl rfl) e,mA,⟨od,es,ep,k _ _ (.inr d) e2,c⟩,r⟩
  | own y=>obtain ⟨ob,e⟩:=x;exact ⟨ob,k _ _ (.inl rfl) e⟩
  | xd fs=>obtain ⟨mA,⟨od,es,ep,e,c⟩,r⟩:=x;exact ⟨mA,⟨od,es,ep,k _ _ (.inl rfl) e,c⟩,r⟩
  | rng lo hi=>obtain ⟨t,u,v,e⟩:=x;exact ⟨t,u,v,k _ _ (.inl rfl) e⟩
  | frz ob u ih=>obtain ⟨e,q⟩:=x;exact ⟨k _ _ (.inl rfl) e,ih q⟩
  | tbl ps =>
    have e:h.get? a=some { cls:=.none,data:=.fields ps }:=x
    show h'.get? a=some { cls:=.none,data:=.fields ps }
    exact k a _ (.inl rfl) e
  | met f y =>
    have e:h.get? a=some (PySem.W.methodObj (.ref f) (.ref y)):=x
    show h'.get? a=some (PySem.W.methodObj (.ref f) (.ref y))
    exact k a _ (.inl rfl) e
  | ext φ=>obtain ⟨p,⟨o,e⟩,st⟩:=x;exact ⟨st _ _ p fun o q=>k _ _ (.inl rfl) q,⟨o,k _ _ (.inl rfl) e⟩,st⟩
theorem HOk.lt (x:HOk P w H h) (e:H a=some o):a < h.objs.size:=(x a o e).lt
theorem HOk.fresh (x:HOk P w H h) (e:h.objs.size≤a):H a=none:=by
  cases q:H a with
  | none=>rfl
  | some u=>exact absurd (Nat.lt_of_lt_of_le (x.lt q) e) (Nat.lt_irrefl _)
theorem HOk.kept (x:HOk P w H h) (k:∀ b u,h.get? b=some u→h'.get? b=some u):HOk P w H h':=fun a o e =>
  (x a o e).stay (fun b u _ q=>k b u q) (fun _ q=>q) fun _ _ q=>q
theorem HOk.laid (x:HOk P w H h) (k:∀ b u,h.get? b=some u→h'.get? b=some u) (hp:h.objs.size≤a) (new:ObjOk P w (upd H a o) h' a o):HOk P w (upd H a o) h':=fun b u e=>by
  have hn:=x.fresh hp
  by_cases hb:b=a
  · subst hb;rw [upd_same] at e;cases e;exact new
  · rw [upd_ne hb] at e
    exact (x b u e).stay (fun c v _ q=>k c v q) (fun c q=>by rw [upd_ne (ne_of_none q hn)];exact q) fun c xs q=>by rw [upd_ne (ne_of_none q hn)];exact q
end
def Rd (H:Hp) (a:Addr) (u:HO):Prop:=H a=some u∨∃ o,H a=some (.frz o u)
theorem Rd.ok {P:Program} {w:World} {H:Hp} {h:Heap} {a:Addr} {u:HO} (r:Rd H a u) (x:HOk P w H h):ObjOk P w H h a u:=by
  rcases r with r | ⟨o,r⟩
  · exact x a u r
  · obtain ⟨_,q⟩:=x a _ r
    exact q
def Mut:Option HO→Prop
  | some (.lst _)=>True
  | some (.dK _)=>True
  | some (.dT _)=>True
  | some (.set _ _)=>True
  | some (.ins _ _ _)=>True
  | some (.ext _)=>True
  | _=>False
section
variable {P:Program} {w:World} {H:Hp} {h h':Heap} {x e:Addr} {o':HO}
theorem HOk.write (ok:HOk P w H h) (mu:Mut (H x)) (he:e=x∨H e=some (.own x)) (k:∀ b u,b≠e→h.get? b=some u→h'.get? b=some u) (heo:∃ u,h'.get? e=some u)
    (new:ObjOk P w (upd H x o') h' x o'):HOk P w (upd H x o') h':=fun b u q=>by
  have nown:∀ c y,H c=some (.own y)→c≠x:=fun c y r z=>by subst z;rw [r] at mu;exact mu
  have ntup:∀ c xs,H c=some (.tup xs)→c≠x:=fun c xs r z=>by subst z;rw [r] at mu;exact mu
  by_cases hb:b=x
  · subst hb;rw [upd_same] at q;cases q;exact new
  · rw [upd_ne hb] at q
    by_cases hbe:b=e
    · have q':H b=some (.own x):=by
        rcases he with z | z
        · exact absurd (hbe.trans z) hb
        · rw [hbe];exact z
      rw [q] at q';cases q'
      obtain ⟨v,hv⟩:=heo
      exact ⟨v,by rw [hbe];exact hv⟩
    · refine (ok b u q).stay (fun c v hc r=>k c v ?_ r) (fun c r=>by rw [upd_ne (nown c b r)];exact r) fun c xs r=>by rw [upd_ne (ntup c xs r)];exact r
      rcases hc with rfl | hc
      · exact hbe
      · rintro rfl
        rcases he with z | z
        · exact nown c b hc z
        · rw [hc] at z;cases z;exact hb rfl
end
structure Un (fs ex:List Addr) (H H':Hp) (h h':Heap):Prop where
  keep:∀ b o,h.get? b=some o→H b=none→b ∉ fs→b ∉ ex→h'.get? b=some o
  slot:∀ b o,h.get? b=some o→H b=none→b∈fs→b ∉ ex→∃ sl,h'.get? b=some { o with slots:=sl }
  free:∀ b o,h.get? b=some o→H b=none→b ∉ ex→H' b=none
  there:∀ b o,h.get? b=some o→b ∉ ex→∃ o',h'.get? b=some o'
  tups:∀ b xs,H b=some (.tup xs)→H' b=some (.tup xs)
  frzs:∀ b o u,H b=some (.frz o u)→H' b=some (.frz o u)
  tbls:∀ b ps,H b=some (.tbl ps)→∃ more,H' b=some (.tbl (ps++more))
section
variable {fs fs' ex ex':List Addr} {H H1 H2:Hp} {h h1 h2 h':Heap} {a x e:Addr} {o:HO}
theorem Un.any (u:Un fs ex H H1 h h1) {b:Addr} {ob:Obj} (q:h.get? b=some ob) (n:H b=none) (hx:b ∉ ex):∃ sl,h1.get? b=some { ob with slots:=sl }:=by
  by_cases hb:b∈fs
  · exact u.slot b ob q n hb hx
  · exact ⟨ob.slots,u.keep b ob q n hb hx⟩
theorem Un.kept (k:∀ b u,h.get? b=some u→h'.get? b=some u):Un fs ex H H h h' :=
  ⟨fun b ob q _ _ _=>k b ob q,fun b ob q _ _ _=>⟨ob.slots,k b ob q⟩,fun _ _ _ n _=>n,fun b ob q _=>⟨ob,k b ob q⟩,fun _ _ q=>q,fun _ _ _ q=>q,fun _ ps q=>⟨#[],by rw [q];simp⟩⟩
theorem Un.refl:Un fs ex H H h h:=Un.kept fun _ _ q=>q
theorem Un.laid (k:∀ b u,h.get? b=some u→h'.get? b=some u) (hp:h.objs.size≤a) (hn:H a=none):Un fs ex H (upd H a o) h h' where
  keep:=fun b u q _ _ _=>k b u q
  slot:=fun b u q _ _ _=>⟨u.slots,k b u q⟩
  free:=fun b u q n _=>by rw [upd_ne (Nat.ne_of_lt (Nat.lt_of_lt_of_le (Heap.lt_size q) hp))];exact n
  there:=fun b u q _=>⟨u,k b u q⟩
  tups:=fun b xs q=>by rw [upd_ne (ne_of_none q hn)];exact q
  frzs:=fun b u xs q=>by rw [upd_ne (ne_of_none q hn)];exact q
  tbls:=fun b ps q=>⟨#[],by rw [upd_ne (ne_of_none q hn),q];simp⟩
theorem Un.write (mu:Mut (H x)) (he:e=x∨H e=some (.own x)) (k:∀ b u,b≠e→h.get? b=some u→h'.get? b=some u) (heo:∃ u,h'.get? e=some u):Un fs ex H (upd H x o) h h':=by
  have hx:∀ b,H b=none→b≠x:=fun b n z=>by subst z;rw [n] at mu;exact mu
  have hb:∀ b,H b=none→b≠e:=fun b n z=>by
    subst z
    rcases he with r | r
    · exact hx b n r
    · rw [n] at r;cases r
  have hm:∀ b u,H b=some u→¬ Mut (some u)→b≠x:=fun b u q nm z=>by subst z;rw [q] at mu;exact nm mu
  refine ⟨fun b u q n _ _=>k b u (hb b n) q,fun b u q n _ _=>⟨u.slots,k b u (hb b n) q⟩,fun b u q n _=>by rw [upd_ne (hx b n)];exact n,fun b u q _=>?_,
    fun b xs q=>by rw [upd_ne (hm b _ q fun z=>z)];exact q,fun b u xs q=>by rw [upd_ne (hm b _ q fun z=>z)];exact q,fun b ps q=>⟨#[],by rw [upd_ne (hm b _ q fun z=>z),q];simp⟩⟩
  by_cases hbe:b=e
  · subst hbe;exact heo
  · exact ⟨u,k b u hbe q⟩
end
def trk (h:Heap) (H:Hp):List Addr:=(List.range h.objs.size).filter fun a=>(H a).isSome
def hidT (h:Heap) (H:Hp):Heap:=PySem.W.hideAll h (trk h H)
theorem hidT_size (h:Heap) (H:Hp):(hidT h H).objs.size=h.objs.size:=PySem.W.hideAll_size _ _
theorem hidT_get {h:Heap} {H:Hp} {b:Addr} {o:Obj} (e:h.get? b=some o) (n:H b=none):(hidT h H).get? b=some o :=
  PySem.W.hideAll_get _ e fun hm=>by
    have q:(H b).isSome=true:=(List.mem_filter.mp hm).2
    rw [n] at q;simp at q
theorem of_hidT {h:Heap} {H:Hp} {b:Addr} {o:Obj} (e:(hidT h H).get? b=some o):h.get? b=some o∧H b=none:=by
  have e':h.get? b=some o:=PySem.W.of_hideAll (trk h H) e
  refine ⟨e',?_⟩
  cases q:H b with
  | none=>rfl
  | some x =>
    have hm:b∈trk h H:=List.mem_filter.mpr ⟨List.mem_range.mpr (Heap.lt_size e'),by simp [q]⟩
    have z:(hidT h H).get? b=none:=PySem.W.hideAll_none (trk h H) hm
    rw [z] at e;cases e
structure Mod (K:PySem.W.Frag) (mg:Str→Option Value) (base:Heap):Prop where
  kin:K.In base
  glob:base.Ns mainGlobals mg
  blt:∃ mb,base.Ns builtinsNs mb∧∀ x:Str,x≠"__name__"→mb x=bootBuiltins x
  nolimit:base.NoLimit
structure Cx where
  prog:Program
  w:World
  K:PySem.W.Frag
  mg:Str→Option Value
  base:Heap
  A:Around
  N:List Str
  s₀:Shared
  H₀:Hp
  env:Env
  outer:List Env
  stack:List Env
  ex:List Addr
  fn:Str→Bool
  calm:Bool
  pn:List (Addr × Obj)
  xe:Value→Shared→Prop
def frs (l:List Env):List Addr:=l.filterMap (·.frame)
abbrev Cx.fs (X:Cx):List Addr:=frs X.outer
def Vis (sc:Scope) (x:Str):Prop:=sc.names.lookup x=some .local∨sc.names.lookup x=some .cell∨sc.names.lookup x=some .free
def Loc (sc:Scope) (x:Str):Prop:=sc.names.lookup x=some .local∨sc.names.lookup x=some .cell
def Look (env:Env) (h:Heap) (m:Str→Option Value) (x:Str) (u:Value):Prop :=
  (env.kindOf x=some .local∧m x=some u)∨((env.kindOf x=some .cell∨env.kindOf x=some .free)∧∃ c,env.cells.lookup x=some c∧h.IsCell c (some u))
structure Cx.Ok (X:Cx):Prop where
  mod:Mod X.K X.mg X.base
  kind:X.env.scope.kind=.function
  glob:X.env.globals=mainGlobals
  blt:X.env.builtins=builtinsNs
  above:X.s₀.heap.objs.size≤X.env.locals
  inj:∀ x y c,X.env.cells.lookup x=some c→X.env.cells.lookup y=some c→x=y
  has:∀ x,(X.env.kindOf x=some .cell∨X.env.kindOf x=some .free)→∃ c,X.env.cells.lookup x=some c
  cab:∀ x c,X.fn x=true→X.env.cells.lookup x=some c→X.s₀.heap.objs.size≤c
  hd:X.calm=true→X.A.handled=none
  frames:X.A.frames=some X.stack
  stk:X.stack=X.outer∨(X.stack=X.env :: X.outer∧X.env.frame=some X.env.locals)
  exf:∀ b∈X.ex,b≠X.env.locals∧∀ x c,X.env.cells.lookup x=some c→c≠b
  bs:∀ b o,X.base.get? b=some o→X.s₀.heap.get? b=some o∧X.H₀ b=none
  bsz:X.base.objs.size≤X.s₀.heap.objs.size
  noex:∀ b o,X.base.get? b=some o→b ∉ X.ex
  exfs:∀ b∈X.ex,b ∉ X.fs
  funs:X.s₀.heap.FunFrames X.base X.outer
  frf:∀ b∈X.fs,X.H₀ b=none
structure Inv (X:Cx) (pins:List (Addr × Obj)) (σ:List (Option V)) (H:Hp) (s:Shared):Prop where
  ok:X.Ok
  os:s.os=X.s₀.os
  bare:AllBare s.gens
  base:Un X.fs X.ex X.H₀ H X.s₀.heap s.heap
  loc:∃ m,s.heap.Ns X.env.locals m∧∀ (i:Nat) (x:Str) (v:V),X.N[i]?=some x→σ[i]?=some (some v)→Vis X.env.scope x→∃ u,RelV v u∧Look X.env s.heap m x u
  cell:∀ x c,X.env.cells.lookup x=some c→∃ v,s.heap.IsCell c v
  free:H X.env.locals=none
  freeC:∀ x c,X.env.cells.lookup x=some c→H c=none
  pin:∀ p∈X.pn++pins,s.heap.get? p.1=some p.2∧H p.1=none∧p.1≠X.env.locals∧p.1 ∉ X.fs∧∀ v,p.2.data≠.cell v
  hok:HOk X.prog X.w H s.heap
  len:σ.length=X.N.length
section
variable {X:Cx} {pins:List (Addr × Obj)} {σ:List (Option V)} {H H':Hp} {s:Shared} {h':Heap}
theorem Cx.Ok.nofr (ok:X.Ok) {b:Addr} {o:Obj} (e:X.base.get? b=some o):b ∉ X.fs:=fun hb=>by
  have:=(ok.funs.mem hb).1
  rw [e] at this;cases this
theorem Inv.bs (I:Inv X pins σ H s):∀ b o,X.base.get? b=some o→s.heap.get? b=some o∧H b=none:=fun b o e =>
  ⟨I.base.keep b o (I.ok.bs b o e).1 (I.ok.bs b o e).2 (I.ok.nofr e) (I.ok.noex b o e),I.base.free b o (I.ok.bs b o e).1 (I.ok.bs b o e).2 (I.ok.noex b o e)⟩
theorem Inv.bk (I:Inv X pins σ H s):∀ b o,X.base.get? b=some o→s.heap.get? b=some o:=fun b o e=>(I.bs b o e).1
theorem Inv.mod (I:Inv X pins σ H s):Mod X.K X.mg X.base:=I.ok.mod
theorem Inv.kIn (I:Inv X pins σ H s):X.K.In s.heap:=I.ok.mod.kin.keeps I.bk
theorem Inv.fr (I:Inv X pins σ H s):∃ m,Fr X.base X.env.locals s.heap m :=
  let ⟨m,hn,_⟩:=I.loc
  ⟨m,hn,I.bk,Nat.le_trans I.ok.bsz I.ok.above⟩
theorem Inv.lt (I:Inv X pins σ H s):X.env.locals < s.heap.objs.size:=let ⟨_,hn,_⟩:=I.loc;hn.lt
theorem Inv.sz (I:Inv X pins σ H s):X.s₀.heap.objs.size≤s.heap.objs.size:=Nat.le_trans I.ok.above (Nat.le_of_lt I.lt)
theorem Inv.nofs (I:Inv X pins σ H s) {a:Addr} (h:s.heap.objs.size≤a):a ∉ X.fs:=fun hb=>by
  obtain ⟨_,o,ho,_⟩:=I.ok.funs.mem hb
  exact absurd (Nat.lt_of_lt_of_le (Heap.lt_size ho) (Nat.le_trans I.sz h)) (Nat.lt_irrefl _)
theorem Inv.cne (I:Inv X pins σ H s):∀ x c,X.env.cells.lookup x=some c→c≠X.env.locals:=fun x c e z=>by
  obtain ⟨v,o,ho,hd⟩:=I.cell x c e
  obtain ⟨m,⟨o',es,ep,ho',hd',_⟩,_⟩:=I.loc
  rw [z,ho'] at ho;cases ho;rw [hd'] at hd;cases hd
theorem Inv.funs (I:Inv X pins σ H s):s.heap.FunFrames X.base X.outer:=by
  have all:∀ (l:List Env),(∀ b∈frs l,b∈X.fs)→X.s₀.heap.FunFrames X.base l→s.heap.FunFrames X.base l:=by
    intro l
    induction l with
    | nil=>intro _ _;trivial
    | cons env r ih =>
      intro hs hl
      obtain ⟨hk,⟨L,o,hf,hn,ho,hd⟩,hr⟩:=hl
      have hL:L∈X.fs:=hs L (by unfold frs;rw [List.filterMap_cons,hf];exact List.mem_cons_self)
      obtain ⟨sl,e⟩:=I.base.slot L o ho (I.ok.frf L hL) hL fun z=>I.ok.exfs L z hL
      exact ⟨hk,⟨L,_,hf,hn,e,hd⟩,ih (fun b hb=>hs b (by unfold frs;rw [List.filterMap_cons,hf];exact List.mem_cons_of_mem _ hb)) hr⟩
  exact all X.outer (fun _ hb=>hb) I.ok.funs
theorem Inv.stack (I:Inv X pins σ H s):s.heap.FunFrames X.base X.stack:=by
  rcases I.ok.stk with e | ⟨e,hf⟩
  · rw [e];exact I.funs
  · rw [e]
    obtain ⟨m,hn,_⟩:=I.loc
    refine .cons (by rw [I.ok.kind];decide) hf hn ?_ I.funs
    exact Heap.get?_none_of_le (Nat.le_trans I.ok.bsz I.ok.above)
theorem Inv.stkSub (I:Inv X pins σ H s):∀ b∈frs X.stack,b∈X.env.locals :: X.fs:=fun b hb=>by
  rcases I.ok.stk with e | ⟨e,hf⟩
  · rw [e] at hb;exact List.mem_cons_of_mem _ hb
  · rw [e] at hb
    unfold frs at hb
    rw [List.filterMap_cons,hf] at hb
    exact hb
theorem Inv.stkFree (I:Inv X pins σ H s):∀ b∈frs X.stack,H b=none:=fun b hb=>by
  rcases List.mem_cons.mp (I.stkSub b hb) with e | hb
  · rw [e];exact I.free
  · obtain ⟨_,o,ho,_⟩:=I.ok.funs.mem hb
    exact I.base.free b o ho (I.ok.frf b hb) fun z=>I.ok.exfs b z hb
theorem Inv.step {g':Array GenState} {t':Nat} {d':Drawn} {ch:List Addr} (I:Inv X pins σ H s)
    (hch:∀ b∈ch,(b∈X.ex∨X.s₀.heap.objs.size≤b)∧b≠X.env.locals∧(∀ x c,X.env.cells.lookup x=some c→c≠b)∧∀ p∈X.pn++pins,p.1≠b)
    (keep:∀ b o,b≠X.env.locals→b ∉ X.fs→b ∉ ch→s.heap.get? b=some o→H b=none→h'.get? b=some o)
    (slot:∀ b o,b≠X.env.locals→b∈X.fs→b ∉ ch→s.heap.get? b=some o→H b=none→∃ sl,h'.get? b=some { o with slots:=sl }) (free:∀ b o,b ∉ ch→s.heap.get? b=some o→H b=none→H' b=none)
    (there:∀ b o,b ∉ ch→s.heap.get? b=some o→∃ o',h'.get? b=some o')
    (tups:∀ b xs,H b=some (.tup xs)→H' b=some (.tup xs)) (frzs:∀ b o u,H b=some (.frz o u)→H' b=some (.frz o u)) (tbls:∀ b ps,H b=some (.tbl ps)→∃ more,H' b=some (.tbl (ps++more)))
    (ns:∀ m,s.heap.Ns X.env.locals m→h'.Ns X.env.locals m) (hok:HOk X.prog X.w H' h') (hg:AllBare g') :
    Inv X pins σ H' { s with heap:=h',gens:=g',drawn:=d',toks:=t' }:=by
  have neL:∀ b o,X.s₀.heap.get? b=some o→b≠X.env.locals:=fun b o e=>Nat.ne_of_lt (Nat.lt_of_lt_of_le (Heap.lt_size e) I.ok.above)
  have neC:∀ b o,X.s₀.heap.get? b=some o→b ∉ X.ex→b ∉ ch:=fun b o e hx hb=>by
    rcases (hch b hb).1 with z | z
    · exact hx z
    · exact absurd (Nat.lt_of_lt_of_le (Heap.lt_size e) z) (Nat.lt_irrefl _)
  have cellK:∀ x c,X.env.cells.lookup x=some c→∀ v,s.heap.IsCell c v→h'.IsCell c v:=fun x c e v ⟨o,ho,hd⟩=>by
    have nch:c ∉ ch:=fun z=>(hch c z).2.2.1 x c e rfl
    by_cases hc:c∈X.fs
    · obtain ⟨sl,q⟩:=slot c o (I.cne x c e) hc nch ho (I.freeC x c e)
      exact ⟨_,q,hd⟩
    · exact ⟨o,keep c o (I.cne x c e) hc nch ho (I.freeC x c e),hd⟩
  refine ⟨I.ok,I.os,hg,⟨fun b o e n hb hx=>?_,fun b o e n hb hx=>?_,fun b o e n hx=>?_,fun b o e hx=>?_,fun b xs e=>tups b xs (I.base.tups b xs e),fun b o xs e=>frzs b o xs (I.base.frzs b o xs e),fun b ps e=>?_⟩,?_,fun x c e=>?_,?_,fun x c e=>?_,fun p hp=>?_,hok,I.len⟩
  · exact keep b o (neL b o e) hb (neC b o e hx) (I.base.keep b o e n hb hx) (I.base.free b o e n hx)
  · obtain ⟨sl,e1⟩:=I.base.slot b o e n hb hx
    obtain ⟨sl',e2⟩:=slot b _ (neL b o e) hb (neC b o e hx) e1 (I.base.free b o e n hx)
    exact ⟨sl',e2⟩
  · obtain ⟨o',e1⟩:=I.base.there b o e hx
    exact free b o' (neC b o e hx) e1 (I.base.free b o e n hx)
  · obtain ⟨o',e1⟩:=I.base.there b o e hx
    exact there b o' (neC b o e hx) e1
  · obtain ⟨m1,e1⟩:=I.base.tbls b ps e
    obtain ⟨m2,e2⟩:=tbls b _ e1
    exact ⟨m1++m2,by rw [e2,Array.append_assoc]⟩
  · obtain ⟨m,hn,hl⟩:=I.loc
    refine ⟨m,ns m hn,fun i x v e1 e2 e3=>?_⟩
    obtain ⟨u,r,l⟩:=hl i x v e1 e2 e3
    refine ⟨u,r,?_⟩
    rcases l with l | ⟨k,c,e,z⟩
    · exact .inl l
    · exact .inr ⟨k,c,e,cellK x c e _ z⟩
  · obtain ⟨v,z⟩:=I.cell x c e
    exact ⟨v,cellK x c e v z⟩
  · obtain ⟨m,⟨o,_,_,ho,_⟩,_⟩:=I.loc
    exact free _ o (fun z=>(hch _ z).2.1 rfl) ho I.free
  · obtain ⟨v,o,ho,hd⟩:=I.cell x c e
    exact free c o (fun z=>(hch c z).2.2.1 x c e rfl) ho (I.freeC x c e)
  · obtain ⟨e,n,ne,nf,d⟩:=I.pin p hp
    have nch:p.1 ∉ ch:=fun z=>(hch p.1 z).2.2.2 p hp rfl
    exact ⟨keep p.1 p.2 ne nf nch e n,free p.1 p.2 nch e n,ne,nf,d⟩
theorem Inv.un {t':Nat} (I:Inv X pins σ H s) (u:Un X.fs [] H H' s.heap h') (hok:HOk X.prog X.w H' h'):Inv X pins σ H' { s with heap:=h',toks:=t' }:=by
  obtain ⟨m,⟨o,es,ep,ho,r⟩,_⟩:=id I.loc
  obtain ⟨sl,hL⟩:=u.any ho I.free (by simp)
  exact I.step (g':=s.gens) (d':=s.drawn) (ch:=[]) (fun _ z=>nomatch z) (fun b o _ hb _ e n=>u.keep b o e n hb (by simp)) (fun b o _ hb _ e n=>u.slot b o e n hb (by simp)) (fun b o _ e n=>u.free b o e n (by simp)) (fun b o _ e=>u.there b o e (by simp)) u.tups u.frzs u.tbls (fun m' hm=>by
    obtain ⟨o',es',ep',ho',r'⟩:=hm
    rw [ho] at ho';cases ho'
    exact ⟨_,es',ep',hL,r'⟩) hok I.bare
theorem Inv.call {g':Array GenState} {t':Nat} {d':Drawn} {ch:List Addr} (I:Inv X pins σ H s) (u:Un (frs X.stack) ch H H' s.heap h') (hok:HOk X.prog X.w H' h') (hg:AllBare g')
    (hch:∀ b∈ch,(b∈X.ex∨X.s₀.heap.objs.size≤b)∧b≠X.env.locals∧(∀ x c,X.env.cells.lookup x=some c→c≠b)∧∀ p∈X.pn++pins,p.1≠b) :
    Inv X pins σ H' { s with heap:=h',gens:=g',drawn:=d',toks:=t' }:=by
  obtain ⟨m,⟨o,es,ep,ho,r⟩,_⟩:=id I.loc
  obtain ⟨sl,hL⟩:=u.any ho I.free fun z=>(hch _ z).2.1 rfl
  exact I.step (ch:=ch) hch (fun b o hL hb hc e n=>u.keep b o e n (fun z=>(List.mem_cons.mp (I.stkSub b z)).elim hL hb) hc) (fun b o _ _ hc e n=>u.any e n hc) (fun b o hc e n=>u.free b o e n hc) (fun b o hc e=>u.there b o e hc) u.tups u.frzs u.tbls (fun m' hm=>by
    obtain ⟨o',es',ep',ho',r'⟩:=hm
    rw [ho] at ho';cases ho'
    exact ⟨_,es',ep',hL,r'⟩) hok hg
theorem Inv.turned {t':Nat} {it:Addr} (I:Inv X pins σ H s) (k:∀ b o,b≠it→s.heap.get? b=some o→h'.get? b=some o) (hn:H it=none) (hL:it≠X.env.locals)
    (h1:it∈X.ex∨X.s₀.heap.objs.size≤it) (h2:∀ x c,X.env.cells.lookup x=some c→c≠it) (h3:∀ p∈X.pn++pins,p.1≠it):Inv X pins σ H { s with heap:=h',toks:=t' }:=by
  have nit:∀ b u,H b=some u→b≠it:=fun b u e z=>by rw [z,hn] at e;cases e
  refine I.step (g':=s.gens) (d':=s.drawn) (ch:=[it]) (fun b hb=>?_) (fun b o _ _ hc e _=>k b o (fun z=>hc (by simp [z])) e) (fun b o _ _ hc e _=>⟨o.slots,k b o (fun z=>hc (by simp [z])) e⟩) (fun _ _ _ _ n=>n)
    (fun b o hc e=>⟨o,k b o (fun z=>hc (by simp [z])) e⟩) (fun _ _ e=>e) (fun _ _ _ e=>e) (fun b ps e=>⟨#[],by rw [e];simp⟩) (fun m hm=>?_) (fun b u e=>?_) I.bare
  · have e:b=it:=by simpa using hb
    subst e
    exact ⟨h1,hL,h2,h3⟩
  · obtain ⟨o,es,ep,ho,r⟩:=hm
    exact ⟨o,es,ep,k _ o (Ne.symm hL) ho,r⟩
  · refine (I.hok b u e).stay (fun c v hc q=>k c v ?_ q) (fun _ q=>q) fun _ _ q=>q
    rcases hc with z | z
    · rw [z];exact nit b u e
    · exact nit c _ z
theorem Inv.tok (I:Inv X pins σ H s) (t:Nat):Inv X pins σ H { s with toks:=t }:=I.un (h':=s.heap) (t':=t) Un.refl I.hok
theorem Inv.kept {t':Nat} (I:Inv X pins σ H s) (k:∀ b u,s.heap.get? b=some u→h'.get? b=some u):Inv X pins σ H { s with heap:=h',toks:=t' }:=I.un (Un.kept k) (I.hok.kept k)
theorem Inv.laid {a:Addr} {o:HO} {t':Nat} (I:Inv X pins σ H s) (k:∀ b u,s.heap.get? b=some u→h'.get? b=some u) (hp:s.heap.objs.size≤a) (new:ObjOk X.prog X.w (upd H a o) h' a o) :
    Inv X pins σ (upd H a o) { s with heap:=h',toks:=t' }:=I.un (Un.laid k hp (I.hok.fresh hp)) (I.hok.laid k hp new)
theorem Inv.write {x e:Addr} {o:HO} {t':Nat} (I:Inv X pins σ H s) (mu:Mut (H x)) (he:e=x∨H e=some (.own x)) (k:∀ b u,b≠e→s.heap.get? b=some u→h'.get? b=some u) (heo:∃ u,h'.get? e=some u)
    (new:ObjOk X.prog X.w (upd H x o) h' x o):Inv X pins σ (upd H x o) { s with heap:=h',toks:=t' }:=I.un (Un.write mu he k heo) (I.hok.write mu he k heo new)
theorem Inv.weak {σ':List (Option V)} (I:Inv X pins σ H s) (hl:σ'.length=σ.length) (w:∀ (i:Nat) v,σ'[i]?=some (some v)→σ[i]?=some (some v)):Inv X pins σ' H s :=
  ⟨I.ok,I.os,I.bare,I.base,let ⟨m,hn,hl'⟩:=I.loc;⟨m,hn,fun i x v e1 e2 e3=>hl' i x v e1 (w i v e2) e3⟩,I.cell,I.free,I.freeC,I.pin,I.hok,hl.trans I.len⟩
theorem Inv.pins_of {pins':List (Addr × Obj)} (I:Inv X pins σ H s) (h:∀ p∈pins',s.heap.get? p.1=some p.2∧H p.1=none∧p.1≠X.env.locals∧p.1 ∉ X.fs∧∀ v,p.2.data≠.cell v):Inv X pins' σ H s :=
  ⟨I.ok,I.os,I.bare,I.base,I.loc,I.cell,I.free,I.freeC,fun p hp=>(List.mem_append.mp hp).elim (fun z=>I.pin p (List.mem_append_left _ z)) (h p),I.hok,I.len⟩
theorem nodup_ix {N:List Str} (hN:N.Nodup) {i j:Nat} {x:Str} (a:N[i]?=some x) (b:N[j]?=some x):i=j:=by
  obtain ⟨h1,e1⟩:=List.getElem?_eq_some_iff.mp a
  obtain ⟨h2,e2⟩:=List.getElem?_eq_some_iff.mp b
  exact (List.getElem_inj hN).mp (e1.trans e2.symm)
theorem store_ok2 {M:Model} {A:Around} {E:Value→Shared→Prop} {i:Nat} {x:Str} {v:V} {u:Value} {Q:Unit→Shared→Prop} (I:Inv X pins σ H s) (hN:X.N.Nodup) (hi:X.N[i]?=some x) (hx:Loc X.env.scope x) (r:RelV v u)
    (h:∀ s',Inv X pins (σ.set i (some v)) H s'→(∃ a,Heap.SameBut a s.heap s'.heap∧(a=X.env.locals∨X.env.cells.lookup x=some a))→Q () s') (hf:X.fn x=true∨X.env.scope.names.lookup x=some .local:=by first | exact .inl rfl | exact .inr rfl | assumption):wpAny M A (storeName X.env x u) Q E s:=by
  obtain ⟨m,hn,hl⟩:=id I.loc
  have hcls:(X.env.scope.kind == .class || (X.env.scope.kind == .module && X.env.locals != X.env.globals))=false:=by rw [I.ok.kind];rfl
  have hiσ:i < σ.length:=by rw [I.len];exact (List.getElem?_eq_some_iff.mp hi).1
  have cne:=I.cne
  have tracked:∀ {a:Addr} {h':Heap},(∃ o,s.heap.get? a=some o∧H a=none)→Heap.SameBut a s.heap h'→HOk X.prog X.w H h':=fun {a h'} ha hs b ob e=>by
    obtain ⟨_,_,hfree⟩:=ha
    refine (I.hok b ob e).stay (fun c w' hc q=>(hs.2 c ?_).trans q) (fun _ q=>q) fun _ _ q=>q
    rintro rfl
    rcases hc with rfl | hc
    · rw [hfree] at e;cases e
    · rw [hfree] at hc;cases hc
  rcases hx with hk | hk
  · refine wpAny_storeName_local hk hn (fun h' hn' hs=>?_) hcls
    obtain ⟨oL,_,_,hoL,_⟩:=id hn
    refine h _ ⟨I.ok,I.os,I.bare,⟨fun b o e n hb hx=>?_,fun b o e n hb hx=>?_,I.base.free,fun b o e hx=>?_,I.base.tups,I.base.frzs,I.base.tbls⟩,⟨_,hn',fun j y v' e1 e2 e3=>?_⟩,fun y c e=>?_,I.free,I.freeC,fun p hp=>?_,tracked ⟨oL,hoL,I.free⟩ hs,by simpa using I.len⟩ ⟨_,hs,.inl rfl⟩
    · exact (hs.2 b (Nat.ne_of_lt (Nat.lt_of_lt_of_le (Heap.lt_size e) I.ok.above))).trans (I.base.keep b o e n hb hx)
    · obtain ⟨sl,e1⟩:=I.base.slot b o e n hb hx
      exact ⟨sl,(hs.2 b (Nat.ne_of_lt (Nat.lt_of_lt_of_le (Heap.lt_size e) I.ok.above))).trans e1⟩
    · obtain ⟨o',e1⟩:=I.base.there b o e hx
      exact ⟨o',(hs.2 b (Nat.ne_of_lt (Nat.lt_of_lt_of_le (Heap.lt_size e) I.ok.above))).trans e1⟩
    · by_cases hj:j=i
      · subst hj
        rw [hi] at e1;cases e1
        rw [List.getElem?_set_self hiσ] at e2
        cases e2
        exact ⟨u,r,.inl ⟨hk,by simp⟩⟩
      · rw [List.getElem?_set_ne (Ne.symm hj)] at e2
        obtain ⟨u',r',q⟩:=hl j y v' e1 e2 e3
        refine ⟨u',r',?_⟩
        rcases q with ⟨k,e⟩ | ⟨k,c,e,z⟩
        · refine .inl ⟨k,?_⟩
          have:y≠x:=fun e=>hj (nodup_ix hN e1 (e ▸ hi))
          simp [this,e]
        · exact .inr ⟨k,c,e,z.sameBut hs (cne y c e)⟩
    · obtain ⟨w',z⟩:=I.cell y c e
      exact ⟨w',z.sameBut hs (cne y c e)⟩
    · obtain ⟨e,n,ne,nf,d⟩:=I.pin p hp
      exact ⟨(hs.2 p.1 ne).trans e,n,ne,nf,d⟩
  · have hfn:X.fn x=true:=by
      rcases hf with z | z
      · exact z
      · rw [z] at hk;cases hk
    obtain ⟨c,hc⟩:=I.ok.has x (.inl hk)
    obtain ⟨w',z⟩:=I.cell x c hc
    refine wpAny_storeName_cell I.ok.kind hk hc z (fun h' hc' hs=>?_)
    obtain ⟨oc,hoc,hocd⟩:=id z
    refine h { s with heap:=h' } ⟨I.ok,I.os,I.bare,⟨fun b o e n hb hx=>?_,fun b o e n hb hx=>?_,I.base.free,fun b o e hx=>?_,I.base.tups,I.base.frzs,I.base.tbls⟩,⟨m,hn.sameBut hs (Ne.symm (cne x c hc)),fun j y v' e1 e2 e3=>?_⟩,fun y c' e=>?_,I.free,I.freeC,fun p hp=>?_,tracked ⟨oc,hoc,I.freeC x c hc⟩ hs,by simpa using I.len⟩ ⟨c,hs,.inr hc⟩
    · exact (hs.2 b (Nat.ne_of_lt (Nat.lt_of_lt_of_le (Heap.lt_size e) (I.ok.cab x c hfn hc)))).trans (I.base.keep b o e n hb hx)
    · obtain ⟨sl,e1⟩:=I.base.slot b o e n hb hx
      exact ⟨sl,(hs.2 b (Nat.ne_of_lt (Nat.lt_of_lt_of_le (Heap.lt_size e) (I.ok.cab x c hfn hc)))).trans e1⟩
    · obtain ⟨o',e1⟩:=I.base.there b o e hx
      exact ⟨o',(hs.2 b (Nat.ne_of_lt (Nat.lt_of_lt_of_le (Heap.lt_size e) (I.ok.cab x c hfn hc)))).trans e1⟩
    · by_cases hj:j=i
      · subst hj
        rw [hi] at e1;cases e1
        rw [List.getElem?_set_self hiσ] at e2
        cases e2
        exact ⟨u,r,.inr ⟨.inl hk,c,hc,hc'⟩⟩
      · rw [List.getElem?_set_ne (Ne.symm hj)] at e2
        obtain ⟨u',r',q⟩:=hl j y v' e1 e2 e3
        refine ⟨u',r',?_⟩
        rcases q with q | ⟨k,c',e,z'⟩
        · exact .inl q
        · refine .inr ⟨k,c',e,z'.sameBut hs ?_⟩
          rintro rfl
          exact hj (nodup_ix hN e1 (I.ok.inj _ _ _ e hc ▸ hi))
    · by_cases hcc:c'=c
      · subst hcc;exact ⟨_,hc'⟩
      · obtain ⟨w2,z2⟩:=I.cell y c' e
        exact ⟨w2,z2.sameBut hs hcc⟩
    · obtain ⟨e,n,ne,nf,d⟩:=I.pin p hp
      refine ⟨(hs.2 p.1 ?_).trans e,n,ne,nf,d⟩
      intro q
      rw [q,hoc] at e
      have q':oc=p.2:=Option.some.inj e
      exact d w' (by rw [← q'];exact hocd)
theorem store_ok {M:Model} {A:Around} {E:Value→Shared→Prop} {i:Nat} {x:Str} {v:V} {u:Value} {Q:Unit→Shared→Prop} (I:Inv X pins σ H s) (hN:X.N.Nodup) (hi:X.N[i]?=some x) (hx:Loc X.env.scope x) (r:RelV v u)
    (h:∀ s',Inv X pins (σ.set i (some v)) H s'→Q () s') (hf:X.fn x=true∨X.env.scope.names.lookup x=some .local:=by first | exact .inl rfl | exact .inr rfl | assumption):wpAny M A (storeName X.env x u) Q E s :=
  store_ok2 I hN hi hx r (fun s' I' _=>h s' I') hf
theorem Inv.call' {s':Shared} {ch:List Addr} (I:Inv X pins σ H s) (ho:s'.os=s.os) (u:Un (frs X.stack) ch H H' s.heap s'.heap) (hok:HOk X.prog X.w H' s'.heap) (hg:AllBare s'.gens)
    (hch:∀ b∈ch,(b∈X.ex∨X.s₀.heap.objs.size≤b)∧b≠X.env.locals∧(∀ x c,X.env.cells.lookup x=some c→c≠b)∧∀ p∈X.pn++pins,p.1≠b):Inv X pins σ H' s':=by
  obtain ⟨h',g',d',t',o'⟩:=s'
  have e:o'=s.os:=ho
  subst e
  exact I.call (g':=g') (t':=t') (d':=d') u hok hg hch
end
abbrev XK:=Value→Option Addr→Hp→Prop
abbrev St:=List (Option V)
abbrev VK:=V→Hp→Prop
abbrev TE:=St→Hp→VK→Prop
abbrev TT:=St→Hp→(Bool→Hp→Prop)→Prop
abbrev TA:=St→Hp→(List V→Hp→Prop)→Prop
structure Ends where
  nx:St→Hp→Prop
  rt:VK
  bk:St→Hp→Prop:=fun _ _=>False
  ct:St→Hp→Prop:=fun _ _=>False
abbrev TS:=Ends→St→Hp→Prop
def EP (X:Cx) (pins:List (Addr × Obj)) (σ:St) (Q:VK) (u:Value) (s':Shared):Prop:=∃ v H',Inv X pins σ H' s'∧RelV v u∧Q v H'
def TP (X:Cx) (pins:List (Addr × Obj)) (σ:St) (Q:Bool→Hp→Prop) (b:Bool) (s':Shared):Prop:=∃ H',Inv X pins σ H' s'∧Q b H'
def AP (X:Cx) (pins:List (Addr × Obj)) (σ:St) (Q:List V→Hp→Prop) (us:List Value) (s':Shared):Prop:=∃ vs H',Inv X pins σ H' s'∧Vals vs us∧Q vs H'
def SP (X:Cx) (pins:List (Addr × Obj)) (D:Ends) (f:Flow) (s':Shared):Prop :=
  match f with
  | .next=>∃ σ' H',Inv X pins σ' H' s'∧D.nx σ' H'
  | .brk=>∃ σ' H',Inv X pins σ' H' s'∧D.bk σ' H'
  | .cont=>∃ σ' H',Inv X pins σ' H' s'∧D.ct σ' H'
  | .ret u=>∃ v σ' H',Inv X pins σ' H' s'∧RelV v u∧D.rt v H'
def PE (X:Cx) (e:Expr) (t:TE):Prop :=
  ∀ (pins:List (Addr × Obj)) (s:Shared) (σ:St) (H:Hp) (Q:VK),Inv X pins σ H s→t σ H Q→wpAny (model X.prog X.w) X.A (eval e X.env) (EP X pins σ Q) X.xe s
def PT (X:Cx) (e:Expr) (t:TT):Prop :=
  ∀ (pins:List (Addr × Obj)) (s:Shared) (σ:St) (H:Hp) (Q:Bool→Hp→Prop),Inv X pins σ H s→t σ H Q→wpAny (model X.prog X.w) X.A (isTrue e X.env (eval e X.env)) (TP X pins σ Q) X.xe s
def PW (X:Cx) (e:Expr) (t:TT):Prop :=
  ∀ (whole:Sem Value) (pins:List (Addr × Obj)) (s:Shared) (σ:St) (H:Hp) (Q:Bool→Hp→Prop),Inv X pins σ H s→t σ H Q→wpAny (model X.prog X.w) X.A (isTrue e X.env whole) (TP X pins σ Q) X.xe s
theorem PW.pt {X:Cx} {e:Expr} {t:TT} (h:PW X e t):PT X e t:=h _
def PA (X:Cx) (es:List Expr) (t:TA):Prop :=
  ∀ (pos:Pos) (pins:List (Addr × Obj)) (s:Shared) (σ:St) (H:Hp) (Q:List V→Hp→Prop),Inv X pins σ H s→t σ H Q→wpAny (model X.prog X.w) X.A (spliced (backTo pos (starEach es X.env))) (AP X pins σ Q) X.xe s
def PS (X:Cx) (st:Stmt) (t:TS):Prop :=
  ∀ (pins:List (Addr × Obj)) (s:Shared) (σ:St) (H:Hp) (D:Ends),Inv X pins σ H s→t D σ H→wpAny (model X.prog X.w) X.A (exec st X.env) (SP X pins D) X.xe s
def PSs (X:Cx) (st:List Stmt) (t:TS):Prop :=
  ∀ (pins:List (Addr × Obj)) (s:Shared) (σ:St) (H:Hp) (D:Ends),Inv X pins σ H s→t D σ H→wpAny (model X.prog X.w) X.A (execs st X.env) (SP X pins D) X.xe s
theorem thn {α:Type} {t:Sem α} {Q Q':α→Shared→Prop} {M:Model} {A:Around} {E:Value→Shared→Prop} {s:Shared} (h:wpAny M A t Q E s) (hQ:∀ a s,Q a s→Q' a s):wpAny M A t Q' E s:=wpAny_mono h hQ fun _ _ x=>x
section
variable {X:Cx}
theorem bin {a b:Expr} {ta tb:TE} (ha:PE X a ta) (hb:PE X b tb) {pins:List (Addr × Obj)} {s:Shared} {σ:St} {H:Hp} {R:V→V→Hp→Prop} (I:Inv X pins σ H s) (h:ta σ H fun x H1=>tb σ H1 fun y H2=>R x y H2)
    {α:Type} {Q:α→Shared→Prop} {f:Value→Value→Sem α}
    (hf:∀ v u s2 x y H2,Inv X pins σ H2 s2→RelV x v→RelV y u→R x y H2→wpAny (model X.prog X.w) X.A (f v u) Q X.xe s2) :
    wpAny (model X.prog X.w) X.A (eval a X.env) (fun v s₁=>wpAny (model X.prog X.w) X.A (eval b X.env) (fun u s₂=>wpAny (model X.prog X.w) X.A (f v u) Q X.xe s₂) X.xe s₁) X.xe s:=by
  refine thn (ha pins s σ H _ I h) fun v s1 ⟨x,H1,I1,r1,q1⟩=>?_
  refine thn (hb pins s1 σ H1 _ I1 q1) fun u s2 ⟨y,H2,I2,r2,q2⟩=>?_
  exact hf v u s2 x y H2 I2 r1 r2 q2
def tVar (i:Nat):TE:=fun σ H Q=>∃ v,σ[i]?=some (some v)∧Q v H
def tC (v:V):TE:=fun _ H Q=>Q v H
theorem pe_var {i:Nat} {x:Str} {pos:Pos} (hN:X.N[i]?=some x) (hv:Vis X.env.scope x) (hd:(x == ("__debug__":Str))=false:=by decide) (hcd:(x == ("__classdict__":Str))=false:=by decide):PE X (.Name x pos) (tVar i):=by
  intro pins s σ H Q I h
  obtain ⟨v,e,h⟩:=h
  obtain ⟨m,hn,hl⟩:=I.loc
  obtain ⟨u,r,l⟩:=hl i x v hN e hv
  have fin:EP X pins σ Q u s:=⟨v,H,I,r,h⟩
  rcases l with ⟨hk,hm⟩ | ⟨hk,c,hc,hcell⟩
  · exact wpAny_Name (wpAny_loadName_local I.ok.kind hk hn hm fin) hd
  · rcases hk with hk | hk
    · exact wpAny_Name (wpAny_loadName_cell I.ok.kind hk hc hcell fin) hd
    · exact wpAny_Name (wpAny_loadName_free I.ok.kind hk hc hcell fin hcd) hd
theorem pe_int {i j pos}:PE X (.Constant (.int i) j pos) (tC (.int i)):=fun _ _ _ H _ I h=>wpAny_Constant_int ⟨.int i,H,I.tok _,⟨_,rfl⟩,h⟩
theorem pe_bl {b j pos}:PE X (.Constant (.bool b) j pos) (tC (.bl b)):=fun _ _ _ H _ I h=>Constant_bool ⟨.bl b,H,I,rfl,h⟩
theorem pe_str {x j pos}:PE X (.Constant (.str x) j pos) (tC (.str x)):=fun _ _ _ H _ I h=>Calls.Constant_str ⟨.str x,H,I.tok _,⟨_,rfl⟩,h⟩
def Gl (X:Cx) (x:Str):Prop:=X.env.kindOf x=some .globalImplicit
theorem ld_glob {E:Value→Shared→Prop} {pins:List (Addr × Obj)} {s:Shared} {σ:St} {H:Hp} {x:Str} {u:Value} {pos:Pos} {Q:Value→Shared→Prop} (I:Inv X pins σ H s) (hg:Gl X x) (hm:X.mg x=some u) (h:Q u s)
    (hd:(x == ("__debug__":Str))=false:=by decide):wpAny (model X.prog X.w) X.A (eval (.Name x pos) X.env) Q E s :=
  Calls.Name_function_global I.ok.kind hg (Calls.loadGlobal_global (by rw [I.ok.glob];exact I.mod.glob.keeps I.bk) hm h) hd
theorem ld_blt {E:Value→Shared→Prop} {pins:List (Addr × Obj)} {s:Shared} {σ:St} {H:Hp} {x:Str} {u:Value} {pos:Pos} {Q:Value→Shared→Prop} (I:Inv X pins σ H s) (hg:Gl X x) (hm:X.mg x=none) (hv:bootBuiltins x=some u) (h:Q u s)
    (hn:x≠"__name__":=by decide) (hd:(x == ("__debug__":Str))=false:=by decide):wpAny (model X.prog X.w) X.A (eval (.Name x pos) X.env) Q E s:=by
  obtain ⟨mb,h1,h2⟩:=I.mod.blt
  exact Calls.Name_function_global I.ok.kind hg (Calls.loadGlobal_builtin (by rw [I.ok.glob];exact I.mod.glob.keeps I.bk) hm (by rw [I.ok.blt];exact h1.keeps I.bk) ((h2 x hn).trans hv) h) hd
theorem pe_glob {x:Str} {v:V} {u:Value} {pos:Pos} (hg:Gl X x) (hm:X.mg x=some u) (r:RelV v u) (hd:(x == ("__debug__":Str))=false:=by decide):PE X (.Name x pos) (tC v) :=
  fun _ _ _ H _ I h=>ld_glob I hg hm ⟨v,H,I,r,h⟩ hd
theorem pe_bltn {x:Str} {v:V} {u:Value} {pos:Pos} (hg:Gl X x) (hm:X.mg x=none) (hv:bootBuiltins x=some u) (r:RelV v u) (hn:x≠"__name__":=by decide) (hd:(x == ("__debug__":Str))=false:=by decide):PE X (.Name x pos) (tC v) :=
  fun _ _ _ H _ I h=>ld_blt I hg hm hv ⟨v,H,I,r,h⟩ hn hd
def t2I (ta tb:TE) (k:Int→Int→Hp→Prop):St→Hp→Prop:=fun σ H=>ta σ H fun x H1=>tb σ H1 fun y H2=>∃ i j,x=.int i∧y=.int j∧k i j H2
variable {a b:Expr} {ta tb:TE} {pos:Pos}
def tCmp (p:Int→Int→Bool) (ta tb:TE):TE:=fun σ H Q=>t2I ta tb (fun i j H2=>Q (.bl (p i j)) H2) σ H
abbrev tLt:TE→TE→TE:=tCmp fun i j=>decide (i < j)
abbrev tLe:TE→TE→TE:=tCmp fun i j=>decide (i≤j)
abbrev tGt:TE→TE→TE:=tCmp fun i j=>decide (j < i)
abbrev tGe:TE→TE→TE:=tCmp fun i j=>decide (j≤i)
abbrev tEqI:TE→TE→TE:=tCmp fun i j=>decide (i=j)
abbrev tNeI:TE→TE→TE:=tCmp fun i j=>!decide (i=j)
variable {tA tB':TT} {rest:List Expr}
def tAnd (t u:TT):TT:=fun σ H Q=>t σ H fun c H1=>if c=true then u σ H1 Q else Q false H1
def tOr (t u:TT):TT:=fun σ H Q=>t σ H fun c H1=>if c=true then Q true H1 else u σ H1 Q
def tNot (t:TT):TT:=fun σ H Q=>t σ H fun c H1=>Q (!c) H1
theorem pw_and1 (ha:PT X a tA):PW X (.BoolOp .And [a] pos) tA:=by
  intro wh pins s σ H Q I h
  refine isTrue_and (thn (ha pins s σ H Q I h) fun c s1 e=>?_)
  cases c with
  | true=>exact isTrue_and_nil e
  | false=>exact e
theorem pw_or1 (ha:PT X a tA):PW X (.BoolOp .Or [a] pos) tA:=by
  intro wh pins s σ H Q I h
  refine isTrue_or (thn (ha pins s σ H Q I h) fun c s1 e=>?_)
  cases c with
  | false=>exact isTrue_or_nil e
  | true=>exact e
theorem pw_and (ha:PT X a tA) (hb:PW X (.BoolOp .And (b :: rest) pos) tB'):PW X (.BoolOp .And (a :: b :: rest) pos) (tAnd tA tB'):=by
  intro wh pins s σ H Q I h
  refine isTrue_and (thn (ha pins s σ H _ I h) fun c s1 ⟨H1,I1,q1⟩=>?_)
  cases c with
  | true=>exact hb wh pins s1 σ H1 Q I1 q1
  | false=>exact ⟨H1,I1,q1⟩
theorem pw_or (ha:PT X a tA) (hb:PW X (.BoolOp .Or (b :: rest) pos) tB'):PW X (.BoolOp .Or (a :: b :: rest) pos) (tOr tA tB'):=by
  intro wh pins s σ H Q I h
  refine isTrue_or (thn (ha pins s σ H _ I h) fun c s1 ⟨H1,I1,q1⟩=>?_)
  cases c with
  | true=>exact ⟨H1,I1,q1⟩
  | false=>exact hb wh pins s1 σ H1 Q I1 q1
theorem pt_not (ha:PT X a tA):PT X (.UnaryOp .Not a pos) (tNot tA):=by
  intro pins s σ H Q I h
  exact isTrue_not (ha pins s σ H (fun c H1=>Q (!c) H1) I h)
def tAndV (ta tb:TE):TE:=fun σ H Q=>ta σ H fun x H1=>∃ c,x=.bl c∧if c=true then tb σ H1 Q else Q (.bl false) H1
def tNotV (ta:TE):TE:=fun σ H Q=>ta σ H fun x H1=>∃ c,x=.bl c∧Q (.bl (!c)) H1
theorem pe_one {op} {t:TE} (h:PE X a t):PE X (.BoolOp op [a] pos) t:=fun pins s σ H Q I hw=>BoolOp_one (h pins s σ H Q I hw)
theorem pe_and (ha:PE X a ta) (hb:PE X (.BoolOp .And (b :: rest) pos) tb):PE X (.BoolOp .And (a :: b :: rest) pos) (tAndV ta tb):=by
  intro pins s σ H Q I h
  refine BoolOp_and (thn (ha pins s σ H _ I h) fun v s1 ⟨x,H1,I1,r1,q1⟩=>?_)
  obtain ⟨c,rfl,q1⟩:=q1
  cases r1
  refine wpAny_truthy_bool ?_
  cases c with
  | true=>exact hb pins s1 σ H1 Q I1 q1
  | false=>exact ⟨.bl false,H1,I1,rfl,q1⟩
theorem pe_not (ha:PE X a ta):PE X (.UnaryOp .Not a pos) (tNotV ta):=by
  intro pins s σ H Q I h
  refine UnaryOp_ (thn (ha pins s σ H _ I h) fun v s1 ⟨x,H1,I1,r1,q1⟩=>?_)
  obtain ⟨c,rfl,q1⟩:=q1
  cases r1
  exact not_of (wpAny_truthy_bool ⟨.bl (!c),H1,I1,rfl,q1⟩)
def tIf (t:TT) (ta tb:TE):TE:=fun σ H Q=>t σ H fun c H1=>if c=true then ta σ H1 Q else tb σ H1 Q
theorem pe_ifExp {c:Expr} (hc:PT X c tA) (ha:PE X a ta) (hb:PE X b tb):PE X (.IfExp c a b pos) (tIf tA ta tb):=by
  intro pins s σ H Q I h
  refine wpAny_IfExp (thn (hc pins s σ H _ I h) fun d s1 ⟨H1,I1,q1⟩=>?_)
  cases d with
  | true=>exact ha pins s1 σ H1 Q I1 q1
  | false=>exact hb pins s1 σ H1 Q I1 q1
end
def SqL (K:PySem.W.Frag) (H:Hp) (a:Addr) (xs:List V):Prop :=
  Rd H a (.lst xs) ∨
    ∃ (o:Obj) (its:Array Value) (n:Nat),K.lookup a=some o∧o.cls=.type "list"∧o.dict=none∧o.data=.seq its n∧its.size≤sizeLine∧Vals xs its.toList
def SqT (K:PySem.W.Frag) (H:Hp) (a:Addr) (xs:List V):Prop :=
  Rd H a (.tup xs) ∨
    ∃ (o:Obj) (its:Array Value) (n:Nat),K.lookup a=some o∧o.cls=.type "tuple"∧o.data=.seq its n∧its.size≤sizeLine∧Vals xs its.toList
def absV:Value→Option V
  | .none=>some .non
  | .bool b=>some (.bl b)
  | .int i _=>some (.int i)
  | .str x _=>some (.str x)
  | .bytes b _=>some (.byt b)
  | .float b _=>some (.flt b)
  | .ref a=>some (.ref a)
  | .type n=>some (.ty n)
  | _=>none
theorem RelV.abs {x:V} {u:Value} (r:RelV x u):absV u=some x:=by
  cases x with
  | non=>cases r;rfl
  | bl _=>cases r;rfl
  | int _=>obtain ⟨t,rfl⟩:=r;rfl
  | str _=>obtain ⟨t,rfl⟩:=r;rfl
  | byt _=>obtain ⟨t,rfl⟩:=r;rfl
  | flt _=>obtain ⟨t,rfl⟩:=r;rfl
  | ref _=>cases r;rfl
  | ty _=>cases r;rfl
theorem RelV.inj {x y:V} {u:Value} (r:RelV x u) (q:RelV y u):x=y:=Option.some.inj (r.abs.symm.trans q.abs)
theorem Vals.inj:∀ {xs ys:List V} {us:List Value},Vals xs us→Vals ys us→xs=ys
  | _,_,_,.nil,.nil=>rfl
  | _,_,_,.cons r t,.cons r' t'=>by rw [r.inj r',Vals.inj t t']
section
variable {X:Cx} {pins:List (Addr × Obj)} {σ:St} {H:Hp} {s:Shared} {a:Addr} {xs ys:List V}
theorem Inv.list (I:Inv X pins σ H s) (h:SqL X.K H a xs):∃ its:List Value,Vals xs its∧PlainL s.heap a its.toArray∧xs.length≤sizeLine:=by
  rcases h with h | ⟨o,its,n,hk,hc,hd,hs,hz,r⟩
  · obtain ⟨z,its,n,r,e⟩:=h.ok I.hok
    exact ⟨its,r,⟨_,n,e,rfl,rfl,rfl⟩,z⟩
  · refine ⟨its.toList,r,⟨o,n,I.kIn a o hk,hc,hd,by simpa using hs⟩,?_⟩
    have e:=r.length
    simp only [Array.length_toList] at e
    omega
theorem Inv.tuple (I:Inv X pins σ H s) (h:SqT X.K H a xs):∃ its:List Value,Vals xs its∧IsTup s.heap a its.toArray∧xs.length≤sizeLine:=by
  rcases h with h | ⟨o,its,n,hk,hc,hs,hz,r⟩
  · obtain ⟨z,its,r,p⟩:=h.ok I.hok
    exact ⟨its,r,p,z⟩
  · refine ⟨its.toList,r,⟨o,I.kIn a o hk,hc,n,by simpa using hs⟩,?_⟩
    have e:=r.length
    simp only [Array.length_toList] at e
    omega
theorem Inv.list_inj (I:Inv X pins σ H s) (h:SqL X.K H a xs) (h':SqL X.K H a ys):xs=ys:=by
  obtain ⟨its,r,⟨o,n,e,_,_,d⟩,_⟩:=I.list h
  obtain ⟨its',r',⟨o',n',e',_,_,d'⟩,_⟩:=I.list h'
  rw [e] at e';cases e'
  rw [d] at d'
  injection d' with d1 _
  have:its=its':=by simpa using congrArg Array.toList d1
  subst this
  exact r.inj r'
theorem Inv.tuple_inj (I:Inv X pins σ H s) (h:SqT X.K H a xs) (h':SqT X.K H a ys):xs=ys:=by
  obtain ⟨its,r,⟨o,e,_,n,d⟩,_⟩:=I.tuple h
  obtain ⟨its',r',⟨o',e',_,n',d'⟩,_⟩:=I.tuple h'
  rw [e] at e';cases e'
  rw [d] at d'
  injection d' with d1 _
  have:its=its':=by simpa using congrArg Array.toList d1
  subst this
  exact r.inj r'
end
abbrev Cx.wish (X:Cx) (E:Value→Shared→Prop):Cx:={ X with xe:=E }
abbrev Cx.nox (X:Cx):Cx:=X.wish fun _ _=>False
theorem Cx.Ok.wish {X:Cx} (ok:X.Ok) (E:Value→Shared→Prop):(X.wish E).Ok :=
  ⟨ok.mod,ok.kind,ok.glob,ok.blt,ok.above,ok.inj,ok.has,ok.cab,ok.hd,ok.frames,ok.stk,ok.exf,ok.bs,ok.bsz,ok.noex,ok.exfs,ok.funs,ok.frf⟩
theorem Cx.Ok.unwish {X:Cx} {E:Value→Shared→Prop} (ok:(X.wish E).Ok):X.Ok :=
  ⟨ok.mod,ok.kind,ok.glob,ok.blt,ok.above,ok.inj,ok.has,ok.cab,ok.hd,ok.frames,ok.stk,ok.exf,ok.bs,ok.bsz,ok.noex,ok.exfs,ok.funs,ok.frf⟩
section
variable {X:Cx} {pins:List (Addr × Obj)} {σ:St} {H:Hp} {s:Shared} {E:Value→Shared→Prop}
theorem Inv.wish (I:Inv X pins σ H s) (E:Value→Shared→Prop):Inv (X.wish E) pins σ H s:=⟨I.ok.wish E,I.os,I.bare,I.base,I.loc,I.cell,I.free,I.freeC,I.pin,I.hok,I.len⟩
theorem Inv.unwish (I:Inv (X.wish E) pins σ H s):Inv X pins σ H s:=⟨I.ok.unwish,I.os,I.bare,I.base,I.loc,I.cell,I.free,I.freeC,I.pin,I.hok,I.len⟩
theorem SP.unwish {D:Ends} {f:Flow} {s':Shared} (h:SP (X.wish E) pins D f s'):SP X pins D f s':=by
  cases f with
  | next=>obtain ⟨σ',H',I,q⟩:=h;exact ⟨σ',H',I.unwish,q⟩
  | brk=>obtain ⟨σ',H',I,q⟩:=h;exact ⟨σ',H',I.unwish,q⟩
  | cont=>obtain ⟨σ',H',I,q⟩:=h;exact ⟨σ',H',I.unwish,q⟩
  | ret u=>obtain ⟨v,σ',H',I,r,q⟩:=h;exact ⟨v,σ',H',I.unwish,r,q⟩
theorem PSs.nox {st:List Stmt} {t:TS} (h:PSs X.nox st t):PSs X st t:=fun pins s σ H D I hw =>
  wpAny_mono (h pins s σ H D (I.wish _) hw) (fun _ _ q=>q.unwish) fun _ _ z=>False.elim z
end
section
variable {X:Cx} {st:Stmt} {rest:List Stmt} {t u:TS} {e:Expr} {te:TE} {pos:Pos}
def tNext:TS:=fun D σ H=>D.nx σ H
def tSeq (t u:TS):TS:=fun D σ H=>t { D with nx:=u D } σ H
theorem pss_nil:PSs X [] tNext:=fun _ _ σ H _ I h=>wpAny_execs_nil ⟨σ,H,I,h⟩
theorem pss_cons (h1:PS X st t) (h2:PSs X rest u):PSs X (st :: rest) (tSeq t u):=by
  intro pins s σ H D I h
  refine wpAny_execs_cons (thn (h1 pins s σ H { D with nx:=u D } I h) fun f s1 q=>?_)
  cases f with
  | next =>
    obtain ⟨σ',H',I',q⟩:=q
    exact h2 pins s1 σ' H' D I' q
  | ret v=>exact q
  | brk=>exact q
  | cont=>exact q
theorem pss_one (h1:PS X st t):PSs X [st] t:=by
  intro pins s σ H D I h
  refine wpAny_execs_cons (thn (h1 pins s σ H D I h) fun f s1 q=>?_)
  cases f with
  | next=>exact wpAny_execs_nil q
  | ret v=>exact q
  | brk=>exact q
  | cont=>exact q
theorem Inv.quiet {pins:List (Addr × Obj)} {σ:St} {H:Hp} {s:Shared} (I:Inv X pins σ H s):interactive X.env=false:=by simp [interactive,I.ok.kind]
def tDrop (te:TE):TS:=fun D σ H=>te σ H fun _ H1=>D.nx σ H1
theorem ps_expr (he:PE X e te) (hs:swapsWith e none pos.line X.env=pure false:=by rfl):PS X (.Expr e pos) (tDrop te):=by
  intro pins s σ H D I h
  exact wpAny_Expr_any (thn (he pins s σ H _ I h) fun v s1 ⟨x,H1,I1,r1,q1⟩=>⟨σ,H1,I1,q1⟩) I.quiet hs
def tRet (te:TE):TS:=fun D σ H=>te σ H D.rt
theorem ps_ret (he:PE X e te):PS X (.Return (some e) pos) (tRet te):=by
  intro pins s σ H D I h
  exact wpAny_Return_some (thn (he pins s σ H _ I h) fun v s1 ⟨x,H1,I1,r1,q1⟩=>⟨x,σ,H1,I1,r1,q1⟩)
def tIfS (c:TT) (t u:TS):TS:=fun D σ H=>c σ H fun b H1=>if b=true then t D σ H1 else u D σ H1
theorem ps_if {c:Expr} {a b:List Stmt} {tc:TT} (hc:PT X c tc) (ha:PSs X a t) (hb:PSs X b u):PS X (.If c a b pos) (tIfS tc t u):=by
  intro pins s σ H D I h
  refine wpAny_If (thn (hc pins s σ H _ I h) fun d s1 ⟨H1,I1,q1⟩=>?_)
  cases d with
  | true=>exact ha pins s1 σ H1 D I1 q1
  | false=>exact hb pins s1 σ H1 D I1 q1
end
abbrev TG:=V→St→Hp→(St→Hp→Prop)→Prop
abbrev TGs:=List V→St→Hp→(St→Hp→Prop)→Prop
def PG (X:Cx) (target:Expr) (t:TG):Prop :=
  ∀ (pins:List (Addr × Obj)) (s:Shared) (σ:St) (H:Hp) (v:V) (u:Value) (Q:St→Hp→Prop),Inv X pins σ H s→RelV v u→t v σ H Q →
    wpAny (model X.prog X.w) X.A (assign target X.env u) (fun _ s'=>∃ σ' H',Inv X pins σ' H' s'∧Q σ' H') X.xe s
def PGs (X:Cx) (ts:List Expr) (t:TGs):Prop :=
  ∀ (pins:List (Addr × Obj)) (s:Shared) (σ:St) (H:Hp) (vs:List V) (us:List Value) (Q:St→Hp→Prop),Inv X pins σ H s→Vals vs us→t vs σ H Q →
    wpAny (model X.prog X.w) X.A (assignInOrder ((assignEach ts X.env).map (·.2)) us) (fun _ s'=>∃ σ' H',Inv X pins σ' H' s'∧Q σ' H') X.xe s
abbrev TSet:=V→V→V→Hp→(Hp→Prop)→Prop
abbrev TIp:=V→V→Hp→VK→Prop
section
variable {X:Cx} {pos:Pos}
def gName (i:Nat):TG:=fun v σ H Q=>Q (σ.set i (some v)) H
theorem pg_name {i:Nat} {x:Str} (hN:X.N.Nodup) (hi:X.N[i]?=some x) (hx:Loc X.env.scope x) (hf:X.fn x=true∨X.env.scope.names.lookup x=some .local:=by first | exact .inl rfl | exact .inr rfl | assumption):PG X (.Name x pos) (gName i):=by
  intro pins s σ H v u Q I r h
  exact wpAny_assign_Name (store_ok I hN hi hx r (fun s' I'=>⟨_,H,I',h⟩) hf)
def gNil:TGs:=fun vs σ H Q=>vs=[]∧Q σ H
def gCons (t:TG) (u:TGs):TGs:=fun vs σ H Q=>∃ v r,vs=v :: r∧t v σ H fun σ' H'=>u r σ' H' Q
theorem pgs_nil:PGs X [] gNil:=by
  intro pins s σ H vs us Q I r h
  obtain ⟨e,h⟩:=h
  subst e
  cases r
  exact assignInOrder_nil ⟨σ,H,I,h⟩
theorem pgs_cons {e:Expr} {es:List Expr} {t:TG} {u:TGs} (h1:PG X e t) (h2:PGs X es u)
    (hs:(assignEach (e :: es) X.env).map (·.2)=assign e X.env :: (assignEach es X.env).map (·.2):=by rfl):PGs X (e :: es) (gCons t u):=by
  intro pins s σ H vs us Q I r h
  obtain ⟨v,vr,e1,h⟩:=h
  subst e1
  cases r with
  | cons r rr =>
    rw [hs]
    refine assignInOrder_cons (thn (h1 pins s σ H _ _ _ I r h) fun _ s1 ⟨σ1,H1,I1,q1⟩=>?_)
    exact h2 pins s1 σ1 H1 _ _ Q I1 rr q1
def gTup (K:PySem.W.Frag) (n:Nat) (t:TGs):TG:=fun v σ H Q=>∃ a xs,v=.ref a∧SqT K H a xs∧xs.length=n∧t xs σ H Q
theorem pg_tup {es:List Expr} {k:Nat} {t:TGs} {n:Nat} (hc:X.calm=true) (h:PGs X es t)
    (hn:(assignEach es X.env).length=n:=by rfl) (hst:(assignEach es X.env).findIdx? (·.1)=none:=by rfl):PG X (.Tuple es k pos) (gTup X.K n t):=by
  intro pins s σ H v u Q I r hw
  obtain ⟨a,xs,e1,hq,hl,hw⟩:=hw
  subst e1
  cases r
  obtain ⟨its,rv,ht,hz⟩:=I.tuple hq
  refine assign_Tuple_tuple (I.ok.hd hc) ht (by simp [hn,← hl,rv.length]) hst fun h' hx=>?_
  have I1:Inv X pins σ H { s with heap:=h' }:=I.kept (t':=s.toks) fun b o e=>hx b o (Nat.ne_of_lt (Heap.lt_size e)) e
  exact h pins _ σ H xs _ Q I1 (by simpa using rv) hw
def tAsg (te:TE) (g:TG):TS:=fun D σ H=>te σ H fun x H1=>g x σ H1 D.nx
theorem ps_asg {tg e:Expr} {te:TE} {g:TG} (he:PE X e te) (hg:PG X tg g) (hs:swapsWithSole [tg] e pos.line X.env=pure false:=by rfl) (hw:swappedStores [tg] e X.env=pure none:=by rfl)
    (h1:(assignEach [tg] X.env).map (·.2)=[assign tg X.env]:=by rfl):PS X (.Assign [tg] e pos) (tAsg te g):=by
  intro pins s σ H D I h
  refine wpAny_Assign_stores (thn (he pins s σ H _ I h) fun v s1 ⟨x,H1,I1,r1,q1⟩=>?_) hs hw
  rw [h1]
  exact thn (hg pins s1 σ H1 x v _ I1 r1 q1) fun _ s2 q=>q
theorem ps_set {i:Nat} {x:Str} {e:Expr} {te:TE} {pos':Pos} (hN:X.N.Nodup) (hi:X.N[i]?=some x) (hx:Loc X.env.scope x) (he:PE X e te) (hs:swapsWith e (some (.Name x pos')) pos.line X.env=pure false:=by rfl) (hf:X.fn x=true∨X.env.scope.names.lookup x=some .local:=by first | exact .inl rfl | exact .inr rfl | assumption) :
    PS X (.Assign [.Name x pos'] e pos) (tAsg te (gName i)):=by
  intro pins s σ H D I h
  refine wpAny_Assign_Name (thn (he pins s σ H _ I h) fun v s1 ⟨y,H1,I1,r1,q1⟩=>?_) hs
  exact store_ok I1 hN hi hx r1 (fun s2 I2=>⟨_,H1,I2,q1⟩) hf
end
section
variable {X:Cx} {pos:Pos}
def tWhile (c:TT) (tb:TS):TS:=fun D σ H=>∃ W:Nat→St→Hp→Prop,(∃ m,W m σ H)∧∀ m σ H,W m σ H →
  c σ H fun b H1=>if b=true then ∃ N:St→Hp→Prop,(∀ σ' H',N σ' H'→∃ m',m' < m∧W m' σ' H')∧tb { D with nx:=N,ct:=N,bk:=D.nx } σ H1 else D.nx σ H1
theorem ps_while {c:Expr} {body:List Stmt} {tc:TT} {tb:TS} (hp:PassesOwn (model X.prog X.w) X.A X.env X.xe) (hc:PT X c tc) (hb:PSs X body tb):PS X (.While c body [] pos) (tWhile tc tb):=by
  intro pins s σ H D I h
  obtain ⟨W,⟨m0,w0⟩,turn⟩:=h
  refine wpAny_While (codeAny_whileLoop (fun n s'=>∃ σ' H',Inv X pins σ' H' s'∧W n σ' H') ?_ m0 ⟨σ,H,I,w0⟩)
  rintro n s1 ⟨σ1,H1,I1,w1⟩
  refine wpAny_passesOwn hp (thn (hc pins s1 σ1 H1 _ I1 (turn n σ1 H1 w1)) fun b s2 ⟨H2,I2,q2⟩=>?_)
  cases b with
  | true =>
    obtain ⟨N,hN,q2⟩:=q2
    rw [if_pos rfl]
    refine wpAny_passesOwn hp (thn (hb pins s2 σ1 H2 _ I2 q2) fun f s3 q3=>?_)
    cases f with
    | next =>
      obtain ⟨σ3,H3,I3,n3⟩:=q3
      obtain ⟨m',hm,w3⟩:=hN σ3 H3 n3
      exact ⟨m',hm,σ3,H3,I3,w3⟩
    | cont =>
      obtain ⟨σ3,H3,I3,n3⟩:=q3
      obtain ⟨m',hm,w3⟩:=hN σ3 H3 n3
      exact ⟨m',hm,σ3,H3,I3,w3⟩
    | brk=>exact q3
    | ret v=>exact q3
  | false =>
    rw [if_neg Bool.false_ne_true]
    exact wpAny_execs_nil ⟨σ1,H2,I2,q2⟩
end
structure It where
  go:Nat→Hp→Prop
  yld:Nat→Hp→V→Hp→Prop
  stop:Nat→Hp→Prop
def FpOk (X:Cx) (pins:List (Addr × Obj)) (H:Hp) (b:Addr):Prop :=
  H b=none∧b≠X.env.locals∧b ∉ X.fs∧(b∈X.ex∨X.s₀.heap.objs.size≤b)∧(∀ x c,X.env.cells.lookup x=some c→c≠b)∧∀ p∈X.pn++pins,p.1≠b
theorem Inv.fpOk {X:Cx} {pins:List (Addr × Obj)} {σ:St} {H H':Hp} {s:Shared} {b:Addr} (I:Inv X pins σ H s) (hb:s.heap.objs.size≤b) (hn:H' b=none):FpOk X pins H' b:=by
  refine ⟨hn,Nat.ne_of_gt (Nat.lt_of_lt_of_le I.lt hb),I.nofs hb,.inr (Nat.le_trans I.sz hb),fun x c e z=>?_,fun p hp z=>?_⟩
  · obtain ⟨v,q⟩:=I.cell x c e
    exact absurd (Nat.lt_of_lt_of_le q.lt (by rw [z];exact hb)) (Nat.lt_irrefl _)
  · exact absurd (Nat.lt_of_lt_of_le (Heap.lt_size (I.pin p hp).1) (by rw [z];exact hb)) (Nat.lt_irrefl _)
structure Turn (P:Program) (w:World) (K:PySem.W.Frag) (tg:Expr) (J:It) (fp:List Addr) (it:Addr) (tn:Nat→Heap→Prop):Prop where
  mem:it∈fp
  obj:∀ i h,tn i h→∀ b∈fp,∃ o,h.get? b=some o∧∀ v,o.data≠.cell v
  keep:∀ i h h',tn i h→(∀ b∈fp,∀ o,h.get? b=some o→h'.get? b=some o)→tn i h'
  item:∀ (X:Cx),X.prog=P→X.w=w→X.K=K→X.calm=true→∀ (i:Nat) (pins:List (Addr × Obj)) (s:Shared) (σ:St) (H:Hp) (E:Value→Shared→Prop),Inv X pins σ H s→(∀ b∈fp,FpOk X pins H b)→tn i s.heap→J.go i H →
    wpAny (model P w) X.A (pyNext (.ref it)) (fun r s1=>∃ u,r=some u ∧
      wpAny (model P w) X.A (letOwnedTupleGo tg (.ref it) u) (fun _ s2=>∃ x H',Inv X pins σ H' s2∧RelV x u∧J.yld i H x H'∧tn (i + 1) s2.heap∧∀ b∈fp,H' b=none) E s1) E s
  done:∀ (X:Cx),X.prog=P→X.w=w→X.K=K→X.calm=true→∀ (i:Nat) (pins:List (Addr × Obj)) (s:Shared) (σ:St) (H:Hp) (E:Value→Shared→Prop),Inv X pins σ H s→(∀ b∈fp,FpOk X pins H b)→tn i s.heap→J.stop i H →
    wpAny (model P w) X.A (pyNext (.ref it)) (fun r s1=>r=none∧Inv X pins σ H s1) E s
  self:∀ (A:Around) (i:Nat) (s:Shared) (Q:Value→Shared→Prop) (E:Value→Shared→Prop),tn i s.heap→Q (.ref it) s→wpAny (model P w) A (pyIter (.ref it)) Q E s
abbrev TI:=St→Hp→(It→Hp→Prop)→Prop
def PIE (X:Cx) (pins:List (Addr × Obj)) (σ:St) (tg:Expr) (R:It→Hp→Prop) (itv:Value) (s2:Shared):Prop :=
  ∃ (it:Addr) (fp:List Addr) (tn:Nat→Heap→Prop) (J:It) (H':Hp),itv=.ref it∧Inv X pins σ H' s2∧Turn X.prog X.w X.K tg J fp it tn∧tn 0 s2.heap∧(∀ b∈fp,FpOk X pins H' b)∧R J H'
def PI (X:Cx) (tg iter:Expr) (wi:TI):Prop :=
  ∀ (pins:List (Addr × Obj)) (s:Shared) (σ:St) (H:Hp) (R:It→Hp→Prop),Inv X pins σ H s→wi σ H R →
    wpAny (model X.prog X.w) X.A (eval iter X.env) (fun v s1=>wpAny (model X.prog X.w) X.A (pyIter v) (PIE X pins σ tg R) X.xe s1) X.xe s
theorem go_of {M:Model} {A:Around} {E:Value→Shared→Prop} {s:Shared} {tg:Expr} {it:Addr} {u:Value} {o:Obj} {n:String} {vs:Array Value} {Q:Unit→Shared→Prop} (ho:s.heap.get? it=some o) (hc:o.cls=.type n) (hd:o.data=.fields vs)
    (hn:["enumerate","zip","dict_itemiterator","dict_reverseitemiterator","odict_iterator","itertools.zip_longest","itertools.pairwise"].contains n=false) (hQ:Q () s):wpAny M A (letOwnedTupleGo tg (.ref it) u) Q E s:=by
  unfold letOwnedTupleGo
  cases tg <;> first
    | exact wpAny_pure hQ
    | (cases u <;> first
        | exact wpAny_pure hQ
        | (refine wpAny_bind (wpAny_load ho ?_)
           rw [hc,hd]
           show wpAny M A (if (["enumerate","zip","dict_itemiterator","dict_reverseitemiterator","odict_iterator","itertools.zip_longest","itertools.pairwise"].contains n && vs[0]? == some (rawInt _))=true then _ else _) Q E s
           rw [if_neg (by intro h;rw [hn,Bool.false_and] at h;cases h)]
           exact wpAny_pure hQ))
def Itl (K:PySem.W.Frag) (a:Addr):It :=
  ⟨fun i H=>∃ xs x,SqL K H a xs∧xs[i]?=some x,fun i H x H'=>H'=H∧∀ xs,SqL K H a xs→xs[i]?=some x,fun i H=>∃ xs,SqL K H a xs∧xs.length≤i⟩
def Itt (K:PySem.W.Frag) (a:Addr):It :=
  ⟨fun i H=>∃ xs x,SqT K H a xs∧xs[i]?=some x,fun i H x H'=>H'=H∧∀ xs,SqT K H a xs→xs[i]?=some x,fun i H=>∃ xs,SqT K H a xs∧xs.length≤i⟩
def Itr (lo:Int) (n:Nat):It:=⟨fun i _=>i < n,fun i H x H'=>H'=H∧x=.int (lo + i),fun i _=>n≤i⟩
theorem turn_list {P:Program} {w:World} {K:PySem.W.Frag} {tg:Expr} (a it:Addr):Turn P w K tg (Itl K a) [it] it (fun i h=>h.IsListIter it a i) where
  mem:=by simp
  obj:=fun i h st b hb=>by
    have e:b=it:=by simpa using hb
    subst e
    obtain ⟨o,e,c,d⟩:=st
    exact ⟨o,e,fun v z=>by rw [d] at z;cases z⟩
  keep:=fun i h h' st k=>st.at fun o e=>k it (by simp) o e
  item:=by
    intro X hP hw hK hc i pins s σ H E I hf st hg
    subst hP hw hK
    obtain ⟨xs,x,hq,hx⟩:=hg
    obtain ⟨its,rv,p,hz⟩:=I.list hq
    obtain ⟨u,hu,ru⟩:=rv.get hx
    obtain ⟨f0,f1,f2,f3,f4,f5⟩:=hf it (by simp)
    refine wpAny_pyNext_list_item st p.isList (x:=u) (by simpa using hu) fun h' st' sb=>?_
    have I1:Inv X pins σ H { s with heap:=h' }:=I.turned (t':=s.toks) (fun b o hb e=>(sb.2 b hb).trans e) f0 f1 f3 f4 f5
    obtain ⟨o,e,c,d⟩:=id st'
    exact ⟨u,rfl,go_of (s:={ s with heap:=h' }) e c d (by decide) ⟨x,H,I1,ru,⟨rfl,fun ys hy=>by rw [I.list_inj hy hq];exact hx⟩,st',fun b hb=>(hf b hb).1⟩⟩
  done:=by
    intro X hP hw hK hc i pins s σ H E I hf st hg
    subst hP hw hK
    obtain ⟨xs,hq,hx⟩:=hg
    obtain ⟨its,rv,p,hz⟩:=I.list hq
    obtain ⟨f0,f1,f2,f3,f4,f5⟩:=hf it (by simp)
    have hl:=rv.length
    exact wpAny_pyNext_list_end (I.ok.hd hc) st p.isList (by simp;omega) fun h' eb=>⟨rfl,I.turned (t':=s.toks) (fun b o hb e=>eb b o hb e) f0 f1 f3 f4 f5⟩
  self:=fun _ _ _ _ _ st h=>wpAny_pyIter_listiter st h
theorem turn_tuple {P:Program} {w:World} {K:PySem.W.Frag} {tg:Expr} (a it:Addr):Turn P w K tg (Itt K a) [it] it (fun i h=>h.IsTupleIter it a i) where
  mem:=by simp
  obj:=fun i h st b hb=>by
    have e:b=it:=by simpa using hb
    subst e
    obtain ⟨o,e,c,d⟩:=st
    exact ⟨o,e,fun v z=>by rw [d] at z;cases z⟩
  keep:=fun i h h' st k=>st.at fun o e=>k it (by simp) o e
  item:=by
    intro X hP hw hK hc i pins s σ H E I hf st hg
    subst hP hw hK
    obtain ⟨xs,x,hq,hx⟩:=hg
    obtain ⟨its,rv,p,hz⟩:=I.tuple hq
    obtain ⟨u,hu,ru⟩:=rv.get hx
    obtain ⟨f0,f1,f2,f3,f4,f5⟩:=hf it (by simp)
    refine wpAny_pyNext_tuple_item st (show s.heap.IsTuple a its.toArray from p) (x:=u) (by simpa using hu) fun h' st' sb=>?_
    have I1:Inv X pins σ H { s with heap:=h' }:=I.turned (t':=s.toks) (fun b o hb e=>(sb.2 b hb).trans e) f0 f1 f3 f4 f5
    obtain ⟨o,e,c,d⟩:=id st'
    exact ⟨u,rfl,go_of (s:={ s with heap:=h' }) e c d (by decide) ⟨x,H,I1,ru,⟨rfl,fun ys hy=>by rw [I.tuple_inj hy hq];exact hx⟩,st',fun b hb=>(hf b hb).1⟩⟩
  done:=by
    intro X hP hw hK hc i pins s σ H E I hf st hg
    subst hP hw hK
    obtain ⟨xs,hq,hx⟩:=hg
    obtain ⟨its,rv,p,hz⟩:=I.tuple hq
    obtain ⟨f0,f1,f2,f3,f4,f5⟩:=hf it (by simp)
    have hl:=rv.length
    exact wpAny_pyNext_tuple_end (I.ok.hd hc) st (show s.heap.IsTuple a its.toArray from p) (by simp;omega) fun h' eb=>⟨rfl,I.turned (t':=s.toks) (fun b o hb e=>eb b o hb e) f0 f1 f3 f4 f5⟩
  self:=fun _ _ _ _ _ st h=>wpAny_pyIter_tupleiter st h
theorem turn_range {P:Program} {w:World} {K:PySem.W.Frag} {tg:Expr} (it:Addr) (lo:Int) (n:Nat):Turn P w K tg (Itr lo n) [it] it (fun i h=>IsRangeIter h it (lo + (i:Nat) * 1) ((n:Int) - (i:Nat)) 1) where
  mem:=by simp
  obj:=fun i h st b hb=>by
    have e:b=it:=by simpa using hb
    subst e
    exact ⟨_,st,fun v z=>by
      have z':Data.fields _=Data.cell v:=z
      cases z'⟩
  keep:=fun i h h' st k=>k it (by simp) _ st
  item:=by
    intro X hP hw hK hc i pins s σ H E I hf st hg
    subst hP hw hK
    obtain ⟨f0,f1,f2,f3,f4,f5⟩:=hf it (by simp)
    have W:=Walks.range (prog:=X.prog) (w:=X.w) (I.ok.hd hc) it lo 1 n
    refine W.item i s _ _ hg st fun v h' tk hv st' kk=>?_
    obtain ⟨t,rfl⟩:=hv
    have I1:Inv X pins σ H { s with heap:=h',toks:=tk }:=I.turned (fun b o hb e=>kk b o (by simpa using hb) e) f0 f1 f3 f4 f5
    refine ⟨_,rfl,go_of (s:={ s with heap:=h',toks:=tk }) (n:="range_iterator") st' rfl rfl (by decide) ⟨.int (lo + i),H,I1,⟨t,?_⟩,⟨rfl,rfl⟩,st',fun b hb=>(hf b hb).1⟩⟩
    rw [Int.mul_one]
  done:=by
    intro X hP hw hK hc i pins s σ H E I hf st hg
    subst hP hw hK
    obtain ⟨f0,f1,f2,f3,f4,f5⟩:=hf it (by simp)
    exact wpAny_pyNext_range_end (I.ok.hd hc) st (by have:n≤i:=hg;omega) fun h' eb=>⟨rfl,I.turned (t':=s.toks) (fun b o hb e=>eb b o hb e) f0 f1 f3 f4 f5⟩
  self:=fun _ _ _ _ _ st h=>wpAny_pyIter_rangeiter st h
section
variable {X:Cx} {tg:Expr}
theorem range_it {pins:List (Addr × Obj)} {σ:St} {H:Hp} {s:Shared} {R:It→Hp→Prop} {E:Value→Shared→Prop} {lo hi:Int} {t u v:Tok} {tk:Nat} (I:Inv X pins σ H s) (h1:-(2 ^ 62)≤lo) (h2:lo < 2 ^ 62) (h3:-(2 ^ 62)≤hi) (h4:hi < 2 ^ 62)
    (q:R (Itr lo (hi - lo).toNat) H):wpAny (model X.prog X.w) X.A (pyIter (.ref s.heap.objs.size)) (PIE X pins σ tg R) E { s with heap:=s.heap.push { cls:=.type "range",data:=.fields #[.int lo t,.int hi u,.int 1 v] },toks:=tk }:=by
  refine wpAny_pyIter_range (IsRange.new ..) (small_one h1 h2 h3 h4) ?_
  have I1:Inv X pins σ H { s with heap:=s.heap.push { cls:=.type "range",data:=.fields #[.int lo t,.int hi u,.int 1 v] },toks:=tk }:=I.kept fun b o e=>Heap.get?_push_of_some _ e
  refine ⟨(s.heap.push { cls:=.type "range",data:=.fields #[.int lo t,.int hi u,.int 1 v] }).objs.size,[(s.heap.push { cls:=.type "range",data:=.fields #[.int lo t,.int hi u,.int 1 v] }).objs.size],_,_,H,rfl,
    I1.kept (t':=tk) fun b o e=>Heap.get?_push_of_some _ e,turn_range _ lo (hi - lo).toNat,?_,fun b hb=>?_,q⟩
  · have e1:lo + ((0:Nat):Int) * 1=lo:=by simp
    have e2:(((hi - lo).toNat:Nat):Int) - ((0:Nat):Int)=Builtin.Range.rangeSize lo hi 1:=by rw [rangeSize_one];split <;> omega
    show IsRangeIter _ _ (lo + ((0:Nat):Int) * 1) ((((hi - lo).toNat:Nat):Int) - ((0:Nat):Int)) 1
    rw [e1,e2]
    exact Heap.get?_push_size _ rfl
  · have e:b=(s.heap.push { cls:=.type "range",data:=.fields #[.int lo t,.int hi u,.int 1 v] }).objs.size:=by simpa using hb
    subst e
    exact I1.fpOk (Nat.le_refl _) (I1.hok.fresh (Nat.le_refl _))
def iRng1 (ta:TA):TI:=fun σ H R=>ta σ H fun vs H1=>∃ j:Int,vs=[.int j]∧-(2 ^ 62)≤j∧j < 2 ^ 62∧R (Itr 0 j.toNat) H1
theorem pi_range1 {a:Expr} {ta:TA} {p pos:Pos} (hg:Gl X "range") (hm:X.mg "range"=none) (ha:PA X [a] ta) (hs:starEach [a] X.env=[(false,eval a X.env)]:=by rfl):PI X tg (.Call (.Name "range" p) [a] [] pos) (iRng1 ta):=by
  intro pins s σ H R I h
  refine Call_ (ld_blt I hg hm boot_range (PyProof.Rows.callWith_type1 (thn (ha pos pins s σ H _ I h) fun us s1 ⟨vs,H1,I1,r1,q1⟩=>?_) hs rfl))
  obtain ⟨j,e,q1,q2,q⟩:=q1
  subst e
  cases r1 with
  | cons r rr =>
    cases rr
    obtain ⟨t,rfl⟩:=r
    exact call_range_1 (range_it I1 (by omega) (by omega) q1 q2 (by simpa using q))
def tFor (wi:TI) (g:TG) (tb:TS):TS:=fun D σ H=>wi σ H fun J H1=>∃ W:Nat→Nat→St→Hp→Prop,(∃ m,W 0 m σ H1)∧∀ i m σ H,W i m σ H →
  (J.stop i H∧D.nx σ H)∨(J.go i H∧∃ N:St→Hp→Prop,(∀ σ' H',N σ' H'→∃ m',m' < m∧W (i + 1) m' σ' H')∧∀ x H',J.yld i H x H'→g x σ H' fun σ2 H2=>tb { D with nx:=N,ct:=N,bk:=D.nx } σ2 H2)
def pinsAt (fp:List Addr) (h:Heap):List (Addr × Obj):=fp.filterMap fun b=>(h.get? b).map fun o=>(b,o)
theorem mem_pinsAt {fp:List Addr} {h:Heap} {b:Addr} {o:Obj} (hb:b∈fp) (e:h.get? b=some o):(b,o)∈pinsAt fp h:=List.mem_filterMap.mpr ⟨b,hb,by rw [e];rfl⟩
theorem of_pinsAt {fp:List Addr} {h:Heap} {p:Addr × Obj} (hp:p∈pinsAt fp h):p.1∈fp∧h.get? p.1=some p.2:=by
  obtain ⟨b,hb,e⟩:=List.mem_filterMap.mp hp
  cases q:h.get? b with
  | none=>rw [q] at e;cases e
  | some o =>
    rw [q] at e
    have e':(b,o)=p:=Option.some.inj e
    subst e'
    exact ⟨hb,q⟩
theorem Inv.pinned {pins:List (Addr × Obj)} {σ:St} {H:Hp} {s:Shared} {fp:List Addr} (I:Inv X pins σ H s) (hf:∀ b∈fp,FpOk X pins H b) (ho:∀ b∈fp,∃ o,s.heap.get? b=some o∧∀ v,o.data≠.cell v):Inv X (pins++pinsAt fp s.heap) σ H s :=
  I.pins_of fun p hp=>(List.mem_append.mp hp).elim (fun z=>I.pin p (List.mem_append_right _ z)) fun z=>by
    obtain ⟨hb,e⟩:=of_pinsAt z
    obtain ⟨f0,f1,f2,_⟩:=hf p.1 hb
    obtain ⟨o,e',d⟩:=ho p.1 hb
    rw [e] at e';cases e'
    exact ⟨e,f0,f1,f2,d⟩
theorem Inv.unpinned {pins pl:List (Addr × Obj)} {σ:St} {H:Hp} {s:Shared} (I:Inv X (pins++pl) σ H s):Inv X pins σ H s:=I.pins_of fun p hp=>I.pin p (List.mem_append_right _ (List.mem_append_left _ hp))
theorem ps_for {iter:Expr} {body:List Stmt} {wi:TI} {g:TG} {tb:TS} {pos:Pos} (hp:PassesOwn (model X.prog X.w) X.A X.env X.xe) (hc:X.calm=true) (hi:PI X tg iter wi) (hg:PG X tg g) (hb:PSs X body tb)
    (hs:∀ x,foldedSetIterable iter X.env x=pure x:=by intro _;rfl):PS X (.For tg iter body [] pos) (tFor wi g tb):=by
  intro pins s σ H D I h
  refine wpAny_For (thn (hi pins s σ H _ I h) fun v s1 h1=>thn h1 fun itv s2 h2=>?_) hs
  obtain ⟨it,fp,tn,J,H2,e,I2,T,st2,f2,W,⟨m0,w0⟩,turn⟩:=h2
  subst e
  -- what stays true of the iterator's objects through the loop
  have stat:∀ {H':Hp},(∀ b∈fp,H' b=none)→∀ b∈fp,FpOk X pins H' b:=fun hn b hb=>⟨hn b hb,(f2 b hb).2⟩
  refine codeAny_forLoop_any (fun n s'=>∃ i σ' H',Inv X pins σ' H' s'∧tn i s'.heap∧(∀ b∈fp,H' b=none)∧W i n σ' H') ?_ m0 ⟨0,σ,H2,I2,st2,fun b hb=>(f2 b hb).1,w0⟩
  rintro n s3 ⟨i,σ3,H3,I3,st3,fr3,w3⟩
  rcases turn i n σ3 H3 w3 with ⟨stop,qn⟩ | ⟨go,N,hN,step⟩
  · refine wpAny_passesOwn hp (thn (T.done X rfl rfl rfl hc i pins s3 σ3 H3 X.xe I3 (stat fr3) st3 stop) fun r s4 ⟨hr,I4⟩=>?_)
    subst hr
    exact wpAny_execs_nil ⟨σ3,H3,I4,qn⟩
  · refine wpAny_passesOwn hp (thn (T.item X rfl rfl rfl hc i pins s3 σ3 H3 X.xe I3 (stat fr3) st3 go) fun r s4 ⟨u,hr,h4⟩=>?_)
    subst hr
    refine wpAny_passesOwn hp (thn h4 fun _ s5 ⟨x,H5,I5,r5,y5,st5,fr5⟩=>?_)
    have I5':=I5.pinned (stat fr5) (T.obj _ _ st5)
    refine wpAny_passesOwn hp (thn (hg _ s5 σ3 H5 x u _ I5' r5 (step x H5 y5)) fun _ s6 ⟨σ6,H6,I6,q6⟩=>?_)
    refine wpAny_passesOwn hp (thn (hb _ s6 σ6 H6 _ I6 q6) fun f s7 q7=>?_)
    have again:∀ {σ7:St} {H7:Hp},Inv X (pins++pinsAt fp s5.heap) σ7 H7 s7→N σ7 H7→∃ m,m < n∧∃ i σ' H',Inv X pins σ' H' s7∧tn i s7.heap∧(∀ b∈fp,H' b=none)∧W i m σ' H':=fun {σ7 H7} I7 n7=>by
      obtain ⟨m',hm,w7⟩:=hN σ7 H7 n7
      refine ⟨m',hm,i + 1,σ7,H7,I7.unpinned,T.keep _ _ _ st5 fun b hb o e=>(I7.pin (b,o) (List.mem_append_right _ (List.mem_append_right _ (mem_pinsAt hb e)))).1,fun b hb=>?_,w7⟩
      obtain ⟨o,e,d⟩:=T.obj _ _ st5 b hb
      exact (I7.pin (b,o) (List.mem_append_right _ (List.mem_append_right _ (mem_pinsAt hb e)))).2.1
    cases f with
    | next=>obtain ⟨σ7,H7,I7,n7⟩:=q7;exact again I7 n7
    | cont=>obtain ⟨σ7,H7,I7,n7⟩:=q7;exact again I7 n7
    | brk=>obtain ⟨σ7,H7,I7,q7⟩:=q7;exact ⟨σ7,H7,I7.unpinned,q7⟩
    | ret v=>obtain ⟨x7,σ7,H7,I7,r7,q7⟩:=q7;exact ⟨x7,σ7,H7,I7.unpinned,r7,q7⟩
end
abbrev R2:=V→V→Hp→VK→Prop
def OpR (X:Cx) (f:Value→Value→Sem Value) (r:R2):Prop :=
  ∀ (pins:List (Addr × Obj)) (s:Shared) (σ:St) (H:Hp) (x y:V) (v u:Value) (Q:VK),Inv X pins σ H s→RelV x v→RelV y u→r x y H Q →
    wpAny (model X.prog X.w) X.A (f v u) (EP X pins σ Q) X.xe s
def UnR (X:Cx) (f:Value→Sem Value) (r:V→Hp→VK→Prop):Prop :=
  ∀ (pins:List (Addr × Obj)) (s:Shared) (σ:St) (H:Hp) (x:V) (v:Value) (Q:VK),Inv X pins σ H s→RelV x v→r x H Q →
    wpAny (model X.prog X.w) X.A (f v) (EP X pins σ Q) X.xe s
def CallR (X:Cx) (f:Value) (r:List V→Hp→VK→Prop):Prop :=
  ∀ (pins:List (Addr × Obj)) (s:Shared) (σ:St) (H:Hp) (xs:List V) (us:List Value) (Q:VK),Inv X pins σ H s→Vals xs us→r xs H Q →
    wpAny (model X.prog X.w) X.A (call f us) (EP X pins σ Q) X.xe s
def TruR (X:Cx) (r:V→Hp→(Bool→Hp→Prop)→Prop):Prop :=
  ∀ (pins:List (Addr × Obj)) (s:Shared) (σ:St) (H:Hp) (x:V) (v:Value) (Q:Bool→Hp→Prop),Inv X pins σ H s→RelV x v→r x H Q →
    wpAny (model X.prog X.w) X.A (truthy v) (TP X pins σ Q) X.xe s
def tOp (r:R2) (ta tb:TE):TE:=fun σ H Q=>ta σ H fun x H1=>tb σ H1 fun y H2=>r x y H2 Q
def tUn (r:V→Hp→VK→Prop) (ta:TE):TE:=fun σ H Q=>ta σ H fun x H1=>r x H1 Q
def rI (C:Int→Int→Prop) (g:Int→Int→V):R2:=fun x y H Q=>∃ i j,x=.int i∧y=.int j∧C i j∧Q (g i j) H
def rI0 (g:Int→Int→V):R2:=fun x y H Q=>∃ i j,x=.int i∧y=.int j∧Q (g i j) H
def rU (g:Int→V):V→Hp→VK→Prop:=fun x H Q=>∃ i,x=.int i∧Q (g i) H
section
variable {X:Cx} {a b c:Expr} {ta tb tc:TE} {pos:Pos}
theorem binT (ha:PE X a ta) (hb:PE X b tb) {pins:List (Addr × Obj)} {s:Shared} {σ:St} {H:Hp} {R:V→V→Hp→Prop} (I:Inv X pins σ H s)
    (h:ta σ H fun x H1=>tb σ H1 fun y H2=>R x y H2) {Q:Value→Shared→Prop} {f:Value→Value→Sem Value}
    (hf:∀ v u s2 x y H2,Inv X pins σ H2 s2→RelV x v→RelV y u→R x y H2→wpAny (model X.prog X.w) X.A (f v u) Q X.xe s2) :
    wpAny (model X.prog X.w) X.A (eval a X.env) (fun v s₁=>wpAny (model X.prog X.w) X.A (eval b X.env) (fun u s₂=>wpAny (model X.prog X.w) X.A (f v u) Q X.xe s₂) X.xe s₁) X.xe s:=by
  refine thn (ha pins s σ H _ I h) fun v s1 ⟨x,H1,I1,r1,q1⟩=>?_
  refine thn (hb pins s1 σ H1 _ I1 q1) fun u s2 ⟨y,H2,I2,r2,q2⟩=>?_
  exact hf v u s2 x y H2 I2 r1 r2 q2
theorem pe_op {op:Operator} {r:R2} (ho:OpR X (binaryOp op) r) (ha:PE X a ta) (hb:PE X b tb):PE X (.BinOp a op b pos) (tOp r ta tb):=by
  intro pins s σ H Q I h
  exact wpAny_BinOp (binT ha hb I h fun v u s2 x y H2 I2 rx ry q=>ho pins s2 σ H2 x y v u Q I2 rx ry q)
theorem pe_un {op:UnaryOp} {r:V→Hp→VK→Prop} (ho:UnR X (unaryOp op) r) (ha:PE X a ta):PE X (.UnaryOp op a pos) (tUn r ta):=by
  intro pins s σ H Q I h
  exact UnaryOp_ (thn (ha pins s σ H _ I h) fun v s1 ⟨x,H1,I1,r1,q1⟩=>ho pins s1 σ H1 x v Q I1 r1 q1)
theorem opI {f:Value→Value→Sem Value} {C:Int→Int→Prop} {g:Int→Int→Int}
    (rule:∀ (i j:Int) (t u:Tok) (s:Shared) (Q:Value→Shared→Prop) (E:Value→Shared→Prop),C i j→Q (.int (g i j) s.toks) { s with toks:=s.toks + 1 }→wpAny (model X.prog X.w) X.A (f (.int i t) (.int j u)) Q E s) :
    OpR X f (rI C fun i j=>.int (g i j)):=by
  intro pins s σ H x y v u Q I rx ry h
  obtain ⟨i,j,rfl,rfl,hc,q⟩:=h
  obtain ⟨t,rfl⟩:=rx
  obtain ⟨t',rfl⟩:=ry
  exact rule i j t t' s _ _ hc ⟨.int (g i j),H,I.tok _,⟨_,rfl⟩,q⟩
theorem opI0 {f:Value→Value→Sem Value} {g:Int→Int→Int}
    (rule:∀ (i j:Int) (t u:Tok) (s:Shared) (Q:Value→Shared→Prop) (E:Value→Shared→Prop),Q (.int (g i j) s.toks) { s with toks:=s.toks + 1 }→wpAny (model X.prog X.w) X.A (f (.int i t) (.int j u)) Q E s) :
    OpR X f (rI0 fun i j=>.int (g i j)):=by
  intro pins s σ H x y v u Q I rx ry h
  obtain ⟨i,j,rfl,rfl,q⟩:=h
  obtain ⟨t,rfl⟩:=rx
  obtain ⟨t',rfl⟩:=ry
  exact rule i j t t' s _ _ ⟨.int (g i j),H,I.tok _,⟨_,rfl⟩,q⟩
theorem opB0 {f:Value→Value→Sem Value} {g:Int→Int→Bool}
    (rule:∀ (i j:Int) (t u:Tok) (s:Shared) (Q:Value→Shared→Prop) (E:Value→Shared→Prop),Q (.bool (g i j)) s→wpAny (model X.prog X.w) X.A (f (.int i t) (.int j u)) Q E s) :
    OpR X f (rI0 fun i j=>.bl (g i j)):=by
  intro pins s σ H x y v u Q I rx ry h
  obtain ⟨i,j,rfl,rfl,q⟩:=h
  obtain ⟨t,rfl⟩:=rx
  obtain ⟨t',rfl⟩:=ry
  exact rule i j t t' s _ _ ⟨.bl (g i j),H,I,rfl,q⟩
def CPow (i j:Int):Prop:=0≤j∧j≤1000000∧i.natAbs < 2 ^ 64
def CMul (i j:Int):Prop:=(-(2 ^ 64) < i∧i < 2 ^ 64)∨(-(2 ^ 64) < j∧j < 2 ^ 64)
theorem CMul.ok {i j:Int} (h:CMul i j):IntMulOk i j:=by
  rcases h with ⟨h1,h2⟩ | ⟨h1,h2⟩
  · exact .of_left (intBits_le_64 h1 h2)
  · exact .of_right (intBits_le_64 h1 h2)
theorem two_pow_nn (k:Nat):(0:Int)≤2 ^ k:=by
  rw [two_pow_cast]
  exact Int.natCast_nonneg _
theorem op_add:OpR X (binaryOp .Add) (rI0 fun i j=>.int (i + j)):=opI0 fun _ _ _ _ _ _ _ q=>add_int q
theorem op_sub:OpR X (binaryOp .Sub) (rI0 fun i j=>.int (i - j)):=opI0 fun _ _ _ _ _ _ _ q=>sub_int q
theorem op_mod:OpR X (binaryOp .Mod) (rI (fun _ j=>0 < j) fun i j=>.int (i % j)):=opI fun i j _ _ _ _ _ hc q=>by
  have h1:(0:Int) < j:=hc
  exact mod_int' (by omega) (by rw [Int.fmod_eq_emod_of_nonneg i (by omega)];exact q)
theorem op_pow:OpR X (binaryOp .Pow) (rI CPow fun i j=>.int (i ^ j.toNat)):=opI fun _ _ _ _ _ _ _ hc q=>pow_int_small hc.1 hc.2.1 hc.2.2 q
theorem unI {f:Value→Sem Value} {g:Int→Int}
    (rule:∀ (i:Int) (t:Tok) (s:Shared) (Q:Value→Shared→Prop) (E:Value→Shared→Prop),Q (.int (g i) s.toks) { s with toks:=s.toks + 1 }→wpAny (model X.prog X.w) X.A (f (.int i t)) Q E s) :
    UnR X f (rU fun i=>.int (g i)):=by
  intro pins s σ H x v Q I rx h
  obtain ⟨i,rfl,q⟩:=h
  obtain ⟨t,rfl⟩:=rx
  exact rule i t s _ _ ⟨.int (g i),H,I.tok _,⟨_,rfl⟩,q⟩
theorem un_neg:UnR X (unaryOp .USub) (rU fun i=>.int (-i)):=unI fun _ _ _ _ _ q=>neg_int q
end
def scal:V→V→Bool
  | .non,.non=>true | .non,.int _=>true | .int _,.non=>true | .non,.bl _=>true | .bl _,.non=>true | .non,.str _=>true | .str _,.non=>true
  | .int _,.int _=>true | .bl _,.bl _=>true | .str _,.str _=>true | .byt _,.byt _=>true
  | .int _,.str _=>true | .str _,.int _=>true | .bl _,.str _=>true | .str _,.bl _=>true
  | _,_=>false
def rEq:R2:=fun x y H Q=>scal x y=true∧Q (.bl (decide (x=y))) H
def rNe:R2:=fun x y H Q=>scal x y=true∧Q (.bl (!decide (x=y))) H
theorem dec_int {i j:Int}:decide (V.int i=V.int j)=(i == j):=by
  rw [Bool.eq_iff_iff]
  simp
theorem dec_bl {i j:Bool}:decide (V.bl i=V.bl j)=(i == j):=by
  rw [Bool.eq_iff_iff]
  simp
theorem dec_str {i j:Str}:decide (V.str i=V.str j)=(i == j):=by
  rw [Bool.eq_iff_iff]
  simp
theorem dec_byt {i j:Array UInt8}:decide (V.byt i=V.byt j)=(i.toList == j.toList):=by
  rw [Bool.eq_iff_iff]
  cases i
  cases j
  simp
section
variable {X:Cx} {a b c:Expr} {ta tb tc:TE} {pos:Pos}
theorem fin_bl {pins:List (Addr × Obj)} {σ:St} {H:Hp} {s:Shared} {Q:VK} {k k':Bool} (I:Inv X pins σ H s) (q:Q (.bl k) H) (e:k=k'):EP X pins σ Q (.bool k') s:=by
  subst e
  exact ⟨.bl k,H,I,rfl,q⟩
theorem op_eq:OpR X (compareOp .Eq) rEq:=by
  intro pins s σ H x y v u Q I rx ry h
  obtain ⟨hs,q⟩:=h
  cases x with
  | non =>
    cases rx
    cases y with
    | non=>cases ry;exact PySem.EqNone.eq_none_none (fin_bl I q (by simp))
    | bl j=>cases ry;exact PySem.EqNone.eq_none_bool (fin_bl I q (by simp))
    | int j=>obtain ⟨t',rfl⟩:=ry;exact PySem.EqNone.eq_none_int (fin_bl I q (by simp))
    | str j=>obtain ⟨t',rfl⟩:=ry;exact PySem.EqNone.eq_none_str (fin_bl I q (by simp))
    | _=>exact absurd (show false=true from hs) Bool.false_ne_true
  | bl i =>
    cases rx
    cases y with
    | non=>cases ry;exact PySem.EqNone.eq_bool_none (fin_bl I q (by simp))
    | bl j=>cases ry;exact eq_bool (fin_bl I q dec_bl)
    | str j=>obtain ⟨t',rfl⟩:=ry;exact PySem.EqMixed.eq_bool_str (fin_bl I q (by simp))
    | _=>exact absurd (show false=true from hs) Bool.false_ne_true
  | int i =>
    obtain ⟨t,rfl⟩:=rx
    cases y with
    | non=>cases ry;exact PySem.EqNone.eq_int_none (fin_bl I q (by simp))
    | int j=>obtain ⟨t',rfl⟩:=ry;exact eq_int (fin_bl I q dec_int)
    | str j=>obtain ⟨t',rfl⟩:=ry;exact PySem.EqMixed.eq_int_str (fin_bl I q (by simp))
    | _=>exact absurd (show false=true from hs) Bool.false_ne_true
  | str i =>
    obtain ⟨t,rfl⟩:=rx
    cases y with
    | non=>cases ry;exact PySem.EqNone.eq_str_none (fin_bl I q (by simp))
    | bl j=>cases ry;exact PySem.EqMixed.eq_str_bool (fin_bl I q (by simp))
    | int j=>obtain ⟨t',rfl⟩:=ry;exact PySem.EqMixed.eq_str_int (fin_bl I q (by simp))
    | str j=>obtain ⟨t',rfl⟩:=ry;exact eq_str (fin_bl I q dec_str)
    | _=>exact absurd (show false=true from hs) Bool.false_ne_true
  | byt i =>
    obtain ⟨t,rfl⟩:=rx
    cases y with
    | byt j=>obtain ⟨t',rfl⟩:=ry;exact PySem.W.eq_bytes (fin_bl I q dec_byt)
    | _=>exact absurd (show false=true from hs) Bool.false_ne_true
  | _=>cases y <;> exact absurd (show false=true from hs) Bool.false_ne_true
theorem op_ne:OpR X (compareOp .NotEq) rNe:=by
  intro pins s σ H x y v u Q I rx ry h
  obtain ⟨hs,q⟩:=h
  cases x with
  | non =>
    cases rx
    cases y with
    | non=>cases ry;exact PySem.EqNone.ne_none_none (fin_bl I q (by simp))
    | bl j=>cases ry;exact PySem.EqNone.ne_none_bool (fin_bl I q (by simp))
    | int j=>obtain ⟨t',rfl⟩:=ry;exact PySem.EqNone.ne_none_int (fin_bl I q (by simp))
    | str j=>obtain ⟨t',rfl⟩:=ry;exact PySem.EqNone.ne_none_str (fin_bl I q (by simp))
    | _=>exact absurd (show false=true from hs) Bool.false_ne_true
  | bl i =>
    cases rx
    cases y with
    | non=>cases ry;exact PySem.EqNone.ne_bool_none (fin_bl I q (by simp))
    | bl j=>cases ry;exact ne_bool (fin_bl I q (congrArg not dec_bl))
    | str j=>obtain ⟨t',rfl⟩:=ry;exact PySem.EqMixed.ne_bool_str (fin_bl I q (by simp))
    | _=>exact absurd (show false=true from hs) Bool.false_ne_true
  | int i =>
    obtain ⟨t,rfl⟩:=rx
    cases y with
    | non=>cases ry;exact PySem.EqNone.ne_int_none (fin_bl I q (by simp))
    | int j=>obtain ⟨t',rfl⟩:=ry;exact ne_int (fin_bl I q (congrArg not dec_int))
    | str j=>obtain ⟨t',rfl⟩:=ry;exact PySem.EqMixed.ne_int_str (fin_bl I q (by simp))
    | _=>exact absurd (show false=true from hs) Bool.false_ne_true
  | str i =>
    obtain ⟨t,rfl⟩:=rx
    cases y with
    | non=>cases ry;exact PySem.EqNone.ne_str_none (fin_bl I q (by simp))
    | bl j=>cases ry;exact PySem.EqMixed.ne_str_bool (fin_bl I q (by simp))
    | int j=>obtain ⟨t',rfl⟩:=ry;exact PySem.EqMixed.ne_str_int (fin_bl I q (by simp))
    | str j=>obtain ⟨t',rfl⟩:=ry;exact ne_str (fin_bl I q (congrArg not dec_str))
    | _=>exact absurd (show false=true from hs) Bool.false_ne_true
  | byt i =>
    obtain ⟨t,rfl⟩:=rx
    cases y with
    | byt j=>obtain ⟨t',rfl⟩:=ry;exact PySem.W.ne_bytes (fin_bl I q (congrArg not dec_byt))
    | _=>exact absurd (show false=true from hs) Bool.false_ne_true
  | _=>cases y <;> exact absurd (show false=true from hs) Bool.false_ne_true
theorem op_lt:OpR X (compareOp .Lt) (rI0 fun i j=>.bl (decide (i < j))):=opB0 fun _ _ _ _ _ _ _ q=>lt_int q
theorem op_le:OpR X (compareOp .LtE) (rI0 fun i j=>.bl (decide (i≤j))):=opB0 fun _ _ _ _ _ _ _ q=>le_int q
theorem op_gt:OpR X (compareOp .Gt) (rI0 fun i j=>.bl (decide (j < i))):=opB0 fun _ _ _ _ _ _ _ q=>gt_int q
theorem op_ge:OpR X (compareOp .GtE) (rI0 fun i j=>.bl (decide (j≤i))):=opB0 fun _ _ _ _ _ _ _ q=>ge_int q
theorem OpR.or {f:Value→Value→Sem Value} {r r':R2} (h:OpR X f r) (h':OpR X f r'):OpR X f (fun x y H Q=>r x y H Q∨r' x y H Q):=by
  intro pins s σ H x y v u Q I rx ry q
  rcases q with q | q
  · exact h pins s σ H x y v u Q I rx ry q
  · exact h' pins s σ H x y v u Q I rx ry q
theorem nomark (b:Expr) {op:CmpOp} (h:op≠.In:=by decide) (h2:op≠.NotIn:=by decide):behindInMarks op b=false:=by
  have e1:(op == CmpOp.In)=false:=by cases op <;> first | rfl | exact absurd rfl h
  have e2:(op == CmpOp.NotIn)=false:=by cases op <;> first | rfl | exact absurd rfl h2
  cases b <;> simp [behindInMarks,e1,e2]
theorem pe_cmpR {op:CmpOp} {r:R2} (ho:OpR X (compareOp op) r) (ha:PE X a ta) (hb:PE X b tb) (hm:behindInMarks op b=false):PE X (.Compare a [op] [b] pos) (tOp r ta tb):=by
  intro pins s σ H Q I h
  exact wpAny_Compare1 (binT ha hb I h fun v u s2 x y H2 I2 rx ry q=>ho pins s2 σ H2 x y v u Q I2 rx ry q) hm
def tTest (t:TE):TT:=fun σ H Q=>t σ H fun x H'=>∃ k,x=.bl k∧Q k H'
theorem pt_cmpR {op:CmpOp} {r:R2} (ho:OpR X (compareOp op) r) (ha:PE X a ta) (hb:PE X b tb) (hm:behindInMarks op b=false):PT X (.Compare a [op] [b] pos) (tTest (tOp r ta tb)):=by
  intro pins s σ H Q I h
  refine wpAny_isTrue_Compare1 (thn (ha pins s σ H _ I h) fun v s1 ⟨x,H1,I1,r1,q1⟩=>thn (hb pins s1 σ H1 _ I1 q1) fun u s2 ⟨y,H2,I2,r2,q2⟩ =>
    thn (ho pins s2 σ H2 x y v u _ I2 r1 r2 q2) fun c s3 ⟨z,H3,I3,r3,k,e,q3⟩=>?_) hm
  subst e
  cases r3
  exact wpAny_truthy_bool ⟨H3,I3,q3⟩
def tChain (r r':R2) (ta tb tc:TE):TE:=fun σ H Q=>ta σ H fun x H1=>tb σ H1 fun y H2=>r x y H2 fun z H3=>∃ k,z=.bl k ∧
  (if k=true then tc σ H3 fun w' H4=>r' y w' H4 Q else Q (.bl false) H3)
theorem pe_chain {op op':CmpOp} {r r':R2} (ho:OpR X (compareOp op) r) (ho':OpR X (compareOp op') r') (ha:PE X a ta) (hb:PE X b tb) (hc:PE X c tc)
    (hm:lastMarks [op,op'] [b,c]=false:=by with_unfolding_all rfl):PE X (.Compare a [op,op'] [b,c] pos) (tChain r r' ta tb tc):=by
  intro pins s σ H Q I h
  refine Compare_chain (thn (ha pins s σ H _ I h) fun v s1 ⟨x,H1,I1,r1,q1⟩=>chain_link (thn (hb pins s1 σ H1 _ I1 q1) fun u s2 ⟨y,H2,I2,r2,q2⟩ =>
    thn (ho pins s2 σ H2 x y v u _ I2 r1 r2 q2) fun d s3 ⟨z,H3,I3,r3,k,e,q3⟩=>?_)) hm
  subst e
  cases r3
  refine wpAny_truthy_bool ?_
  cases k with
  | false=>exact ite_ff ⟨.bl false,H3,I3,rfl,q3⟩
  | true=>exact ite_tt (chain_last (thn (hc pins s3 σ H3 _ I3 q3) fun w' s4 ⟨z',H4,I4,r4,q4⟩=>ho' pins s4 σ H4 y z' u w' Q I4 r2 r4 q4))
theorem pt_chain {op op':CmpOp} {r r':R2} (ho:OpR X (compareOp op) r) (ho':OpR X (compareOp op') r') (ha:PE X a ta) (hb:PE X b tb) (hc:PE X c tc)
    (hm:lastMarks [op,op'] [b,c]=false:=by with_unfolding_all rfl):PT X (.Compare a [op,op'] [b,c] pos) (tTest (tChain r r' ta tb tc)):=by
  intro pins s σ H Q I h
  refine isTrue_chain (thn (ha pins s σ H _ I h) fun v s1 ⟨x,H1,I1,r1,q1⟩=>test_link (thn (hb pins s1 σ H1 _ I1 q1) fun u s2 ⟨y,H2,I2,r2,q2⟩ =>
    thn (ho pins s2 σ H2 x y v u _ I2 r1 r2 q2) fun d s3 ⟨z,H3,I3,r3,k,e,q3⟩=>?_)) hm
  subst e
  cases r3
  refine wpAny_truthy_bool ?_
  cases k with
  | false =>
    obtain ⟨k',e',q'⟩:=q3
    cases e'
    exact ite_ff ⟨H3,I3,q'⟩
  | true =>
    refine ite_tt (test_last (thn (hc pins s3 σ H3 _ I3 q3) fun w' s4 ⟨z',H4,I4,r4,q4⟩=>thn (ho' pins s4 σ H4 y z' u w' _ I4 r2 r4 q4) fun d' s5 ⟨z2,H5,I5,r5,k2,e2,q5⟩=>?_))
    subst e2
    cases r5
    exact wpAny_truthy_bool ⟨H5,I5,q5⟩
def TruV (K:PySem.W.Frag) (x:V) (H:Hp) (k:Bool):Prop :=
  match x with
  | .non=>k=false
  | .bl b=>k=b
  | .int i=>k=(i != 0)
  | .str y=>y.length≤sizeLine∧k=((y.length:Int) != 0)
  | .byt y=>y.size≤sizeLine∧k=((y.size:Int) != 0)
  | .ref p=>(∃ xs,SqL K H p xs∧k=!xs.isEmpty)∨(∃ xs,SqT K H p xs∧k=!xs.isEmpty)∨∃ kvs,H p=some (.dK kvs)∧k=!kvs.isEmpty
  | _=>False
theorem isEmpty_kv {κ:Type} {kvs:List (κ × V)} {vs:List (κ × Value)} (r:KV kvs vs):(!vs.isEmpty)=!kvs.isEmpty:=by
  cases r <;> rfl
theorem isEmpty_of {xs:List V} {its:List Value} (r:Vals xs its):(!its.toArray.isEmpty)=!xs.isEmpty:=by
  cases r <;> simp
theorem line63:(sizeLine:Nat) < 2 ^ 63:=by rw [sizeLine_eq];decide
theorem tru_ok:TruR X (fun x H Q=>∃ k,TruV X.K x H k∧Q k H):=by
  intro pins s σ H x v Q I rx h
  obtain ⟨k,e,q⟩:=h
  have hl:=line63
  have hs:sizeLine=16777216:=sizeLine_eq
  cases x with
  | non =>
    cases rx
    have e':k=false:=e
    subst e'
    exact truthy_none ⟨H,I,q⟩
  | bl b =>
    cases rx
    have e':k=b:=e
    subst e'
    exact wpAny_truthy_bool ⟨H,I,q⟩
  | int i =>
    obtain ⟨t,rfl⟩:=rx
    have e':k=(i != 0):=e
    subst e'
    exact PySem.P.truthy_int ⟨H,I,q⟩
  | str y =>
    obtain ⟨t,rfl⟩:=rx
    obtain ⟨hy,e'⟩:y.length≤sizeLine∧k=((y.length:Int) != 0):=e
    subst e'
    exact PySem.P.truthy_str (by omega) ⟨H,I.tok _,q⟩
  | byt y =>
    obtain ⟨t,rfl⟩:=rx
    obtain ⟨hy,e'⟩:y.size≤sizeLine∧k=((y.size:Int) != 0):=e
    subst e'
    exact PySem.W.truthy_bytes (by omega) ⟨H,I.tok _,q⟩
  | ref p =>
    cases rx
    have e':(∃ xs,SqL X.K H p xs∧k=!xs.isEmpty)∨(∃ xs,SqT X.K H p xs∧k=!xs.isEmpty)∨∃ kvs,H p=some (.dK kvs)∧k=!kvs.isEmpty:=e
    rcases e' with ⟨xs,hx,e'⟩ | ⟨xs,hx,e'⟩ | ⟨kvs,hx,e'⟩
    · subst e'
      obtain ⟨its,r,pl,hz⟩:=I.list hx
      have hlen:=r.length
      exact wpAny_truthy_list pl.isList (by simp only [List.size_toArray];omega) ⟨H,I.tok _,by rw [isEmpty_of r];exact q⟩
    · subst e'
      obtain ⟨its,r,pl,hz⟩:=I.tuple hx
      have hlen:=r.length
      exact truthy_tuple pl (by simp only [List.size_toArray];omega) ⟨H,I.tok _,by rw [isEmpty_of r];exact q⟩
    · subst e'
      obtain ⟨hz,hS,vs,r,m⟩:kvs.length≤sizeLine∧(p == sysModules)=false∧∃ vs,KV kvs vs∧s.heap.DictOf (mixKind X.prog X.w) p vs:=I.hok p _ hx
      have hlen:kvs.length=vs.length:=Paired.length r
      exact wpAny_truthy_dict hS m (by omega) ⟨H,I.tok _,by rw [isEmpty_kv r];exact q⟩
  | _=>exact (show False from e).elim
theorem pt_truth (ha:PE X a ta) (he:∀ whole,isTrue a X.env whole=(do let v ← whole;standAt a.pos;holding [v] (truthy v))) :
    PT X a (fun σ H Q=>ta σ H fun x H'=>∃ k,TruV X.K x H' k∧Q k H'):=by
  intro pins s σ H Q I h
  exact isTrue_plain (thn (ha pins s σ H _ I h) fun v s1 ⟨x,H1,I1,r1,q1⟩=>tru_ok pins s1 σ H1 x v Q I1 r1 q1) (he _)
theorem op_add_str:OpR X (binaryOp .Add) (fun x y H Q=>∃ i j,x=.str i∧y=.str j∧i.length + j.length≤sizeLine∧Q (.str (i++j)) H):=by
  intro pins s σ H x y v u Q I rx ry h
  obtain ⟨i,j,rfl,rfl,hz,q⟩:=h
  obtain ⟨t,rfl⟩:=rx
  obtain ⟨t',rfl⟩:=ry
  exact add_str (fun t' tk=>⟨.str (i++j),H,I.tok _,⟨_,rfl⟩,q⟩) hz
theorem vals1 {x:V} {us:List Value} (r:Vals [x] us):∃ u,us=[u]∧RelV x u:=by
  cases r with
  | cons r1 r2=>cases r2;exact ⟨_,rfl,r1⟩
theorem vals2 {x y:V} {us:List Value} (r:Vals [x,y] us):∃ u w',us=[u,w']∧RelV x u∧RelV y w':=by
  cases r with
  | cons r1 r2 =>
    cases r2 with
    | cons r3 r4=>cases r4;exact ⟨_,_,rfl,r1,r3⟩
theorem call_abs:CallR X (.builtin "abs") (fun xs H Q=>∃ i,xs=[.int i]∧Q (.int (if i < 0 then -i else i)) H):=by
  intro pins s σ H xs us Q I r h
  obtain ⟨i,rfl,q⟩:=h
  obtain ⟨u,rfl,t,rfl⟩:=vals1 r
  exact call_abs_int fun u tk=>⟨.int (if i < 0 then -i else i),H,I.tok _,⟨_,rfl⟩,q⟩
def LenV (K:PySem.W.Frag) (x:V) (H:Hp) (n:Nat):Prop :=
  match x with
  | .str y=>y.length≤sizeLine∧n=y.length
  | .byt y=>y.size≤sizeLine∧n=y.size
  | .ref p=>(∃ xs,SqL K H p xs∧n=xs.length)∨∃ xs,SqT K H p xs∧n=xs.length
  | _=>False
theorem call_len:CallR X (.builtin "len") (fun xs H Q=>∃ x n,xs=[x]∧LenV X.K x H n∧Q (.int n) H):=by
  intro pins s σ H xs us Q I r h
  obtain ⟨x,n,rfl,e,q⟩:=h
  obtain ⟨u,rfl,rx⟩:=vals1 r
  have hl:=line63
  have hs:sizeLine=16777216:=sizeLine_eq
  cases x with
  | str y =>
    obtain ⟨t,rfl⟩:=rx
    obtain ⟨hy,e'⟩:y.length≤sizeLine∧n=y.length:=e
    subst e'
    exact len_str (by omega) ⟨.int _,H,I.tok _,⟨_,rfl⟩,q⟩
  | byt y =>
    obtain ⟨t,rfl⟩:=rx
    obtain ⟨hy,e'⟩:y.size≤sizeLine∧n=y.size:=e
    subst e'
    exact PySem.W.len_bytes (by omega) ⟨.int _,H,I.tok _,⟨_,rfl⟩,q⟩
  | ref p =>
    cases rx
    have e':(∃ xs,SqL X.K H p xs∧n=xs.length)∨∃ xs,SqT X.K H p xs∧n=xs.length:=e
    rcases e' with ⟨xs,hx,e'⟩ | ⟨xs,hx,e'⟩
    · subst e'
      obtain ⟨its,r',pl,hz⟩:=I.list hx
      have hlen:=r'.length
      exact Calls.call_len_list pl.isList (by simp only [List.size_toArray];omega) ⟨.int xs.length,H,I.tok _,⟨_,by simp only [List.size_toArray];rw [hlen]⟩,q⟩
    · subst e'
      obtain ⟨its,r',pl,hz⟩:=I.tuple hx
      have hlen:=r'.length
      exact len_tuple pl (by simp only [List.size_toArray];omega) ⟨.int xs.length,H,I.tok _,⟨_,by simp only [List.size_toArray];rw [hlen]⟩,q⟩
  | _=>exact (show False from e).elim
end
structure ObjM (h:Heap) (x dx C:Addr) (mA:Str→Option Value):Prop where
  obj:h.get? x=some (PySem.W.instObj C dx)
  ns:h.Ns1 dx mA
  ne:dx≠x
theorem lookIn_ns {h:Heap} {dx:Addr} {mA:Str→Option Value} (n:h.Ns1 dx mA):∃ od,h.get? dx=some od∧∀ name,PySem.W.lookIn name od=some (mA name):=by
  obtain ⟨o,es,ep,ho,hd,hk,_,hm⟩:=n
  refine ⟨o,ho,fun name=>?_⟩
  have e:=hm name
  unfold nsFind findBy at e
  rw [← Array.find?_toList] at e
  unfold PySem.W.lookIn
  rw [hd]
  dsimp only
  split
  · rename_i y q
    rw [q] at e
    exact congrArg some e
  · rename_i q
    rw [q] at e
    have a:es.toList.any (·.refKey)=false:=by
      rw [List.any_eq_false]
      intro y hy
      obtain ⟨z,t,hkey⟩:=hk y (Array.mem_toList_iff.mp hy)
      simp [DictEntry.refKey,hkey]
    have a':¬ es.toList.any (·.refKey)=true:=by rw [a];exact Bool.false_ne_true
    rw [if_neg a']
    exact congrArg some e
theorem ObjM.look {h:Heap} {x dx C:Addr} {mA:Str→Option Value} (I:ObjM h x dx C mA):∃ od,PySem.W.InstAt h x (PySem.W.instObj C dx) C (some od)∧∀ name,PySem.W.lookIn name od=some (mA name) :=
  let ⟨od,ho,hl⟩:=lookIn_ns I.ns
  ⟨od,⟨I.obj,rfl,rfl,ho⟩,hl⟩
section
variable {prog:Program} {w:World} {A:Around} {E:Value→Shared→Prop} {s:Shared} {K:PySem.W.Frag} {x dx C f:Addr} {mA:Str→Option Value} {name:Str} {v:Value}
end
def putF (f:Str) (v:V):List (Str × V)→List (Str × V)
  | []=>[(f,v)]
  | (g,x) :: r=>if g=f then (g,v) :: r else (g,x) :: putF f v r
theorem lookup_putF (f g:Str) (v:V):∀ fs:List (Str × V),(putF f v fs).lookup g=if g=f then some v else fs.lookup g
  | []=>by
    show List.lookup g [(f,v)]=_
    by_cases h:g=f
    · have hb:(g == f)=true:=beq_iff_eq.mpr h
      simp only [List.lookup,hb,if_pos h]
    · have hb:(g == f)=false:=beq_eq_false_iff_ne.mpr h
      simp only [List.lookup,hb,if_neg h]
  | (k,x) :: r=>by
    have ih:=lookup_putF f g v r
    rw [show putF f v ((k,x) :: r)=(if k=f then (k,v) :: r else (k,x) :: putF f v r) from rfl]
    by_cases hk:k=f
    · rw [if_pos hk]
      by_cases h:g=k
      · have hb:(g == k)=true:=beq_iff_eq.mpr h
        simp only [List.lookup,hb,if_pos (h.trans hk)]
      · have hb:(g == k)=false:=beq_eq_false_iff_ne.mpr h
        simp only [List.lookup,hb,if_neg (fun e:g=f=>h (e.trans hk.symm))]
    · rw [if_neg hk]
      by_cases h:g=k
      · have hb:(g == k)=true:=beq_iff_eq.mpr h
        simp only [List.lookup,hb,if_neg (fun e:g=f=>hk (h.symm.trans e))]
      · have hb:(g == k)=false:=beq_eq_false_iff_ne.mpr h
        simp only [List.lookup,hb]
        exact ih
theorem RelO.some_of {v:V} {o:Option Value} (r:RelO (some v) o):∃ u,o=some u∧RelV v u:=by
  cases o with
  | none=>exact (show False from r).elim
  | some u=>exact ⟨u,rfl,r⟩
section
variable {P:Program} {w:World} {H H':Hp} {h h':Heap} {a C dx:Addr} {fs fs':List (Str × V)}
theorem ins_get (hok:HOk P w H h) (e:H a=some (.ins C dx fs)):∃ mA,ObjM h a dx C mA∧(∀ f,RelO (fs.lookup f) (mA f))∧PySem.Within mA (fs.map (·.1))∧fs.length≤1000∧H dx=some (.own a):=by
  obtain ⟨d,z,ne,ob,mA,n,r,q⟩:=(show ObjOk P w H h a (.ins C dx fs) from hok a _ e)
  exact ⟨mA,⟨ob,n,ne⟩,r,q,z,d⟩
end
structure Cls (K:PySem.W.Frag) (C:Addr):Prop where
  pg:PySem.W.plainGet K C Str.empty=true
  hd:PySem.W.hasDictIn K C=true
  po:PySem.W.plainOver K C=true
  sa:PySem.W.findIn K (.ref C) "__setattr__"=some (some (.builtin "object.__setattr__"))
theorem Cls.get {K:PySem.W.Frag} {C:Addr} (c:Cls K C) (f:Str):PySem.W.plainGet K C f=true:=c.pg
section
variable {X:Cx} {pins:List (Addr × Obj)} {σ:St} {H:Hp} {s:Shared} {a C dx:Addr} {fs:List (Str × V)} {f:Str} {v:V} {A:Around} {E:Value→Shared→Prop}
end
section
variable {X:Cx} {o e value:Expr} {f:Str} {pos pos' tpos:Pos} {ta tv:TE}
end
section
variable {X:Cx} {pins:List (Addr × Obj)} {σ:St} {H:Hp} {s:Shared} {A:Around} {E:Value→Shared→Prop} {Q:Value→Shared→Prop} {c:Value} {b:Bool}
inductive TyOf (K:PySem.W.Frag) (H:Hp):V→Value→Prop where
  | non:TyOf K H .non (.type "NoneType")
  | bl (x:Bool):TyOf K H (.bl x) (.type "bool")
  | int (i:Int):TyOf K H (.int i) (.type "int")
  | str (x:Str):TyOf K H (.str x) (.type "str")
  | flt (x:UInt64):TyOf K H (.flt x) (.type "float")
  | lst {a:Addr} {xs:List V} (e:H a=some (.lst xs)):TyOf K H (.ref a) (.type "list")
  | frz {a:Addr} {o:Obj} {xs:List V} (e:H a=some (.frz o (.lst xs))):TyOf K H (.ref a) (.type "list")
  | tup {a:Addr} {xs:List V} (e:H a=some (.tup xs)):TyOf K H (.ref a) (.type "tuple")
  | dK {a:Addr} {kvs:List (Key × V)} (e:H a=some (.dK kvs)):TyOf K H (.ref a) (.type "dict")
  | dT {a:Addr} {kvs:List (List Key × V)} (e:H a=some (.dT kvs)):TyOf K H (.ref a) (.type "dict")
  | ins {a C dx:Addr} {fs:List (Str × V)} (e:H a=some (.ins C dx fs)) (cl:Cls K C) (ha:PySem.W.findIn K (.ref C) "__class__"=some (some (.builtin "object.__class__")))
      (hn:PySem.W.specialIn K (.builtin "object.__class__") "__get__"=some (some (.builtin "getset_descriptor.__get__"))) (htk:PySem.W.takesIn K (.builtin "object.__class__")=some true)
      (hm:PySem.W.mroIn K C (.type "object")=some true):TyOf K H (.ref a) (.ref C)
theorem isinst_ok {x:V} {u t:Value} (I:Inv X pins σ H s) (rx:RelV x u) (ty:TyOf X.K H x t) (e:PySem.W.kitOne X.K t c=some b) (h:∀ tk,Q (.bool b) { s with toks:=tk }) :
    wpAny (model X.prog X.w) A (call (.builtin "isinstance") [u,c]) Q E s:=by
  cases ty with
  | non=>cases (show u=Value.none from rx);exact PySem.W.kia_one PySem.W.kitx_none I.kIn True.intro e (fun z=>nomatch z) h
  | bl y=>cases (show u=Value.bool y from rx);exact PySem.W.kia_one PySem.W.kitx_bool I.kIn True.intro e (fun z=>nomatch z) h
  | int i=>obtain ⟨t,q⟩:=(show ∃ t,u=Value.int i t from rx);cases q;exact PySem.W.kia_one PySem.W.kitx_int I.kIn True.intro e (fun z=>nomatch z) h
  | str y=>obtain ⟨t,q⟩:=(show ∃ t,u=Value.str y t from rx);cases q;exact PySem.W.kia_one PySem.W.kitx_str I.kIn True.intro e (fun z=>nomatch z) h
  | flt y=>obtain ⟨t,q⟩:=(show ∃ t,u=Value.float y t from rx);cases q;exact PySem.W.kia_one PySem.W.kitx_float I.kIn True.intro e (fun z=>nomatch z) h
  | @lst a xs ea =>
    cases (show u=Value.ref a from rx)
    obtain ⟨_,_,n,_,h1⟩:=(show ObjOk X.prog X.w H s.heap a (.lst xs) from I.hok a _ ea)
    exact PySem.W.kia_one PySem.W.kitx_list I.kIn ⟨_,h1,rfl⟩ e (fun z=>nomatch z) h
  | @frz a ob xs ea =>
    cases (show u=Value.ref a from rx)
    obtain ⟨_,_,_,n,_,h1⟩:=(show ObjOk X.prog X.w H s.heap a (.frz ob (.lst xs)) from I.hok a _ ea)
    exact PySem.W.kia_one PySem.W.kitx_list I.kIn ⟨_,h1,rfl⟩ e (fun z=>nomatch z) h
  | @tup a xs ea =>
    cases (show u=Value.ref a from rx)
    obtain ⟨_,_,_,p⟩:=(show ObjOk X.prog X.w H s.heap a (.tup xs) from I.hok a _ ea)
    obtain ⟨o,h1,h2,_⟩:=p
    exact PySem.W.kia_one PySem.W.kitx_tuple I.kIn ⟨o,h1,h2⟩ e (fun z=>nomatch z) h
  | @dK a kvs ea =>
    cases (show u=Value.ref a from rx)
    obtain ⟨_,_,vs,_,p⟩:=(show ObjOk X.prog X.w H s.heap a (.dK kvs) from I.hok a _ ea)
    obtain ⟨o,es,ep,h1,h2,_⟩:=p
    exact PySem.W.kia_one PySem.W.kitx_dict I.kIn ⟨o,h1,h2.1⟩ e (fun z=>nomatch z) h
  | @dT a kvs ea =>
    cases (show u=Value.ref a from rx)
    obtain ⟨_,_,xs,_,o,es,ep,h1,h2,_⟩:=(show ObjOk X.prog X.w H s.heap a (.dT kvs) from I.hok a _ ea)
    exact PySem.W.kia_one PySem.W.kitx_dict I.kIn ⟨o,h1,h2.1⟩ e (fun z=>nomatch z) h
  | @ins a C dx fs ea cl ha hn htk hm =>
    cases (show u=Value.ref a from rx)
    obtain ⟨mA,O,_⟩:=ins_get I.hok ea
    obtain ⟨od,J,_⟩:=O.look
    exact PySem.W.kia_one (PySem.W.kitx_own (cl.get _) cl.hd ha hn htk hm) I.kIn J e (fun z=>nomatch z) h
end
structure Room (k:Nat) (A:Around):Prop where
  hd:A.handled=none
  dp:A.depth + 3 * k + 5 < recursionLimit
  un:A.units + 16 * k + 200 < cLine
theorem Room.mono {j k:Nat} {A:Around} (r:Room k A) (h:j≤k):Room j A:=⟨r.hd,by have:=r.dp;omega,by have:=r.un;omega⟩
theorem Room.deeper {k:Nat} {A:Around} (r:Room (k + 1) A) (env:Env):Room k (A.deeper env) :=
  ⟨r.hd,by have:=r.dp;show A.depth + 1 + 3 * k + 5 < _;omega,by have:=r.un;show A.units + 3 + 16 * k + 200 < _;omega⟩
theorem make_depth {A:Around} {C:Addr} {us:List Value} {kw:List (Str × Value)}:(A.under (.builtin "type.__call__" ⟨.ref C :: us,kw⟩)).depth=A.depth + 1:=by
  first | rfl | simp [Around.under,Code.weight,Code.isCreation,Code.isGuard,Code.isCaller,Code.frames,Code.isFrame,guardIds]
theorem make_units {A:Around} {C:Addr} {us:List Value} {kw:List (Str × Value)}:(A.under (.builtin "type.__call__" ⟨.ref C :: us,kw⟩)).units=A.units + 1:=by
  first | rfl | simp [Around.under,Code.cUnits,Code.frames,Code.isFrame]
theorem Room.depth {k:Nat} {A:Around} (r:Room k A):A.depth < recursionLimit:=by have:=r.dp;omega
theorem Room.units {k:Nat} {A:Around} (r:Room k A):A.units + 64 < cLine:=by have:=r.un;omega
theorem Room.units0 {k:Nat} {A:Around} (r:Room k A):A.units < cLine:=by have:=r.un;omega
def tNil:TA:=fun _ H Q=>Q [] H
def tCons (ta:TE) (tr:TA):TA:=fun σ H Q=>ta σ H fun x H1=>tr σ H1 fun xs H2=>Q (x :: xs) H2
section
variable {X:Cx} {e:Expr} {es:List Expr} {te:TE} {t:TA} {pos:Pos}
theorem pa_nil:PA X [] tNil:=fun _ _ _ _ H Q I h=>Calls.spliced_nil ⟨[],H,I,.nil,h⟩
theorem pa_cons (ha:PE X e te) (hr:PA X es t) (hs:starEach (e :: es) X.env=(false,eval e X.env) :: starEach es X.env:=by rfl):PA X (e :: es) (tCons te t):=by
  intro pos pins s σ H Q I h
  rw [hs]
  show wpAny _ _ (spliced ((false,eval e X.env) :: backTo pos (starEach es X.env))) _ _ s
  refine Calls.spliced_cons (thn (ha pins s σ H _ I h) fun u s1 ⟨x,H1,I1,r1,q1⟩=>?_)
  exact thn (hr pos pins s1 σ H1 _ I1 q1) fun us s2 ⟨xs,H2,I2,r2,q2⟩=>⟨x :: xs,H2,I2,.cons r1 r2,q2⟩
def tTup (t:TA):TE:=fun σ H Q=>t σ H fun xs H1=>xs.length≤sizeLine∧∀ p,H1 p=none→Q (.ref p) (upd H1 p (.tup xs))
def tLst (t:TA):TE:=fun σ H Q=>t σ H fun xs H1=>xs.length≤sizeLine∧∀ p,H1 p=none→Q (.ref p) (upd H1 p (.lst xs))
theorem pe_tup {x1} (h:PA X es t):PE X (.Tuple es x1 pos) (tTup t):=by
  intro pins s σ H Q I hq
  refine wpAny_Tuple_spliced (thn (h pos pins s σ H _ I hq) fun us s1 ⟨xs,H1,I1,r,z,q⟩=>⟨by rw [← r.length];exact z,?_⟩)
  have hf:H1 s1.heap.objs.size=none:=I1.hok.fresh (Nat.le_refl _)
  refine ⟨.ref s1.heap.objs.size,upd H1 s1.heap.objs.size (.tup xs),I1.laid (t':=s1.toks) (fun b u e=>Heap.get?_push_of_some _ e) (Nat.le_refl _) ?_,rfl,q _ hf⟩
  exact ⟨z,us,r,⟨_,Heap.get?_push_size _ rfl,rfl,_,rfl⟩⟩
theorem pe_lst (h:PA X es t):PE X (.List es pos) (tLst t):=by
  intro pins s σ H Q I hq
  refine wpAny_List_spliced (thn (h pos pins s σ H _ I hq) fun us s1 ⟨xs,H1,I1,r,z,q⟩=>⟨by rw [← r.length];exact z,?_⟩)
  have hf:H1 s1.heap.objs.size=none:=I1.hok.fresh (Nat.le_refl _)
  refine ⟨.ref s1.heap.objs.size,upd H1 s1.heap.objs.size (.lst xs),I1.laid (t':=s1.toks) (fun b u e=>Heap.get?_push_of_some _ e) (Nat.le_refl _) ?_,rfl,q _ hf⟩
  exact ⟨z,us,0,r,Heap.get?_push_size _ rfl⟩
end
abbrev Sp:=List V→Hp→VK→XK→Prop
abbrev CXT:=List Env→Hp→Shared→XK→Value→Shared→Prop
structure Env0 (P:Program) (w:World) (K:PySem.W.Frag) (mg:Str→Option Value) (base:Heap) (A:Around) (outer:List Env) (s:Shared) (H:Hp):Prop where
  frames:A.frames=some outer
  mod:Mod K mg base
  bs:∀ b o,base.get? b=some o→s.heap.get? b=some o∧H b=none
  bsz:base.objs.size≤s.heap.objs.size
  funs:s.heap.FunFrames base outer
  frf:∀ b∈frs outer,H b=none
  hok:HOk P w H s.heap
  bare:AllBare s.gens
def CE (outer:List Env) (P:Program) (w:World) (H:Hp) (s:Shared) (Q:VK) (u:Value) (s':Shared):Prop :=
  ∃ v H',s'.os=s.os∧AllBare s'.gens∧Un (frs outer) [] H H' s.heap s'.heap∧HOk P w H' s'.heap∧RelV v u∧Q v H'
def CR (CX:CXT) (outer:List Env) (P:Program) (w:World) (H:Hp) (s:Shared) (Q:VK) (E:XK) (r:Result) (s':Shared):Prop :=
  match r with
  | .ok (.ret u)=>CE outer P w H s Q u s'
  | .ok _=>False
  | .error e=>CX outer H s E e s'
structure FnOk (P:Program) (w:World) (K:PySem.W.Frag) (mg:Str→Option Value) (base:Heap) (CX:CXT) (k:Nat) (f:Addr) (fd:FuncData) (ps:List Str) (sp:Sp):Prop where
  len:∀ vs H Q E,sp vs H Q E→vs.length=ps.length
  run:∀ (A:Around) (outer:List Env) (s:Shared) (H:Hp) (args:Args) (us:List Value) (vs:List V) (Q:VK) (E:XK),Room k A→Env0 P w K mg base A outer s H→BindsTo s fd args (ps.zip us)→Vals vs us→sp vs H Q E →
    codeAny (model P w) A (.call (.ref f) args) (CR CX outer P w H s Q E) s
theorem FnOk.imp {P:Program} {w:World} {K:PySem.W.Frag} {mg:Str→Option Value} {base:Heap} {CX:CXT} {k:Nat} {f:Addr} {fd:FuncData} {ps:List Str} {sp sp':Sp} (F:FnOk P w K mg base CX k f fd ps sp)
    (h:∀ vs H Q E,sp' vs H Q E→sp vs H Q E):FnOk P w K mg base CX k f fd ps sp' :=
  ⟨fun vs H Q E q=>F.len vs H Q E (h _ _ _ _ q),fun A outer s H args us vs Q E hr he hb hv hs=>F.run A outer s H args us vs Q E hr he hb hv (h _ _ _ _ hs)⟩
section
variable {X:Cx} {pins:List (Addr × Obj)} {σ:St} {H:Hp} {s s':Shared}
theorem Inv.env0 (I:Inv X pins σ H s):Env0 X.prog X.w X.K X.mg X.base X.A X.stack s H :=
  ⟨I.ok.frames,I.ok.mod,I.bs,Nat.le_trans I.ok.bsz I.sz,I.stack,I.stkFree,I.hok,I.bare⟩
theorem Inv.after {Q:VK} {u:Value} (I:Inv X pins σ H s) (h:CE X.stack X.prog X.w H s Q u s'):EP X pins σ Q u s':=by
  obtain ⟨v,H',os,bare,un,hok,r,q⟩:=h
  obtain ⟨hh,g,d,t,os'⟩:=s'
  obtain rfl:os'=s.os:=os
  exact ⟨v,H',I.call (h':=hh) (g':=g) (d':=d) (t':=t) (ch:=[]) un hok bare (fun b z=>absurd z (by simp)),r,q⟩
end
def tCall (sp:Sp) (dvs:List V) (E:XK) (t:TA):TE:=fun σ H Q=>t σ H fun vs H1=>sp (vs++dvs) H1 Q E
def Binds (K:PySem.W.Frag) (fd:FuncData) (ps:List Str) (ds:List Value):Prop :=
  ∀ (s:Shared) (us:List Value),K.In s.heap→(us++ds).length=ps.length→BindsTo s fd ⟨us,[]⟩ (ps.zip (us++ds))
theorem Binds.all {K:PySem.W.Frag} {fd:FuncData} {ps:List Str} (h:∀ us:List Value,us.length=ps.length→bindArgs fd ⟨us,[]⟩=pure (ps.zip us)):Binds K fd ps []:=fun s us _ hl=>by
  rw [List.append_nil] at hl ⊢
  exact .of_eq (h us hl)
def Passes (CX:CXT) (X:Cx) (E:XK):Prop:=∀ (pins:List (Addr × Obj)) (σ:St) (H:Hp) (s:Shared) (e:Value) (s':Shared),Inv X pins σ H s→CX X.stack H s E e s'→X.xe e s'
section
variable {X:Cx} {CX:CXT} {k:Nat} {f C:Addr} {fd:FuncData} {ps:List Str} {sp:Sp} {dvs:List V} {ds:List Value} {E:XK} {x m:Str} {p pos apos:Pos} {e o:Expr} {es:List Expr} {ta:TE} {t:TA}
theorem run_fn {pins:List (Addr × Obj)} {σ:St} {H:Hp} {s:Shared} {Q:VK} {us:List Value} {vs:List V} (F:FnOk X.prog X.w X.K X.mg X.base CX k f fd ps sp) (hr:Room k X.A) (hb:Binds X.K fd ps ds) (hd:Vals dvs ds) (hx:Passes CX X E)
    (I:Inv X pins σ H s) (r:Vals vs us) (h:sp (vs++dvs) H Q E):wpAny (model X.prog X.w) X.A (call (.ref f) us) (EP X pins σ Q) X.xe s:=by
  have r2:Vals (vs++dvs) (us++ds):=r.append hd
  have hl:(us++ds).length=ps.length:=by rw [← r2.length];exact F.len _ _ _ _ h
  refine wpAny_call (codeAny_mono (F.run X.A X.stack s H ⟨us,[]⟩ (us++ds) (vs++dvs) Q E hr I.env0 (hb s us I.kIn hl) r2 h) fun r s' hq=>?_)
  cases r with
  | error e=>exact hx pins σ H s e s' I hq
  | ok fl =>
    cases fl with
    | ret u=>exact I.after hq
    | next=>exact False.elim hq
    | brk=>exact False.elim hq
    | cont=>exact False.elim hq
theorem pe_call (F:FnOk X.prog X.w X.K X.mg X.base CX k f fd ps sp) (hr:Room k X.A) (hg:Gl X x) (hm:X.mg x=some (.ref f)) (hk:PySem.W.keepIn X.K (.ref f)=true) (hb:Binds X.K fd ps ds) (hd:Vals dvs ds) (hx:Passes CX X E)
    (ha:PA X (e :: es) t) (hdb:(x == ("__debug__":Str))=false:=by decide) (he:starEach (e :: es) X.env=(false,eval e X.env) :: starEach es X.env:=by rfl) (hpl:(backTo pos (starEach es X.env)).any (·.1)=false:=by rfl) :
    PE X (.Call (.Name x p) (e :: es) [] pos) (tCall sp dvs E t):=by
  intro pins s σ H Q I h
  refine wpAny_Call_Name_kw (ld_glob I hg hm ?_ hdb)
  refine PySem.W.callWith_K (h₀:=X.base) I.ok.mod.kin hk (thn (ha pos pins s σ H _ I h) fun us s1 ⟨vs,H1,I1,r,q⟩=>⟨I1.kIn,?_⟩) he hpl
  exact run_fn F hr hb hd hx I1 r q
end
section
variable {X:Cx} {CX:CXT} {k:Nat} {f C:Addr} {fd:FuncData} {ps ks:List Str} {sp:Sp} {E:XK} {x m:Str} {p pos apos kpos:Pos} {e o:Expr} {es:List Expr} {kws:List Keyword} {te ta:TE} {t tk:TA} {nm:Option Str}
variable {g:List Value→List Value→List Value} {gV:List V→List V→List V}
end
structure FnScope (N P:List Str) (sc:Scope):Prop where
  kind:sc.kind=.function
  co:sc.isCoroutine=false
  gen:sc.isGenerator=false
  nd:N.Nodup
  pre:N.take P.length=P
  par:∀ x∈P,sc.names.lookup x=some .local∨sc.names.lookup x=some .cell
  nofree:∀ y∈sc.names,y.2≠.free
theorem bindL_out {kindOf:Str→Option NameKind} {x:Str}:∀ {binds:List (Str × Value)} {m:Str→Option Value},(∀ v,(x,v) ∉ binds)→bindL kindOf binds m x=m x
  | [],_,_=>rfl
  | (n,v) :: r,m,h=>by
    unfold bindL
    rw [bindL_out fun w hw=>h w (List.mem_cons_of_mem _ hw)]
    split
    · have:x≠n:=by rintro rfl;exact h v List.mem_cons_self
      simp [this]
    · rfl
theorem bindC_out {kindOf:Str→Option NameKind} {x:Str}:∀ {binds:List (Str × Value)} {m:Str→Option Value},(∀ v,(x,v) ∉ binds)→bindC kindOf binds m x=m x
  | [],_,_=>rfl
  | (n,v) :: r,m,h=>by
    unfold bindC
    rw [bindC_out fun w hw=>h w (List.mem_cons_of_mem _ hw)]
    split
    · rfl
    · have:x≠n:=by rintro rfl;exact h v List.mem_cons_self
      simp [this]
theorem bindL_get {kindOf:Str→Option NameKind} {x:Str} {v:Value}:∀ {P:List Str} {vs:List Value} {i:Nat} {m:Str→Option Value},P.Nodup→P[i]?=some x→vs[i]?=some v→kindOf x=some .local →
    bindL kindOf (P.zip vs) m x=some v
  | [],_,_,_,_,h,_,_=>by simp at h
  | _ :: _,[],_,_,_,_,h,_=>by simp at h
  | p :: P,w :: vs,0,m,nd,h1,h2,hk=>by
    simp at h1 h2;subst h1;subst h2
    show bindL kindOf ((p,w) :: P.zip vs) m p=_
    unfold bindL
    rw [bindL_out fun v hv=>(List.nodup_cons.mp nd).1 (List.of_mem_zip hv).1,if_pos hk]
    simp
  | p :: P,w :: vs,i + 1,m,nd,h1,h2,hk=>by
    show bindL kindOf ((p,w) :: P.zip vs) m x=_
    unfold bindL
    exact bindL_get (i:=i) (List.nodup_cons.mp nd).2 (by simpa using h1) (by simpa using h2) hk
theorem bindC_get {kindOf:Str→Option NameKind} {x:Str} {v:Value}:∀ {P:List Str} {vs:List Value} {i:Nat} {m:Str→Option Value},P.Nodup→P[i]?=some x→vs[i]?=some v→kindOf x≠some .local →
    bindC kindOf (P.zip vs) m x=some v
  | [],_,_,_,_,h,_,_=>by simp at h
  | _ :: _,[],_,_,_,_,h,_=>by simp at h
  | p :: P,w :: vs,0,m,nd,h1,h2,hk=>by
    simp at h1 h2;subst h1;subst h2
    show bindC kindOf ((p,w) :: P.zip vs) m p=_
    unfold bindC
    rw [bindC_out fun v hv=>(List.nodup_cons.mp nd).1 (List.of_mem_zip hv).1,if_neg hk]
    simp
  | p :: P,w :: vs,i + 1,m,nd,h1,h2,hk=>by
    show bindC kindOf ((p,w) :: P.zip vs) m x=_
    unfold bindC
    exact bindC_get (i:=i) (List.nodup_cons.mp nd).2 (by simpa using h1) (by simpa using h2) hk
def start (N:List Str) (vs:List V):St:=vs.map some++List.replicate (N.length - vs.length) none
def cxOf (CX:CXT) (P:Program) (w:World) (K:PySem.W.Frag) (mg:Str→Option Value) (base:Heap) (N:List Str) (qual:Str) (scope:Scope) (f:Addr) (cd:Value) (A:Around) (outer:List Env) (s:Shared) (H:Hp) (E:XK):Cx where
  prog:=P
  w:=w
  K:=K
  mg:=mg
  base:=base
  A:=A.deeper (envOfC qual scope s.heap.objs.size f cd)
  N:=N
  s₀:=s
  H₀:=H
  env:=envOfC qual scope s.heap.objs.size f cd
  outer:=outer
  stack:=envOfC qual scope s.heap.objs.size f cd :: outer
  ex:=[]
  calm:=true
  fn:=fun _=>true
  pn:=[]
  xe:=fun e s'=>wpAny (model P w) (A.deeper (envOfC qual scope s.heap.objs.size f cd)) (leaving (envOfC qual scope s.heap.objs.size f cd) e) (fun _ s''=>CX outer H s E e s'') (fun e' s''=>CX outer H s E e' s'') s'
theorem cell_has {sc:Scope} {n:Nat} {x:Str} (h:sc.names.lookup x=some .cell):∃ c,(cellsFrom n sc.names []).lookup x=some c:=by
  have q:=PySem.W.cellsFrom_some sc.names n [] (.inl h)
  exact Option.isSome_iff_exists.mp q
theorem inv_start {CX:CXT} {P:Program} {w:World} {K:PySem.W.Frag} {mg:Str→Option Value} {base:Heap} {N ps:List Str} {qual:Str} {scope:Scope} {f:Addr} {cd:Value} {A:Around} {outer:List Env} {s s1:Shared} {H:Hp} {E:XK} {us:List Value} {vs:List V}
    (S:FnScope N ps scope) (hd:A.handled=none) (e0:Env0 P w K mg base A outer s H) (hl:vs.length=ps.length) (r:Vals vs us)
    (x:InCallC s s.heap.objs.size (bindL (envOfC qual scope s.heap.objs.size f cd).kindOf (ps.zip us) fun _=>none) (cellsFrom (s.heap.objs.size + 1) scope.names []) (bindC (envOfC qual scope s.heap.objs.size f cd).kindOf (ps.zip us) fun _=>none) s1) :
    Inv (cxOf CX P w K mg base N qual scope f cd A outer s H E) [] (start N vs) H s1:=by
  have hpl:ps.length≤N.length:=by have:=congrArg List.length S.pre;rw [List.length_take] at this;omega
  obtain ⟨h1,tk,rfl,hk⟩:=x.done
  have noA:∀ b:Addr,b ∉ (cxOf CX P w K mg base N qual scope f cd A outer s H E).ex:=fun b z=>absurd (show b∈([]:List Addr) from z) (by simp)
  refine ⟨⟨e0.mod,S.kind,rfl,rfl,Nat.le_refl _,fun y z c h1 h2=>?_,fun y hy=>?_,fun y c _ h=>?_,fun _=>hd,Around.frames_deeper e0.frames,.inr ⟨rfl,rfl⟩,fun b z=>absurd z (noA b),e0.bs,e0.bsz,fun b _ _=>noA b,fun b z=>absurd z (noA b),e0.funs,e0.frf⟩,
    rfl,e0.bare,Un.kept hk,⟨_,x.toInCall.ns,fun i y v h1 h2 h3=>?_⟩,fun y c h=>⟨_,x.cell y c h⟩,e0.hok.fresh (Nat.le_refl _),fun y c h=>?_,fun p hp=>absurd (show p∈([]:List (Addr × Obj)) from hp) (by simp),e0.hok.kept hk,?_⟩
  · exact name_of_addr x.apart (PySem.mem_of_lookup h1) (PySem.mem_of_lookup h2)
  · have hy:scope.names.lookup y=some .cell∨scope.names.lookup y=some .free:=hy
    rcases hy with hy | hy
    · exact cell_has hy
    · exact absurd rfl (S.nofree _ (PySem.mem_of_lookup hy))
  · exact Nat.le_of_lt (x.above y c (PySem.mem_of_lookup h))
  · have hi:i < vs.length:=by
      unfold start at h2
      by_cases hi:i < vs.length
      · exact hi
      · rw [List.getElem?_append_right (by simpa using hi)] at h2
        rw [List.getElem?_replicate] at h2
        split at h2 <;> cases h2
    have ha:vs[i]?=some v:=by
      unfold start at h2
      rw [List.getElem?_append_left (by simpa using hi),List.getElem?_map] at h2
      cases e:vs[i]? with
      | none=>rw [e] at h2;cases h2
      | some a=>rw [e] at h2;cases h2;rfl
    obtain ⟨u,hu,rv⟩:=r.get ha
    have hp:ps[i]?=some y:=by
      rw [← S.pre,List.getElem?_take_of_lt (by omega)];exact h1
    have ndP:ps.Nodup:=by rw [← S.pre];exact S.nd.sublist (List.take_sublist _ _)
    refine ⟨u,rv,?_⟩
    rcases S.par y (List.mem_of_getElem? hp) with k | k
    · exact .inl ⟨k,bindL_get ndP hp hu k⟩
    · obtain ⟨c,e⟩:=cell_has (n:=s.heap.objs.size + 1) k
      refine .inr ⟨.inl k,c,e,?_⟩
      have q:=x.cell y c e
      rw [bindC_get ndP hp hu (by show scope.names.lookup y≠_;rw [k];decide)] at q
      exact q
  · exact e0.hok.fresh (Nat.le_of_lt (x.above y c (PySem.mem_of_lookup h)))
  · unfold start
    show _=N.length
    rw [List.length_append,List.length_map,List.length_replicate]
    omega
theorem fn_of {CX:CXT} {P:Program} {w:World} {K:PySem.W.Frag} {mg:Str→Option Value} {base:Heap} {k:Nat} {f:Addr} {name qual:Str} {params:Arguments} {body:List Stmt} {scope:Scope} {dV kV doc pm cdv ct oc:Value} {an od:Option Addr}
    {osl:Array (Option Value)} {N ps:List Str} {sp:Sp} (lk:K.lookup f=some ⟨oc,od,.func (PySem.W.fnOf name qual params body scope dV kV doc pm an cdv ct),osl⟩) (hcd:PySem.W.codeIn K cdv qual=true) (S:FnScope N ps scope)
    (len:∀ vs H Q E,sp vs H Q E→vs.length=ps.length)
    (hbody:∀ (A:Around) (outer:List Env) (s:Shared) (H:Hp) (vs:List V) (Q:VK) (E:XK),Room k (A.deeper (envOfC qual scope s.heap.objs.size f cdv))→sp vs H Q E →
      ∃ t,PSs (cxOf CX P w K mg base N qual scope f cdv A outer s H E) body t∧t { nx:=fun _ H'=>Q .non H',rt:=Q } (start N vs) H) :
    FnOk P w K mg base CX (k + 1) f (PySem.W.fnOf name qual params body scope dV kV doc pm an cdv ct) ps sp:=by
  refine ⟨len,fun A outer s H args us vs Q E hr e0 hb r hsp=>?_⟩
  have hl:=len _ _ _ _ hsp
  have KX:K.In s.heap:=e0.mod.kin.keeps fun b o e=>(e0.bs b o e).1
  have lim:s.heap.NoLimit:=e0.mod.nolimit.keeps fun b o e=>(e0.bs b o e).1
  have hkind:∀ y∈ps.zip us,scope.names.lookup y.1=some .local∨(scope.names.lookup y.1=some .cell∧((cellsFrom (s.heap.objs.size + 1) scope.names []).lookup y.1).isSome=true):=fun ⟨n,v⟩ hy=>by
    rcases S.par n (List.of_mem_zip hy).1 with q | q
    · exact .inl q
    · exact .inr ⟨q,PySem.W.cellsFrom_some _ _ _ (.inl q)⟩
  refine codeAny_call_function hr.depth (KX _ _ lk) rfl S.co S.gen rfl (PySem.W.codeRec_of KX hcd) (hb _ _ _ _ ?_)
  refine wpAny_newFunctionEnv_cells S.kind hkind fun env he s1 x=>?_
  subst he
  refine ⟨lim.keeps x.toInCall.keep,codeAny_func ?_⟩
  obtain ⟨t,ht,hq⟩:=hbody A outer s H vs Q E (hr.deeper _) hsp
  have I:Inv (cxOf CX P w K mg base N qual scope f cdv A outer s H E) [] (start N vs) H s1:=inv_start S hr.hd e0 hl r x
  refine wpAny_mono (ht [] s1 (start N vs) H _ I hq) (fun fl s' hs=>?_) fun e s' hs=>hs
  have fin:∀ {σ':St} {H':Hp} {v:V} {u:Value},Inv (cxOf CX P w K mg base N qual scope f cdv A outer s H E) [] σ' H' s'→RelV v u→Q v H'→CE outer P w H s Q u s' :=
    fun {σ' H' v u} J rv q=>⟨v,H',J.os,J.bare,J.base,J.hok,rv,q⟩
  cases fl with
  | ret u =>
    obtain ⟨v,σ',H',J,rv,q⟩:=hs
    exact fin J rv q
  | next =>
    obtain ⟨σ',H',J,q⟩:=hs
    exact fin (v:=V.non) (u:=Value.none) J rfl q
  | brk =>
    obtain ⟨_,_,_,q⟩:=hs
    exact False.elim q
  | cont =>
    obtain ⟨_,_,_,q⟩:=hs
    exact False.elim q
section
variable {X:Cx} {x:Str} {p pos:Pos} {e:Expr} {es:List Expr} {t:TA} {id T:String} {r:List V→Hp→VK→Prop}
def tCB (r:List V→Hp→VK→Prop) (t:TA):TE:=fun σ H Q=>t σ H fun vs H1=>r vs H1 Q
theorem pe_callB (hc:CallR X (.builtin id) r) (hg:Gl X x) (hm:X.mg x=none) (hv:bootBuiltins x=some (.builtin id)) (ha:PA X (e :: es) t) (hn:x≠"__name__":=by decide) (hdb:(x == ("__debug__":Str))=false:=by decide)
    (he:starEach (e :: es) X.env=(false,eval e X.env) :: starEach es X.env:=by rfl) (hpl:(backTo pos (starEach es X.env)).any (·.1)=false:=by rfl):PE X (.Call (.Name x p) (e :: es) [] pos) (tCB r t):=by
  intro pins s σ H Q I h
  refine wpAny_Call_Name_kw (ld_blt I hg hm hv ?_ hn hdb)
  exact PyProof.Rows.callWith_builtin1 (thn (ha pos pins s σ H _ I h) fun us s1 ⟨vs,H1,I1,r1,q1⟩=>hc pins s1 σ H1 vs us Q I1 r1 q1) he hpl
theorem pe_callTy (hc:CallR X (.type T) r) (hg:Gl X x) (hm:X.mg x=none) (hv:bootBuiltins x=some (.type T)) (ha:PA X (e :: es) t) (hn:x≠"__name__":=by decide) (hdb:(x == ("__debug__":Str))=false:=by decide)
    (he:starEach (e :: es) X.env=(false,eval e X.env) :: starEach es X.env:=by rfl) (hpl:(backTo pos (starEach es X.env)).any (·.1)=false:=by rfl):PE X (.Call (.Name x p) (e :: es) [] pos) (tCB r t):=by
  intro pins s σ H Q I h
  refine wpAny_Call_Name_kw (ld_blt I hg hm hv ?_ hn hdb)
  exact PyProof.Rows.callWith_type1 (thn (ha pos pins s σ H _ I h) fun us s1 ⟨vs,H1,I1,r1,q1⟩=>hc pins s1 σ H1 vs us Q I1 r1 q1) he hpl
end
end L2
namespace HT
open PySem PyProof.Rows
def lexLt:List Int→List Int→Bool
  | [],[]=>false
  | [],_ :: _=>true
  | _ :: _,[]=>false
  | x :: xs,y :: ys=>if x=y then lexLt xs ys else decide (x < y)
theorem lexLt_cons (x y:Int) (xs ys:List Int):lexLt (x :: xs) (y :: ys)=if x=y then lexLt xs ys else decide (x < y):=rfl
theorem lexLt_nil_nil:lexLt [] []=false:=rfl
theorem lexLt_nil_cons (y:Int) (ys:List Int):lexLt [] (y :: ys)=true:=rfl
theorem lexLt_cons_nil (x:Int) (xs:List Int):lexLt (x :: xs) []=false:=rfl
theorem eqAt_int (A:Around) (s:Shared) (a:Int) (t:Tok) (c:Int) (u:Tok):∃ e,SeqAt.EqAt A s (.int a t) (.int c u) e∧(e=true ↔ a=c) :=
  ⟨(a == c),SeqAt.EqAt.int_int a t c u,by simp⟩
theorem rcLt_int (A:Around) (s:Shared) (a:Int) (t:Tok) (c:Int) (u:Tok) (prog:Program) (w:World) (E:Value→Shared→Prop) (Q:Value→Shared→Prop) (h:Q (.bool (decide (a < c))) s) :
    wpAny (model prog w) A (richCompare .Lt (.int a t) (.int c u)) Q E s :=
  (PyProof.Rows.lt_int h:wpAny (model prog w) A (compareOp .Lt (.int a t) (.int c u)) Q E s)
section
open PySem.SeqAt
open PySem.AutoSeq1 (wpAny_loadPart')
open PySem.MeetsSeq PySem.MeetsSeq2 PySem.MeetsSeq3
theorem tuple_lt_ints (l b:Addr) (items items2:Array Value) (n n2:Nat) (dd dd2:Option Addr) (sl sl2:Array (Option Value)) (ns ms:List Int) (hi:IntsAre items.toList ns) (hj:IntsAre items2.toList ms) :
    Meets (Builtin.«tuple.__lt__» ⟨[.ref l,.ref b],[]⟩)
      (fun _ R s=>s.heap.get? l=some { cls:=.type "tuple",dict:=dd,data:=.seq items n,slots:=sl }∧s.heap.get? b=some { cls:=.type "tuple",dict:=dd2,data:=.seq items2 n2,slots:=sl2 } ∧
        R (.ok (.ret (.bool (lexLt ns ms)))) s) :=
  .of_wp fun prog w A R s h=>by
    obtain ⟨hp,g,d,tk,os⟩:=s;obtain ⟨hl,hb,h⟩:=h
    have f2:=AutoSeq1.sub_tuple_tuple
    have z1:items.size=ns.length:=by rw [← hi.length];simp
    have z2:items2.size=ms.length:=by rw [← hj.length];simp
    wp_walk using wpAny_loadPart' hl,wpAny_loadPart' hb,wpAny_forIn_list _ (fun rest b s'=>b.1=none∧s'=⟨hp,g,d,tk,os⟩∧∃ (vs ws:List Value) (ns' ms':List Int),rest=vs.zip ws ∧
      IntsAre vs ns'∧IntsAre ws ms'∧ns'.length + items2.size=ms'.length + items.size∧R (.ok (.ret (.bool (lexLt ns' ms')))) ⟨hp,g,d,tk,os⟩) _
    case turn =>
      rintro ⟨y,x⟩ rest b s' ⟨hb',rfl,vs,ws,ns',ms',hz,hvi,hwi,hlen,hR⟩
      cases hvi with
      | nil=>rw [List.zip_nil_left] at hz;cases hz
      | cons a t hvi' =>
        cases hwi with
        | nil=>rw [List.zip_nil_right] at hz;cases hz
        | cons c u hwi' =>
          rw [List.zip_cons_cons] at hz
          injection hz with hyx hrest
          injection hyx with hy hx
          subst hy hx
          rw [lexLt_cons] at hR
          simp only [List.length_cons] at hlen
          obtain ⟨e,he,hiff⟩:=eqAt_int A.in1 ⟨hp,g,d,tk,os⟩ a t c u
          refine wpAny_bind (he prog w _ _ ?_)
          cases e with
          | true =>
            rw [if_pos (hiff.mp rfl)] at hR
            wp_walk
            exact ⟨rfl,rfl,_,_,_,_,hrest,hvi',hwi',by omega,hR⟩
          | false =>
            rw [if_neg (fun q=>absurd (hiff.mpr q) Bool.false_ne_true)] at hR
            have hri:=rcLt_int A.in1 ⟨hp,g,d,tk,os⟩ a t c u prog w
            wp_walk using hri
            exact ⟨_,rfl,by simpa using hR⟩
    case fin =>
      rintro ⟨b1,b2⟩ s' ⟨hb',rfl,vs,ws,ns',ms',hz,hvi,hwi,hlen,hR⟩
      simp only at hb'
      subst hb'
      have hv:lexLt ns' ms'=decide (items.size < items2.size):=by
        cases hvi with
        | nil =>
          cases hwi with
          | nil =>
            simp only [List.length_nil] at hlen
            rw [lexLt_nil_nil]
            exact (decide_eq_false (by omega)).symm
          | cons c u hw =>
            simp only [List.length_nil,List.length_cons] at hlen
            rw [lexLt_nil_cons]
            exact (decide_eq_true (by omega)).symm
        | cons a t hv =>
          cases hwi with
          | nil =>
            simp only [List.length_nil,List.length_cons] at hlen
            rw [lexLt_cons_nil]
            exact (decide_eq_false (by omega)).symm
          | cons c u hw =>
            rw [List.zip_cons_cons] at hz
            cases hz
      rw [hv] at hR
      wp_walk
      exact ⟨_,rfl,by simpa [Builtin.Tuple.tupleCompareSizes] using hR⟩
    case h =>
      exact ⟨rfl,rfl,items.toList,items2.toList,ns,ms,rfl,hi,hj,by omega,h⟩
end
section
variable {prog:Program} {w:World} {A:Around} {E:Value→Shared→Prop} {s:Shared}
theorem lt_tupInts {l b:Addr} {items items2:Array Value} {ns ms:List Int} {Q:Value→Shared→Prop} (hl:IsTup s.heap l items) (hb:IsTup s.heap b items2) (hi:IntsAre items.toList ns) (hj:IntsAre items2.toList ms)
    (hu:A.units < cLine) (h:Q (.bool (lexLt ns ms)) s):wpAny (model prog w) A (compareOp .Lt (.ref l) (.ref b)) Q E s:=by
  obtain ⟨⟨cls,dd,data,sl⟩,ho,hc,n,hd⟩:=id hl
  obtain ⟨⟨cls2,dd2,data2,sl2⟩,ho2,hc2,n2,hd2⟩:=id hb
  simp only at hc hd hc2 hd2
  subst hc hd hc2 hd2
  exact richCompare_meets_room (op:=.Lt) ⟨_,ho,rfl⟩ ⟨_,ho2,rfl⟩ PySem.F.slot_tuple_lt PySem.F.entry_tuple_lt (PySem.F.args_tuple_lt_2 _ _) (tuple_lt_ints l b items items2 n n2 dd dd2 sl sl2 ns ms hi hj)
    ⟨ho,ho2,show Value.bool (lexLt ns ms)≠Value.notImplemented∧Q (.bool (lexLt ns ms)) s from ⟨(fun x=>nomatch x),h⟩⟩ hu
theorem cat_tup {t b:Addr} {vs ws:List Value} {Q:Value→Shared→Prop} (ht:IsTup s.heap t vs.toArray) (hb:IsTup s.heap b ws.toArray) (hv:vs≠[])
    (h1:ws=[]→Q (.ref t) s) (h2:ws≠[]→Q (.ref s.heap.objs.size) { s with heap:=s.heap.push { cls:=.type "tuple",data:=.seq (vs++ws).toArray } })
    (hsz:vs.length + ws.length≤sizeLine):wpAny (model prog w) A (binaryOp .Add (.ref t) (.ref b)) Q E s:=by
  obtain ⟨⟨cls,dd,data,sl⟩,ho,hc,n,hd⟩:=id ht
  obtain ⟨⟨cls2,dd2,data2,sl2⟩,ho2,hc2,n2,hd2⟩:=id hb
  simp only at hc hd hc2 hd2
  subst hc hd hc2 hd2
  have e:vs.toArray++ws.toArray=(vs++ws).toArray:=by simp
  by_cases hw:ws=[]
  · exact concat_meets ⟨_,ho,rfl⟩ ⟨_,ho2,rfl⟩ noFill_tuple_add seq_tuple_add PySem.F.slot_tuple_add PySem.F.entry_tuple_add (PySem.F.args_tuple_add_2 _ _)
      (tuple_addW1 t b vs.toArray ws.toArray n n2 dd dd2 sl sl2 (by simpa using hv) (by simp [hw])) ⟨ho,ho2,h1 hw⟩
  · refine concat_meets ⟨_,ho,rfl⟩ ⟨_,ho2,rfl⟩ noFill_tuple_add seq_tuple_add PySem.F.slot_tuple_add PySem.F.entry_tuple_add (PySem.F.args_tuple_add_2 _ _)
      (tuple_addW2 t b vs.toArray ws.toArray n n2 dd dd2 sl sl2 (by simpa using hv) (by simpa using hw) (by rw [List.size_toArray,List.size_toArray];exact hsz)) ⟨ho,ho2,?_⟩
    rw [e]
    exact h2 hw
def sIx (n d:Nat):Option Int→Nat
  | none=>d
  | some v=>if v < 0 then (v + (n:Int)).toNat else min v.toNat n
theorem sIx_le (n d:Nat) (hd:d≤n) (o:Option Int):sIx n d o≤n:=by
  cases o with
  | none=>exact hd
  | some v =>
    show (if v < 0 then (v + (n:Int)).toNat else min v.toNat n)≤n
    by_cases hv:v < 0
    · rw [if_pos hv];omega
    · rw [if_neg hv];exact Nat.min_le_right _ _
theorem clip_eq (v:Int) (n d:Nat):(if v < 0 then max (v + (n:Int)) 0 else min v (n:Int))=((sIx n d (some v):Nat):Int):=by
  show (if v < 0 then max (v + (n:Int)) 0 else min v (n:Int))=(((if v < 0 then (v + (n:Int)).toNat else min v.toNat n):Nat):Int)
  by_cases hv:v < 0
  · simp only [if_pos hv];omega
  · simp only [if_neg hv];omega
theorem adjust_gen (lo hi:Option Int) (n:Nat):Builtin.Slice.sliceAdjust lo hi 1 (n:Int)=(((sIx n 0 lo:Nat):Int),((sIx n n hi:Nat):Int)):=by
  have h1:¬ ((1:Int) < 0):=by omega
  unfold Builtin.Slice.sliceAdjust
  simp only [h1,if_false]
  refine Prod.ext ?_ ?_
  · cases lo with
    | none=>rfl
    | some v=>exact clip_eq v n 0
  · cases hi with
    | none=>rfl
    | some v=>exact clip_eq v n n
theorem places_gen (i j:Nat):Builtin.Slice.slicePlaces (i:Int) (j:Int) 1=j - i:=by
  unfold Builtin.Slice.slicePlaces
  have h1:(1:Int) > 0:=by omega
  simp only [h1,if_true,Int.ediv_one]
  split <;> omega
theorem slicePart_ {v:Value} {o:Option Int} {Q:Option Int→Shared→Prop} (p:IsPart v o) (h:Q o s):wpAny (model prog w) A (Builtin.Slice.slicePartIndex v) Q E s:=by
  cases p with
  | none=>exact slicePart_none h
  | int i t=>exact slicePart_int h
theorem sliceApplied_gen {sl:Addr} {vl vu:Value} {lo hi:Option Int} {n:Nat} {Q:Int × Int × Nat→Shared→Prop} (hs:s.heap.IsSliceOf sl vl vu .none) (pl:IsPart vl lo) (pu:IsPart vu hi)
    (h:Q (((sIx n 0 lo:Nat):Int),1,sIx n n hi - sIx n 0 lo) s):wpAny (model prog w) A (Builtin.Slice.sliceApplied (.ref sl) (pure (n:Int))) Q E s:=by
  obtain ⟨os,hos,hcs,hds⟩:=id hs
  unfold Builtin.Slice.sliceApplied Builtin.Slice.sliceFields
  refine wpAny_bind (wpAny_bind (wpAny_field hos hds (x:=vl) rfl (wpAny_bind (wpAny_field hos hds (x:=vu) rfl (wpAny_bind (wpAny_field hos hds (x:=.none) rfl (wpAny_pure ?_)))))))
  refine wpAny_bind (slicePart_none ?_)
  show wpAny _ _ (if ((1:Int) == 0)=true then _ else _) _ _ s
  rw [if_neg (by decide)]
  refine wpAny_bind (slicePart_ pl (wpAny_bind (slicePart_ pu (wpAny_bind (wpAny_pure ?_)))))
  show wpAny _ _ (match Builtin.Slice.sliceAdjust lo hi 1 (n:Int) with | (lo,hi)=>pure (lo,(1:Int),Builtin.Slice.slicePlaces lo hi 1)) _ _ s
  rw [adjust_gen lo hi n]
  show wpAny _ _ (pure (((sIx n 0 lo:Nat):Int),(1:Int),Builtin.Slice.slicePlaces ((sIx n 0 lo:Nat):Int) ((sIx n n hi:Nat):Int) 1)) _ _ s
  rw [places_gen]
  exact wpAny_pure h
theorem pick_gen (xs:Array Value) (i k:Nat):((List.range k).filterMap fun (m:Nat)=>xs[((i:Int) + (m:Int) * 1).toNat]?).toArray=((xs.toList.drop i).take k).toArray:=by
  have e:(fun (m:Nat)=>xs[((i:Int) + (m:Int) * 1).toNat]?)=fun m=>xs[i + m]?:=by
    funext m
    have:((i:Int) + (m:Int) * 1).toNat=i + m:=by omega
    rw [this]
  rw [e]
  have:=pick_run xs i k
  rw [List.filterMap_map] at this
  have e2:((fun x=>xs[x]?) ∘ fun x=>i + x)=fun m=>xs[i + m]?:=rfl
  rw [e2] at this
  rw [this]
theorem getItem_tuple_cut {t sl:Addr} {items:Array Value} {vl vu:Value} {lo hi:Option Int} {Q:Value→Shared→Prop} (ht:IsTup s.heap t items) (hs:s.heap.IsSliceOf sl vl vu .none) (pl:IsPart vl lo) (pu:IsPart vu hi)
    (hw:¬ (sIx items.size 0 lo=0∧sIx items.size items.size hi=items.size))
    (h:Q (.ref s.heap.objs.size) { s with heap:=s.heap.push { cls:=.type "tuple",data:=.seq ((items.toList.drop (sIx items.size 0 lo)).take (sIx items.size items.size hi - sIx items.size 0 lo)).toArray } })
    (hsz:items.size≤sizeLine):wpAny (model prog w) A (getItem (.ref t) (.ref sl)) Q E s:=by
  have htake:sizeOk (.seq ((items.toList.drop (sIx items.size 0 lo)).take (sIx items.size items.size hi - sIx items.size 0 lo)).toArray):=by
    show ((items.toList.drop (sIx items.size 0 lo)).take (sIx items.size items.size hi - sIx items.size 0 lo)).toArray.size≤sizeLine
    rw [List.size_toArray,List.length_take,List.length_drop,Array.length_toList]
    omega
  have hj:sIx items.size items.size hi≤items.size:=sIx_le _ _ (Nat.le_refl _) hi
  obtain ⟨os,hos,hcs,hds⟩:=id hs
  have hTs:s.TypeIs (.ref sl) "slice":=⟨os,hos,hcs⟩
  unfold getItem
  try with_reducible refine wpAny_holding ?_
  first | refine wpAny_bind (wpAny_pure ?_) | skip
  refine wpAny_bind (wpAny_sequenceKey ht.typeIs (by decide) ?_)
  refine wpAny_bind (wpAny_callSpecial?_slot (name:=Str.ofString "__getitem__") ht.typeIs PyProof.Rows.slot_tuple_getitem
    (wpAny_call_entry PyProof.Rows.slot_tuple_getitem ht.typeIs entry_tuple_getitem ?_ (args_tuple_getitem _ _)))
  show wpAny _ _ (Builtin.Tuple.tupleItemsOf (.ref t) >>= _) _ _ s
  refine wpAny_bind (tupleItemsOf_ ht ?_)
  refine wpAny_bind (wpAny_typeOf hTs ?_)
  rw [if_pos (by decide)]
  refine wpAny_bind (sliceApplied_gen hs pl pu ?_)
  have hno:¬ ((((sIx items.size 0 lo:Nat):Int) == 0 && (1:Int) == 1 && (sIx items.size items.size hi - sIx items.size 0 lo) == items.size)=true):=by
    intro q
    rw [Bool.and_eq_true,Bool.and_eq_true] at q
    have q1:((sIx items.size 0 lo:Nat):Int)=0:=eq_of_beq q.1.1
    have q2:sIx items.size items.size hi - sIx items.size 0 lo=items.size:=eq_of_beq q.2
    exact hw ⟨by omega,by omega⟩
  show wpAny _ _ (if (((sIx items.size 0 lo:Nat):Int) == 0 && (1:Int) == 1 && (sIx items.size items.size hi - sIx items.size 0 lo) == items.size)=true then _ else _) _ _ s
  rw [if_neg hno,pick_gen]
  first
    | exact wpAny_bind (m:=Builtin.Tuple.tupleExact _) (wpAny_newObj_type (wpAny_pure ⟨_,rfl,wpAny_pure h⟩) htake)
    | exact wpAny_bind (m:=Builtin.Tuple.tupleExact _) (wpAny_newObj_type (wpAny_bind (wpAny_pure (wpAny_pure ⟨_,rfl,wpAny_pure h⟩))) htake)
    | exact wpAny_bind (wpAny_bind (m:=Builtin.Tuple.tupleExact _) (wpAny_newObj_type (wpAny_pure (wpAny_pure ⟨_,rfl,wpAny_pure h⟩)) htake))
    | exact wpAny_bind (wpAny_bind (m:=Builtin.Tuple.tupleExact _) (wpAny_newObj_type (wpAny_pure ⟨_,rfl,wpAny_pure h⟩) htake))
end
end HT
namespace L2
open PySem PySem.Spec PyProof.Rows
abbrev TO:=St→Hp→(Option Int→Hp→Prop)→Prop
def PO (X:Cx) (e:Option Expr) (t:TO):Prop :=
  ∀ (pins:List (Addr × Obj)) (s:Shared) (σ:St) (H:Hp) (Q:Option Int→Hp→Prop),Inv X pins σ H s→t σ H Q →
    wpAny (model X.prog X.w) X.A (evalPart e X.env) (fun u s'=>∃ o H',Inv X pins σ H' s'∧IsPart u o∧Q o H') X.xe s
def tNoPart:TO:=fun _ H Q=>Q none H
def tPart (t:TE):TO:=fun σ H Q=>t σ H fun x H1=>∃ i,x=.int i∧Q (some i) H1
theorem intsAre_of {ns:List Int}:∀ {us:List Value},Vals (ns.map V.int) us→IntsAre us ns:=by
  induction ns with
  | nil=>intro us r;rw [List.map_nil] at r;cases r;exact .nil
  | cons n ns ih =>
    intro us r
    rw [List.map_cons] at r
    cases r with
    | cons r1 r2 =>
      obtain ⟨t,e⟩:=r1
      subst e
      exact .cons n t (ih r2)
section
variable {X:Cx} {e:Expr} {te:TE} {lo hi:Option Expr} {tl th:TO} {pos p2:Pos}
theorem po_none:PO X none tNoPart:=by
  intro pins s σ H Q I h
  rw [evalPart_none]
  exact wpAny_pure ⟨none,H,I,.none,h⟩
theorem po_some (h:PE X e te):PO X (some e) (tPart te):=by
  intro pins s σ H Q I hw
  rw [evalPart_some]
  refine thn (h pins s σ H _ I hw) fun u s1 ⟨x,H1,I1,r1,q1⟩=>?_
  obtain ⟨i,rfl,q⟩:=q1
  obtain ⟨t,rfl⟩:=r1
  exact ⟨some i,H1,I1,.int i t,q⟩
def SlR (X:Cx) (r:V→Option Int→Option Int→Hp→VK→Prop):Prop :=
  ∀ (pins:List (Addr × Obj)) (s:Shared) (σ:St) (H:Hp) (x:V) (v vl vu:Value) (lo hi:Option Int) (sl:Addr) (Q:VK),Inv X pins σ H s→RelV x v→s.heap.IsSliceOf sl vl vu .none→IsPart vl lo→IsPart vu hi→r x lo hi H Q →
    ∃ T id,typeLookup (.type T) "__getitem__"=pure (some (.builtin id))∧s.TypeIs v T∧wpAny (model X.prog X.w) X.A (getItem v (.ref sl)) (EP X pins σ Q) X.xe s
theorem SlR.or {r r':V→Option Int→Option Int→Hp→VK→Prop} (h:SlR X r) (h':SlR X r'):SlR X (fun x lo hi H Q=>r x lo hi H Q∨r' x lo hi H Q):=by
  intro pins s σ H x v vl vu lo hi sl Q I rx hs pl pu q
  rcases q with q | q
  · exact h pins s σ H x v vl vu lo hi sl Q I rx hs pl pu q
  · exact h' pins s σ H x v vl vu lo hi sl Q I rx hs pl pu q
def tSl (r:V→Option Int→Option Int→Hp→VK→Prop) (te:TE) (tl th:TO):TE:=fun σ H Q=>te σ H fun x H1=>tl σ H1 fun l H2=>th σ H2 fun u H3=>r x l u H3 Q
theorem pe_slice {r:V→Option Int→Option Int→Hp→VK→Prop} (hr:SlR X r) (he:PE X e te) (hl:PO X lo tl) (hu:PO X hi th):PE X (.Subscript e (.Slice lo hi none p2) pos) (tSl r te tl th):=by
  intro pins s σ H Q I h
  refine Subscript_ (thn (he pins s σ H _ I h) fun v s1 ⟨x,H1,I1,r1,q1⟩=>?_)
  refine wpAny_Slice (thn (hl pins s1 σ H1 _ I1 q1) fun vl s2 ⟨l,H2,I2,pl,q2⟩=>thn (hu pins s2 σ H2 _ I2 q2) fun vu s3 ⟨u,H3,I3,pu,q3⟩=>?_)
  rw [evalPart_none]
  refine wpAny_pure ?_
  have I4:Inv X pins σ H3 { s3 with heap:=s3.heap.push { cls:=.type "slice",data:=.fields #[vl,vu,.none] } }:=I3.kept (t':=s3.toks) fun b ob q=>Heap.get?_push_of_some _ q
  obtain ⟨T,id,hT,ht,hg⟩:=hr pins { s3 with heap:=s3.heap.push { cls:=.type "slice",data:=.fields #[vl,vu,.none] } } σ H3 x v vl vu l u s3.heap.objs.size Q I4 r1 (Heap.IsSliceOf.new ..) pl pu q3
  show wpAny (model X.prog X.w) X.A (subscriptTail e (.Slice lo hi none p2) v (.ref s3.heap.objs.size)) (EP X pins σ Q) X.xe { s3 with heap:=s3.heap.push { cls:=.type "slice",data:=.fields #[vl,vu,.none] } }
  exact tail_any (ops:=[.ref s3.heap.objs.size,v]) ht hT hg (by with_unfolding_all rfl)
def cutV (xs:List V) (lo hi:Option Int):List V:=(xs.drop (HT.sIx xs.length 0 lo)).take (HT.sIx xs.length xs.length hi - HT.sIx xs.length 0 lo)
theorem cutV_length (xs:List V) (lo hi:Option Int):(cutV xs lo hi).length≤xs.length:=by
  unfold cutV
  rw [List.length_take,List.length_drop]
  omega
def rSlT (K:PySem.W.Frag):V→Option Int→Option Int→Hp→VK→Prop:=fun x lo hi H Q=>∃ a xs,x=.ref a∧SqT K H a xs ∧
  ¬ (HT.sIx xs.length 0 lo=0∧HT.sIx xs.length xs.length hi=xs.length)∧∀ p,H p=none→Q (.ref p) (upd H p (.tup (cutV xs lo hi)))
theorem sl_tup:SlR X (rSlT X.K):=by
  intro pins s σ H x v vl vu lo hi sl Q I rx hs pl pu h
  obtain ⟨a,xs,rfl,hx,hw,q⟩:=h
  cases rx
  obtain ⟨its,r,ht,hz⟩:=I.tuple hx
  have hlen:its.toArray.size=xs.length:=by rw [List.size_toArray];exact r.length.symm
  refine ⟨"tuple",_,PyProof.Rows.slot_tuple_getitem.lookup,ht.typeIs,?_⟩
  refine HT.getItem_tuple_cut ht hs pl pu (by rw [hlen];exact hw) ?_ (by rw [hlen];exact hz)
  rw [hlen]
  refine ⟨.ref s.heap.objs.size,_,I.laid (t':=s.toks) (o:=.tup (cutV xs lo hi)) (fun b ob q=>Heap.get?_push_of_some _ q) (Nat.le_refl _) ?_,rfl,q _ (I.hok.fresh (Nat.le_refl _))⟩
  exact ⟨Nat.le_trans (cutV_length xs lo hi) hz,_,(r.drop (HT.sIx xs.length 0 lo)).take (HT.sIx xs.length xs.length hi - HT.sIx xs.length 0 lo),IsTup.new _ _⟩
def rLtT (K:PySem.W.Frag):R2:=fun x y H Q=>∃ a b ns ms,x=.ref a∧y=.ref b∧SqT K H a (ns.map V.int)∧SqT K H b (ms.map V.int)∧Q (.bl (HT.lexLt ns ms)) H
theorem op_ltT (hu:X.A.units < cLine):OpR X (compareOp .Lt) (rLtT X.K):=by
  intro pins s σ H x y v u Q I rx ry h
  obtain ⟨a,b,ns,ms,rfl,rfl,ha,hb,q⟩:=h
  cases rx
  cases ry
  obtain ⟨its,r1,p1,_⟩:=I.tuple ha
  obtain ⟨its2,r2,p2,_⟩:=I.tuple hb
  have i1:IntsAre its.toArray.toList ns:=intsAre_of r1
  have i2:IntsAre its2.toArray.toList ms:=intsAre_of r2
  exact HT.lt_tupInts p1 p2 i1 i2 hu ⟨.bl (HT.lexLt ns ms),H,I,rfl,q⟩
def rCatT (K:PySem.W.Frag):R2:=fun x y H Q=>∃ a b xs ys,x=.ref a∧y=.ref b∧SqT K H a xs∧SqT K H b ys∧xs≠[]∧xs.length + ys.length≤sizeLine ∧
  (ys=[]→Q (.ref a) H)∧(ys≠[]→∀ p,H p=none→Q (.ref p) (upd H p (.tup (xs++ys))))
theorem Vals.nil_iff {xs:List V} {us:List Value} (r:Vals xs us):us=[] ↔ xs=[]:=by
  cases r with
  | nil=>simp
  | cons _ _=>simp
theorem op_catT:OpR X (binaryOp .Add) (rCatT X.K):=by
  intro pins s σ H x y v u Q I rx ry h
  obtain ⟨a,b,xs,ys,rfl,rfl,ha,hb,hx,hz,q1,q2⟩:=h
  cases rx
  cases ry
  obtain ⟨its,r1,p1,_⟩:=I.tuple ha
  obtain ⟨its2,r2,p2,_⟩:=I.tuple hb
  refine HT.cat_tup p1 p2 (fun z=>hx (r1.nil_iff.mp z)) (fun z=>⟨.ref a,H,I,rfl,q1 (r2.nil_iff.mp z)⟩) (fun z=>?_) (by rw [← r1.length,← r2.length];exact hz)
  refine ⟨.ref s.heap.objs.size,_,I.laid (t':=s.toks) (o:=.tup (xs++ys)) (fun b ob q=>Heap.get?_push_of_some _ q) (Nat.le_refl _) ?_,rfl,q2 (fun w=>z (r2.nil_iff.mpr w)) _ (I.hok.fresh (Nat.le_refl _))⟩
  exact ⟨by rw [List.length_append];exact hz,_,r1.append r2,IsTup.new _ _⟩
end
def ixN (n:Nat) (i:Int):Option Nat:=if 0≤i then (if i < n then some i.toNat else none) else if -(n:Int)≤i then some (i + n).toNat else none
def atI {α:Type} (xs:List α) (i:Int):Option α:=(ixN xs.length i).bind fun j=>xs[j]?
theorem ixN_seq {n:Nat} {i:Int} {j:Nat} (h:ixN n i=some j):seqIndex? i n=some j∧j < n∧-(n:Int)≤i∧i < n:=by
  unfold ixN at h
  by_cases h0:0≤i
  · rw [if_pos h0] at h
    by_cases h1:i < n
    · rw [if_pos h1] at h
      have e:i.toNat=j:=Option.some.inj h
      exact ⟨by rw [seqIndex_of h0 h1,e],by omega,by omega,h1⟩
    · rw [if_neg h1] at h;cases h
  · rw [if_neg h0] at h
    by_cases h1:-(n:Int)≤i
    · rw [if_pos h1] at h
      have e:(i + n).toNat=j:=Option.some.inj h
      exact ⟨by rw [seqIndex_neg (by omega) h1,e],by omega,h1,by omega⟩
    · rw [if_neg h1] at h;cases h
theorem atI_get {α:Type} {xs:List α} {i:Int} {v:α} (h:atI xs i=some v):∃ j,seqIndex? i xs.length=some j∧xs[j]?=some v∧j < xs.length∧-(xs.length:Int)≤i∧i < xs.length:=by
  unfold atI at h
  cases e:ixN xs.length i with
  | none=>rw [e] at h;cases h
  | some j =>
    rw [e] at h
    obtain ⟨h1,h2,h3,h4⟩:=ixN_seq e
    exact ⟨j,h1,h,h2,h3,h4⟩
theorem atI_nat {α:Type} {xs:List α} {j:Nat} {v:α} (h:xs[j]?=some v):atI xs (j:Int)=some v:=by
  have hj:j < xs.length:=(List.getElem?_eq_some_iff.mp h).1
  have e:ixN xs.length (j:Int)=some j:=by
    unfold ixN
    rw [if_pos (by omega),if_pos (by omega)];simp
  unfold atI;rw [e];exact h
theorem atI_last {α:Type} (xs:List α) (v:α):atI (xs++[v]) (-1)=some v:=by
  have hl:(xs++[v]).length=xs.length + 1:=by simp
  have e:ixN (xs++[v]).length (-1)=some xs.length:=by
    unfold ixN
    rw [hl,if_neg (by decide),if_pos (by omega)]
    congr 1
    omega
  unfold atI
  rw [e]
  show (xs++[v])[xs.length]?=some v
  simp
def PlainIx (b:Expr):Prop:=∀ o i,subscripted b false o i=operate [o,i] (getItem o i)
def IxR (X:Cx) (r:R2):Prop :=
  ∀ (value slice:Expr) (pins:List (Addr × Obj)) (s:Shared) (σ:St) (H:Hp) (x y:V) (v u:Value) (Q:VK),Inv X pins σ H s→RelV x v→RelV y u→r x y H Q →
    subscripted slice false v u=operate [v,u] (getItem v u)→wpAny (model X.prog X.w) X.A (subscriptTail value slice v u) (EP X pins σ Q) X.xe s
def MtR (X:Cx) (id:String) (r:V→List V→Hp→VK→Prop):Prop :=
  ∀ (pins:List (Addr × Obj)) (s:Shared) (σ:St) (H:Hp) (x:V) (xs:List V) (v:Value) (us:List Value) (Q:VK),Inv X pins σ H s→RelV x v→Vals xs us→r x xs H Q →
    wpAny (model X.prog X.w) X.A (call (.builtin id) (v :: us)) (EP X pins σ Q) X.xe s
section
variable {X:Cx} {a b:Expr} {ta tb:TE} {pos:Pos}
theorem IxR.or {r r':R2} (h:IxR X r) (h':IxR X r'):IxR X (fun x y H Q=>r x y H Q∨r' x y H Q):=by
  intro value slice pins s σ H x y v u Q I rx ry q hs
  rcases q with q | q
  · exact h value slice pins s σ H x y v u Q I rx ry q hs
  · exact h' value slice pins s σ H x y v u Q I rx ry q hs
theorem pe_ix {r:R2} (hr:IxR X r) (ha:PE X a ta) (hb:PE X b tb) (hs:PlainIx b):PE X (.Subscript a b pos) (tOp r ta tb):=by
  intro pins s σ H Q I h
  exact Subscript_ (binT ha hb I h fun v u s2 x y H2 I2 rx ry q=>hr a b pins s2 σ H2 x y v u Q I2 rx ry q (hs _ _))
def rIxL (K:PySem.W.Frag):R2:=fun x y H Q=>∃ p xs i v,x=.ref p∧y=.int i∧SqL K H p xs∧atI xs i=some v∧Q v H
def rIxT (K:PySem.W.Frag):R2:=fun x y H Q=>∃ p xs i v,x=.ref p∧y=.int i∧SqT K H p xs∧atI xs i=some v∧Q v H
def rIxS:R2:=fun x y H Q=>∃ z i c,x=.str z∧y=.int i∧z.length≤sizeLine∧atI z.cps.toList i=some c∧Q (.str ⟨#[c]⟩) H
theorem ix_list:IxR X (rIxL X.K):=by
  intro value slice pins s σ H x y v u Q I rx ry h hs
  obtain ⟨p,xs,i,z,rfl,rfl,hq,he,q⟩:=h
  cases rx
  obtain ⟨t,rfl⟩:=ry
  obtain ⟨its,r,pl,hz⟩:=I.list hq
  obtain ⟨j,h1,h2,h3,h4,h5⟩:=atI_get he
  obtain ⟨w,ew,rw'⟩:=r.get h2
  have hl:=r.length
  have hn:=line63
  have fin:EP X pins σ Q w s:=⟨z,H,I,rw',q⟩
  by_cases h0:0≤i
  · have hj:i.toNat=j:=by
      rw [seqIndex_of h0 h5] at h1
      exact Option.some.inj h1
    exact item_listR pl.isList h0 (by omega) (by rw [hj];simpa using ew) fin hs
  · have hj:(i + (its.toArray.size:Int)).toNat=j:=by
      rw [seqIndex_neg (by omega) h4] at h1
      rw [List.size_toArray,← hl]
      exact Option.some.inj h1
    exact subscriptTail_builtinR (x:=w) pl.isList.typeIs slot_list_getitem.lookup
      (wpAny_getItem_list_neg (Q:=fun r s'=>r=w∧EP X pins σ Q r s') pl.isList (by omega) (by rw [List.size_toArray] <;> omega) (by omega) (by rw [hj];simpa using ew) ⟨rfl,fin⟩) hs
theorem ix_tup:IxR X (rIxT X.K):=by
  intro value slice pins s σ H x y v u Q I rx ry h hs
  obtain ⟨p,xs,i,z,rfl,rfl,hq,he,q⟩:=h
  cases rx
  obtain ⟨t,rfl⟩:=ry
  obtain ⟨its,r,pl,hz⟩:=I.tuple hq
  obtain ⟨j,h1,h2,h3,h4,h5⟩:=atI_get he
  obtain ⟨w,ew,rw'⟩:=r.get h2
  have hl:=r.length
  have hn:=line63
  have fin:EP X pins σ Q w s:=⟨z,H,I,rw',q⟩
  exact subscriptTail_builtinR (x:=w) pl.typeIs slot_tuple_getitem.lookup
    (getItem_tuple (j:=j) (Q:=fun r s'=>r=w∧EP X pins σ Q r s') pl (by omega) (by omega) (by rw [List.size_toArray,← hl];exact h1) (by simpa using ew) ⟨rfl,fin⟩) hs
theorem ix_str:IxR X rIxS:=by
  intro value slice pins s σ H x y v u Q I rx ry h hs
  obtain ⟨z,i,c,rfl,rfl,hz,he,q⟩:=h
  obtain ⟨t,rfl⟩:=rx
  obtain ⟨t',rfl⟩:=ry
  obtain ⟨j,h1,h2,h3,h4,h5⟩:=atI_get he
  have hl:z.cps.toList.length=z.length:=by simp [Str.length]
  rw [hl] at h1 h4 h5
  have hn:=line63
  exact tail_any (typeIs_str s z t) slot_str_getitem.lookup (getItem_str (c:=c) (by
    have e1:decide (i < -(2 ^ 63:Int))=false:=decide_eq_false (by omega)
    have e2:decide (i ≥ 2 ^ 63)=false:=decide_eq_false (by omega)
    rw [e1,e2,Bool.or_false]) (by rw [h1];simpa using h2) ⟨.str ⟨#[c]⟩,H,I.tok _,⟨_,rfl⟩,q⟩) hs
def rIx (K:PySem.W.Frag):R2:=fun x y H Q=>rIxL K x y H Q∨rIxT K x y H Q∨rIxS x y H Q
theorem ix_seq:IxR X (rIx X.K):=ix_list.or (ix_tup.or ix_str)
theorem slice_bounds (lo hi:Option Int) (n:Nat):(sliceBounds lo hi none n).1=((HT.sIx n 0 lo:Nat):Int)∧(sliceBounds lo hi none n).2.1=((HT.sIx n n hi:Nat):Int)∧(sliceBounds lo hi none n).2.2=1:=by
  refine ⟨?_,?_,rfl⟩
  · cases lo with
    | none=>simp [sliceBounds,HT.sIx]
    | some i =>
      simp only [sliceBounds,HT.sIx,Option.getD_none,show (1:Int) > 0 by decide,if_true]
      by_cases h:i < 0
      · simp only [h,if_true] <;> omega
      · simp only [h,if_false] <;> omega
  · cases hi with
    | none=>simp [sliceBounds,HT.sIx]
    | some i =>
      simp only [sliceBounds,HT.sIx,Option.getD_none,show (1:Int) > 0 by decide,if_true]
      by_cases h:i < 0
      · simp only [h,if_true] <;> omega
      · simp only [h,if_false] <;> omega
theorem slicePick_cut (its:List Value) (lo hi:Option Int):slicePick its.toArray lo hi none=((its.drop (HT.sIx its.length 0 lo)).take (HT.sIx its.length its.length hi - HT.sIx its.length 0 lo)).toArray:=by
  obtain ⟨h1,h2,h3⟩:=slice_bounds lo hi its.toArray.size
  unfold slicePick
  rw [h1,h2,h3]
  simp only [sliceRange_one,pick_run,List.size_toArray] <;> rfl
def rSlL (K:PySem.W.Frag):V→Option Int→Option Int→Hp→VK→Prop:=fun x lo hi H Q=>∃ a xs,x=.ref a∧SqL K H a xs∧∀ p,H p=none→Q (.ref p) (upd H p (.lst (cutV xs lo hi)))
theorem sl_list:SlR X (rSlL X.K):=by
  intro pins s σ H x v vl vu lo hi sl Q I rx hs pl pu h
  obtain ⟨a,xs,rfl,hx,q⟩:=h
  cases rx
  obtain ⟨its,r,ht,hz⟩:=I.list hx
  have hlen:=r.length
  refine ⟨"list",_,slot_list_getitem.lookup,ht.isList.typeIs,?_⟩
  refine wpAny_getItem_list_slice ht.isList hs pl pu .none (by simp) ?_ (by rw [List.size_toArray] <;> omega)
  rw [slicePick_cut,← hlen]
  refine ⟨.ref s.heap.objs.size,_,I.laid (t':=s.toks) (o:=.lst (cutV xs lo hi)) (fun b ob q=>Heap.get?_push_of_some _ q) (Nat.le_refl _) ?_,rfl,q _ (I.hok.fresh (Nat.le_refl _))⟩
  exact ⟨Nat.le_trans (cutV_length xs lo hi) hz,_,0,(r.drop (HT.sIx xs.length 0 lo)).take (HT.sIx xs.length xs.length hi - HT.sIx xs.length 0 lo),Heap.get?_push_size _ rfl⟩
def flatV:V→Bool
  | .non=>true
  | .bl _=>true
  | .int _=>true
  | .str _=>true
  | _=>false
def eqV:V→V→Bool
  | .non,.non=>true
  | .bl a,.bl b=>a == b
  | .bl a,.int b=>(if a then 1 else 0) == b
  | .int a,.bl b=>a == (if b then 1 else 0)
  | .int a,.int b=>a == b
  | .str a,.str b=>a == b
  | _,_=>false
theorem eqAt_V {A:Around} {s:Shared} {y x:V} {u v:Value} (ry:RelV y u) (rx:RelV x v) (fy:flatV y=true) (fx:flatV x=true):SeqAt.EqAt A s u v (eqV y x):=by
  cases y with
  | non =>
    cases ry
    cases x with
    | non=>cases rx;exact SeqAt.EqAt.same _
    | bl b=>cases rx;exact SeqAt.EqAt.none_bool b
    | int b=>obtain ⟨t,rfl⟩:=rx;exact SeqAt.EqAt.none_int b t
    | str b=>obtain ⟨t,rfl⟩:=rx;exact SeqAt.EqAt.none_str b t
    | _=>exact absurd (show false=true from fx) Bool.false_ne_true
  | bl a =>
    cases ry
    cases x with
    | non=>cases rx;exact SeqAt.EqAt.bool_none a
    | bl b=>cases rx;exact SeqAt.EqAt.bool_bool a b
    | int b=>obtain ⟨t,rfl⟩:=rx;exact SeqAt.EqAt.bool_int a b t
    | str b=>obtain ⟨t,rfl⟩:=rx;exact SeqAt.EqAt.bool_str a b t
    | _=>exact absurd (show false=true from fx) Bool.false_ne_true
  | int a =>
    obtain ⟨t',rfl⟩:=ry
    cases x with
    | non=>cases rx;exact SeqAt.EqAt.int_none a t'
    | bl b=>cases rx;exact SeqAt.EqAt.int_bool a t' b
    | int b=>obtain ⟨t,rfl⟩:=rx;exact SeqAt.EqAt.int_int a t' b t
    | str b=>obtain ⟨t,rfl⟩:=rx;exact SeqAt.EqAt.int_str a t' b t
    | _=>exact absurd (show false=true from fx) Bool.false_ne_true
  | str a =>
    obtain ⟨t',rfl⟩:=ry
    cases x with
    | non=>cases rx;exact SeqAt.EqAt.str_none a t'
    | bl b=>cases rx;exact SeqAt.EqAt.str_bool a t' b
    | int b=>obtain ⟨t,rfl⟩:=rx;exact SeqAt.EqAt.str_int a t' b t
    | str b=>obtain ⟨t,rfl⟩:=rx;exact SeqAt.EqAt.str_str a t' b t
    | _=>exact absurd (show false=true from fx) Bool.false_ne_true
  | _=>exact absurd (show false=true from fy) Bool.false_ne_true
def eqU (x:V) (u:Value):Bool:=match u with
  | .none=>eqV .non x
  | .bool b=>eqV (.bl b) x
  | .int i _=>eqV (.int i) x
  | .str z _=>eqV (.str z) x
  | _=>false
theorem eqU_of {x y:V} {u:Value} (r:RelV y u) (f:flatV y=true):eqU x u=eqV y x:=by
  cases y with
  | non=>cases r;rfl
  | bl b=>cases r;rfl
  | int i=>obtain ⟨t,rfl⟩:=r;rfl
  | str z=>obtain ⟨t,rfl⟩:=r;rfl
  | _=>exact absurd (show false=true from f) Bool.false_ne_true
theorem any_eqU {x:V}:∀ {xs:List V} {us:List Value},Vals xs us→xs.all flatV=true→us.any (eqU x)=xs.any fun y=>eqV y x
  | _,_,.nil,_=>rfl
  | y :: xs,u :: us,.cons r t,f=>by
    rw [List.all_cons,Bool.and_eq_true] at f
    rw [List.any_cons,List.any_cons,eqU_of r f.1,any_eqU t f.2]
theorem mem_eqAt {A:Around} {s:Shared} {x:V} {v:Value} (rx:RelV x v) (fx:flatV x=true):∀ {xs:List V} {us:List Value},Vals xs us→xs.all flatV=true→∀ u∈us,SeqAt.EqAt A s u v (eqU x u)
  | _,_,.nil,_=>fun u hu=>by cases hu
  | y :: xs,u :: us,.cons r t,f=>fun u' hu=>by
    rw [List.all_cons,Bool.and_eq_true] at f
    rcases List.mem_cons.mp hu with rfl | hu
    · rw [eqU_of r f.1];exact eqAt_V r rx f.1 fx
    · exact mem_eqAt rx fx t f.2 u' hu
def inV (x:V) (xs:List V):Bool:=xs.any fun y=>eqV y x
def rIn (K:PySem.W.Frag) (neg:Bool):R2:=fun x y H Q=>∃ p xs,y=.ref p∧(SqL K H p xs∨SqT K H p xs)∧flatV x=true∧xs.all flatV=true∧Q (.bl (if neg then !inV x xs else inV x xs)) H
theorem op_in_seq:OpR X (compareOp .In) (rIn X.K false):=by
  intro pins s σ H x y v u Q I rx ry h
  obtain ⟨p,xs,rfl,hq,fx,fs,q⟩:=h
  cases ry
  rcases hq with hq | hq
  · obtain ⟨its,r,pl,hz⟩:=I.list hq
    refine SeqAt.in_listAt (eqU x) pl.isList (fun w hw=>mem_eqAt rx fx r fs w (by simpa using hw)) ⟨.bl _,H,I,rfl,?_⟩
    rw [show its.toArray.any (eqU x)=its.any (eqU x) by simp,any_eqU r fs]
    exact q
  · obtain ⟨its,r,pl,hz⟩:=I.tuple hq
    refine SeqAt.in_tupleAt (eqU x) pl (fun w hw=>mem_eqAt rx fx r fs w (by simpa using hw)) ⟨.bl _,H,I,rfl,?_⟩
    rw [show its.toArray.any (eqU x)=its.any (eqU x) by simp,any_eqU r fs]
    exact q
theorem op_notIn_seq:OpR X (compareOp .NotIn) (rIn X.K true):=by
  intro pins s σ H x y v u Q I rx ry h
  obtain ⟨p,xs,rfl,hq,fx,fs,q⟩:=h
  cases ry
  rcases hq with hq | hq
  · obtain ⟨its,r,pl,hz⟩:=I.list hq
    refine SeqAt.notIn_listAt (eqU x) pl.isList (fun w hw=>mem_eqAt rx fx r fs w (by simpa using hw)) ⟨.bl _,H,I,rfl,?_⟩
    rw [show its.toArray.any (eqU x)=its.any (eqU x) by simp,any_eqU r fs]
    exact q
  · obtain ⟨its,r,pl,hz⟩:=I.tuple hq
    refine SeqAt.notIn_tupleAt (eqU x) pl (fun w hw=>mem_eqAt rx fx r fs w (by simpa using hw)) ⟨.bl _,H,I,rfl,?_⟩
    rw [show its.toArray.any (eqU x)=its.any (eqU x) by simp,any_eqU r fs]
    exact q
theorem call_list_of:CallR X (.type "list") (fun xs H Q=>∃ p ys,xs=[.ref p]∧(SqL X.K H p ys∨SqT X.K H p ys)∧∀ l,H l=none→Q (.ref l) (upd H l (.lst ys))):=by
  intro pins s σ H xs us Q I r h
  obtain ⟨p,ys,rfl,hq,q⟩:=h
  obtain ⟨u,rfl,rx⟩:=vals1 r
  cases rx
  have fin:∀ (its:List Value),Vals ys its→ys.length≤sizeLine→∀ (h':Heap) (c':Nat),(∀ b o',s.heap.get? b=some o'→h'.get? b=some o') →
      h'.get? s.heap.objs.size=some { cls:=.type "list",dict:=none,data:=.seq its.toArray c',slots:=#[] }→EP X pins σ Q (.ref s.heap.objs.size) { s with heap:=h' }:=fun its r' hz h' c' kp e =>
    ⟨.ref s.heap.objs.size,_,I.laid (t':=s.toks) kp (Nat.le_refl _) (show ObjOk X.prog X.w _ h' _ (.lst ys) from ⟨hz,its,c',r',e⟩),rfl,q _ (I.hok.fresh (Nat.le_refl _))⟩
  rcases hq with hq | hq
  · obtain ⟨its,r',pl,hz⟩:=I.list hq
    have hlen:=r'.length
    obtain ⟨o,ho,hc,n,hd⟩:=pl.isList
    exact call_list_seq p (.inl rfl) ho hc hd (fun h' c' kp e=>fin its r' hz h' c' kp e) (by simp only [List.size_toArray] <;> omega)
  · obtain ⟨its,r',pl,hz⟩:=I.tuple hq
    have hlen:=r'.length
    obtain ⟨o,ho,hc,n,hd⟩:=pl
    exact call_list_seq p (.inr rfl) ho hc hd (fun h' c' kp e=>fin its r' hz h' c' kp e) (by simp only [List.size_toArray] <;> omega)
theorem call_tuple_of:CallR X (.type "tuple") (fun xs H Q=>∃ p ys,xs=[.ref p]∧((SqL X.K H p ys∧∀ l,H l=none→Q (.ref l) (upd H l (.tup ys)))∨(SqT X.K H p ys∧Q (.ref p) H))):=by
  intro pins s σ H xs us Q I r h
  obtain ⟨p,ys,rfl,h⟩:=h
  obtain ⟨u,rfl,rx⟩:=vals1 r
  cases rx
  rcases h with ⟨hq,q⟩ | ⟨hq,q⟩
  · obtain ⟨its,r',pl,hz⟩:=I.list hq
    have hlen:=r'.length
    refine call_tuple_list pl.isList (fun h' kp=>?_) (by simp only [List.size_toArray] <;> omega)
    have I1:Inv X pins σ H { s with heap:=h' }:=I.kept (t':=s.toks) kp
    have I2:Inv X pins σ (upd H h'.objs.size (.tup ys)) { s with heap:=h'.push { cls:=.type "tuple",data:=.seq its.toArray } } :=
      I1.laid (t':=s.toks) (fun b o e=>Heap.get?_push_of_some _ e) (Nat.le_refl _) (show ObjOk X.prog X.w _ _ _ (.tup ys) from ⟨hz,its,r',IsTup.new _ _⟩)
    exact ⟨.ref h'.objs.size,_,I2,rfl,q _ (I1.hok.fresh (Nat.le_refl _))⟩
  · obtain ⟨its,r',pl,hz⟩:=I.tuple hq
    exact call_tuple_same pl ⟨.ref p,H,I,rfl,q⟩
def tyV (K:PySem.W.Frag) (T:String) (x:V) (H:Hp):Prop:=match x with
  | .str _=>T="str"
  | .int _=>T="int"
  | .ref p=>(T="list"∧∃ xs,SqL K H p xs)∨(T="tuple"∧∃ o,K.lookup p=some o∧o.cls=.type "tuple"∧o.dict=none) ∨
      (T="dict"∧((∃ kvs,H p=some (.dK kvs))∨∃ kvs,H p=some (.dT kvs)))∨(T="set"∧∃ S n,H p=some (.set S n))
  | _=>False
theorem tyV_is {pins:List (Addr × Obj)} {σ:St} {H:Hp} {s:Shared} {T:String} {x:V} {v:Value} (I:Inv X pins σ H s) (r:RelV x v) (ty:tyV X.K T x H) :
    s.TypeIs v T∧∀ a,v=.ref a→∃ ob,s.heap.get? a=some ob∧ob.dict=none:=by
  cases x with
  | str z =>
    obtain ⟨t,rfl⟩:=r
    cases (show T="str" from ty)
    exact ⟨typeIs_str s z t,fun _ e=>nomatch e⟩
  | int i =>
    obtain ⟨t,rfl⟩:=r
    cases (show T="int" from ty)
    exact ⟨typeIs_int s i t,fun _ e=>nomatch e⟩
  | ref p =>
    cases r
    rcases ty with ⟨rfl,xs,hq⟩ | ⟨rfl,o,hk,hc,hd⟩ | ⟨rfl,hk⟩ | ⟨rfl,S,n,hk⟩
    · obtain ⟨its,_,pl,_⟩:=I.list hq
      refine ⟨pl.isList.typeIs,fun a e=>?_⟩
      cases e
      obtain ⟨o,n,e,c,hd,_⟩:=pl
      exact ⟨o,e,hd⟩
    · refine ⟨⟨o,I.kIn p o hk,hc⟩,fun a e=>?_⟩
      cases e
      exact ⟨o,I.kIn _ o hk,hd⟩
    · have z:∃ o,s.heap.get? p=some o∧o.ExactDict:=by
        rcases hk with ⟨kvs,hk⟩ | ⟨kvs,hk⟩
        · obtain ⟨_,_,_,_,o,_,_,e,ex,_⟩:=I.hok p _ hk
          exact ⟨o,e,ex⟩
        · obtain ⟨_,_,_,_,o,_,_,e,ex,_⟩:=I.hok p _ hk
          exact ⟨o,e,ex⟩
      obtain ⟨o,e,ex⟩:=z
      refine ⟨⟨o,e,ex.1⟩,fun a e2=>?_⟩
      cases e2
      exact ⟨o,e,ex.2.1⟩
    · obtain ⟨o,_,_,_,e,ex,_⟩:=I.hok p _ hk
      refine ⟨⟨o,e,ex.1⟩,fun a e2=>?_⟩
      cases e2
      exact ⟨o,e,ex.2.1⟩
  | _=>exact False.elim ty
def tBM0 (K:PySem.W.Frag) (T:String) (r:V→List V→Hp→VK→Prop) (to:TE):TE:=fun σ H Q=>to σ H fun x H1=>tyV K T x H1∧r x [] H1 Q
def tBM (K:PySem.W.Frag) (T:String) (r:V→List V→Hp→VK→Prop) (to:TE) (t:TA):TE:=fun σ H Q=>to σ H fun x H1=>tyV K T x H1∧t σ H1 fun xs H2=>r x xs H2 Q
variable {o e:Expr} {es:List Expr} {to:TE} {t:TA} {name:Str} {apos cpos:Pos} {T id:String} {r:V→List V→Hp→VK→Prop}
theorem pe_bm0 (pa:PlainAttrs T) (slot:Slot T name id) (hty:typeOf (.builtin id)=pure (.type "method_descriptor")) (hm:MtR X id r) (ho:PE X o to)
    (hbase:attributeBase o name X.env (eval o X.env)=eval o X.env:=by rfl) (hline:(apos.endLine == cpos.line)=true:=by rfl):PE X (.Call (.Attribute o name apos) [] [] cpos) (tBM0 X.K T r to):=by
  intro pins s σ H Q I h
  refine wpAny_Call_method0_late hbase hline (thn (ho pins s σ H _ I h) fun v s1 ⟨x,H1,I1,r1,ty,q1⟩=>?_)
  obtain ⟨h1,h2⟩:=tyV_is I1 r1 ty
  exact ⟨T,id,pa,slot,hty,h1,h2,Calls.callWith_builtin rfl (PySem.evalArgs_none (hm pins s1 σ H1 x [] v [] Q I1 r1 .nil q1))⟩
theorem pe_bm (pa:PlainAttrs T) (slot:Slot T name id) (hty:typeOf (.builtin id)=pure (.type "method_descriptor")) (hm:MtR X id r) (ho:PE X o to) (ha:PA X (e :: es) t)
    (hbase:attributeBase o name X.env (eval o X.env)=eval o X.env:=by rfl)
    (hfew:((backTo cpos (starEach (e :: es) X.env)).all (fun x=>!x.1) && (backToKw cpos (keywordEach [] X.env)).all (fun x=>x.1.isSome)
      && decide ((e :: es).length + ([]:List Keyword).length + (if ([]:List Keyword).isEmpty then 0 else 1) < 30))=true:=by rfl)
    (hline:(apos.endLine == cpos.line)=true:=by rfl) (hs:starEach (e :: es) X.env=(false,eval e X.env) :: starEach es X.env:=by rfl) (hplain:(backTo cpos (starEach es X.env)).any (·.1)=false:=by rfl) :
    PE X (.Call (.Attribute o name apos) (e :: es) [] cpos) (tBM X.K T r to t):=by
  intro pins s σ H Q I h
  refine wpAny_Call_method_late hbase hfew hline rfl (thn (ho pins s σ H _ I h) fun v s1 ⟨x,H1,I1,r1,ty,q1⟩=>?_)
  obtain ⟨h1,h2⟩:=tyV_is I1 r1 ty
  refine ⟨T,id,pa,slot,hty,h1,h2,?_⟩
  have hA:=ha cpos pins s1 σ H1 _ I1 q1
  rw [hs] at hA ⊢
  refine Calls.callWith_builtin (by show (false || (backTo cpos (starEach es X.env)).any (·.1))=false;rw [hplain] <;> rfl) (Calls.evalArgs_plain ?_)
  exact thn hA fun us s2 ⟨vs,H2,I2,r2,q2⟩=>hm pins s2 σ H2 x vs v us Q I2 r1 r2 q2
/- xs.append(e),list.index on a module's tuple .. are MtR facts of 06m -/
end
def MtM (X:Cx) (id:String) (r:V→List V→Hp→VK→Prop):Prop :=
  ∀ (pins:List (Addr × Obj)) (s:Shared) (σ:St) (H:Hp) (x:V) (xs:List V) (v:Value) (us:List Value) (Q:VK),Inv X pins σ H s→RelV x v→Vals xs us→r x xs H Q →
    wpAny (model X.prog X.w) X.A (call (.builtin id) (v :: us)) (EP X pins σ Q) X.xe s
theorem Vals.one:∀ {x:V} {us:List Value},Vals [x] us→∃ u,us=[u]∧RelV x u
  | _,_,.cons r .nil=>⟨_,rfl,r⟩
theorem Vals.zero:∀ {us:List Value},Vals [] us→us=[]
  | _,.nil=>rfl
theorem Vals.dropLast {xs:List V} {us:List Value} (h:Vals xs us):Vals xs.dropLast us.dropLast:=by
  induction h with
  | nil=>exact .nil
  | cons r t ih =>
    cases t with
    | nil=>exact .nil
    | cons q t'=>exact .cons r ih
theorem Vals.reverse {xs:List V} {us:List Value} (h:Vals xs us):Vals xs.reverse us.reverse:=by
  induction h with
  | nil=>exact .nil
  | cons r t ih=>rw [List.reverse_cons,List.reverse_cons];exact Vals.append ih (.cons r .nil)
theorem Vals.rep {xs:List V} {us:List Value} (h:Vals xs us):∀ k:Nat,Vals (List.replicate k xs).flatten (List.replicate k us).flatten
  | 0=>.nil
  | k + 1=>by
    rw [List.replicate_succ,List.replicate_succ,List.flatten_cons,List.flatten_cons]
    exact Vals.append h (Vals.rep h k)
theorem erase_last {α:Type} (l:List α):l.eraseIdx (l.length - 1)=l.dropLast:=by
  induction l with
  | nil=>rfl
  | cons a r ih =>
    cases r with
    | nil=>rfl
    | cons b r =>
      have e:(a :: b :: r).length - 1=((b :: r).length - 1) + 1:=by
        have h1:(a :: b :: r).length=r.length + 2:=rfl
        have h2:(b :: r).length=r.length + 1:=rfl
        omega
      rw [e,List.eraseIdx_cons_succ,ih]
      all_goals rfl
theorem foldl_rep (its:List Value):∀ (k:Nat) (acc:List Value),
    List.foldl (fun x1 x2=>x1++x2) acc.toArray (List.replicate k its.toArray)=(acc++(List.replicate k its).flatten).toArray
  | 0,acc=>by simp
  | k + 1,acc=>by
    have e:acc.toArray++its.toArray=(acc++its).toArray:=by simp
    have e2:(acc++its)++(List.replicate k its).flatten=acc++(List.replicate (k + 1) its).flatten:=by
      rw [List.replicate_succ,List.flatten_cons,List.append_assoc]
    rw [← e2,← foldl_rep its k (acc++its),← e,List.replicate_succ,List.foldl_cons]
section
variable {X:Cx} {pins:List (Addr × Obj)} {σ:St} {H:Hp} {s:Shared} {l b:Addr} {xs ys zs:List V}
theorem Inv.lset {its its':List Value} {n:Nat} {f:Array Value→Array Value} {t':Nat} (I:Inv X pins σ H s) (hH:H l=some (.lst xs))
    (e:s.heap.get? l=some { cls:=.type "list",data:=.seq its.toArray n }) (hf:f its.toArray=its'.toArray) (hv:Vals ys its') (hz:ys.length≤sizeLine) :
    Inv X pins σ (upd H l (.lst ys)) { s with heap:=s.heap.update l (Obj.mapSeq f),toks:=t' }:=by
  have q:=PySem.IsL.update e f
  rw [hf] at q
  refine I.write (x:=l) (e:=l) (by rw [hH];exact trivial) (.inl rfl) (fun b' u hb hu=>(Heap.get?_update_other s.heap (Obj.mapSeq f) (Ne.symm hb)).trans hu) ⟨_,q⟩ ?_
  exact ⟨hz,its',_,hv,q⟩
theorem Inv.lnew {its:List Value} {t':Nat} (I:Inv X pins σ H s) (hv:Vals ys its) (hz:ys.length≤sizeLine) :
    Inv X pins σ (upd H s.heap.objs.size (.lst ys)) { s with heap:=s.heap.push { cls:=.type "list",data:=.seq its.toArray },toks:=t' } :=
  I.laid (fun _ _ q=>Heap.get?_push_of_some _ q) (Nat.le_refl _) ⟨hz,its,0,hv,Heap.get?_push_size _ rfl⟩
theorem Inv.fresh (I:Inv X pins σ H s):H s.heap.objs.size=none:=I.hok.fresh (Nat.le_refl _)
theorem Inv.lstM (I:Inv X pins σ H s) (hH:H l=some (.lst xs)):xs.length≤sizeLine∧∃ (its:List Value) (n:Nat),Vals xs its∧xs.length=its.length∧s.heap.get? l=some { cls:=.type "list",data:=.seq its.toArray n }:=by
  obtain ⟨z,its,n,r,e⟩:=I.hok l _ hH
  exact ⟨z,its,n,r,r.length,e⟩
theorem notLongL {n:Nat} (h:n≤sizeLine):Builtin.List.listTooLong n=false:=by
  unfold Builtin.List.listTooLong
  exact decide_eq_false (by omega)
end
section
variable {X:Cx}
def rAppend:V→List V→Hp→VK→Prop:=fun x vs H Q=>∃ l xs y,x=.ref l∧vs=[y]∧H l=some (.lst xs)∧xs.length < sizeLine∧Q .non (upd H l (.lst (xs++[y])))
theorem mt_append:MtM X "list.append" rAppend:=by
  intro pins s σ H x vs v us Q I rx rv h
  obtain ⟨l,xs,y,rfl,rfl,hH,hz,q⟩:=h
  cases rx
  obtain ⟨u,rfl,ru⟩:=rv.one
  obtain ⟨z,its,n,r,hl,e⟩:=I.lstM hH
  refine call_meets F.slot_list_append ⟨_,e,rfl⟩ F.entry_list_append (F.args_list_append_2 _ _) (PySem.list_append l its.toArray n u (by rw [List.size_toArray];omega)) ⟨e,?_⟩
  refine ⟨.non,_,I.lset (its':=its++[u]) hH e (by simp) (r.append (.cons ru .nil)) ?_,rfl,q⟩
  rw [List.length_append,List.length_singleton]
  omega
def rPop:V→List V→Hp→VK→Prop:=fun x vs H Q=>∃ l xs y,x=.ref l∧vs=[]∧H l=some (.lst xs)∧xs[xs.length - 1]?=some y∧Q y (upd H l (.lst xs.dropLast))
theorem mt_pop:MtM X "list.pop" rPop:=by
  intro pins s σ H x vs v us Q I rx rv h
  obtain ⟨l,xs,y,rfl,rfl,hH,hy,q⟩:=h
  cases rx
  have hus:=rv.zero
  subst hus
  obtain ⟨z,its,n,r,hl,e⟩:=I.lstM hH
  obtain ⟨u,hu,ru⟩:=r.get hy
  have hy':its.toArray[its.toArray.size - 1]?=some u:=by
    show its.toArray[its.length - 1]?=some u
    rw [← Array.getElem?_toList,← hl]
    exact hu
  refine call_meets F.slot_list_pop ⟨_,e,rfl⟩ F.entry_list_pop (F.args_list_pop_1 _) (MeetsSeq.list_pop_last l its.toArray n u hy' (by rw [List.size_toArray];omega)) ⟨e,?_⟩
  refine ⟨y,_,I.lset (its':=its.dropLast) hH e ?_ r.dropLast ?_,ru,q⟩
  · show its.toArray.eraseIdxIfInBounds (its.toArray.size - 1)=its.dropLast.toArray
    rw [List.size_toArray,List.eraseIdxIfInBounds_toArray,erase_last]
  · rw [List.length_dropLast]
    omega
def rRep:R2:=fun x y H Q=>∃ l k xs,x=.ref l∧y=.int k∧H l=some (.lst xs)∧-(2 ^ 63)≤k∧k < 2 ^ 63∧xs.length * k.toNat≤sizeLine ∧
  ∀ p,H p=none→Q (.ref p) (upd H p (.lst (List.replicate k.toNat xs).flatten))
theorem len_rep {α:Type} (xs:List α) (k:Nat):(List.replicate k xs).flatten.length=k * xs.length:=by
  induction k with
  | zero=>simp
  | succ k ih=>rw [List.replicate_succ,List.flatten_cons,List.length_append,ih,Nat.succ_mul,Nat.add_comm]
theorem op_rep:OpR X (binaryOp .Mult) rRep:=by
  intro pins s σ H x y v u Q I rx ry h
  obtain ⟨l,k,xs,rfl,rfl,hH,h1,h2,hz,q⟩:=h
  cases rx
  obtain ⟨t,rfl⟩:=ry
  obtain ⟨z,its,n,r,hl,e⟩:=I.lstM hH
  have hlen:its.toArray.size * k.toNat≤sizeLine:=by rw [List.size_toArray,← hl];exact hz
  have hcap:¬ its.toArray.size * k.toNat > (2 ^ 63 - 1) / 8:=by
    have:(sizeLine:Nat)≤(2 ^ 63 - 1) / 8:=by decide
    omega
  have hfit:¬ (!Builtin.List.listFitsIndex k)=true:=by
    rw [fitsIndex_both h1 h2]
    exact Bool.false_ne_true
  have hlong:¬ Builtin.List.listTooLong (its.toArray.size * k.toNat)=true:=by
    rw [notLongL hlen]
    exact Bool.false_ne_true
  have hnew:List.foldl (fun x1 x2=>x1++x2) #[] (List.replicate (if its.toArray.isEmpty=true then 0 else k.toNat) its.toArray)=(List.replicate k.toNat its).flatten.toArray:=by
    have f0:∀ m:Nat,List.foldl (fun x1 x2=>x1++x2) #[] (List.replicate m its.toArray)=(List.replicate m its).flatten.toArray:=fun m=>by
      have:=foldl_rep its m []
      rw [List.nil_append] at this
      exact this
    rw [f0]
    cases its with
    | nil=>simp
    | cons a r'=>rw [if_neg (by simp)]
  refine wpAny_binaryOp_repeat_ref (T:="list") (U:="int") (by decide) ⟨_,e,rfl⟩ (fun s'=>typeIs_int s' k t) noFill_list_mul F.fills_int_mul F.slot_int_rmul repeat_list F.slot_int_index.lookup
    (call_meets F.slot_int_rmul (typeIs_int s k t) F.entry_int_rmul (F.args_int_rmul_2 _ _) (int___rmul___int_list k t l its.toArray n)
      ⟨e,rfl,⟨_,e,rfl⟩,call_meets F.slot_list_mul ⟨_,e,rfl⟩ F.entry_list_mul (F.args_list_mul_2 _ _) (AutoListH.list___mul___list_int_3 l its.toArray n k t hfit hcap hlong) ⟨e,?_⟩⟩)
  rw [hnew]
  exact ⟨.ref _,_,I.lnew (t':=s.toks) (r.rep k.toNat) (by rw [len_rep,Nat.mul_comm];exact hz),rfl,q _ I.fresh⟩
end
section
variable {prog:Program} {w:World} {A:Around} {E:Value→Shared→Prop} {s:Shared}
end
section
variable {X:Cx}
end
end L2
namespace Att
open PySem PySem.W PySem.Calls PyProof.Rows
theorem ints_of_wellAll {P:Params} {h:Heap}:∀ (ns:List Int) (vs:List Value),WellAll P h vs (ns.map WData.int)→IntsAre vs ns:=by
  intro ns
  induction ns with
  | nil =>
    intro vs w
    rw [List.map_nil] at w
    cases w
    exact .nil
  | cons n ns ih =>
    intro vs w
    rw [List.map_cons] at w
    cases w with
    | cons a b =>
      cases a
      exact .cons _ _ (ih _ b)
theorem script_of {l:OpenLaw} {n:Nat} (hn:l.most=some n) {P:Params} {h:Heap} {args:List WData} {vals:List Value}
    (hpre:l.row.toRowW.claim.pre args=true) (hwl:WellAll P h vals args) :
    ∃ a vs ns,vals=[Value.ref a]∧args=[WData.list (ns.map WData.int)]∧h.get? a=some { cls:=.type "list",data:=.seq vs.toArray }∧IntsAre vs ns∧ns.length≤n:=by
  have hsh:WShape.hasAll [] args [.list .int]=true:=(pre_splitW hpre).1
  have hc:l.pre.holds [] { args:=args }=true:=(pre_splitW hpre).2
  obtain ⟨d,r,rfl,h1,h2⟩:=hasAllW_cons hsh
  obtain rfl:=hasAllW_nil h2
  obtain ⟨xs,rfl,h3⟩:=hasW_list h1
  obtain ⟨ns,rfl⟩:=items_int h3
  have hlen:ns.length≤n:=by
    unfold OpenLaw.pre at hc
    have h4:(WTm.not (.lt (.lit (.int (n:Int))) (.len (.arg 0)))).holds [] { args:=[.list (ns.map .int)] }=true:=by
      have h4:=(holds_andW hc).1
      rw [hn] at h4
      exact h4
    have h5:=condW_of h4 (w_not (w_lt w_lit (w_len_list (w_arg rfl))))
    rw [List.length_map] at h5
    refine Nat.le_of_not_lt fun q=>?_
    have q':(n:Int) < ((ns.length:Nat):Int):=by omega
    first
      | (rw [decide_eq_true q'] at h5;exact absurd h5 (by decide))
      | (simp at h5;omega)
  cases hwl with
  | cons w1 w2 =>
    cases w2
    cases w1 with
    | list ho hall=>exact ⟨_,_,ns,rfl,rfl,ho,ints_of_wellAll ns _ hall,hlen⟩
theorem post_true (l:OpenLaw) (args:List WData):l.row.toRowW.claim.post args (.bool true) args=true :=
  postW_of (r:=l.row.toRowW) (X:=(true == true))
    (show WShape.has [] (.bool true) .bool=true by first | rfl | decide | simp [WShape.has,WShape.arms,WShape.armsAll])
    (show (WTm.eq .res (.lit (.bool true))).value [] { args:=args,res:=some (.bool true),after:=args }=some (.bool (true == true)) from w_eq_bool (w_res rfl) w_lit) rfl
theorem attach_call {l:OpenLaw} {n:Nat} {q:Program} {loose:List Str} {XP:(Str→Option Value)→Heap→Prop} {YP:World→Heap→Prop} {d:DefRec}
    (hn:l.most=some n) (hdf:d.params.defaults=[])
    (call:∀ (w:World) (s₀ s₁:Shared) (mg mb:Str→Option Value) (fa:Addr) (o:Obj) (pm cd doc:Value) (a:Addr) (vs:List Value) (ns:List Int),
      Ground q loose [] XP w s₀ mg mb s₁.heap→YP w s₁.heap →
      s₁.heap.get? fa=some o→o.data=.func (docDef d.name d.params d.body d.scope pm cd doc)→s₁.heap.CodeRec cd d.name→mg d.name=some (.ref fa) →
      s₁.heap.get? a=some { cls:=.type "list",data:=.seq vs.toArray }→IntsAre vs ns→ns.length≤n→s₁.gens=#[] →
      codeAny (model l.prog w) callerA (.call (.ref fa) ⟨[.ref a],[]⟩) (fun r s'=>r=.ok (.ret (.bool true))∧OldK s₁.heap s'.heap∧s'.os=s₁.os∧AllBare s'.gens) s₁) :
    WalkO q loose XP YP l.row.toRowW d [] (fun f vs=>PySem.call f vs):=by
  intro w s₀ s₁ mg mb G Y fa o pm cd doc dV kV ho hd hcd hD hmg hg args vals as hpre hlay hrd hwl hlo
  obtain rfl:dV=.none:=Dflts.none hD hdf
  obtain rfl:kV=.none:=Dflts.noKw hD
  obtain ⟨a,vs,ns,rfl,rfl,hobj,hints,hlen⟩:=script_of hn hpre hwl
  refine enter_call (codeAny_mono (call w s₀ s₁ mg mb fa o pm cd doc a vs ns G Y ho (fd_plain hd) hcd hmg hobj hints hlen hg) fun r s' hq=>?_)
  obtain ⟨rfl,h2,h3,h4⟩:=hq
  exact ⟨.inl ⟨.bool true,.bool true,[],rfl,fun _=>rfl,.bool true,post_true l _,fun _=>⟨List.Pairwise.nil,fun _ hm=>(nomatch hm)⟩⟩,h2,h3,h4⟩
section
variable {prog:Program} {w:World} {A:Around} {E:Value→Shared→Prop} {s:Shared} {K:Frag}
end
end Att
namespace L2
open PySem PySem.Spec PyProof.Rows
theorem vals_ints:∀ {vs:List Value} {ns:List Int},IntsAre vs ns→Vals (ns.map V.int) vs
  | _,_,.nil=>.nil
  | _,_,.cons n t h=>.cons ⟨t,rfl⟩ (vals_ints h)
def Only (H:Hp):Prop:=∀ b,H b=none∨∃ o xs,H b=some (.frz o (.lst xs))
theorem law_call {P:Program} {w:World} {K:PySem.W.Frag} {mg mb:Str→Option Value} {CX:CXT} {k:Nat} {fa a:Addr} {fd:FuncData} {x:Str} {sp:Sp} {s₁:Shared} {vs:List Value} {ns:List Int}
    (KX:K.In s₁.heap) (hns:s₁.heap.Ns mainGlobals mg) (hb:s₁.heap.Ns builtinsNs mb) (hbb:∀ x:Str,x≠"__name__"→mb x=bootBuiltins x) (hlim:s₁.heap.NoLimit) (hg:s₁.gens=#[])
    (ha:s₁.heap.get? a=some { cls:=.type "list",data:=.seq vs.toArray }) (hi:IntsAre vs ns) (hl:ns.length≤sizeLine) (hr:Room k callerA)
    (F:∀ base:Heap,K.In base→base.Ns mainGlobals mg→FnOk P w K mg base CX k fa fd [x] sp) (hbind:∀ (s:Shared) (u:Value),BindsTo s fd ⟨[u],[]⟩ [(x,u)])
    (hsp:∀ H:Hp,Only H→SqL K H a (ns.map V.int)→sp [.ref a] H (fun v _=>v=.bl true) fun _ _ _=>False)
    (hCX:∀ H e s',CX [] H s₁ (fun _ _ _=>False) e s'→False) :
    codeAny (model P w) callerA (.call (.ref fa) ⟨[.ref a],[]⟩) (fun r s'=>r=.ok (.ret (.bool true))∧OldK s₁.heap s'.heap∧s'.os=s₁.os∧AllBare s'.gens) s₁:=by
  have rv:=vals_ints hi
  have lenV:=hi.length
  -- from an abstract heap in which nothing but the script may be tracked
  have core:∀ H:Hp,Only H→SqL K H a (ns.map V.int)→HOk P w H s₁.heap→(∀ b,H b≠none→b=a)→(H a≠none→K.lookup a=none) →
      codeAny (model P w) callerA (.call (.ref fa) ⟨[.ref a],[]⟩) (fun r s'=>r=.ok (.ret (.bool true))∧OldK s₁.heap s'.heap∧s'.os=s₁.os∧AllBare s'.gens) s₁:=by
    intro H hO hS hok hA hK
    have base_of:∀ {b:Addr} {o:Obj},s₁.heap.get? b=some o→H b=none→(hidT s₁.heap H).get? b=some o:=fun e n=>hidT_get e n
    have noA:∀ {b:Addr} {o:Obj} {es:Array DictEntry} {ep:Nat},s₁.heap.get? b=some o→o.data=.dict es ep→H b=none:=fun {b o es ep} e d=>by
      cases q:H b with
      | none=>rfl
      | some u =>
        have e':b=a:=hA b (by rw [q];simp)
        subst e'
        rw [ha] at e;cases e
        have d':Data.seq vs.toArray _=Data.dict es ep:=d
        cases d'
    have nsK:∀ {b:Addr} {m:Str→Option Value},s₁.heap.Ns b m→(hidT s₁.heap H).Ns b m:=fun {b m} ⟨o,es,ep,e,d,r⟩=>⟨o,es,ep,base_of e (noA e d),d,r⟩
    have hKb:K.In (hidT s₁.heap H):=fun b o e=>base_of (KX b o e) (by
      cases q:H b with
      | none=>rfl
      | some u =>
        have e':b=a:=hA b (by rw [q];simp)
        subst e'
        rw [hK (by rw [q];simp)] at e;cases e)
    have hM:Mod K mg (hidT s₁.heap H):=⟨hKb,nsK hns,⟨mb,nsK hb,hbb⟩,let ⟨mc,h1,h2⟩:=hlim;⟨mc,nsK h1,h2⟩⟩
    have e0:Env0 P w K mg (hidT s₁.heap H) callerA [] s₁ H:=⟨rfl,hM,fun b o e=>of_hidT e,Nat.le_of_eq (hidT_size _ _),trivial,fun b hb=>absurd (show b∈([]:List Addr) from hb) (by simp),hok,.of_eq hg⟩
    refine codeAny_mono ((F _ hKb (nsK hns)).run callerA [] s₁ H ⟨[.ref a],[]⟩ [.ref a] [.ref a] _ _ hr e0 (hbind s₁ (.ref a)) (.cons rfl .nil) (hsp H hO hS)) fun r s' h=>?_
    cases r with
    | error e=>exact (hCX H e s' h).elim
    | ok fl =>
      cases fl with
      | next=>exact False.elim h
      | brk=>exact False.elim h
      | cont=>exact False.elim h
      | ret u =>
        obtain ⟨v,H',os,bare,un,hok',r',q⟩:=h
        have q':v=.bl true:=q
        subst q'
        obtain rfl:u=Value.bool true:=r'
        refine ⟨rfl,OldK.of_keep fun b o e=>?_,os,bare⟩
        cases q:H b with
        | none=>exact un.keep b o e q (by intro z;exact absurd (show b∈([]:List Addr) from z) (by simp)) (by simp)
        | some u =>
          rcases hO b with z | ⟨ob,xs,z⟩
          · rw [q] at z;cases z
          · have z2:=un.frzs b ob _ z
            obtain ⟨e1,_⟩:=hok b _ z
            obtain ⟨e2,_⟩:=hok' b _ z2
            rw [e] at e1;cases e1
            exact e2
  cases hk:K.lookup a with
  | some o =>
    -- the script is one of the module's own objects
    have e:=KX a o hk
    rw [ha] at e
    cases e
    refine core (fun _=>none) (fun _=>.inl rfl) (.inr ⟨_,vs.toArray,_,hk,rfl,rfl,rfl,by rw [List.size_toArray,lenV];exact hl,by simpa using rv⟩) (fun b u z=>by have z':(none:Option HO)=some u:=z;cases z') (fun b z=>absurd rfl z) fun z=>absurd rfl z
  | none =>
    refine core (fun b=>if b=a then some (.frz { cls:=.type "list",data:=.seq vs.toArray } (.lst (ns.map V.int))) else none) (fun b=>?_) (.inl (.inr ⟨{ cls:=.type "list",data:=.seq vs.toArray },if_pos rfl⟩)) (fun b u z=>?_) (fun b z=>?_) fun _=>hk
    · by_cases hb:b=a
      · exact .inr ⟨_,_,if_pos hb⟩
      · exact .inl (if_neg hb)
    · by_cases hb:b=a
      · have z':=(if_pos hb).symm.trans z
        cases z'
        subst hb
        exact ⟨ha,by rw [List.length_map];exact hl,vs,_,rv,ha⟩
      · have z':=(if_neg hb).symm.trans z
        cases z'
    · by_cases hb:b=a
      · exact hb
      · exact absurd (if_neg hb) z
theorem walk_of {l:PySem.W.OpenLaw} {n k:Nat} {q:Program} {loose:List Str} {XP:(Str→Option Value)→Heap→Prop} {YP:World→Heap→Prop} {d:DefRec} {K:Params→PySem.W.Frag} {CX:World→CXT} {sp:World→Sp} {x:Str}
    (hn:l.most=some n) (hn2:n≤sizeLine) (hdf:d.params.defaults=[]) (hr:Room k callerA)
    (hY:∀ (w:World) (h:Heap),YP w h→(K w.params).In h)
    (F:∀ (w:World) (mg:Str→Option Value) (fa:Addr) (h:Heap),(K w.params).In h→h.Ns mainGlobals mg→mg d.name=some (.ref fa) →
      ∃ fd:FuncData,(∀ (s:Shared) (u:Value),BindsTo s fd ⟨[u],[]⟩ [(x,u)]) ∧
        ∀ base:Heap,(K w.params).In base→base.Ns mainGlobals mg→FnOk l.prog w (K w.params) mg base (CX w) k fa fd [x] (sp w))
    (hsp:∀ (w:World) (H:Hp) (a:Addr) (ns:List Int),ns.length≤n→Only H→SqL (K w.params) H a (ns.map V.int)→sp w [.ref a] H (fun v _=>v=.bl true) fun _ _ _=>False)
    (hCX:∀ (w:World) (H:Hp) (s:Shared) (e:Value) (s':Shared),CX w [] H s (fun _ _ _=>False) e s'→False) :
    PySem.W.WalkO q loose XP YP l.row.toRowW d [] (fun f vs=>PySem.call f vs):=by
  refine Att.attach_call hn hdf fun w s₀ s₁ mg mb fa o pm cd doc a vs ns G Y ho hd hcd hmg hobj hints hlen hg=>?_
  have KX:=hY w _ Y
  obtain ⟨fd,hb,hF⟩:=F w mg fa _ KX G.T.g hmg
  exact law_call KX G.T.g G.T.b G.T.builtins G.T.nolimit hg hobj hints (Nat.le_trans hlen hn2) hr hF hb (fun H hO hS=>hsp w H a ns hlen hO hS) fun H e s'=>hCX w H s₁ e s'
end L2
/- THE LAST THEOREM (shape;LID,My.* are yours):
   My.Adr: a structure of the addresses that your layer names (classes,functions);My.Txt K t: a structure (Prop) of the equations over K;
   My.txt_mk:{K} {implicit addresses ..} (e1:nsIn K mainGlobals "law"=some (some (.ref f))) (e2:K.lookup f=some ⟨oc,od,.func (fnOf "law" "law" params body scope dV kV doc pm an cdv ct),sl⟩) (e3:codeIn K cdv "law"=true) ..:∃ t,My.Txt K t
set_option maxRecDepth 100000 in
set_option maxHeartbeats 0 in
theorem PySem.Challenge.cw_LID_holds : PySem.Challenge.rw_LID.Holds := by
  w_on;o_law;k_head;(case hw=>w_witness2)
  k_fill
  refine L2.walk_of (l:=PySem.Challenge.rw_LID) (n:=63) (k:=40) (x:="script") (CX:=fun w=>..) (sp:=fun _=>My.sp_law) rfl (by decide) rfl ⟨rfl,by decide,by decide⟩ (fun w h Y=>PySem.W.kIn_of Y) ?F ?S ?C
  case F =>
    intro w mg fa h KX G hmg
    have T:∃ t,My.Txt (L2.KOf KX) t:=by
      dsimp only [L2.KOf]                          -- K must stand as «<heap const> w.params» for k_is
      refine' My.txt_mk ?e1 ?e2 ?e3 ..
      (case e1 => PySem.W.k_is)                    -- in the order: a name -> its address -> its object -> its parts
      (case e2=>PySem.W.k_is)
      ..
    obtain ⟨t,T⟩:=T
    have e0:=hmg.symm.trans (PySem.W.mg_of KX G T.law)
    cases e0                                       -- fa is the law's own address
    exact ⟨_, fun s u => .of_eq rfl, fun base kb nb => My.law_fn T kb nb⟩     -- if «.of_eq rfl» comes too early: refine' ⟨_, ?b, fun base kb nb => My.law_fn T kb nb⟩; exact fun s u => .of_eq rfl
  case S=>exact fun w H a ns hl hO hS=>..
  case C=>exact ..
(the tactic k_is has no namespace: write k_is) -/
namespace L2
open PySem PySem.Spec PyProof.Rows
def defArgs (s:Stmt):Arguments:=match s with
  | .FunctionDef _ a _ _ _ _ _ _ _ _=>a
  | _=>{ posonlyargs:=[],args:=[],vararg:=none,kwonlyargs:=[],kw_defaults:=[],kwarg:=none,defaults:=[] }
def defBody (s:Stmt):List Stmt:=match s with
  | .FunctionDef _ _ b _ _ _ _ _ _ _=>b
  | _=>[]
def defScope (s:Stmt):Scope:=match s with
  | .FunctionDef _ _ _ _ _ _ sc _ _ _=>sc
  | _=>{ kind:=.function,names:=[],isGenerator:=false,isCoroutine:=false }
abbrev CX0:CXT:=fun _ _ _ _ _ _=>False
abbrev E0:XK:=fun _ _ _=>False
theorem pass0 {X:Cx}:Passes CX0 X E0:=fun _ _ _ _ _ _ _ h=>h.elim
structure Fun (K:PySem.W.Frag) (x qual:Str) (st:Stmt) (f:Addr) (fd:FuncData):Prop where
  ex:∃ (oc:Value) (od:Option Addr) (kV doc pm:Value) (an:Option Addr) (cdv ct:Value) (osl:Array (Option Value)),
    fd=PySem.W.fnOf x qual (defArgs st) (defBody st) (defScope st) .none kV doc pm an cdv ct∧K.lookup f=some ⟨oc,od,.func fd,osl⟩∧PySem.W.codeIn K cdv qual=true
  kp:PySem.W.keepIn K (.ref f)=true
section
variable {P:Program} {w:World} {K:PySem.W.Frag} {mg:Str→Option Value} {base:Heap}
theorem Fun.ok {x qual:Str} {st:Stmt} {f:Addr} {fd:FuncData} {N ps:List Str} {k:Nat} {sp:Sp} (F:Fun K x qual st f fd) (S:FnScope N ps (defScope st)) (len:∀ vs H Q E,sp vs H Q E→vs.length=ps.length)
    (hbody:∀ (cdv:Value) (A:Around) (outer:List Env) (s:Shared) (H:Hp) (vs:List V) (Q:VK) (E:XK),Room k (A.deeper (envOfC qual (defScope st) s.heap.objs.size f cdv))→sp vs H Q E →
      ∃ t,PSs (cxOf CX0 P w K mg base N qual (defScope st) f cdv A outer s H E).nox (defBody st) t∧t { nx:=fun _ H'=>Q .non H',rt:=Q } (start N vs) H):FnOk P w K mg base CX0 (k + 1) f fd ps sp:=by
  obtain ⟨oc,od,kV,doc,pm,an,cdv,ct,osl,rfl,lk,hcd⟩:=F.ex
  refine fn_of lk hcd S len fun A outer s H vs Q E hr hsp=>?_
  obtain ⟨t,h,q⟩:=hbody cdv A outer s H vs Q E hr hsp
  exact ⟨t,h.nox,q⟩
theorem Fun.binds {x qual:Str} {st:Stmt} {f:Addr} {fd:FuncData} {ps:List Str} (F:Fun K x qual st f fd)
    (h:∀ (kV doc pm:Value) (an:Option Addr) (cdv ct:Value) (us:List Value),us.length=ps.length→bindArgs (PySem.W.fnOf x qual (defArgs st) (defBody st) (defScope st) .none kV doc pm an cdv ct) ⟨us,[]⟩=pure (ps.zip us)):Binds K fd ps []:=by
  obtain ⟨oc,od,kV,doc,pm,an,cdv,ct,osl,rfl,lk,hcd⟩:=F.ex
  exact .all (h kV doc pm an cdv ct)
theorem fun_mk {x qual:Str} {st:Stmt} {f:Addr} {oc:Value} {od an:Option Addr} {osl:Array (Option Value)} {kV doc pm cdv ct:Value} (l:K.lookup f=some ⟨oc,od,.func (PySem.W.fnOf x qual (defArgs st) (defBody st) (defScope st) .none kV doc pm an cdv ct),osl⟩)
    (c:PySem.W.codeIn K cdv qual=true) (k:PySem.W.keepIn K (.ref f)=true):Fun K x qual st f (PySem.W.fnOf x qual (defArgs st) (defBody st) (defScope st) .none kV doc pm an cdv ct):=⟨⟨oc,od,kV,doc,pm,an,cdv,ct,osl,rfl,l,c⟩,k⟩
end
theorem hu_of {A:Around} {k:Nat} (hr:Room k A):A.units + 1 < cLine:=Nat.lt_of_le_of_lt (Nat.add_le_add_left (by decide:1≤64) _) hr.units
section
variable {X:Cx}
end
theorem ite2 {c A B:Prop} [Decidable c] (h1:c→A) (h2:¬ c→B):if c then A else B:=by
  by_cases h:c
  · rw [if_pos h]
    exact h1 h
  · rw [if_neg h]
    exact h2 h
section
variable {κ:Type} [DecidableEq κ]
def valV (kvs:List (κ × V)) (k:κ):Option V:=(kvs.find? fun kv=>decide (kv.1=k)).map (·.2)
def putK (kvs:List (κ × V)) (k:κ) (v:V):List (κ × V) :=
  if (kvs.any fun kv=>decide (kv.1=k))=true then kvs.map (fun kv=>if kv.1=k then (kv.1,v) else kv) else kvs++[(k,v)]
def dropK (kvs:List (κ × V)) (k:κ):List (κ × V):=kvs.filter fun kv=>decide (kv.1≠k)
theorem valV_pos {p:κ × V} {r:List (κ × V)} {k:κ} (e:p.1=k):valV (p :: r) k=some p.2:=by simp [valV,List.find?_cons,e]
theorem valV_neg {p:κ × V} {r:List (κ × V)} {k:κ} (e:¬ p.1=k):valV (p :: r) k=valV r k:=by simp [valV,List.find?_cons,e]
theorem valV_any (k:κ):∀ kvs:List (κ × V),(kvs.any fun kv=>decide (kv.1=k))=(valV kvs k).isSome
  | []=>rfl
  | p :: r=>by
    rw [List.any_cons]
    by_cases e:p.1=k
    · simp only [valV_pos e,decide_eq_true e,Bool.true_or,Option.isSome_some]
    · rw [valV_neg e,decide_eq_false e,Bool.false_or];exact valV_any k r
theorem valV_map (k j:κ) (y:V):∀ kvs:List (κ × V),valV (kvs.map fun kv=>if kv.1=k then (kv.1,y) else kv) j=(valV kvs j).map fun x=>if j=k then y else x
  | []=>rfl
  | p :: r=>by
    have ih:=valV_map k j y r
    rw [List.map_cons]
    by_cases h:p.1=k
    · rw [if_pos h]
      by_cases e:p.1=j
      · rw [valV_pos (p:=(p.1,y)) e,valV_pos e,Option.map_some,if_pos (e.symm.trans h)]
      · rw [valV_neg (p:=(p.1,y)) e,valV_neg e,ih]
    · rw [if_neg h]
      by_cases e:p.1=j
      · rw [valV_pos (p:=p) e,valV_pos e,Option.map_some,if_neg (fun z=>h (e.trans z))]
      · rw [valV_neg (p:=p) e,valV_neg e,ih]
theorem length_putK (kvs:List (κ × V)) (k:κ) (v:V):(putK kvs k v).length≤kvs.length + 1:=by
  unfold putK
  split
  · rw [List.length_map];omega
  · rw [List.length_append,List.length_cons,List.length_nil];omega
theorem putK_new {kvs:List (κ × V)} {k:κ} (v:V) (h:valV kvs k=none):putK kvs k v=kvs++[(k,v)]:=by
  unfold putK
  rw [valV_any,h]
  exact if_neg (by decide)
theorem RelO.isSome_eq {o:Option V} {u:Option Value} (r:RelO o u):o.isSome=u.isSome:=by
  cases o with
  | none=>cases u with
    | none=>rfl
    | some _=>exact (show False from r).elim
  | some _=>cases u with
    | none=>exact (show False from r).elim
    | some _=>rfl
theorem RelO.getD {o:Option V} {u:Option Value} {d:V} {d':Value} (r:RelO o u) (rd:RelV d d'):RelV (o.getD d) (u.getD d'):=by
  cases o with
  | none=>cases u with
    | none=>exact rd
    | some _=>exact (show False from r).elim
  | some _=>cases u with
    | none=>exact (show False from r).elim
    | some _=>exact r
theorem KV.val {kvs:List (κ × V)} {vs:List (κ × Value)} (r:KV kvs vs) (k:κ):RelO (valV kvs k) (valueAt vs k):=by
  unfold KV at r
  induction r with
  | nil=>exact True.intro
  | @cons p q ps qs h t ih =>
    obtain ⟨h1,h2⟩:=h
    by_cases e:p.1=k
    · have e':q.1=k:=h1.symm.trans e
      have b:valueAt (q :: qs) k=some q.2:=by simp [valueAt,List.find?_cons,e']
      rw [valV_pos e,b];exact h2
    · have e':¬ q.1=k:=fun z=>e (h1.trans z)
      have b:valueAt (q :: qs) k=valueAt qs k:=by simp [valueAt,List.find?_cons,e']
      rw [valV_neg e,b];exact ih
theorem KV.any {kvs:List (κ × V)} {vs:List (κ × Value)} (r:KV kvs vs) (k:κ):(kvs.any fun kv=>decide (kv.1=k))=vs.any fun kv=>decide (kv.1=k):=by
  unfold KV at r
  induction r with
  | nil=>rfl
  | cons h t ih=>rw [List.any_cons,List.any_cons,ih,h.1]
theorem KV.repl {kvs:List (κ × V)} {vs:List (κ × Value)} (r:KV kvs vs) (k:κ) {y:V} {u:Value} (ry:RelV y u) :
    KV (kvs.map fun kv=>if kv.1=k then (kv.1,y) else kv) (vs.map fun kv=>if kv.1=k then (kv.1,u) else kv):=by
  unfold KV at r ⊢
  induction r with
  | nil=>exact .nil
  | @cons p q ps qs h t ih =>
    rw [List.map_cons,List.map_cons]
    refine .cons ?_ ih
    obtain ⟨h1,h2⟩:=h
    by_cases e:p.1=k
    · rw [if_pos e,if_pos (h1.symm.trans e)];exact ⟨h1,ry⟩
    · rw [if_neg e,if_neg (fun z=>e (h1.trans z))];exact ⟨h1,h2⟩
theorem KV.put {kvs:List (κ × V)} {vs:List (κ × Value)} (r:KV kvs vs) (k:κ) {y:V} {u:Value} (ry:RelV y u):KV (putK kvs k y) (stored vs k u):=by
  unfold putK stored
  rw [r.any k]
  by_cases e:(vs.any fun kv=>decide (kv.1=k))=true
  · rw [if_pos e,if_pos e];exact r.repl k ry
  · rw [if_neg e,if_neg e];exact Paired.snoc r ⟨rfl,ry⟩
theorem KV.length {kvs:List (κ × V)} {vs:List (κ × Value)} (r:KV kvs vs):kvs.length=vs.length:=Paired.length r
end
theorem kV_is {P:Program} {w:World} {k:Key} {u:Value} (r:RelV (kV k) u):(mixKind P w).is k u=true:=by
  cases k with
  | inl i=>obtain ⟨t,e⟩:=(show ∃ t,u=Value.int i t from r);subst e;exact mixKind_int P w i t
  | inr x=>obtain ⟨t,e⟩:=(show ∃ t,u=Value.str x t from r);subst e;exact mixKind_str P w x t
theorem kV_inj {a b:Key} (e:kV a=kV b):a=b:=by
  cases a with
  | inl i=>cases b with
    | inl j=>have e':V.int i=V.int j:=e;injection e' with e';rw [e']
    | inr y=>exact nomatch (show V.int i=V.str y from e)
  | inr x=>cases b with
    | inl j=>exact nomatch (show V.str x=V.int j from e)
    | inr y=>have e':V.str x=V.str y:=e;injection e' with e';rw [e']
theorem kVs_inj:∀ {a b:List Key},a.map kV=b.map kV→a=b
  | [],[],_=>rfl
  | [],_ :: _,e=>by simp at e
  | _ :: _,[],e=>by simp at e
  | x :: xs,y :: ys,e=>by
    rw [List.map_cons,List.map_cons] at e
    injection e with e1 e2
    rw [kV_inj e1,kVs_inj e2]
theorem items_are {P:Program} {w:World}:∀ {ks:List Key} {us:List Value},Vals (ks.map kV) us→ItemsAre (mixKind P w) ks us
  | [],_,r=>by rw [List.map_nil] at r;cases r;exact .nil
  | k :: ks,_,r=>by
    rw [List.map_cons] at r
    cases r with
    | cons h t=>exact .cons (kV_is h) (items_are t)
abbrev KTp (H:Hp):List (List Key × V)→List (List Key × Addr × Value)→Prop:=Paired fun p q=>p.1=q.1∧H q.2.1=some (.tup (p.1.map kV))∧RelV p.2 q.2.2
theorem KTp.val {H:Hp} {kvs:List (List Key × V)} {xs:List (List Key × Addr × Value)} (r:KTp H kvs xs) (k:List Key):RelO (valV kvs k) ((atKey xs k).map (·.2)):=by
  induction r with
  | nil=>exact True.intro
  | @cons p q ps qs h t ih =>
    obtain ⟨h1,_,h2⟩:=h
    by_cases e:p.1=k
    · have e':q.1=k:=h1.symm.trans e
      have b:atKey (q :: qs) k=some q.2:=by simp [atKey,List.find?_cons,e']
      rw [valV_pos e,b];exact h2
    · have e':¬ q.1=k:=fun z=>e (h1.trans z)
      have b:atKey (q :: qs) k=atKey qs k:=by simp [atKey,List.find?_cons,e']
      rw [valV_neg e,b];exact ih
theorem KTp.repl {H:Hp} {kvs:List (List Key × V)} {xs:List (List Key × Addr × Value)} (r:KTp H kvs xs) (k:List Key) {y:V} {u:Value} (ry:RelV y u) :
    KTp H (kvs.map fun kv=>if kv.1=k then (kv.1,y) else kv) (xs.map (putAt k u)):=by
  induction r with
  | nil=>exact .nil
  | @cons p q ps qs h t ih =>
    rw [List.map_cons,List.map_cons]
    refine .cons ?_ ih
    obtain ⟨h1,h2,h3⟩:=h
    unfold putAt
    by_cases e:p.1=k
    · rw [if_pos e,if_pos (h1.symm.trans e)];exact ⟨h1,h2,ry⟩
    · rw [if_neg e,if_neg (fun z=>e (h1.trans z))];exact ⟨h1,h2,h3⟩
theorem KTp.put {H:Hp} {kvs:List (List Key × V)} {xs:List (List Key × Addr × Value)} (r:KTp H kvs xs) (k:List Key) {b:Addr} {y:V} {u:Value} (hb:H b=some (.tup (k.map kV))) (ry:RelV y u) :
    KTp H (putK kvs k y) (storedH xs k b u):=by
  have e:(kvs.any fun kv=>decide (kv.1=k))=(atKey xs k).isSome:=by
    rw [valV_any,(r.val k).isSome_eq,Option.isSome_map]
  unfold putK storedH
  rw [e]
  by_cases q:(atKey xs k).isSome=true
  · rw [if_pos q,if_pos q];exact r.repl k ry
  · rw [if_neg q,if_neg q];exact Paired.snoc r ⟨rfl,hb,ry⟩
theorem KTp.keeps {H H':Hp} {kvs:List (List Key × V)} {xs:List (List Key × Addr × Value)} (r:KTp H kvs xs) (ht:∀ b ys,H b=some (.tup ys)→H' b=some (.tup ys)):KTp H' kvs xs :=
  Paired.mapP r fun _ _ z=>⟨z.1,ht _ _ z.2.1,z.2.2⟩
section
variable {P:Program} {w:World} {H:Hp} {h:Heap} {a:Addr}
theorem rd_of {u:HO} (ok:HOk P w H h) (e:Rd H a u):ObjOk P w H h a u:=e.ok ok
theorem dk_rd {kvs:List (Key × V)} (ok:HOk P w H h) (e:Rd H a (.dK kvs)):kvs.length≤sizeLine∧(a == sysModules)=false∧∃ vs,KV kvs vs∧h.DictOf (mixKind P w) a vs :=
  show ObjOk P w H h a (.dK kvs) from rd_of ok e
theorem dk_of {kvs:List (Key × V)} (ok:HOk P w H h) (e:H a=some (.dK kvs)):kvs.length≤sizeLine∧(a == sysModules)=false∧∃ vs,KV kvs vs∧h.DictOf (mixKind P w) a vs:=dk_rd ok (.inl e)
theorem key_of {ks:List Key} (ok:HOk P w H h) (e:H a=some (.tup (ks.map kV))):(tupleKind (mixKind P w)).is h ks a:=by
  obtain ⟨_,its,r,o,h1,h2,n,h3⟩:=(show ObjOk P w H h a (.tup (ks.map kV)) from ok a _ e)
  exact ⟨o,its.toArray,n,h1,h2,h3,by simpa using items_are r⟩
theorem dt_rd {kvs:List (List Key × V)} (ok:HOk P w H h) (e:Rd H a (.dT kvs)):kvs.length≤sizeLine∧(a == sysModules)=false ∧
    ∃ xs,KTp H kvs xs∧h.DictOfH (tupleKind (mixKind P w)) a xs:=by
  obtain ⟨z,y,xs,r,o,es,ep,h1,h2,h3,h4,h5⟩:=(show ObjOk P w H h a (.dT kvs) from rd_of ok e)
  refine ⟨z,y,xs,r,o,es,ep,h1,h2,h3,h4,fun x hx=>?_,h5⟩
  have all:∀ {l:List (List Key × V)} {m:List (List Key × Addr × Value)},KTp H l m→∀ x∈m,(tupleKind (mixKind P w)).is h x.1 x.2.1:=by
    intro l m q
    induction q with
    | nil=>intro x hx;exact nomatch hx
    | @cons p q ps qs hq t ih =>
      intro x hx
      rcases List.mem_cons.mp hx with e | hx
      · subst e
        exact key_of ok (by rw [← hq.1];exact hq.2.1)
      · exact ih x hx
  exact all r x hx
theorem dt_of {kvs:List (List Key × V)} (ok:HOk P w H h) (e:H a=some (.dT kvs)):kvs.length≤sizeLine∧(a == sysModules)=false ∧
    ∃ xs,KTp H kvs xs∧h.DictOfH (tupleKind (mixKind P w)) a xs:=dt_rd ok (.inl e)
end
def DGet (H:Hp) (a:Addr) (y:V) (r:Option V):Prop :=
  (∃ kvs k,Rd H a (.dK kvs)∧y=kV k∧r=valV kvs k)∨∃ kvs k b,Rd H a (.dT kvs)∧y=.ref b∧H b=some (.tup (k.map kV))∧r=valV kvs k
def DPut (H:Hp) (a:Addr) (y v:V) (H':Hp):Prop :=
  (∃ kvs k,H a=some (.dK kvs)∧y=kV k∧kvs.length < sizeLine∧H'=upd H a (.dK (putK kvs k v))) ∨
  ∃ kvs k b,H a=some (.dT kvs)∧y=.ref b∧H b=some (.tup (k.map kV))∧kvs.length < sizeLine∧H'=upd H a (.dT (putK kvs k v))
theorem DPut.k {H:Hp} {a:Addr} {kvs:List (Key × V)} {k:Key} {v:V} (e:H a=some (.dK kvs)) (hl:kvs.length < sizeLine):DPut H a (kV k) v (upd H a (.dK (putK kvs k v))):=.inl ⟨kvs,k,e,rfl,hl,rfl⟩
theorem DPut.t {H:Hp} {a b:Addr} {kvs:List (List Key × V)} {k:List Key} {v:V} (e:H a=some (.dT kvs)) (eb:H b=some (.tup (k.map kV))) (hl:kvs.length < sizeLine) :
    DPut H a (.ref b) v (upd H a (.dT (putK kvs k v))):=.inr ⟨kvs,k,b,e,rfl,eb,hl,rfl⟩
section
variable {X:Cx} {pins:List (Addr × Obj)} {σ:St} {H:Hp} {s:Shared} {a:Addr} {y v:V} {u r:Value} {o:Option V} {A:Around} {E:Value→Shared→Prop}
theorem Inv.big (I:Inv X pins σ H s):sysModules < s.heap.objs.size:=by
  have h:mainGlobals < s.heap.objs.size:=(I.mod.glob.keeps I.bk).lt
  exact Nat.lt_trans (by decide) h
theorem d_getItem {Q:Value→Shared→Prop} (hu:A.units + 1 < cLine) (I:Inv X pins σ H s) (g:DGet H a y (some v)) (ry:RelV y u) (h:∀ w' s',Inv X pins σ H s'→RelV v w'→Q w' s') :
    wpAny (model X.prog X.w) A (getItem (.ref a) u) Q E s:=by
  rcases g with ⟨kvs,k,e,ey,l⟩ | ⟨kvs,k,b,e,ey,eb,l⟩
  · subst ey
    obtain ⟨z,hd,vs,rel,dd⟩:=dk_rd I.hok e
    obtain ⟨w',hw,rw'⟩:=RelO.some_of (v:=v) (o:=valueAt vs k) (by rw [l];exact rel.val k)
    exact wpAny_getItem_of (kV_is ry) dd.mapOf hw (h w' _ (I.tok _) rw')
  · subst ey
    cases (show u=Value.ref b from ry)
    obtain ⟨z,hd,xs,rel,dd⟩:=dt_rd I.hok e
    obtain ⟨w',hw,rw'⟩:=RelO.some_of (v:=v) (o:=(atKey xs k).map (·.2)) (by rw [l];exact rel.val k)
    obtain ⟨p,hp,hp2⟩:=Option.map_eq_some_iff.mp hw
    refine wpAny_getItem_heap (tupleKind_room_in1 hu) (key_of I.hok eb) dd hp ?_
    rw [hp2]
    exact h w' _ (I.tok _) rw'
theorem d_write {h':Heap} {t':Nat} {ob:HO} (I:Inv X pins σ H s) (mu:Mut (H a)) (hs:Heap.SameBut a s.heap h') (he:∃ q,h'.get? a=some q) (new:ObjOk X.prog X.w (upd H a ob) h' a ob) :
    Inv X pins σ (upd H a ob) { s with heap:=h',toks:=t' } :=
  I.write (x:=a) (e:=a) mu (.inl rfl) (fun b q hb z=>(hs.2 b hb).trans z) he new
theorem dk_new {P:Program} {w:World} {H':Hp} {h':Heap} {kvs:List (Key × V)} {vs:List (Key × Value)} (z:kvs.length≤sizeLine) (hd:(a == sysModules)=false) (rel:KV kvs vs) (dd:h'.DictOf (mixKind P w) a vs) :
    ObjOk P w H' h' a (.dK kvs):=⟨z,hd,vs,rel,dd⟩
theorem d_setItem {H':Hp} {Q:Unit→Shared→Prop} (hu:A.units + 1 < cLine) (I:Inv X pins σ H s) (g:DPut H a y v H') (ry:RelV y u) (rv:RelV v r) (h:∀ s',Inv X pins σ H' s'→Q () s') :
    wpAny (model X.prog X.w) A (setItem (.ref a) u r) Q E s:=by
  rcases g with ⟨kvs,k,e,ey,l,eH⟩ | ⟨kvs,k,b,e,ey,eb,l,eH⟩
  · subst ey eH
    obtain ⟨z,hd,vs,rel,dd⟩:=dk_of I.hok e
    have hz:vs.length≤sizeLine:=by rw [← rel.length];exact z
    have hl:(putK kvs k v).length≤sizeLine:=by have:=length_putK kvs k v;omega
    refine wpAny_setItem_pairs (hsz:=hz) (kV_is ry) dd fun h' dd' hs=>h _ ?_
    have he:∃ q,h'.get? a=some q:=let ⟨q,_,_,hq,_⟩:=dd';⟨q,hq⟩
    exact d_write I (by rw [e];exact True.intro) hs he (dk_new hl hd (rel.put k rv) dd')
  · subst ey eH
    cases (show u=Value.ref b from ry)
    obtain ⟨z,hd,xs,rel,dd⟩:=dt_of I.hok e
    have hz:xs.length≤sizeLine:=by rw [← Paired.length rel];exact z
    have hl:(putK kvs k v).length≤sizeLine:=by have:=length_putK kvs k v;omega
    refine wpAny_setItem_heap (hsz:=hz) (tupleKind_room_in1 hu) (key_of I.hok eb) dd fun h' dd' hs=>h _ ?_
    obtain ⟨q,es,ep,hq,h2,h3,h4,_,h5⟩:=dd'
    refine d_write I (by rw [e];exact True.intro) hs ⟨q,hq⟩ ⟨hl,hd,_,(rel.put k eb rv).keeps fun c ys ec=>?_,q,es,ep,hq,h2,h3,h4,h5⟩
    rw [upd_ne (ne_of ec e (fun z=>nomatch z))]
    exact ec
end
section
variable {X:Cx} {pins:List (Addr × Obj)} {σ:St} {H:Hp} {s:Shared} {a:Addr} {kvs:List (Key × V)} {k:Key} {u:Value} {A:Around} {E:Value→Shared→Prop}
end
def NoSl (i:Expr):Prop:=∀ ov iv,subscripted i false ov iv=operate [ov,iv] (getItem ov iv)
theorem subD_of {prog:Program} {w:World} {A:Around} {E:Value→Shared→Prop} {s:Shared} {env:Env} {value slice:Expr} {pos:Pos} {T id:String} {Q:Value→Shared→Prop}
    (hl:typeLookup (.type T) "__getitem__"=pure (some (.builtin id))) (hs:NoSl slice)
    (h:wpAny (model prog w) A (eval value env) (fun o s₁=>wpAny (model prog w) A (eval slice env) (fun i s₂=>s₂.TypeIs o T∧wpAny (model prog w) A (getItem o i) Q E s₂) E s₁) E s) :
    wpAny (model prog w) A (eval (.Subscript value slice pos) env) Q E s:=by
  refine Subscript_ (wpAny_mono h (fun o s₁ h₁=>wpAny_mono h₁ (fun i s₂ h₂=>?_) fun _ _ x=>x) fun _ _ x=>x)
  obtain ⟨hT,h₂⟩:=h₂
  unfold subscriptTail
  refine wpAny_bind ?_
  rw [getitemInPython_of_ne hT.not_modules]
  refine wpAny_bind (wpAny_specialOf hT hl ?_)
  have fin:wpAny (model prog w) A (subscripted slice false o i) (fun r s₃=>wpAny (model prog w) A (letTemporaryGo value o r >>= fun _=>pure r) Q E s₃) E s₂:=by
    rw [hs o i]
    exact wpAny_operating (wpAny_mono h₂ (fun r s₃ h₃=>wpAny_bind (wpAny_letTemporaryGo (wpAny_pure h₃))) fun _ _ x=>x)
  first
    | exact wpAny_pure (wpAny_bind fin)
    | exact wpAny_bind (wpAny_pure (wpAny_bind fin))
    | exact wpAny_bind fin
theorem dict_typeIs {X:Cx} {pins:List (Addr × Obj)} {σ:St} {H:Hp} {s:Shared} {a:Addr} {y:V} {o:Option V} (I:Inv X pins σ H s) (g:DGet H a y o):s.TypeIs (.ref a) "dict":=by
  rcases g with ⟨kvs,k,e,_,_⟩ | ⟨kvs,k,b,e,_,_,_⟩
  · obtain ⟨_,_,vs,_,dd⟩:=dk_rd I.hok e
    exact dd.typeIs
  · obtain ⟨_,_,xs,_,dd⟩:=dt_rd I.hok e
    exact dd.typeIs
def tDGet (td ty:TE):TE:=fun σ H Q=>td σ H fun x H1=>ty σ H1 fun y H2=>∃ a v,x=.ref a∧DGet H2 a y (some v)∧Q v H2
def sDPut (td ty tv:TE):TS:=fun D σ H=>tv σ H fun v H1=>td σ H1 fun x H2=>ty σ H2 fun y H3=>∃ a H4,x=.ref a∧DPut H3 a y v H4∧D.nx σ H4
section
variable {X:Cx} {o i e value:Expr} {pos pos' tpos:Pos} {td ty tv:TE}
theorem pe_dget (hu:X.A.units + 1 < cLine) (ho:PE X o td) (hi:PE X i ty) (hs:NoSl i):PE X (.Subscript o i pos) (tDGet td ty):=by
  intro pins s σ H Q I h
  refine subD_of PySem.F.slot_dict_getitem.lookup hs (thn (ho pins s σ H _ I h) fun u s1 ⟨x,H1,I1,rx,q1⟩=>thn (hi pins s1 σ H1 _ I1 q1) fun iv s2 ⟨y,H2,I2,ry,a,v,ex,g,q2⟩=>?_)
  subst ex
  obtain rfl:u=Value.ref a:=rx
  exact ⟨dict_typeIs I2 g,d_getItem hu I2 g ry fun w' s3 I3 rw'=>⟨v,H2,I3,rw',q2⟩⟩
theorem ps_dput (hu:X.A.units + 1 < cLine) (ho:PE X o td) (hi:PE X i ty) (hv:PE X value tv) (hs:swapsWith value (some (.Subscript o i pos')) pos.line X.env=pure false) :
    PS X (.Assign [.Subscript o i pos'] value pos) (sDPut td ty tv):=by
  intro pins s σ H D I h
  refine wpAny_Assign_Subscript (thn (hv pins s σ H _ I h) fun r s1 ⟨v,H1,I1,rv,q1⟩=>thn (ho pins s1 σ H1 _ I1 q1) fun u s2 ⟨x,H2,I2,rx,q2⟩=>thn (hi pins s2 σ H2 _ I2 q2) fun iv s3 ⟨y,H3,I3,ry,a,H4,ex,g,q3⟩=>?_) hs
  subst ex
  obtain rfl:u=Value.ref a:=rx
  exact d_setItem hu I3 g ry rv fun s4 I4=>⟨σ,H4,I4,q3⟩
end
theorem dk_empty {P:Program} {w:World} {H:Hp} (h:Heap) (hb:sysModules < h.objs.size):ObjOk P w H (h.push { cls:=.type "dict",data:=.dict #[] }) h.objs.size (.dK []) :=
  ⟨Nat.zero_le _,beq_eq_false_iff_ne.mpr (Ne.symm (Nat.ne_of_lt hb)),[],.nil,Heap.DictOf.new h⟩
theorem dt_empty {P:Program} {w:World} {H:Hp} (h:Heap) (hb:sysModules < h.objs.size):ObjOk P w H (h.push { cls:=.type "dict",data:=.dict #[] }) h.objs.size (.dT []) :=
  ⟨Nat.zero_le _,beq_eq_false_iff_ne.mpr (Ne.symm (Nat.ne_of_lt hb)),[],.nil,_,#[],0,Heap.get?_push_size _ rfl,⟨rfl,rfl,rfl⟩,rfl,rfl,List.nodup_nil⟩
def tDNewK:TE:=fun _ H Q=>∀ p,H p=none→Q (.ref p) (upd H p (.dK []))
def tDNewT:TE:=fun _ H Q=>∀ p,H p=none→Q (.ref p) (upd H p (.dT []))
section
variable {X:Cx} {pos:Pos}
theorem pe_dnewK:PE X (.Dict [] [] pos) tDNewK:=fun pins s σ H Q I h =>
  wpAny_Dict_empty ⟨.ref s.heap.objs.size,_,I.laid (a:=s.heap.objs.size) (o:=.dK []) (t':=s.toks) (fun _ _ q=>Heap.get?_push_of_some _ q) (Nat.le_refl _) (dk_empty s.heap I.big),rfl,h _ (I.hok.fresh (Nat.le_refl _))⟩
theorem pe_dnewT:PE X (.Dict [] [] pos) tDNewT:=fun pins s σ H Q I h =>
  wpAny_Dict_empty ⟨.ref s.heap.objs.size,_,I.laid (a:=s.heap.objs.size) (o:=.dT []) (t':=s.toks) (fun _ _ q=>Heap.get?_push_of_some _ q) (Nat.le_refl _) (dt_empty s.heap I.big),rfl,h _ (I.hok.fresh (Nat.le_refl _))⟩
end
abbrev VV:List (V × V)→List (Value × Value)→Prop:=Paired fun p q=>RelV p.1 q.1∧RelV p.2 q.2
structure M2 (X:Cx) (o:Expr) (m:Str) (apos:Pos) (e f:Expr) (cpos:Pos):Prop where
  base:attributeBase o m X.env (eval o X.env)=eval o X.env
  few:((backTo cpos (starEach [e,f] X.env)).all (fun x=>!x.1) && (backToKw cpos (keywordEach [] X.env)).all (fun x=>x.1.isSome)
    && decide (([e,f]:List Expr).length + ([]:List Keyword).length + (if ([]:List Keyword).isEmpty then 0 else 1) < 30))=true
  line:(apos.endLine == cpos.line)=true
  trees:backTo cpos (starEach [e,f] X.env)=[(false,eval e X.env),(false,eval f X.env)]
def IsD (H:Hp) (a:Addr):Prop:=(∃ kvs,Rd H a (.dK kvs))∨∃ kvs,Rd H a (.dT kvs)
theorem isD_at {X:Cx} {pins:List (Addr × Obj)} {σ:St} {H:Hp} {s:Shared} {a:Addr} (I:Inv X pins σ H s) (d:IsD H a) :
    s.TypeIs (.ref a) "dict"∧(∀ b,Value.ref a=.ref b→∃ ob,s.heap.get? b=some ob∧ob.dict=none)∧(a == sysModules)=false:=by
  rcases d with ⟨kvs,e⟩ | ⟨kvs,e⟩
  · obtain ⟨_,hd,vs,_,dd⟩:=dk_rd I.hok e
    refine ⟨dd.typeIs,fun b q=>?_,hd⟩
    cases q
    obtain ⟨ob,_,_,h1,h2,_⟩:=dd
    exact ⟨ob,h1,h2.2.1⟩
  · obtain ⟨_,hd,xs,_,dd⟩:=dt_rd I.hok e
    refine ⟨dd.typeIs,fun b q=>?_,hd⟩
    cases q
    obtain ⟨ob,_,_,h1,h2,_⟩:=dd
    exact ⟨ob,h1,h2.2.1⟩
section
variable {X:Cx} {pins:List (Addr × Obj)} {σ:St} {H:Hp} {s:Shared} {a:Addr} {y d:V} {u r:Value} {o:Option V} {A:Around} {E:Value→Shared→Prop}
theorem d_get2 {Q:Value→Shared→Prop} (hu:A.units + 1 < cLine) (I:Inv X pins σ H s) (g:DGet H a y o) (ry:RelV y u) (rd:RelV d r) (h:∀ w' s',Inv X pins σ H s'→RelV (o.getD d) w'→Q w' s') :
    wpAny (model X.prog X.w) A (call (.builtin "dict.get") [.ref a,u,r]) Q E s:=by
  rcases g with ⟨kvs,k,e,ey,l⟩ | ⟨kvs,k,b,e,ey,eb,l⟩
  · subst ey
    obtain ⟨z,hd,vs,rel,dd⟩:=dk_rd I.hok e
    refine call_meetsIn PySem.F.slot_dict_get dd.typeIs PySem.F.entry_dict_get (PySem.F.args_dict_get_3 _ _ _) (meets_dict_get_default (mixKind X.prog X.w) a (kV_is ry) hd r) ⟨_,dd.mapOf,h _ _ (I.tok _) ?_⟩
    rw [l]
    exact (rel.val k).getD rd
  · subst ey
    cases (show u=Value.ref b from ry)
    obtain ⟨z,hd,xs,rel,dd⟩:=dt_rd I.hok e
    refine call_meetsIn PySem.F.slot_dict_get dd.typeIs PySem.F.entry_dict_get (PySem.F.args_dict_get_3 _ _ _) (meetsH_dict_get_default (tupleKind (mixKind X.prog X.w)) a b hd r) ⟨tupleKind_room_in1 hu,k,xs,key_of I.hok eb,dd,h _ _ (I.tok _) ?_⟩
    rw [l]
    exact (rel.val k).getD rd
end
def tDGet2 (td ty tx:TE):TE:=fun σ H Q=>td σ H fun x H1=>∃ a,x=.ref a∧IsD H1 a∧ty σ H1 fun y H2=>tx σ H2 fun z H3=>∃ o,DGet H3 a y o∧Q (o.getD z) H3
section
variable {X:Cx} {o e f:Expr} {apos cpos:Pos} {td ty tx:TE}
theorem pe_dget2 (hu:X.A.units + 1 < cLine) (ho:PE X o td) (he:PE X e ty) (hf:PE X f tx) (m:M2 X o "get" apos e f cpos):PE X (.Call (.Attribute o "get" apos) [e,f] [] cpos) (tDGet2 td ty tx):=by
  intro pins s σ H Q I h
  refine wpAny_Call_method m.base m.few m.line PySem.F.plainAttrs_dict PySem.F.slot_dict_get PySem.F.type_dict_get (thn (ho pins s σ H _ I h) fun u s1 ⟨x,H1,I1,rx,a,ex,d,q1⟩=>?_)
  subst ex
  obtain rfl:u=Value.ref a:=rx
  obtain ⟨t1,t2,_⟩:=isD_at I1 d
  refine ⟨t1,t2,?_⟩
  rw [m.trees]
  refine Calls.callWith_builtin rfl (Calls.evalArgs_plain (Calls.spliced_cons (thn (he pins s1 σ H1 _ I1 q1) fun iv s2 ⟨y,H2,I2,ry,q2⟩ =>
    Calls.spliced_cons (thn (hf pins s2 σ H2 _ I2 q2) fun fv s3 ⟨z,H3,I3,rz,ov,g,q3⟩=>Calls.spliced_nil ?_))))
  exact d_get2 hu I3 g ry rz fun w' s4 I4 rw'=>⟨_,H3,I4,rw',q3⟩
end
section
variable {X:Cx} {pins:List (Addr × Obj)} {σ:St} {H:Hp} {s:Shared} {a:Addr} {kvs:List (Key × V)} {A:Around} {E:Value→Shared→Prop}
end
section
variable {X:Cx} {pins:List (Addr × Obj)} {σ:St} {H:Hp} {s:Shared} {a:Addr} {y:V} {u:Value} {A:Around} {E:Value→Shared→Prop}
end
section
variable {X:Cx}
end
section
variable {κ:Type} [DecidableEq κ]
theorem dropK_pos {p:κ × V} {r:List (κ × V)} {k:κ} (e:p.1=k):dropK (p :: r) k=dropK r k:=by
  unfold dropK
  rw [List.filter_cons,if_neg (by simp [e])]
theorem dropK_neg {p:κ × V} {r:List (κ × V)} {k:κ} (e:¬ p.1=k):dropK (p :: r) k=p :: dropK r k:=by
  unfold dropK
  rw [List.filter_cons,if_pos (by simp [e])]
theorem dropK_no:∀ {kvs:List (κ × V)} {k:κ},¬ k∈kvs.map (·.1)→dropK kvs k=kvs
  | [],_,_=>rfl
  | p :: r,k,h=>by
    have h':¬ k∈r.map (·.1):=fun m=>by
      obtain ⟨q,hq,e⟩:=List.mem_map.mp m
      exact h (List.mem_map.mpr ⟨q,List.mem_cons.mpr (Or.inr hq),e⟩)
    rw [dropK_neg fun e=>h (List.mem_map.mpr ⟨p,List.mem_cons.mpr (Or.inl rfl),e⟩),dropK_no h']
end
end L2
namespace U2
open PySem L2
inductive U where
  | non | bl (b:Bool) | int (i:Int) | str (x:Str) | tup (us:List U) | lst (us:List U) | ref (a:Addr) | ty (n:String) | dic (ks:List (List Key)) (tk:Bool) (us:List U)
inductive MO where
  | lst (us:List U) | dK (kvs:List (Key × U)) | dT (kvs:List (List Key × U)) | tbl (q:Str)
abbrev MHp:=Addr→Option MO
def mup (M:MHp) (a:Addr) (o:MO):MHp:=fun b=>if b=a then some o else M b
theorem mup_same {M:MHp} {a:Addr} {o:MO}:mup M a o a=some o:=by unfold mup;rw [if_pos rfl]
theorem mup_ne {M:MHp} {a b:Addr} {o:MO} (h:b≠a):mup M a o b=M b:=by unfold mup;rw [if_neg h]
theorem mup_mup {M:MHp} {a:Addr} {o u:MO}:mup (mup M a o) a u=mup M a u:=by
  funext b;unfold mup;split <;> rfl
def KT (K:PySem.W.Frag) (a:Addr) (xs:List V):Prop :=
  ∃ (o:Obj) (its:Array Value) (n:Nat),K.lookup a=some o∧o.cls=.type "tuple"∧o.data=.seq its n∧its.size≤sizeLine∧Vals xs its.toList
def KL (K:PySem.W.Frag) (a:Addr) (xs:List V):Prop :=
  ∃ (o:Obj) (its:Array Value) (n:Nat),K.lookup a=some o∧o.cls=.type "list"∧o.dict=none∧o.data=.seq its n∧its.size≤sizeLine∧Vals xs its.toList
def DicAt (H:Hp) (a:Addr) (ks:List (List Key)) (tk:Bool) (vs:List V):Prop:=match tk with
  | true=>∃ ws,Rd H a (.dT ws)∧ks=ws.map (·.1)∧vs=ws.map (·.2)
  | false=>∃ ws,Rd H a (.dK ws)∧ks=ws.map (fun p=>[p.1])∧vs=ws.map (·.2)
mutual
def RelU (K:PySem.W.Frag) (H:Hp) (M:MHp):U→V→Prop
  | .non,v=>v=.non
  | .bl b,v=>v=.bl b
  | .int i,v=>v=.int i
  | .str x,v=>v=.str x
  | .ty n,v=>v=.ty n
  | .ref a,v=>v=.ref a
  | .tup us,v=>∃ a vs,v=.ref a∧(M a=none∧H a=some (.tup vs))∧RelUs K H M us vs
  | .dic ks tk us,v=>∃ a vs,v=.ref a∧M a=none∧DicAt H a ks tk vs∧RelUs K H M us vs
  | .lst us,v=>∃ a vs,v=.ref a∧((M a=none∧Rd H a (.lst vs))∨KL K a vs)∧RelUs K H M us vs
def RelUs (K:PySem.W.Frag) (H:Hp) (M:MHp):List U→List V→Prop
  | [],vs=>vs=[]
  | u :: us,vs=>∃ v vs',vs=v :: vs'∧RelU K H M u v∧RelUs K H M us vs'
end
def isDk:HO→Bool
  | .dK _=>true
  | .dT _=>true
  | _=>false
def Stp (H:Hp) (M:MHp) (H1:Hp) (M1:MHp):Prop:=∀ b o,H b=some o→M b=none→(H1 b=some o∨(isDk o=true∧∃ ob,H1 b=some (.frz ob o)))∧M1 b=none
theorem Stp.by' {H H1:Hp} {M M1:MHp} (h:∀ b o,H b=some o→M b=none→H1 b=some o∧M1 b=none):Stp H M H1 M1:=fun b o e m=>⟨.inl (h b o e m).1,(h b o e m).2⟩
theorem Stp.to {H H1:Hp} {M M1:MHp} (st:Stp H M H1 M1) {b:Addr} {o:HO} (e:H b=some o) (m:M b=none) (n:isDk o=false:=by rfl):H1 b=some o∧M1 b=none:=by
  obtain ⟨h | ⟨h,_⟩,m1⟩:=st b o e m
  · exact ⟨h,m1⟩
  · rw [n] at h;cases h
theorem Stp.refl (H:Hp) (M:MHp):Stp H M H M:=.by' fun _ _ h m=>⟨h,m⟩
theorem Stp.trans {H H1 H2:Hp} {M M1 M2:MHp} (a:Stp H M H1 M1) (b:Stp H1 M1 H2 M2):Stp H M H2 M2:=fun c o h m=>by
  obtain ⟨h1 | ⟨d,ob,h1⟩,m1⟩:=a c o h m
  · exact b c o h1 m1
  · obtain ⟨h2,m2⟩:=b.to h1 m1
    exact ⟨.inr ⟨d,ob,h2⟩,m2⟩
theorem Rd.stp {H H1:Hp} {M M1:MHp} {a:Addr} {u:HO} (st:Stp H M H1 M1) (m:M a=none) (h:Rd H a u):M1 a=none∧Rd H1 a u:=by
  rcases h with h | ⟨o,h⟩
  · obtain ⟨x | ⟨_,ob,x⟩,y⟩:=st a _ h m
    · exact ⟨y,.inl x⟩
    · exact ⟨y,.inr ⟨ob,x⟩⟩
  · obtain ⟨x,y⟩:=st.to h m;exact ⟨y,.inr ⟨o,x⟩⟩
theorem DicAt.stp {H H1:Hp} {M M1:MHp} {a:Addr} {ks:List (List Key)} {tk:Bool} {vs:List V} (st:Stp H M H1 M1) (m:M a=none) (h:DicAt H a ks tk vs):M1 a=none∧DicAt H1 a ks tk vs:=by
  cases tk with
  | true=>obtain ⟨ws,e,r⟩:=h;exact ⟨(Rd.stp st m e).1,ws,(Rd.stp st m e).2,r⟩
  | false=>obtain ⟨ws,e,r⟩:=h;exact ⟨(Rd.stp st m e).1,ws,(Rd.stp st m e).2,r⟩
mutual
theorem RelU.stp {K:PySem.W.Frag} {H H1:Hp} {M M1:MHp} (st:Stp H M H1 M1):∀ {u:U} {v:V},RelU K H M u v→RelU K H1 M1 u v
  | .non,_,h=>by simpa only [RelU] using h
  | .bl _,_,h=>by simpa only [RelU] using h
  | .int _,_,h=>by simpa only [RelU] using h
  | .str _,_,h=>by simpa only [RelU] using h
  | .ty _,_,h=>by simpa only [RelU] using h
  | .ref _,_,h=>by simpa only [RelU] using h
  | .tup us,_,h=>by
    simp only [RelU] at h ⊢
    obtain ⟨a,vs,e,h1,h2⟩:=h
    refine ⟨a,vs,e,?_,RelUs.stp st h2⟩
    obtain ⟨m,r⟩:=h1
    exact ⟨(st.to r m).2,(st.to r m).1⟩
  | .dic ks tk us,_,h=>by
    simp only [RelU] at h ⊢
    obtain ⟨a,vs,e,m,h1,h2⟩:=h
    have q:=DicAt.stp st m h1
    exact ⟨a,vs,e,q.1,q.2,RelUs.stp st h2⟩
  | .lst us,_,h=>by
    simp only [RelU] at h ⊢
    obtain ⟨a,vs,e,h1,h2⟩:=h
    refine ⟨a,vs,e,?_,RelUs.stp st h2⟩
    rcases h1 with ⟨m,r⟩ | k
    · exact .inl (Rd.stp st m r)
    · exact .inr k
theorem RelUs.stp {K:PySem.W.Frag} {H H1:Hp} {M M1:MHp} (st:Stp H M H1 M1):∀ {us:List U} {vs:List V},RelUs K H M us vs→RelUs K H1 M1 us vs
  | [],_,h=>by simpa only [RelUs] using h
  | u :: us,_,h=>by
    simp only [RelUs] at h ⊢
    obtain ⟨v,vs',e,h1,h2⟩:=h
    exact ⟨v,vs',e,RelU.stp st h1,RelUs.stp st h2⟩
end
theorem Stp.less {H:Hp} {M M1:MHp} (h:∀ b,M b=none→M1 b=none):Stp H M H M1:=.by' fun b o e m=>⟨e,h b m⟩
def RelKv {κ:Type} (K:PySem.W.Frag) (H:Hp) (M:MHp):List (κ × U)→List (κ × V)→Prop:=Paired fun p q=>p.1=q.1∧RelU K H M p.2 q.2
theorem RelKv.stp {κ:Type} {K:PySem.W.Frag} {H H1:Hp} {M M1:MHp} (st:Stp H M H1 M1):∀ {us:List (κ × U)} {vs:List (κ × V)},RelKv K H M us vs→RelKv K H1 M1 us vs
  | _,_,.nil=>.nil
  | _,_,.cons h t=>.cons ⟨h.1,h.2.stp st⟩ (RelKv.stp st t)
def RelMO (K:PySem.W.Frag) (H:Hp) (M:MHp) (a:Addr):MO→Prop
  | .lst us=>∃ vs,H a=some (.lst vs)∧RelUs K H M us vs
  | .dK kvs=>∃ ws,H a=some (.dK ws)∧RelKv K H M kvs ws
  | .dT kvs=>∃ ws,H a=some (.dT ws)∧RelKv K H M kvs ws
  | .tbl q=>(∀ b,M b=some (.tbl q)→b=a)∧∃ ps,H a=some (.tbl ps)∧TriplesOk ps.toList∧∀ pos c,codeAmong pos ps.toList=some c→∃ c' oc vs t,c=.ref c'∧H c'=some (.frz oc (.own 0))∧M c'=none∧oc.data=.fields vs∧vs[1]?=some (.str q t)
def RelM (K:PySem.W.Frag) (H:Hp) (M:MHp):Prop:=∀ a mo,M a=some mo→RelMO K H M a mo
theorem RelMO.stp {K:PySem.W.Frag} {H H1:Hp} {M M1:MHp} {a:Addr} {mo:MO} (hu:∀ b q,M1 b=some (.tbl q)→M b=some (.tbl q)) (st:Stp H M H1 M1) (e:H1 a=H a) (h:RelMO K H M a mo):RelMO K H1 M1 a mo:=by
  cases mo with
  | lst us=>obtain ⟨vs,x,y⟩:=h;exact ⟨vs,e.trans x,y.stp st⟩
  | dK us=>obtain ⟨vs,x,y⟩:=h;exact ⟨vs,e.trans x,y.stp st⟩
  | dT us=>obtain ⟨vs,x,y⟩:=h;exact ⟨vs,e.trans x,y.stp st⟩
  | tbl q =>
    obtain ⟨un,ps,x,y,z⟩:=h
    refine ⟨fun b hb=>un b (hu b q hb),ps,e.trans x,y,fun pos c hc=>?_⟩
    obtain ⟨c',oc,vs,t,h1,h2,h3,h4⟩:=z pos c hc
    exact ⟨c',oc,vs,t,h1,(st.to h2 h3).1,(st.to h2 h3).2,h4⟩
theorem RelM.ex {K:PySem.W.Frag} {H:Hp} {M:MHp} (r:RelM K H M) {a:Addr} {mo:MO} (h:M a=some mo):∃ o,H a=some o:=by
  have:=r a mo h
  cases mo with
  | lst us=>obtain ⟨vs,x,y⟩:=this;exact ⟨_,x⟩
  | dK us=>obtain ⟨vs,x,y⟩:=this;exact ⟨_,x⟩
  | dT us=>obtain ⟨vs,x,y⟩:=this;exact ⟨_,x⟩
  | tbl q=>obtain ⟨_,ps,x,_⟩:=this;exact ⟨_,x⟩
theorem RelM.no {K:PySem.W.Frag} {H:Hp} {M:MHp} (r:RelM K H M) {a:Addr} (h:H a=none):M a=none:=by
  cases e:M a with
  | none=>rfl
  | some mo=>obtain ⟨o,q⟩:=r.ex e;rw [h] at q;cases q
theorem Stp.laid {K:PySem.W.Frag} {H:Hp} {M:MHp} {p:Addr} {o:HO} (r:RelM K H M) (h:H p=none):Stp H M (upd H p o) M:=.by' fun b u e m=>⟨by rw [upd_ne (ne_of_none e h)];exact e,m⟩
theorem RelM.laid {K:PySem.W.Frag} {H:Hp} {M:MHp} {p:Addr} {o:HO} (r:RelM K H M) (h:H p=none):RelM K (upd H p o) M:=fun a mo e=>by
  obtain ⟨u,q⟩:=r.ex e
  exact (r a mo e).stp (fun _ _ z=>z) (Stp.laid r h) (upd_ne (ne_of_none q h))
theorem Stp.own {K:PySem.W.Frag} {H:Hp} {M:MHp} {p:Addr} {o:HO} {mo:MO} (r:RelM K H M) (h:H p=none):Stp H M (upd H p o) (mup M p mo):=.by' fun b u e m=>by
  have n:=ne_of_none e h
  exact ⟨by rw [upd_ne n];exact e,by rw [mup_ne n];exact m⟩
theorem RelM.put {K:PySem.W.Frag} {H:Hp} {M:MHp} {p:Addr} {o:HO} {mo:MO} (r:RelM K H M) (st:Stp H M (upd H p o) (mup M p mo)) (new:RelMO K (upd H p o) (mup M p mo) p mo) (hm:∀ q,mo≠.tbl q:=by intro q z;cases z):RelM K (upd H p o) (mup M p mo):=fun a m e=>by
  by_cases ha:a=p
  · subst ha;rw [mup_same] at e;cases e;exact new
  · rw [mup_ne ha] at e
    refine (r a m e).stp (fun b q z=>?_) st (upd_ne ha)
    by_cases hb:b=p
    · subst hb;rw [mup_same] at z;exact absurd (Option.some.inj z) (hm q)
    · rw [mup_ne hb] at z;exact z
theorem Stp.write {H:Hp} {M:MHp} {p:Addr} {o:HO} {mo m0:MO} (h:M p=some m0):Stp H M (upd H p o) (mup M p mo):=.by' fun b u e m=>by
  have n:b≠p:=fun z=>by subst z;rw [h] at m;cases m
  exact ⟨by rw [upd_ne n];exact e,by rw [mup_ne n];exact m⟩
section
variable {K:PySem.W.Frag} {H:Hp} {M:MHp}
theorem RelUs.nil:RelUs K H M [] []:=by simp only [RelUs]
theorem RelUs.cons {u:U} {v:V} {us:List U} {vs:List V} (h:RelU K H M u v) (t:RelUs K H M us vs):RelUs K H M (u :: us) (v :: vs):=by simp only [RelUs];exact ⟨v,vs,rfl,h,t⟩
theorem RelUs.length:∀ {us:List U} {vs:List V},RelUs K H M us vs→us.length=vs.length
  | [],_,h=>by simp only [RelUs] at h;subst h;rfl
  | u :: us,_,h=>by
    simp only [RelUs] at h
    obtain ⟨v,vs',rfl,_,t⟩:=h
    simp [RelUs.length t]
theorem RelUs.inv_cons {u:U} {us:List U} {vs:List V} (h:RelUs K H M (u :: us) vs):∃ v vs',vs=v :: vs'∧RelU K H M u v∧RelUs K H M us vs':=by simpa only [RelUs] using h
theorem RelUs.inv_nil {vs:List V} (h:RelUs K H M [] vs):vs=[]:=by simpa only [RelUs] using h
theorem RelUs.append:∀ {us ws:List U} {vs zs:List V},RelUs K H M us vs→RelUs K H M ws zs→RelUs K H M (us++ws) (vs++zs)
  | [],_,_,_,h,t=>by cases h.inv_nil;exact t
  | u :: us,_,_,_,h,t=>by
    obtain ⟨v,vs',rfl,a,b⟩:=h.inv_cons
    exact .cons a (RelUs.append b t)
theorem RelUs.get:∀ {us:List U} {vs:List V} {i:Nat} {u:U},RelUs K H M us vs→us[i]?=some u→∃ v,vs[i]?=some v∧RelU K H M u v
  | [],_,_,_,_,e=>by simp at e
  | u :: us,_,0,_,h,e=>by
    obtain ⟨v,vs',rfl,a,b⟩:=h.inv_cons
    simp at e;subst e;exact ⟨v,rfl,a⟩
  | u :: us,_,i + 1,_,h,e=>by
    obtain ⟨v,vs',rfl,a,b⟩:=h.inv_cons
    simp at e
    obtain ⟨w,x,y⟩:=RelUs.get b e
    exact ⟨w,by simpa using x,y⟩
theorem RelUs.drop:∀ {us:List U} {vs:List V} (n:Nat),RelUs K H M us vs→RelUs K H M (us.drop n) (vs.drop n)
  | _,_,0,h=>h
  | [],_,_ + 1,h=>by cases h.inv_nil;exact .nil
  | u :: us,_,n + 1,h=>by
    obtain ⟨v,vs',rfl,a,b⟩:=h.inv_cons
    exact RelUs.drop n b
theorem RelUs.take:∀ {us:List U} {vs:List V} (n:Nat),RelUs K H M us vs→RelUs K H M (us.take n) (vs.take n)
  | _,_,0,_=>by simp only [List.take_zero];exact .nil
  | [],_,_ + 1,h=>by cases h.inv_nil;exact .nil
  | u :: us,_,n + 1,h=>by
    obtain ⟨v,vs',rfl,a,b⟩:=h.inv_cons
    exact .cons a (RelUs.take n b)
theorem RelUs.reverse:∀ {us:List U} {vs:List V},RelUs K H M us vs→RelUs K H M us.reverse vs.reverse
  | [],_,h=>by cases h.inv_nil;exact .nil
  | u :: us,_,h=>by
    obtain ⟨v,vs',rfl,a,b⟩:=h.inv_cons
    rw [List.reverse_cons,List.reverse_cons]
    exact (RelUs.reverse b).append (.cons a .nil)
theorem RelUs.dropLast {us:List U} {vs:List V} (h:RelUs K H M us vs):RelUs K H M us.dropLast vs.dropLast:=by
  rw [List.dropLast_eq_take,List.dropLast_eq_take,h.length];exact h.take _
end
abbrev SU:=List (Option U)
abbrev UK:=U→MHp→Prop
abbrev UE:=SU→MHp→UK→Prop
abbrev UT:=SU→MHp→(Bool→MHp→Prop)→Prop
abbrev UA:=SU→MHp→(List U→MHp→Prop)→Prop
structure UEnds where
  nx:SU→MHp→Prop
  rt:UK
  bk:SU→MHp→Prop:=fun _ _=>False
  ct:SU→MHp→Prop:=fun _ _=>False
abbrev US:=UEnds→SU→MHp→Prop
def RelS (K:PySem.W.Frag) (H:Hp) (M:MHp) (σ:St) (τ:SU):Prop:=τ.length=σ.length∧∀ (i:Nat) u,τ[i]?=some (some u)→∃ v,σ[i]?=some (some v)∧RelU K H M u v
theorem RelS.stp {K:PySem.W.Frag} {H H1:Hp} {M M1:MHp} {σ:St} {τ:SU} (st:Stp H M H1 M1) (r:RelS K H M σ τ):RelS K H1 M1 σ τ:=⟨r.1,fun i u e=>let ⟨v,a,b⟩:=r.2 i u e;⟨v,a,b.stp st⟩⟩
theorem RelS.set {K:PySem.W.Frag} {H:Hp} {M:MHp} {σ:St} {τ:SU} {i:Nat} {u:U} {v:V} (r:RelS K H M σ τ) (h:RelU K H M u v):RelS K H M (σ.set i (some v)) (τ.set i (some u)):=by
  refine ⟨by simp [r.1],fun j w e=>?_⟩
  rw [List.getElem?_set] at e ⊢
  split at e
  · rename_i hij
    subst hij
    split at e
    · rename_i hl
      cases e
      rw [if_pos rfl,if_pos (by rw [← r.1];exact hl)]
      exact ⟨v,rfl,h⟩
    · cases e
  · rename_i hij
    rw [if_neg hij]
    exact r.2 j w e
def SimE (K:PySem.W.Frag) (t:TE) (t':UE):Prop:=∀ (σ:St) (τ:SU) (H:Hp) (M:MHp) (Q':UK),RelS K H M σ τ→RelM K H M→t' τ M Q' →
  ∀ Q:VK,(∀ u v M1 H1,Stp H M H1 M1→RelM K H1 M1→RelU K H1 M1 u v→Q' u M1→Q v H1)→t σ H Q
def SimT (K:PySem.W.Frag) (t:TT) (t':UT):Prop:=∀ (σ:St) (τ:SU) (H:Hp) (M:MHp) (Q':Bool→MHp→Prop),RelS K H M σ τ→RelM K H M→t' τ M Q' →
  ∀ Q:Bool→Hp→Prop,(∀ b M1 H1,Stp H M H1 M1→RelM K H1 M1→Q' b M1→Q b H1)→t σ H Q
def SimA (K:PySem.W.Frag) (t:TA) (t':UA):Prop:=∀ (σ:St) (τ:SU) (H:Hp) (M:MHp) (Q':List U→MHp→Prop),RelS K H M σ τ→RelM K H M→t' τ M Q' →
  ∀ Q:List V→Hp→Prop,(∀ us vs M1 H1,Stp H M H1 M1→RelM K H1 M1→RelUs K H1 M1 us vs→Q' us M1→Q vs H1)→t σ H Q
structure SimD (K:PySem.W.Frag) (H:Hp) (M:MHp) (D:Ends) (D':UEnds):Prop where
  nx:∀ σ τ H1 M1,Stp H M H1 M1→RelM K H1 M1→RelS K H1 M1 σ τ→D'.nx τ M1→D.nx σ H1
  rt:∀ u v H1 M1,Stp H M H1 M1→RelM K H1 M1→RelU K H1 M1 u v→D'.rt u M1→D.rt v H1
  bk:∀ σ τ H1 M1,Stp H M H1 M1→RelM K H1 M1→RelS K H1 M1 σ τ→D'.bk τ M1→D.bk σ H1
  ct:∀ σ τ H1 M1,Stp H M H1 M1→RelM K H1 M1→RelS K H1 M1 σ τ→D'.ct τ M1→D.ct σ H1
theorem SimD.stp {K:PySem.W.Frag} {H H1:Hp} {M M1:MHp} {D:Ends} {D':UEnds} (d:SimD K H M D D') (st:Stp H M H1 M1):SimD K H1 M1 D D' :=
  ⟨fun σ τ H2 M2 s=>d.nx σ τ H2 M2 (st.trans s),fun u v H2 M2 s=>d.rt u v H2 M2 (st.trans s),fun σ τ H2 M2 s=>d.bk σ τ H2 M2 (st.trans s),fun σ τ H2 M2 s=>d.ct σ τ H2 M2 (st.trans s)⟩
def SimS (K:PySem.W.Frag) (t:TS) (t':US):Prop:=∀ (σ:St) (τ:SU) (H:Hp) (M:MHp) (D':UEnds),RelS K H M σ τ→RelM K H M→t' D' τ M→∀ D:Ends,SimD K H M D D'→t D σ H
end U2
namespace U2
open PySem L2
abbrev UR2:=U→U→MHp→UK→Prop
def Cont (K:PySem.W.Frag) (H:Hp) (M:MHp) (Q':UK) (Q:VK):Prop:=∀ u v M1 H1,Stp H M H1 M1→RelM K H1 M1→RelU K H1 M1 u v→Q' u M1→Q v H1
theorem Cont.stp {K:PySem.W.Frag} {H H1:Hp} {M M1:MHp} {Q':UK} {Q:VK} (c:Cont K H M Q' Q) (st:Stp H M H1 M1):Cont K H1 M1 Q' Q:=fun u v M2 H2 s=>c u v M2 H2 (st.trans s)
theorem Cont.here {K:PySem.W.Frag} {H:Hp} {M:MHp} {Q':UK} {Q:VK} {u:U} {v:V} (c:Cont K H M Q' Q) (rm:RelM K H M) (r:RelU K H M u v) (q:Q' u M):Q v H:=c u v M H (Stp.refl H M) rm r q
def SimR2 (K:PySem.W.Frag) (r:R2) (r':UR2):Prop:=∀ (x y:V) (u w:U) (H:Hp) (M:MHp) (Q':UK),RelM K H M→RelU K H M u x→RelU K H M w y→r' u w M Q'→∀ Q:VK,Cont K H M Q' Q→r x y H Q
def SimU1 (K:PySem.W.Frag) (r:V→Hp→VK→Prop) (r':U→MHp→UK→Prop):Prop:=∀ (x:V) (u:U) (H:Hp) (M:MHp) (Q':UK),RelM K H M→RelU K H M u x→r' u M Q'→∀ Q:VK,Cont K H M Q' Q→r x H Q
def SimCl (K:PySem.W.Frag) (r:List V→Hp→VK→Prop) (r':List U→MHp→UK→Prop):Prop:=∀ (xs:List V) (us:List U) (H:Hp) (M:MHp) (Q':UK),RelM K H M→RelUs K H M us xs→r' us M Q'→∀ Q:VK,Cont K H M Q' Q→r xs H Q
def SimMt (K:PySem.W.Frag) (r:V→List V→Hp→VK→Prop) (r':U→List U→MHp→UK→Prop):Prop:=∀ (x:V) (xs:List V) (u:U) (us:List U) (H:Hp) (M:MHp) (Q':UK),RelM K H M→RelU K H M u x→RelUs K H M us xs→r' u us M Q'→∀ Q:VK,Cont K H M Q' Q→r x xs H Q
section
variable {K:PySem.W.Frag} {H:Hp} {M:MHp} {v:V}
theorem RelU.non (h:RelU K H M .non v):v=.non:=by simpa only [RelU] using h
theorem RelU.bl {b:Bool} (h:RelU K H M (.bl b) v):v=.bl b:=by simpa only [RelU] using h
theorem RelU.int {i:Int} (h:RelU K H M (.int i) v):v=.int i:=by simpa only [RelU] using h
theorem RelU.str {x:Str} (h:RelU K H M (.str x) v):v=.str x:=by simpa only [RelU] using h
theorem RelU.ty {n:String} (h:RelU K H M (.ty n) v):v=.ty n:=by simpa only [RelU] using h
theorem RelU.ref {a:Addr} (h:RelU K H M (.ref a) v):v=.ref a:=by simpa only [RelU] using h
theorem RelU.tup {us:List U} (h:RelU K H M (.tup us) v):∃ a vs,v=.ref a∧SqT K H a vs∧RelUs K H M us vs:=by
  simp only [RelU] at h
  obtain ⟨a,vs,e,h1,h2⟩:=h
  refine ⟨a,vs,e,?_,h2⟩
  exact .inl (.inl h1.2)
theorem RelU.lst {us:List U} (h:RelU K H M (.lst us) v):∃ a vs,v=.ref a∧SqL K H a vs∧RelUs K H M us vs:=by
  simp only [RelU] at h
  obtain ⟨a,vs,e,h1,h2⟩:=h
  refine ⟨a,vs,e,?_,h2⟩
  rcases h1 with ⟨_,r⟩ | k
  · exact .inl r
  · exact .inr k
theorem relU_non:RelU K H M .non .non:=by simp only [RelU]
theorem relU_bl {b:Bool}:RelU K H M (.bl b) (.bl b):=by simp only [RelU]
theorem relU_int {i:Int}:RelU K H M (.int i) (.int i):=by simp only [RelU]
theorem relU_str {x:Str}:RelU K H M (.str x) (.str x):=by simp only [RelU]
theorem relU_ty {n:String}:RelU K H M (.ty n) (.ty n):=by simp only [RelU]
theorem relU_ref {a:Addr}:RelU K H M (.ref a) (.ref a):=by simp only [RelU]
theorem relU_tup {a:Addr} {us:List U} {vs:List V} (m:M a=none) (h:H a=some (.tup vs)) (r:RelUs K H M us vs):RelU K H M (.tup us) (.ref a):=by
  simp only [RelU];exact ⟨a,vs,rfl,⟨m,h⟩,r⟩
theorem relU_lst {a:Addr} {us:List U} {vs:List V} (m:M a=none) (h:H a=some (.lst vs)) (r:RelUs K H M us vs):RelU K H M (.lst us) (.ref a):=by
  simp only [RelU];exact ⟨a,vs,rfl,.inl ⟨m,.inl h⟩,r⟩
theorem Cont.tup {Q':UK} {Q:VK} {us:List U} {vs:List V} {p:Addr} (c:Cont K H M Q' Q) (rm:RelM K H M) (r:RelUs K H M us vs) (hp:H p=none) (q:Q' (.tup us) M):Q (.ref p) (upd H p (.tup vs)) :=
  c _ _ M _ (Stp.laid rm hp) (rm.laid hp) (relU_tup (rm.no hp) upd_same (r.stp (Stp.laid rm hp))) q
def mkL (o:Bool) (us:List U) (M:MHp) (Q:UK):Prop:=match o with
  | true=>∀ p,M p=none→Q (.ref p) (mup M p (.lst us))
  | false=>Q (.lst us) M
theorem Cont.lst {o:Bool} {Q':UK} {Q:VK} {us:List U} {vs:List V} {p:Addr} (c:Cont K H M Q' Q) (rm:RelM K H M) (r:RelUs K H M us vs) (hp:H p=none) (q:mkL o us M Q'):Q (.ref p) (upd H p (.lst vs)):=by
  cases o with
  | false=>exact c _ _ M _ (Stp.laid rm hp) (rm.laid hp) (relU_lst (rm.no hp) upd_same (r.stp (Stp.laid rm hp))) q
  | true =>
    have st:Stp H M (upd H p (.lst vs)) (mup M p (.lst us)):=Stp.own rm hp
    exact c (.ref p) _ _ _ st (rm.put st ⟨vs,upd_same,r.stp st⟩) relU_ref (q p (rm.no hp))
end
def view (M:MHp):U→U
  | .ref a=>match M a with
    | some (.lst us)=>.lst us
    | _=>.ref a
  | u=>u
theorem view_ref {M:MHp} {a:Addr} {us:List U} (h:M a=some (.lst us)):view M (.ref a)=.lst us:=by simp only [view,h]
theorem view_lst {K:PySem.W.Frag} {H:Hp} {M:MHp} {u:U} {v:V} {us:List U} (rm:RelM K H M) (r:RelU K H M u v) (h:view M u=.lst us):∃ a vs,v=.ref a∧SqL K H a vs∧RelUs K H M us vs:=by
  cases u with
  | lst ws=>simp only [view] at h;cases h;exact r.lst
  | ref a =>
    simp only [view] at h
    split at h
    · rename_i ws e
      cases h
      obtain ⟨vs,h1,h2⟩:=rm a _ e
      exact ⟨a,vs,r.ref,.inl (.inl h1),h2⟩
    · cases h
  | _=>simp [view] at h
section
variable {K:PySem.W.Frag} {t ta tb tc:TE} {t' ta' tb' tc':UE}
def uVar (i:Nat):UE:=fun τ M Q=>match τ[i]? with
  | some (some u)=>Q u M
  | _=>False
theorem sim_var (i:Nat):SimE K (tVar i) (uVar i):=fun σ τ H M Q' rs rm h Q c=>by
  unfold uVar at h
  split at h
  · rename_i u e
    obtain ⟨v,e2,r⟩:=rs.2 i u e
    exact ⟨v,e2,c u v M H (Stp.refl _ _) rm r h⟩
  · exact h.elim
def uC (u:U):UE:=fun _ M Q=>Q u M
theorem sim_c {u:U} {v:V} (h:∀ H M,RelU K H M u v):SimE K (tC v) (uC u):=fun σ τ H M Q' rs rm q Q c=>c u v M H (Stp.refl _ _) rm (h H M) q
theorem sim_int {i:Int}:SimE K (tC (.int i)) (uC (.int i)):=sim_c fun _ _=>relU_int
theorem sim_bl {i:Bool}:SimE K (tC (.bl i)) (uC (.bl i)):=sim_c fun _ _=>relU_bl
theorem sim_str {i:Str}:SimE K (tC (.str i)) (uC (.str i)):=sim_c fun _ _=>relU_str
theorem sim_ty {n:String}:SimE K (tC (.ty n)) (uC (.ty n)):=sim_c fun _ _=>relU_ty
theorem sim_ref {a:Addr}:SimE K (tC (.ref a)) (uC (.ref a)):=sim_c fun _ _=>relU_ref
def uOp (r:UR2) (ta tb:UE):UE:=fun τ M Q=>ta τ M fun x M1=>tb τ M1 fun y M2=>r x y M2 Q
theorem sim_op {r:R2} {r':UR2} (hr:SimR2 K r r') (ha:SimE K ta ta') (hb:SimE K tb tb'):SimE K (tOp r ta tb) (uOp r' ta' tb'):=fun σ τ H M Q' rs rm h Q c =>
  ha σ τ H M _ rs rm h _ fun u v M1 H1 s1 rm1 ru h1=>hb σ τ H1 M1 _ (rs.stp s1) rm1 h1 _ fun w x M2 H2 s2 rm2 rw h2=>hr v x u w H2 M2 Q' rm2 (ru.stp s2) rw h2 Q (Cont.stp c (s1.trans s2))
def uUn (r:U→MHp→UK→Prop) (ta:UE):UE:=fun τ M Q=>ta τ M fun x M1=>r x M1 Q
theorem sim_un {r:V→Hp→VK→Prop} {r':U→MHp→UK→Prop} (hr:SimU1 K r r') (ha:SimE K ta ta'):SimE K (tUn r ta) (uUn r' ta'):=fun σ τ H M Q' rs rm h Q c =>
  ha σ τ H M _ rs rm h _ fun u v M1 H1 s1 rm1 ru h1=>hr v u H1 M1 Q' rm1 ru h1 Q (Cont.stp c s1)
def uTest (t:UE):UT:=fun τ M Q=>t τ M fun u M1=>match u with
  | .bl b=>Q b M1
  | _=>False
theorem sim_test (h:SimE K t t'):SimT K (tTest t) (uTest t'):=fun σ τ H M Q' rs rm q Q c=>h σ τ H M _ rs rm q _ fun u v M1 H1 s1 rm1 ru h1=>by
  cases u with
  | bl b=>exact ⟨b,ru.bl,c b M1 H1 s1 rm1 h1⟩
  | _=>exact h1.elim
def uTru (t:UE):UT:=fun τ M Q=>t τ M fun u M1=>match view M1 u with
  | .non=>Q false M1
  | .bl b=>Q b M1
  | .int i=>Q (i != 0) M1
  | .str x=>x.length≤sizeLine∧Q ((x.length:Int) != 0) M1
  | .tup us=>Q (!us.isEmpty) M1
  | .lst us=>Q (!us.isEmpty) M1
  | _=>False
theorem isEmpty_rel {H:Hp} {M:MHp} {us:List U} {vs:List V} (r:RelUs K H M us vs):us.isEmpty=vs.isEmpty:=by
  have:=r.length
  cases us <;> cases vs <;> simp_all
theorem sim_tru (h:SimE K t t'):SimT K (fun σ H Q=>t σ H fun x H'=>∃ k,TruV K x H' k∧Q k H') (uTru t'):=fun σ τ H M Q' rs rm q Q c=>h σ τ H M _ rs rm q _ fun u v M1 H1 s1 rm1 ru h1=>by
  split at h1
  · rename_i e
    cases u with
    | non=>exact ⟨false,by rw [ru.non];rfl,c _ M1 H1 s1 rm1 h1⟩
    | ref a=>simp only [view] at e;split at e <;> cases e
    | _=>simp [view] at e
  · rename_i b e
    cases u with
    | bl b'=>simp only [view] at e;cases e;exact ⟨b,by rw [ru.bl];rfl,c _ M1 H1 s1 rm1 h1⟩
    | ref a=>simp only [view] at e;split at e <;> cases e
    | _=>simp [view] at e
  · rename_i b e
    cases u with
    | int b'=>simp only [view] at e;cases e;exact ⟨b != 0,by rw [ru.int];rfl,c _ M1 H1 s1 rm1 h1⟩
    | ref a=>simp only [view] at e;split at e <;> cases e
    | _=>simp [view] at e
  · rename_i b e
    cases u with
    | str b'=>simp only [view] at e;cases e;exact ⟨(b.length:Int) != 0,by rw [ru.str];exact ⟨h1.1,rfl⟩,c _ M1 H1 s1 rm1 h1.2⟩
    | ref a=>simp only [view] at e;split at e <;> cases e
    | _=>simp [view] at e
  · rename_i us e
    cases u with
    | tup us' =>
      simp only [view] at e;cases e
      obtain ⟨a,vs,rfl,r1,r2⟩:=ru.tup
      exact ⟨!vs.isEmpty,.inr (.inl ⟨vs,r1,rfl⟩),c _ M1 H1 s1 rm1 (by rw [← isEmpty_rel r2];exact h1)⟩
    | ref a=>simp only [view] at e;split at e <;> cases e
    | _=>simp [view] at e
  · rename_i us e
    obtain ⟨a,vs,rfl,r1,r2⟩:=view_lst rm1 ru e
    exact ⟨!vs.isEmpty,.inl ⟨vs,r1,rfl⟩,c _ M1 H1 s1 rm1 (by rw [← isEmpty_rel r2];exact h1)⟩
  · exact h1.elim
def uAnd (t u:UT):UT:=fun τ M Q=>t τ M fun c M1=>if c=true then u τ M1 Q else Q false M1
def uOr (t u:UT):UT:=fun τ M Q=>t τ M fun c M1=>if c=true then Q true M1 else u τ M1 Q
def uNot (t:UT):UT:=fun τ M Q=>t τ M fun c M1=>Q (!c) M1
theorem sim_and {t u:TT} {t' u':UT} (h:SimT K t t') (k:SimT K u u'):SimT K (tAnd t u) (uAnd t' u'):=fun σ τ H M Q' rs rm q Q c=>h σ τ H M _ rs rm q _ fun b M1 H1 s1 rm1 h1=>by
  cases b with
  | true=>exact k σ τ H1 M1 Q' (rs.stp s1) rm1 h1 Q fun b M2 H2 s2=>c b M2 H2 (s1.trans s2)
  | false=>exact c _ M1 H1 s1 rm1 h1
theorem sim_or {t u:TT} {t' u':UT} (h:SimT K t t') (k:SimT K u u'):SimT K (tOr t u) (uOr t' u'):=fun σ τ H M Q' rs rm q Q c=>h σ τ H M _ rs rm q _ fun b M1 H1 s1 rm1 h1=>by
  cases b with
  | false=>exact k σ τ H1 M1 Q' (rs.stp s1) rm1 h1 Q fun b M2 H2 s2=>c b M2 H2 (s1.trans s2)
  | true=>exact c _ M1 H1 s1 rm1 h1
theorem sim_not {t:TT} {t':UT} (h:SimT K t t'):SimT K (tNot t) (uNot t'):=fun σ τ H M Q' rs rm q Q c=>h σ τ H M _ rs rm q _ fun b M1 H1 s1 rm1 h1=>c _ M1 H1 s1 rm1 h1
def uAndV (ta tb:UE):UE:=fun τ M Q=>ta τ M fun x M1=>match x with
  | .bl c=>if c=true then tb τ M1 Q else Q (.bl false) M1
  | _=>False
def uOrV (ta tb:UE):UE:=fun τ M Q=>ta τ M fun x M1=>match x with
  | .bl c=>if c=true then Q (.bl true) M1 else tb τ M1 Q
  | _=>False
def uNotV (ta:UE):UE:=fun τ M Q=>ta τ M fun x M1=>match x with
  | .bl c=>Q (.bl (!c)) M1
  | _=>False
theorem sim_andV (h:SimE K ta ta') (k:SimE K tb tb'):SimE K (tAndV ta tb) (uAndV ta' tb'):=fun σ τ H M Q' rs rm q Q c=>h σ τ H M _ rs rm q _ fun u v M1 H1 s1 rm1 ru h1=>by
  cases u with
  | bl b =>
    refine ⟨b,ru.bl,?_⟩
    cases b with
    | true=>exact k σ τ H1 M1 Q' (rs.stp s1) rm1 h1 Q (Cont.stp c s1)
    | false=>exact c _ _ M1 H1 s1 rm1 relU_bl h1
  | _=>exact h1.elim
theorem sim_notV (h:SimE K ta ta'):SimE K (tNotV ta) (uNotV ta'):=fun σ τ H M Q' rs rm q Q c=>h σ τ H M _ rs rm q _ fun u v M1 H1 s1 rm1 ru h1=>by
  cases u with
  | bl b=>exact ⟨b,ru.bl,c _ _ M1 H1 s1 rm1 relU_bl h1⟩
  | _=>exact h1.elim
def uIf (t:UT) (ta tb:UE):UE:=fun τ M Q=>t τ M fun c M1=>if c=true then ta τ M1 Q else tb τ M1 Q
theorem sim_if {t:TT} {t':UT} (h:SimT K t t') (k:SimE K ta ta') (l:SimE K tb tb'):SimE K (tIf t ta tb) (uIf t' ta' tb'):=fun σ τ H M Q' rs rm q Q c=>h σ τ H M _ rs rm q _ fun b M1 H1 s1 rm1 h1=>by
  cases b with
  | true=>exact k σ τ H1 M1 Q' (rs.stp s1) rm1 h1 Q (Cont.stp c s1)
  | false=>exact l σ τ H1 M1 Q' (rs.stp s1) rm1 h1 Q (Cont.stp c s1)
def uChain (r r':UR2) (ta tb tc:UE):UE:=fun τ M Q=>ta τ M fun x M1=>tb τ M1 fun y M2=>r x y M2 fun z M3=>match z with
  | .bl k=>if k=true then tc τ M3 fun w M4=>r' y w M4 Q else Q (.bl false) M3
  | _=>False
theorem sim_chain {r r':R2} {s s':UR2} (hr:SimR2 K r s) (hr':SimR2 K r' s') (ha:SimE K ta ta') (hb:SimE K tb tb') (hc:SimE K tc tc'):SimE K (tChain r r' ta tb tc) (uChain s s' ta' tb' tc'):=fun σ τ H M Q' rs rm h Q c =>
  ha σ τ H M _ rs rm h _ fun u v M1 H1 s1 rm1 ru h1=>hb σ τ H1 M1 _ (rs.stp s1) rm1 h1 _ fun w x M2 H2 s2 rm2 rw h2 =>
    hr v x u w H2 M2 _ rm2 (ru.stp s2) rw h2 _ fun z zv M3 H3 s3 rm3 rz h3=>by
      cases z with
      | bl k =>
        refine ⟨k,rz.bl,?_⟩
        cases k with
        | true=>exact hc σ τ H3 M3 _ ((rs.stp s1).stp (s2.trans s3)) rm3 h3 _ fun w2 x2 M4 H4 s4 rm4 rw4 h4=>hr' x x2 w w2 H4 M4 Q' rm4 (rw.stp (s3.trans s4)) rw4 h4 Q (Cont.stp c (((s1.trans s2).trans s3).trans s4))
        | false=>exact c _ _ M3 H3 ((s1.trans s2).trans s3) rm3 relU_bl h3
      | _=>exact h3.elim
def uNil:UA:=fun _ M Q=>Q [] M
def uCons (ta:UE) (tr:UA):UA:=fun τ M Q=>ta τ M fun x M1=>tr τ M1 fun xs M2=>Q (x :: xs) M2
theorem sim_nil:SimA K tNil uNil:=fun σ τ H M Q' rs rm q Q c=>c [] [] M H (Stp.refl _ _) rm .nil q
theorem sim_cons {tr:TA} {tr':UA} (ha:SimE K ta ta') (hr:SimA K tr tr'):SimA K (tCons ta tr) (uCons ta' tr'):=fun σ τ H M Q' rs rm h Q c =>
  ha σ τ H M _ rs rm h _ fun u v M1 H1 s1 rm1 ru h1=>hr σ τ H1 M1 _ (rs.stp s1) rm1 h1 _ fun us vs M2 H2 s2 rm2 rus h2=>c (u :: us) (v :: vs) M2 H2 (s1.trans s2) rm2 (.cons (ru.stp s2) rus) h2
def uTup (t:UA):UE:=fun τ M Q=>t τ M fun us M1=>us.length≤sizeLine∧Q (.tup us) M1
def uLst (o:Bool) (t:UA):UE:=fun τ M Q=>t τ M fun us M1=>us.length≤sizeLine∧mkL o us M1 Q
theorem sim_tup {t:TA} {t':UA} (h:SimA K t t'):SimE K (tTup t) (uTup t'):=fun σ τ H M Q' rs rm q Q c =>
  h σ τ H M _ rs rm q _ fun us vs M1 H1 s1 rm1 r h1=>⟨by rw [← r.length];exact h1.1,fun p hp=>(Cont.stp c s1).tup rm1 r hp h1.2⟩
theorem sim_lst {o:Bool} {t:TA} {t':UA} (h:SimA K t t'):SimE K (tLst t) (uLst o t'):=fun σ τ H M Q' rs rm q Q c =>
  h σ τ H M _ rs rm q _ fun us vs M1 H1 s1 rm1 r h1=>⟨by rw [← r.length];exact h1.1,fun p hp=>(Cont.stp c s1).lst rm1 r hp h1.2⟩
def uCB (r:List U→MHp→UK→Prop) (t:UA):UE:=fun τ M Q=>t τ M fun us M1=>r us M1 Q
theorem sim_cb {r:List V→Hp→VK→Prop} {r':List U→MHp→UK→Prop} {t:TA} {t':UA} (hr:SimCl K r r') (h:SimA K t t'):SimE K (tCB r t) (uCB r' t'):=fun σ τ H M Q' rs rm q Q c =>
  h σ τ H M _ rs rm q _ fun us vs M1 H1 s1 rm1 ru h1=>hr vs us H1 M1 Q' rm1 ru h1 Q (Cont.stp c s1)
end
end U2
namespace U2
open PySem L2
section
variable {K:PySem.W.Frag}
def uI0 (g:Int→Int→U):UR2:=fun x y M Q=>match x,y with
  | .int i,.int j=>Q (g i j) M
  | _,_=>False
def uI (C:Int→Int→Prop) (g:Int→Int→U):UR2:=fun x y M Q=>match x,y with
  | .int i,.int j=>C i j∧Q (g i j) M
  | _,_=>False
theorem sim_I0 {g:Int→Int→V} {g':Int→Int→U} (hg:∀ H M i j,RelU K H M (g' i j) (g i j)):SimR2 K (rI0 g) (uI0 g'):=fun x y u w H M Q' rm ru rw h Q c=>by
  cases u with
  | int i=>cases w with
    | int j=>exact ⟨i,j,ru.int,rw.int,c _ _ M H (Stp.refl _ _) rm (hg H M i j) h⟩
    | _=>exact h.elim
  | _=>exact h.elim
theorem sim_I {C:Int→Int→Prop} {g:Int→Int→V} {g':Int→Int→U} (hg:∀ H M i j,RelU K H M (g' i j) (g i j)):SimR2 K (rI C g) (uI C g'):=fun x y u w H M Q' rm ru rw h Q c=>by
  cases u with
  | int i=>cases w with
    | int j=>exact ⟨i,j,ru.int,rw.int,h.1,c _ _ M H (Stp.refl _ _) rm (hg H M i j) h.2⟩
    | _=>exact h.elim
  | _=>exact h.elim
theorem sim_int2 {f:Int→Int→Int}:SimR2 K (rI0 fun i j=>.int (f i j)) (uI0 fun i j=>.int (f i j)):=sim_I0 fun _ _ _ _=>relU_int
theorem sim_bool2 {f:Int→Int→Bool}:SimR2 K (rI0 fun i j=>.bl (f i j)) (uI0 fun i j=>.bl (f i j)):=sim_I0 fun _ _ _ _=>relU_bl
theorem sim_int2c {C:Int→Int→Prop} {f:Int→Int→Int}:SimR2 K (rI C fun i j=>.int (f i j)) (uI C fun i j=>.int (f i j)):=sim_I fun _ _ _ _=>relU_int
def uAddS:UR2:=fun x y M Q=>match x,y with
  | .str i,.str j=>i.length + j.length≤sizeLine∧Q (.str (i++j)) M
  | _,_=>False
theorem sim_addS:SimR2 K (fun x y H Q=>∃ i j,x=.str i∧y=.str j∧i.length + j.length≤sizeLine∧Q (.str (i++j)) H) uAddS:=fun x y u w H M Q' rm ru rw h Q c=>by
  cases u with
  | str i=>cases w with
    | str j=>exact ⟨i,j,ru.str,rw.str,h.1,c _ _ M H (Stp.refl _ _) rm relU_str h.2⟩
    | _=>exact h.elim
  | _=>exact h.elim
def rCatTA (K:PySem.W.Frag):R2:=fun x y H Q=>∃ a b xs ys,x=.ref a∧y=.ref b∧SqT K H a xs∧SqT K H b ys∧xs.length + ys.length≤sizeLine ∧
  (xs=[]→Q (.ref b) H)∧(xs≠[]→ys=[]→Q (.ref a) H)∧(xs≠[]→ys≠[]→∀ p,H p=none→Q (.ref p) (upd H p (.tup (xs++ys))))
def uAddT:UR2:=fun x y M Q=>match x,y with
  | .tup us,.tup ws=>us.length + ws.length≤sizeLine∧Q (.tup (us++ws)) M
  | _,_=>False
theorem sim_addT:SimR2 K (rCatTA K) uAddT:=fun x y u w H M Q' rm ru rw h Q c=>by
  cases u with
  | tup us=>cases w with
    | tup ws =>
      obtain ⟨h2,h3⟩:=h
      obtain ⟨a,xs,rfl,s1,r1⟩:=ru.tup
      obtain ⟨b,ys,rfl,s2,r2⟩:=rw.tup
      refine ⟨a,b,xs,ys,rfl,rfl,s1,s2,by rw [← r1.length,← r2.length];exact h2,fun e=>?_,fun _ e=>?_,fun _ _ p hp=>c.tup rm (r1.append r2) hp h3⟩
      · subst e
        have e2:us=[]:=List.length_eq_zero_iff.mp r1.length
        subst e2
        exact c _ _ M H (Stp.refl _ _) rm rw h3
      · subst e
        have e2:ws=[]:=List.length_eq_zero_iff.mp r2.length
        subst e2
        exact c _ _ M H (Stp.refl _ _) rm ru (by rw [List.append_nil] at h3;exact h3)
    | _=>exact h.elim
  | _=>exact h.elim
def uAddL (o:Bool):UR2:=fun x y M Q=>match view M x,view M y with
  | .lst us,.lst ws=>us.length + ws.length≤sizeLine∧mkL o (us++ws) M Q
  | _,_=>False
def rCatL (K:PySem.W.Frag):R2:=fun x y H Q=>∃ l b xs zs,x=.ref l∧y=.ref b∧SqL K H l xs∧SqL K H b zs∧xs.length + zs.length≤sizeLine∧∀ p,H p=none→Q (.ref p) (upd H p (.lst (xs++zs)))
theorem sim_addL {o:Bool}:SimR2 K (rCatL K) (uAddL o):=fun x y u w H M Q' rm ru rw h Q c=>by
  unfold uAddL at h
  split at h
  · rename_i us ws e1 e2
    obtain ⟨a,xs,rfl,s1,r1⟩:=view_lst rm ru e1
    obtain ⟨b,ys,rfl,s2,r2⟩:=view_lst rm rw e2
    exact ⟨a,b,xs,ys,rfl,rfl,s1,s2,by rw [← r1.length,← r2.length];exact h.1,fun p hp=>c.lst rm (r1.append r2) hp h.2⟩
  · exact h.elim
theorem atI_rel {H:Hp} {M:MHp} {us:List U} {vs:List V} {i:Int} {u:U} (r:RelUs K H M us vs) (h:atI us i=some u):∃ v,atI vs i=some v∧RelU K H M u v:=by
  unfold atI at h ⊢
  rw [← r.length]
  cases e:ixN us.length i with
  | none=>rw [e] at h;cases h
  | some j=>rw [e] at h;exact r.get h
def uIx:UR2:=fun x y M Q=>match view M x,y with
  | .lst us,.int i=>∃ u,atI us i=some u∧Q u M
  | .tup us,.int i=>∃ u,atI us i=some u∧Q u M
  | .str z,.int i=>z.length≤sizeLine∧∃ c,atI z.cps.toList i=some c∧Q (.str ⟨#[c]⟩) M
  | _,_=>False
theorem view_tup {M:MHp} {u:U} {us:List U} (h:view M u=.tup us):u=.tup us:=by
  cases u with
  | ref a=>simp only [view] at h;split at h <;> cases h
  | _=>simpa [view] using h
theorem view_str {M:MHp} {u:U} {x:Str} (h:view M u=.str x):u=.str x:=by
  cases u with
  | ref a=>simp only [view] at h;split at h <;> cases h
  | _=>simpa [view] using h
theorem sim_ix:SimR2 K (rIx K) uIx:=fun x y u w H M Q' rm ru rw h Q c=>by
  unfold uIx at h
  split at h
  · rename_i us i e
    obtain ⟨z,h1,h2⟩:=h
    obtain ⟨a,xs,rfl,s1,r1⟩:=view_lst rm ru e
    obtain ⟨v,h3,h4⟩:=atI_rel r1 h1
    exact .inl ⟨a,xs,i,v,rfl,rw.int,s1,h3,c _ _ M H (Stp.refl _ _) rm h4 h2⟩
  · rename_i us i e
    obtain ⟨z,h1,h2⟩:=h
    have e':=view_tup e
    subst e'
    obtain ⟨a,xs,rfl,s1,r1⟩:=ru.tup
    obtain ⟨v,h3,h4⟩:=atI_rel r1 h1
    exact .inr (.inl ⟨a,xs,i,v,rfl,rw.int,s1,h3,c _ _ M H (Stp.refl _ _) rm h4 h2⟩)
  · rename_i z i e
    obtain ⟨h0,d,h1,h2⟩:=h
    have e':=view_str e
    subst e'
    exact .inr (.inr ⟨z,i,d,ru.str,rw.int,h0,h1,c _ _ M H (Stp.refl _ _) rm relU_str h2⟩)
  · exact h.elim
abbrev UO:=SU→MHp→(Option Int→MHp→Prop)→Prop
def SimO (K:PySem.W.Frag) (t:TO) (t':UO):Prop:=∀ (σ:St) (τ:SU) (H:Hp) (M:MHp) (Q':Option Int→MHp→Prop),RelS K H M σ τ→RelM K H M→t' τ M Q' →
  ∀ Q:Option Int→Hp→Prop,(∀ o M1 H1,Stp H M H1 M1→RelM K H1 M1→Q' o M1→Q o H1)→t σ H Q
def uNoPart:UO:=fun _ M Q=>Q none M
def uPart (t:UE):UO:=fun τ M Q=>t τ M fun x M1=>match x with
  | .int i=>Q (some i) M1
  | _=>False
theorem sim_noPart:SimO K tNoPart uNoPart:=fun σ τ H M Q' rs rm q Q c=>c none M H (Stp.refl _ _) rm q
theorem sim_part {t:TE} {t':UE} (h:SimE K t t'):SimO K (tPart t) (uPart t'):=fun σ τ H M Q' rs rm q Q c=>h σ τ H M _ rs rm q _ fun u v M1 H1 s1 rm1 ru h1=>by
  cases u with
  | int i=>exact ⟨i,ru.int,c _ M1 H1 s1 rm1 h1⟩
  | _=>exact h1.elim
def cutU {α:Type} (xs:List α) (lo hi:Option Int):List α:=(xs.drop (HT.sIx xs.length 0 lo)).take (HT.sIx xs.length xs.length hi - HT.sIx xs.length 0 lo)
theorem cut_rel {H:Hp} {M:MHp} {us:List U} {vs:List V} (r:RelUs K H M us vs) (lo hi:Option Int):RelUs K H M (cutU us lo hi) (cutV vs lo hi):=by
  unfold cutU cutV
  rw [r.length]
  exact (r.drop _).take _
def rSlA (K:PySem.W.Frag):V→Option Int→Option Int→Hp→VK→Prop:=fun x lo hi H Q =>
  (∃ a xs,x=.ref a∧SqL K H a xs∧∀ p,H p=none→Q (.ref p) (upd H p (.lst (cutV xs lo hi)))) ∨
  (∃ a xs,x=.ref a∧SqT K H a xs∧¬ (HT.sIx xs.length 0 lo=0∧HT.sIx xs.length xs.length hi=xs.length)∧∀ p,H p=none→Q (.ref p) (upd H p (.tup (cutV xs lo hi)))) ∨
  (∃ z:Str,x=.str z∧z.length≤sizeLine∧Q (.str (Txt.slice z lo hi)) H)
def uSl (o:Bool) (te:UE) (tl th:UO):UE:=fun τ M Q=>te τ M fun x M1=>tl τ M1 fun l M2=>th τ M2 fun h M3=>match view M3 x with
  | .lst us=>mkL o (cutU us l h) M3 Q
  | .tup us=>¬ (HT.sIx us.length 0 l=0∧HT.sIx us.length us.length h=us.length)∧Q (.tup (cutU us l h)) M3
  | .str z=>z.length≤sizeLine∧Q (.str (Txt.slice z l h)) M3
  | _=>False
end
section
variable {K:PySem.W.Frag} {t u:TS} {t' u':US} {te:TE} {te':UE}
def uNext:US:=fun D τ M=>D.nx τ M
def uSeq (t u:US):US:=fun D τ M=>t { D with nx:=u D } τ M
def uBreak:US:=fun D τ M=>D.bk τ M
def uCont:US:=fun D τ M=>D.ct τ M
def uDrop (te:UE):US:=fun D τ M=>te τ M fun _ M1=>D.nx τ M1
def uRet (te:UE):US:=fun D τ M=>te τ M D.rt
def uRetN:US:=fun D _ M=>D.rt .non M
def uIfS (c:UT) (t u:US):US:=fun D τ M=>c τ M fun b M1=>if b=true then t D τ M1 else u D τ M1
theorem sim_next:SimS K tNext uNext:=fun σ τ H M D' rs rm h D d=>d.nx σ τ H M (Stp.refl _ _) rm rs h
theorem sim_seq (h1:SimS K t t') (h2:SimS K u u'):SimS K (tSeq t u) (uSeq t' u'):=fun σ τ H M D' rs rm h D d =>
  h1 σ τ H M _ rs rm h _ ⟨fun σ1 τ1 H1 M1 s rm1 rs1 q=>h2 σ1 τ1 H1 M1 D' rs1 rm1 q D (d.stp s),d.rt,d.bk,d.ct⟩
theorem sim_drop (h1:SimE K te te'):SimS K (tDrop te) (uDrop te'):=fun σ τ H M D' rs rm h D d=>h1 σ τ H M _ rs rm h _ fun u v M1 H1 s rm1 ru q=>d.nx σ τ H1 M1 s rm1 (rs.stp s) q
theorem sim_ret (h1:SimE K te te'):SimS K (tRet te) (uRet te'):=fun σ τ H M D' rs rm h D d=>h1 σ τ H M _ rs rm h _ fun u v M1 H1 s rm1 ru q=>d.rt u v H1 M1 s rm1 ru q
theorem sim_ifS {c:TT} {c':UT} (hc:SimT K c c') (h1:SimS K t t') (h2:SimS K u u'):SimS K (tIfS c t u) (uIfS c' t' u'):=fun σ τ H M D' rs rm h D d=>hc σ τ H M _ rs rm h _ fun b M1 H1 s rm1 q=>by
  cases b with
  | true=>exact h1 σ τ H1 M1 D' (rs.stp s) rm1 q D (d.stp s)
  | false=>exact h2 σ τ H1 M1 D' (rs.stp s) rm1 q D (d.stp s)
abbrev UG:=U→SU→MHp→(SU→MHp→Prop)→Prop
abbrev UGs:=List U→SU→MHp→(SU→MHp→Prop)→Prop
def SimG (K:PySem.W.Frag) (g:TG) (g':UG):Prop:=∀ (u:U) (v:V) (σ:St) (τ:SU) (H:Hp) (M:MHp) (Q':SU→MHp→Prop),RelU K H M u v→RelS K H M σ τ→RelM K H M→g' u τ M Q' →
  ∀ Q:St→Hp→Prop,(∀ σ1 τ1 H1 M1,Stp H M H1 M1→RelM K H1 M1→RelS K H1 M1 σ1 τ1→Q' τ1 M1→Q σ1 H1)→g v σ H Q
def SimGs (K:PySem.W.Frag) (g:TGs) (g':UGs):Prop:=∀ (us:List U) (vs:List V) (σ:St) (τ:SU) (H:Hp) (M:MHp) (Q':SU→MHp→Prop),RelUs K H M us vs→RelS K H M σ τ→RelM K H M→g' us τ M Q' →
  ∀ Q:St→Hp→Prop,(∀ σ1 τ1 H1 M1,Stp H M H1 M1→RelM K H1 M1→RelS K H1 M1 σ1 τ1→Q' τ1 M1→Q σ1 H1)→g vs σ H Q
def hName (i:Nat):UG:=fun u τ M Q=>Q (τ.set i (some u)) M
theorem sim_gname (i:Nat):SimG K (gName i) (hName i):=fun u v σ τ H M Q' ru rs rm h Q c=>c _ _ H M (Stp.refl _ _) rm (rs.set ru) h
def hNil:UGs:=fun us τ M Q=>match us with
  | []=>Q τ M
  | _=>False
def hCons (g:UG) (r:UGs):UGs:=fun us τ M Q=>match us with
  | u :: us=>g u τ M fun τ1 M1=>r us τ1 M1 Q
  | _=>False
theorem sim_gnil:SimGs K gNil hNil:=fun us vs σ τ H M Q' ru rs rm h Q c=>by
  cases us with
  | nil=>exact ⟨ru.inv_nil,c σ τ H M (Stp.refl _ _) rm rs h⟩
  | cons _ _=>exact h.elim
theorem sim_gcons {g:TG} {g':UG} {r:TGs} {r':UGs} (h1:SimG K g g') (h2:SimGs K r r'):SimGs K (gCons g r) (hCons g' r'):=fun us vs σ τ H M Q' ru rs rm h Q c=>by
  cases us with
  | nil=>exact h.elim
  | cons u us =>
    obtain ⟨v,vs',rfl,a,b⟩:=ru.inv_cons
    exact ⟨v,vs',rfl,h1 u v σ τ H M _ a rs rm h _ fun σ1 τ1 H1 M1 s rm1 rs1 q=>h2 us vs' σ1 τ1 H1 M1 Q' (b.stp s) rs1 rm1 q Q fun σ2 τ2 H2 M2 s2=>c σ2 τ2 H2 M2 (s.trans s2)⟩
def hTup (n:Nat) (r:UGs):UG:=fun u τ M Q=>match u with
  | .tup us=>us.length=n∧r us τ M Q
  | _=>False
theorem sim_gtup {n:Nat} {r:TGs} {r':UGs} (h2:SimGs K r r'):SimG K (gTup K n r) (hTup n r'):=fun u v σ τ H M Q' ru rs rm h Q c=>by
  cases u with
  | tup us =>
    obtain ⟨a,vs,rfl,s1,r1⟩:=ru.tup
    exact ⟨a,vs,rfl,s1,by rw [← r1.length];exact h.1,h2 us vs σ τ H M Q' r1 rs rm h.2 Q c⟩
  | _=>exact h.elim
def uAsg (te:UE) (g:UG):US:=fun D τ M=>te τ M fun x M1=>g x τ M1 D.nx
theorem sim_asg {g:TG} {g':UG} (h1:SimE K te te') (h2:SimG K g g'):SimS K (tAsg te g) (uAsg te' g'):=fun σ τ H M D' rs rm h D d =>
  h1 σ τ H M _ rs rm h _ fun u v M1 H1 s rm1 ru q=>h2 u v σ τ H1 M1 _ ru (rs.stp s) rm1 q _ fun σ1 τ1 H2 M2 s2 rm2 rs2 q2=>d.nx σ1 τ1 H2 M2 (s.trans s2) rm2 rs2 q2
def uWhile (c:UT) (tb:US):US:=fun D τ M=>∃ (P:SU→MHp→Prop) (μ:SU→MHp→Nat),P τ M∧∀ τ M,P τ M→c τ M fun b M1=>if b=true then tb { D with nx:=fun τ' M'=>P τ' M'∧μ τ' M' < μ τ M,ct:=fun τ' M'=>P τ' M'∧μ τ' M' < μ τ M,bk:=D.nx } τ M1 else D.nx τ M1
theorem sim_while {c:TT} {c':UT} (hc:SimT K c c') (h1:SimS K t t'):SimS K (tWhile c t) (uWhile c' t'):=fun σ τ H M D' rs rm h D d=>by
  obtain ⟨P,μ,p0,turn⟩:=h
  refine ⟨fun m σ1 H1=>∃ τ1 M1,Stp H M H1 M1∧RelM K H1 M1∧RelS K H1 M1 σ1 τ1∧P τ1 M1∧m=μ τ1 M1,⟨_,τ,M,Stp.refl _ _,rm,rs,p0,rfl⟩,?_⟩
  rintro m σ1 H1 ⟨τ1,M1,s1,rm1,rs1,p1,rfl⟩
  refine hc σ1 τ1 H1 M1 _ rs1 rm1 (turn τ1 M1 p1) _ fun b M2 H2 s2 rm2 q=>?_
  cases b with
  | true =>
    refine ⟨fun σ3 H3=>∃ τ3 M3,Stp H M H3 M3∧RelM K H3 M3∧RelS K H3 M3 σ3 τ3∧P τ3 M3∧μ τ3 M3 < μ τ1 M1,?_,?_⟩
    · rintro σ3 H3 ⟨τ3,M3,s3,rm3,rs3,p3,lt⟩
      exact ⟨_,lt,τ3,M3,s3,rm3,rs3,p3,rfl⟩
    · have d2:=d.stp (s1.trans s2)
      exact h1 σ1 τ1 H2 M2 _ (rs1.stp s2) rm2 q _ ⟨fun σ3 τ3 H3 M3 s3 rm3 rs3 q3=>⟨τ3,M3,(s1.trans s2).trans s3,rm3,rs3,q3.1,q3.2⟩,d2.rt,d2.nx,fun σ3 τ3 H3 M3 s3 rm3 rs3 q3=>⟨τ3,M3,(s1.trans s2).trans s3,rm3,rs3,q3.1,q3.2⟩⟩
  | false=>exact d.nx σ1 τ1 H2 M2 (s1.trans s2) rm2 (rs1.stp s2) q
structure Src where
  own:Option Addr
  xs:List U
def Src.ok (S:Src) (M:MHp):Prop:=∀ a,S.own=some a→M a=some (.lst S.xs)
structure Walk (K:PySem.W.Frag) (J:It) (S:Src) (H:Hp) (M:MHp):Prop where
  step:∀ H1 M1,Stp H M H1 M1→RelM K H1 M1→S.ok M1→∀ (i:Nat) u,S.xs[i]?=some u→J.go i H1∧∀ x H2,J.yld i H1 x H2→Stp H1 M1 H2 M1∧RelM K H2 M1∧RelU K H2 M1 u x
  stop:∀ H1 M1,Stp H M H1 M1→RelM K H1 M1→S.ok M1→J.stop S.xs.length H1
abbrev UI:=SU→MHp→(Src→MHp→Prop)→Prop
def SimI (K:PySem.W.Frag) (t:TI) (t':UI):Prop:=∀ (σ:St) (τ:SU) (H:Hp) (M:MHp) (R':Src→MHp→Prop),RelS K H M σ τ→RelM K H M→t' τ M R' →
  ∀ R:It→Hp→Prop,(∀ J S M1 H1,Stp H M H1 M1→RelM K H1 M1→Walk K J S H1 M1→R' S M1→R J H1)→t σ H R
def uFor (wi:UI) (g:UG) (tb:US):US:=fun D τ M=>wi τ M fun S M1=>∃ P:Nat→SU→MHp→Prop,P 0 τ M1∧(∀ i τ M,P i τ M→S.ok M) ∧
  (∀ i x τ M,S.xs[i]?=some x→P i τ M→g x τ M fun τ2 M2=>tb { D with nx:=P (i + 1),ct:=P (i + 1),bk:=D.nx } τ2 M2)∧∀ τ M,P S.xs.length τ M→D.nx τ M
theorem sim_for {wi:TI} {wi':UI} {g:TG} {g':UG} (hi:SimI K wi wi') (hg:SimG K g g') (h1:SimS K t t'):SimS K (tFor wi g t) (uFor wi' g' t'):=fun σ τ H M D' rs rm h D d=>by
  refine hi σ τ H M _ rs rm h _ fun J S M0 H0 s0 rm0 w h=>?_
  obtain ⟨P,p0,hok,turn,fin⟩:=h
  refine ⟨fun i m σ1 H1=>∃ τ1 M1,Stp H0 M0 H1 M1∧RelM K H1 M1∧RelS K H1 M1 σ1 τ1∧P i τ1 M1∧i≤S.xs.length∧m=S.xs.length - i,⟨_,τ,M0,Stp.refl _ _,rm0,rs.stp s0,p0,Nat.zero_le _,rfl⟩,?_⟩
  rintro i m σ1 H1 ⟨τ1,M1,s1,rm1,rs1,p1,hle,rfl⟩
  have ok1:=hok i τ1 M1 p1
  by_cases hlt:i < S.xs.length
  · obtain ⟨go,yl⟩:=w.step H1 M1 s1 rm1 ok1 i S.xs[i] (by simp [hlt])
    refine .inr ⟨go,fun σ3 H3=>∃ τ3 M3,Stp H0 M0 H3 M3∧RelM K H3 M3∧RelS K H3 M3 σ3 τ3∧P (i + 1) τ3 M3,?_,fun x H2 y=>?_⟩
    · rintro σ3 H3 ⟨τ3,M3,s3,rm3,rs3,p3⟩
      exact ⟨S.xs.length - (i + 1),by omega,τ3,M3,s3,rm3,rs3,p3,hlt,rfl⟩
    · obtain ⟨s2,rm2,ru⟩:=yl x H2 y
      refine hg _ x σ1 τ1 H2 M1 _ ru (rs1.stp s2) rm2 (turn i S.xs[i] τ1 M1 (by simp [hlt]) p1) _ fun σ3 τ3 H3 M3 s3 rm3 rs3 q3=>?_
      have d3:=d.stp (((s0.trans s1).trans s2).trans s3)
      exact h1 σ3 τ3 H3 M3 _ rs3 rm3 q3 _ ⟨fun σ4 τ4 H4 M4 s4 rm4 rs4 q4=>⟨τ4,M4,((s1.trans s2).trans s3).trans s4,rm4,rs4,q4⟩,d3.rt,d3.nx,fun σ4 τ4 H4 M4 s4 rm4 rs4 q4=>⟨τ4,M4,((s1.trans s2).trans s3).trans s4,rm4,rs4,q4⟩⟩
  · have e:i=S.xs.length:=by omega
    subst e
    exact .inl ⟨w.stop H1 M1 s1 rm1 ok1,d.nx σ1 τ1 H1 M1 (s0.trans s1) rm1 rs1 (fin τ1 M1 p1)⟩
end
end U2
namespace U2
open PySem L2
section
variable {K:PySem.W.Frag}
theorem walk_list {a:Addr} {us:List U} {vs:List V} {H:Hp} {M:MHp} (m:(M a=none∧Rd H a (.lst vs))∨KL K a vs) (r:RelUs K H M us vs):Walk K (Itl K a) ⟨none,us⟩ H M:=by
  have sq:∀ H1 M1,Stp H M H1 M1→SqL K H1 a vs:=fun H1 M1 s=>by
    rcases m with ⟨m,h⟩ | k
    · exact .inl (Rd.stp s m h).2
    · exact .inr k
  refine ⟨fun H1 M1 s rm _ i u e=>?_,fun H1 M1 s rm _=>⟨vs,sq H1 M1 s,by rw [r.length];exact Nat.le_refl _⟩⟩
  obtain ⟨v,e2,ru⟩:=r.get e
  refine ⟨⟨vs,v,sq H1 M1 s,e2⟩,fun x H2 y=>?_⟩
  obtain ⟨rfl,y⟩:=y
  have:=y vs (sq _ M1 s)
  rw [e2] at this;cases this
  exact ⟨Stp.refl _ _,rm,ru.stp s⟩
theorem walk_tup {a:Addr} {us:List U} {vs:List V} {H:Hp} {M:MHp} (m:M a=none∧H a=some (.tup vs)) (r:RelUs K H M us vs):Walk K (Itt K a) ⟨none,us⟩ H M:=by
  have sq:∀ H1 M1,Stp H M H1 M1→SqT K H1 a vs:=fun H1 M1 s=>by
    exact .inl (.inl (s.to m.2 m.1).1)
  refine ⟨fun H1 M1 s rm _ i u e=>?_,fun H1 M1 s rm _=>⟨vs,sq H1 M1 s,by rw [r.length];exact Nat.le_refl _⟩⟩
  obtain ⟨v,e2,ru⟩:=r.get e
  refine ⟨⟨vs,v,sq H1 M1 s,e2⟩,fun x H2 y=>?_⟩
  obtain ⟨rfl,y⟩:=y
  have:=y vs (sq _ M1 s)
  rw [e2] at this;cases this
  exact ⟨Stp.refl _ _,rm,ru.stp s⟩
theorem walk_own {a:Addr} {us:List U} {H:Hp} {M:MHp}:Walk K (Itl K a) ⟨some a,us⟩ H M:=by
  refine ⟨fun H1 M1 s rm ok i u e=>?_,fun H1 M1 s rm ok=>?_⟩
  · obtain ⟨vs,h1,r⟩:=rm a _ (ok a rfl)
    obtain ⟨v,e2,ru⟩:=r.get e
    refine ⟨⟨vs,v,.inl (.inl h1),e2⟩,fun x H2 y=>?_⟩
    obtain ⟨rfl,y⟩:=y
    have:=y vs (.inl (.inl h1))
    rw [e2] at this;cases this
    exact ⟨Stp.refl _ _,rm,ru⟩
  · obtain ⟨vs,h1,r⟩:=rm a _ (ok a rfl)
    exact ⟨vs,.inl (.inl h1),by rw [r.length];exact Nat.le_refl _⟩
def Its (z:Str):It:=⟨fun i _=>i < z.cps.size,fun i H x H'=>H'=H∧∃ c,z.cps[i]?=some c∧x=.str ⟨#[c]⟩,fun i _=>i=z.cps.size⟩
def chars (z:Str):List U:=z.cps.toList.map fun c=>.str ⟨#[c]⟩
theorem walk_str {z:Str} {H:Hp} {M:MHp}:Walk K (Its z) ⟨none,chars z⟩ H M:=by
  refine ⟨fun H1 M1 s rm _ i u e=>?_,fun H1 M1 s rm _=>?_⟩
  · have hi:i < z.cps.size:=by
      have:=(List.getElem?_eq_some_iff.mp e).1
      simpa [chars] using this
    refine ⟨hi,fun x H2 y=>?_⟩
    obtain ⟨rfl,c,h1,rfl⟩:=y
    have:u=.str ⟨#[c]⟩:=by
      simp only [chars,List.getElem?_map,Array.getElem?_toList,h1,Option.map_some] at e
      exact (Option.some.inj e).symm
    subst this
    exact ⟨Stp.refl _ _,rm,relU_str⟩
  · show (chars z).length=z.cps.size
    simp [chars]
def iSeq (K:PySem.W.Frag) (tl:TE):TI:=fun σ H R=>tl σ H fun x H1 =>
  (∃ a,x=.ref a∧(∃ xs,SqL K H1 a xs)∧R (Itl K a) H1)∨(∃ a,x=.ref a∧(∃ xs,SqT K H1 a xs)∧R (Itt K a) H1)∨(∃ z,x=.str z∧R (Its z) H1)
def uIter (te:UE):UI:=fun τ M R=>te τ M fun u M1=>match u with
  | .lst us=>R ⟨none,us⟩ M1
  | .tup us=>R ⟨none,us⟩ M1
  | .str z=>R ⟨none,chars z⟩ M1
  | .ref a=>match M1 a with
    | some (.lst us)=>R ⟨some a,us⟩ M1
    | _=>False
  | _=>False
theorem sim_iter {te:TE} {te':UE} (h:SimE K te te'):SimI K (iSeq K te) (uIter te'):=fun σ τ H M R' rs rm q R c=>h σ τ H M _ rs rm q _ fun u v M1 H1 s1 rm1 ru h1=>by
  cases u with
  | lst us =>
    simp only [RelU] at ru
    obtain ⟨a,vs,rfl,m,r⟩:=ru
    refine .inl ⟨a,rfl,⟨vs,?_⟩,c _ _ M1 H1 s1 rm1 (walk_list m r) h1⟩
    rcases m with ⟨_,m⟩ | k
    · exact .inl m
    · exact .inr k
  | tup us =>
    simp only [RelU] at ru
    obtain ⟨a,vs,rfl,m,r⟩:=ru
    refine .inr (.inl ⟨a,rfl,⟨vs,?_⟩,c _ _ M1 H1 s1 rm1 (walk_tup m r) h1⟩)
    exact .inl (.inl m.2)
  | str z=>exact .inr (.inr ⟨z,ru.str,c _ _ M1 H1 s1 rm1 walk_str h1⟩)
  | ref a =>
    dsimp only at h1
    split at h1
    · rename_i us e
      obtain ⟨vs,h2,r⟩:=rm1 a _ e
      exact .inl ⟨a,ru.ref,⟨vs,.inl (.inl h2)⟩,c _ _ M1 H1 s1 rm1 walk_own h1⟩
    · exact h1.elim
  | _=>exact h1.elim
def rangeU (lo:Int) (n:Nat):List U:=(List.range n).map fun (k:Nat)=>U.int (lo + (k:Int))
theorem walk_range {lo:Int} {n:Nat} {H:Hp} {M:MHp}:Walk K (Itr lo n) ⟨none,rangeU lo n⟩ H M:=by
  refine ⟨fun H1 M1 s rm _ i u e=>?_,fun H1 M1 s rm _=>?_⟩
  · have hi:i < n:=by
      have:=(List.getElem?_eq_some_iff.mp e).1
      simpa [rangeU] using this
    refine ⟨hi,fun x H2 y=>?_⟩
    obtain ⟨rfl,rfl⟩:=y
    have:u=.int (lo + i):=by
      simp only [rangeU,List.getElem?_map,List.getElem?_range hi,Option.map_some] at e
      exact (Option.some.inj e).symm
    subst this
    exact ⟨Stp.refl _ _,rm,relU_int⟩
  · show n≤(rangeU lo n).length
    simp [rangeU]
def uRng1 (ta:UA):UI:=fun τ M R=>ta τ M fun us M1=>match us with
  | [.int j]=>-(2 ^ 62)≤j∧j < 2 ^ 62∧R ⟨none,rangeU 0 j.toNat⟩ M1
  | _=>False
def uRng2 (ta:UA):UI:=fun τ M R=>ta τ M fun us M1=>match us with
  | [.int i,.int j]=>(-(2 ^ 62)≤i∧i < 2 ^ 62∧-(2 ^ 62)≤j∧j < 2 ^ 62)∧R ⟨none,rangeU i (j - i).toNat⟩ M1
  | _=>False
theorem sim_rng1 {ta:TA} {ta':UA} (h:SimA K ta ta'):SimI K (iRng1 ta) (uRng1 ta'):=fun σ τ H M R' rs rm q R c=>h σ τ H M _ rs rm q _ fun us vs M1 H1 s1 rm1 ru h1=>by
  split at h1
  · rename_i j
    obtain ⟨v,vs',rfl,a,b⟩:=ru.inv_cons
    cases b.inv_nil
    cases a.int
    exact ⟨j,rfl,h1.1,h1.2.1,c _ _ M1 H1 s1 rm1 walk_range h1.2.2⟩
  · exact h1.elim
abbrev USp:=List U→MHp→UK→Prop
def liftSp (K:PySem.W.Frag) (sp:USp):Sp:=fun vs H Q _=>∃ us M Q',RelM K H M∧RelUs K H M us vs∧sp us M Q'∧Cont K H M Q' Q
def uCall (sp:USp) (dus:List U) (t:UA):UE:=fun τ M Q=>t τ M fun us M1=>sp (us++dus) M1 Q
theorem sim_call {sp:USp} {dus:List U} {dvs:List V} {E:XK} {t:TA} {t':UA} (hd:∀ H M,RelUs K H M dus dvs) (h:SimA K t t'):SimE K (tCall (liftSp K sp) dvs E t) (uCall sp dus t'):=fun σ τ H M Q' rs rm q Q c =>
  h σ τ H M _ rs rm q _ fun us vs M1 H1 s1 rm1 ru h1=>⟨us++dus,M1,Q',rm1,ru.append (hd _ _),h1,Cont.stp c s1⟩
def Sub (M' M1:MHp):Prop:=∀ b mo,M' b=some mo→M1 b=some mo
theorem Sub.refl (M:MHp):Sub M M:=fun _ _ h=>h
theorem Sub.mup {M M1:MHp} {p:Addr} {o:MO} (h:Sub M M1) (hp:M p=none):Sub M (mup M1 p o):=fun b mo e=>by
  have:b≠p:=fun z=>by subst z;rw [hp] at e;cases e
  rw [mup_ne this];exact h b mo e
theorem Sub.less {M M1:MHp} (h:Sub M M1) {H:Hp}:Stp H M1 H M:=Stp.less fun b e=>by
  cases q:M b with
  | none=>rfl
  | some mo=>rw [h b mo q] at e;cases e
theorem RelM.sub {H:Hp} {M M1:MHp} (rm:RelM K H M1) (h:Sub M M1):RelM K H M:=fun a mo e=>(rm a mo (h a mo e)).stp (fun b q z=>h b _ z) (h.less) rfl
def Out (M1 M':MHp) (u u':U):Prop:=u'=u∨∃ a us,u=.ref a∧M1 a=some (.lst us)∧M' a=none∧u'=.lst us
def rtU (Q:UK):UK:=fun u M1=>∃ u' M',Sub M' M1∧Out M1 M' u u'∧Q u' M'
theorem rtU.ok {H H1:Hp} {M M1:MHp} {Q':UK} {Q:VK} {u:U} {v:V} (c:Cont K H M Q' Q) (s:Stp H M H1 M1) (rm:RelM K H1 M1) (ru:RelU K H1 M1 u v) (h:rtU Q' u M1):Q v H1:=by
  obtain ⟨u',M',sb,o,q⟩:=h
  have s':Stp H1 M1 H1 M':=sb.less
  refine c u' v M' H1 (s.trans s') (rm.sub sb) ?_ q
  rcases o with rfl | ⟨a,us,rfl,h1,h2,rfl⟩
  · exact ru.stp s'
  · obtain ⟨vs,h3,h4⟩:=rm a _ h1
    cases ru.ref
    exact relU_lst h2 h3 (h4.stp s')
def startU (N:List Str) (us:List U):SU:=us.map some++List.replicate (N.length - us.length) none
def isL (M:MHp) (x:U):Prop:=∃ us,view M x=.lst us
def uBM (r:U→List U→MHp→UK→Prop) (to:UE) (t:UA):UE:=fun τ M Q=>to τ M fun x M1=>isL M1 x∧t τ M1 fun xs M2=>r x xs M2 Q
def uBM0 (r:U→List U→MHp→UK→Prop) (to:UE):UE:=fun τ M Q=>to τ M fun x M1=>isL M1 x∧r x [] M1 Q
theorem isL.ty {H:Hp} {M:MHp} {u:U} {v:V} (rm:RelM K H M) (ru:RelU K H M u v) (h:isL M u):tyV K "list" v H:=by
  obtain ⟨us,h⟩:=h
  obtain ⟨a,vs,rfl,s,_⟩:=view_lst rm ru h
  exact .inl ⟨rfl,vs,s⟩
theorem sim_bm {r:V→List V→Hp→VK→Prop} {r':U→List U→MHp→UK→Prop} {to:TE} {to':UE} {t:TA} {t':UA} (hr:SimMt K r r') (ho:SimE K to to') (h:SimA K t t') :
    SimE K (tBM K "list" r to t) (uBM r' to' t'):=fun σ τ H M Q' rs rm q Q c =>
  ho σ τ H M _ rs rm q _ fun u v M1 H1 s1 rm1 ru h1=>⟨h1.1.ty rm1 ru,h σ τ H1 M1 _ (rs.stp s1) rm1 h1.2 _ fun us vs M2 H2 s2 rm2 rus h2=>hr v vs u us H2 M2 Q' rm2 (ru.stp s2) rus h2 Q (Cont.stp c (s1.trans s2))⟩
theorem sim_bm0 {r:V→List V→Hp→VK→Prop} {r':U→List U→MHp→UK→Prop} {to:TE} {to':UE} (hr:SimMt K r r') (ho:SimE K to to') :
    SimE K (tBM0 K "list" r to) (uBM0 r' to'):=fun σ τ H M Q' rs rm q Q c =>
  ho σ τ H M _ rs rm q _ fun u v M1 H1 s1 rm1 ru h1=>⟨h1.1.ty rm1 ru,hr v [] u [] H1 M1 Q' rm1 ru .nil h1.2 Q (Cont.stp c s1)⟩
theorem Cont.write {H:Hp} {M:MHp} {Q':UK} {Q:VK} {a:Addr} {us us':List U} {xs':List V} {r:U} {v:V} (c:Cont K H M Q' Q) (rm:RelM K H M) (e:M a=some (.lst us)) (r1:RelUs K H M us' xs') (r2:RelU K H M r v) (q:Q' r (mup M a (.lst us'))):Q v (upd H a (.lst xs')):=by
  have st:Stp H M (upd H a (.lst xs')) (mup M a (.lst us')):=Stp.write e
  exact c _ _ _ _ st (rm.put st ⟨xs',upd_same,r1.stp st⟩) (r2.stp st) q
def mAppend:U→List U→MHp→UK→Prop:=fun x ws M Q=>match x,ws with
  | .ref a,[w]=>match M a with
    | some (.lst us)=>us.length < sizeLine∧Q .non (mup M a (.lst (us++[w])))
    | _=>False
  | _,_=>False
theorem sim_append:SimMt K rAppend mAppend:=fun x xs u us H M Q' rm ru rus h Q c=>by
  unfold mAppend at h
  split at h
  · rename_i a w
    split at h
    · rename_i ws e
      obtain ⟨vs,h1,r⟩:=rm a _ e
      obtain ⟨v,vs',rfl,a1,b⟩:=rus.inv_cons
      cases b.inv_nil
      cases ru.ref
      exact ⟨a,vs,v,rfl,rfl,h1,by rw [← r.length];exact h.1,c.write rm e (r.append (.cons a1 .nil)) relU_non h.2⟩
    · exact h.elim
  · exact h.elim
def mPop:U→List U→MHp→UK→Prop:=fun x ws M Q=>match x,ws with
  | .ref a,[]=>match M a with
    | some (.lst us)=>match us.getLast? with
      | some w=>Q w (mup M a (.lst us.dropLast))
      | none=>False
    | _=>False
  | _,_=>False
theorem sim_pop:SimMt K rPop mPop:=fun x xs u us H M Q' rm ru rus h Q c=>by
  unfold mPop at h
  split at h
  · rename_i a
    split at h
    · rename_i ws e
      split at h
      · rename_i w e2
        obtain ⟨vs,h1,r⟩:=rm a _ e
        cases rus.inv_nil
        cases ru.ref
        rw [List.getLast?_eq_getElem?] at e2
        obtain ⟨v,h3,h4⟩:=r.get e2
        exact ⟨a,vs,v,rfl,rfl,h1,by rw [← r.length];exact h3,c.write rm e r.dropLast h4 h⟩
      · exact h.elim
    · exact h.elim
  · exact h.elim
def rExtendL (K:PySem.W.Frag):V→List V→Hp→VK→Prop:=fun x vs H Q=>∃ l b xs zs,x=.ref l∧vs=[.ref b]∧H l=some (.lst xs)∧SqL K H b zs∧xs.length + zs.length≤sizeLine∧Q .non (upd H l (.lst (xs++zs)))
def mExtend:U→List U→MHp→UK→Prop:=fun x ws M Q=>match x,ws with
  | .ref a,[w]=>match M a,view M w with
    | some (.lst us),.lst zs=>us.length + zs.length≤sizeLine∧Q .non (mup M a (.lst (us++zs)))
    | _,_=>False
  | _,_=>False
theorem sim_extend:SimMt K (rExtendL K) mExtend:=fun x xs u us H M Q' rm ru rus h Q c=>by
  unfold mExtend at h
  split at h
  · rename_i a w
    split at h
    · rename_i ws zs e e2
      obtain ⟨vs,h1,r⟩:=rm a _ e
      obtain ⟨v,vs',rfl,a1,b⟩:=rus.inv_cons
      cases b.inv_nil
      cases ru.ref
      obtain ⟨b,zvs,rfl,s2,r2⟩:=view_lst rm a1 e2
      exact ⟨a,b,vs,zvs,rfl,rfl,h1,s2,by rw [← r.length,← r2.length];exact h.1,c.write rm e (r.append r2) relU_non h.2⟩
    · exact h.elim
  · exact h.elim
def mClear:U→List U→MHp→UK→Prop:=fun x ws M Q=>match x,ws with
  | .ref a,[]=>match M a with
    | some (.lst us)=>Q .non (mup M a (.lst []))
    | _=>False
  | _,_=>False
def bLen:List U→MHp→UK→Prop:=fun us M Q=>match us with
  | [x]=>match view M x with
    | .lst ws=>Q (.int ws.length) M
    | .tup ws=>Q (.int ws.length) M
    | .str z=>z.length≤sizeLine∧Q (.int z.length) M
    | _=>False
  | _=>False
theorem sim_len:SimCl K (fun xs H Q=>∃ x n,xs=[x]∧LenV K x H n∧Q (.int n) H) bLen:=fun xs us H M Q' rm rus h Q c=>by
  unfold bLen at h
  split at h
  · rename_i x
    obtain ⟨v,vs',rfl,a1,b⟩:=rus.inv_cons
    cases b.inv_nil
    split at h
    · rename_i ws e
      obtain ⟨b,zvs,rfl,s2,r2⟩:=view_lst rm a1 e
      exact ⟨_,zvs.length,rfl,.inl ⟨zvs,s2,rfl⟩,c.here rm relU_int (by rw [← r2.length];exact h)⟩
    · rename_i ws e
      have e':=view_tup e
      subst e'
      obtain ⟨b,zvs,rfl,s2,r2⟩:=a1.tup
      exact ⟨_,zvs.length,rfl,.inr ⟨zvs,s2,rfl⟩,c.here rm relU_int (by rw [← r2.length];exact h)⟩
    · rename_i z e
      have e':=view_str e
      subst e'
      cases a1.str
      exact ⟨_,z.length,rfl,⟨h.1,rfl⟩,c.here rm relU_int h.2⟩
    · exact h.elim
  · exact h.elim
def bInt1 (C:Int→Prop) (g:Int→U):List U→MHp→UK→Prop:=fun us M Q=>match us with
  | [.int i]=>C i∧Q (g i) M
  | _=>False
def bInt2 (g:Int→Int→U):List U→MHp→UK→Prop:=fun us M Q=>match us with
  | [.int i,.int j]=>Q (g i j) M
  | _=>False
theorem RelUs.one {H:Hp} {M:MHp} {u:U} {vs:List V} (h:RelUs K H M [u] vs):∃ v,vs=[v]∧RelU K H M u v:=by
  obtain ⟨v,vs',rfl,a1,b⟩:=h.inv_cons
  cases b.inv_nil
  exact ⟨v,rfl,a1⟩
theorem RelUs.two {H:Hp} {M:MHp} {u w:U} {vs:List V} (h:RelUs K H M [u,w] vs):∃ v z,vs=[v,z]∧RelU K H M u v∧RelU K H M w z:=by
  obtain ⟨v,vs',rfl,a1,b⟩:=h.inv_cons
  obtain ⟨z,rfl,b1⟩:=b.one
  exact ⟨v,z,rfl,a1,b1⟩
theorem sim_abs:SimCl K (fun xs H Q=>∃ i,xs=[.int i]∧Q (.int (if i < 0 then -i else i)) H) (bInt1 (fun _=>True) fun i=>.int (if i < 0 then -i else i)):=fun xs us H M Q' rm rus h Q c=>by
  unfold bInt1 at h
  split at h
  · rename_i i
    obtain ⟨v,rfl,a⟩:=rus.one
    cases a.int
    exact ⟨i,rfl,c.here rm relU_int h.2⟩
  · exact h.elim
def bList (o:Bool):List U→MHp→UK→Prop:=fun us M Q=>match us with
  | [x]=>match view M x with
    | .lst ws=>mkL o ws M Q
    | .tup ws=>mkL o ws M Q
    | _=>False
  | _=>False
def bTuple:List U→MHp→UK→Prop:=fun us M Q=>match us with
  | [x]=>match view M x with
    | .lst ws=>Q (.tup ws) M
    | .tup ws=>Q (.tup ws) M
    | _=>False
  | _=>False
theorem sim_list {o:Bool}:SimCl K (fun xs H Q=>∃ p ys,xs=[.ref p]∧(SqL K H p ys∨SqT K H p ys)∧∀ l,H l=none→Q (.ref l) (upd H l (.lst ys))) (bList o):=fun xs us H M Q' rm rus h Q c=>by
  unfold bList at h
  split at h
  · rename_i x
    obtain ⟨v,rfl,a1⟩:=rus.one
    split at h
    · rename_i ws e
      obtain ⟨b,zvs,rfl,s2,r2⟩:=view_lst rm a1 e
      exact ⟨b,zvs,rfl,.inl s2,fun l hl=>c.lst rm r2 hl h⟩
    · rename_i ws e
      have e':=view_tup e
      subst e'
      obtain ⟨b,zvs,rfl,s2,r2⟩:=a1.tup
      exact ⟨b,zvs,rfl,.inr s2,fun l hl=>c.lst rm r2 hl h⟩
    · exact h.elim
  · exact h.elim
theorem sim_tuple:SimCl K (fun xs H Q=>∃ p ys,xs=[.ref p]∧((SqL K H p ys∧∀ l,H l=none→Q (.ref l) (upd H l (.tup ys)))∨(SqT K H p ys∧Q (.ref p) H))) bTuple:=fun xs us H M Q' rm rus h Q c=>by
  unfold bTuple at h
  split at h
  · rename_i x
    obtain ⟨v,rfl,a1⟩:=rus.one
    split at h
    · rename_i ws e
      obtain ⟨b,zvs,rfl,s2,r2⟩:=view_lst rm a1 e
      exact ⟨b,zvs,rfl,.inl ⟨s2,fun l hl=>c.tup rm r2 hl h⟩⟩
    · rename_i ws e
      have e':=view_tup e
      subst e'
      have a2:=a1
      obtain ⟨b,zvs,rfl,s2,r2⟩:=a1.tup
      exact ⟨b,zvs,rfl,.inr ⟨s2,c.here rm a2 h⟩⟩
    · exact h.elim
  · exact h.elim
def typU (M:MHp) (x:U):Option String:=match x with
  | .non=>some "NoneType"
  | .bl _=>some "bool"
  | .int _=>some "int"
  | .str _=>some "str"
  | .tup _=>some "tuple"
  | .lst _=>some "list"
  | .ref a=>match M a with
    | some (.lst _)=>some "list"
    | some (.dK _)=>some "dict"
    | some (.dT _)=>some "dict"
    | _=>none
  | .dic _ _ _=>some "dict"
  | .ty _=>none
def eqS:U→U→Option Bool
  | .non,.non=>some true
  | .non,.int _=>some false | .int _,.non=>some false | .non,.bl _=>some false | .bl _,.non=>some false | .non,.str _=>some false | .str _,.non=>some false
  | .int i,.int j=>some (decide (i=j))
  | .bl i,.bl j=>some (decide (i=j))
  | .str i,.str j=>some (decide (i=j))
  | .int _,.str _=>some false | .str _,.int _=>some false | .bl _,.str _=>some false | .str _,.bl _=>some false
  | _,_=>none
def uEqS:UR2:=fun x y M Q=>match eqS x y with
  | some b=>Q (.bl b) M
  | none=>False
def uNeS:UR2:=fun x y M Q=>match eqS x y with
  | some b=>Q (.bl (!b)) M
  | none=>False
theorem eqS_rel {H:Hp} {M:MHp} {x y:V} {u w:U} {b:Bool} (ru:RelU K H M u x) (rw:RelU K H M w y) (h:eqS u w=some b):scal x y=true∧decide (x=y)=b:=by
  cases u <;> cases w <;> simp only [eqS,Option.some.injEq,reduceCtorEq] at h <;> subst h <;>
    (first
      | (cases ru.non) | (cases ru.bl) | (cases ru.int) | (cases ru.str)) <;>
    (first
      | (cases rw.non) | (cases rw.bl) | (cases rw.int) | (cases rw.str)) <;> simp [scal]
def isNon:U→Bool
  | .non=>true
  | _=>false
def uIsN:UR2:=fun x y M Q=>match y with
  | .non=>Q (.bl (isNon x)) M
  | _=>False
def uNotN:UR2:=fun x y M Q=>match y with
  | .non=>Q (.bl (!isNon x)) M
  | _=>False
theorem isN_rel {H:Hp} {M:MHp} {x:V} {u:U} (ru:RelU K H M u x):decide (x=.non)=isNon u:=by
  cases u with
  | non=>cases ru.non;simp [isNon]
  | bl b=>cases ru.bl;simp [isNon]
  | int b=>cases ru.int;simp [isNon]
  | str b=>cases ru.str;simp [isNon]
  | ty b=>cases ru.ty;simp [isNon]
  | ref b=>cases ru.ref;simp [isNon]
  | tup b=>obtain ⟨a,vs,rfl,_⟩:=ru.tup;simp [isNon]
  | lst b=>obtain ⟨a,vs,rfl,_⟩:=ru.lst;simp [isNon]
  | dic ks tk us=>simp only [RelU] at ru;obtain ⟨a,vs,rfl,_⟩:=ru;simp [isNon]
end
end U2
namespace U2
open PySem L2
def capt {α:Type} (k:Nat) (ix:List Nat) (σ:List (Option α)):List (Option α):=List.replicate k none++ix.map fun i=>(σ[i]?).getD none
def tComp (k:Nat) (ix:List Nat) (wi:TI) (g:TG) (tc:TT) (te:TE):TE:=fun σ H Q=>wi σ H fun J H1=>∀ D,H1 D=none→∃ W:Nat→Nat→Hp→Prop,(∃ m,W 0 m (upd H1 D (.lst [])))∧∀ i m H,W i m H →
  (J.stop i H∧Q (.ref D) H)∨(J.go i H∧∀ x H',J.yld i H x H'→g x (capt k ix σ) H' fun σ2 H2=>tc σ2 H2 fun ok H3 =>
    if ok=true then te σ2 H3 fun y H4=>∃ ys,H4 D=some (.lst ys)∧ys.length < sizeLine∧∃ m',m' < m∧W (i + 1) m' (upd H4 D (.lst (ys++[y]))) else ∃ m',m' < m∧W (i + 1) m' H3)
def endC (o:Bool) (Q:UK) (D:Addr) (ys:List U) (M:MHp):Prop:=match o with
  | true=>Q (.ref D) M
  | false=>∃ M',Sub M' M∧M' D=none∧Q (.lst ys) M'
def uComp (o:Bool) (k:Nat) (ix:List Nat) (wi:UI) (g:UG) (tc:UT) (te:UE):UE:=fun τ M Q=>wi τ M fun S M1=>S.xs.length≤sizeLine∧∀ D,M1 D=none→∃ P:Nat→List U→MHp→Prop,P 0 [] (mup M1 D (.lst [])) ∧
  (∀ i ys M,P i ys M→S.ok M∧M D=some (.lst ys)∧ys.length≤i) ∧
  (∀ i x ys M,S.xs[i]?=some x→P i ys M→g x (capt k ix τ) M fun τ2 M2=>tc τ2 M2 fun ok M3=>if ok=true then te τ2 M3 fun y M4=>M4 D=some (.lst ys)∧P (i + 1) (ys++[y]) (mup M4 D (.lst (ys++[y]))) else P (i + 1) ys M3) ∧
  ∀ ys M,P S.xs.length ys M→endC o Q D ys M
section
variable {K:PySem.W.Frag}
theorem capt_rel {H:Hp} {M:MHp} {σ:St} {τ:SU} (k:Nat) (ix:List Nat) (r:RelS K H M σ τ):RelS K H M (capt k ix σ) (capt k ix τ):=by
  refine ⟨by simp [capt],fun i u e=>?_⟩
  unfold capt at e ⊢
  by_cases hi:i < k
  · rw [List.getElem?_append_left (by simpa using hi),List.getElem?_replicate] at e
    split at e <;> cases e
  · rw [List.getElem?_append_right (by simpa using Nat.le_of_not_lt hi),List.getElem?_map] at e ⊢
    simp only [List.length_replicate] at e ⊢
    cases q:ix[i - k]? with
    | none=>rw [q] at e;cases e
    | some j =>
      rw [q] at e
      simp only [Option.map_some,Option.some.injEq] at e ⊢
      cases z:τ[j]? with
      | none=>rw [z] at e;cases e
      | some w =>
        rw [z] at e
        simp only [Option.getD_some] at e
        subst e
        obtain ⟨v,h1,h2⟩:=r.2 j u z
        exact ⟨v,by rw [h1];rfl,h2⟩
theorem sim_comp {o:Bool} {k:Nat} {ix:List Nat} {wi:TI} {wi':UI} {g:TG} {g':UG} {tc:TT} {tc':UT} {te:TE} {te':UE} (hi:SimI K wi wi') (hg:SimG K g g') (hc:SimT K tc tc') (he:SimE K te te') :
    SimE K (tComp k ix wi g tc te) (uComp o k ix wi' g' tc' te'):=fun σ τ H M Q' rs rm h Q c=>by
  refine hi σ τ H M _ rs rm h _ fun J S M1 H1 s1 rm1 w h=>?_
  obtain ⟨hz,h⟩:=h
  intro D hD
  obtain ⟨P,p0,inv,turn,fin⟩:=h D (rm1.no hD)
  have sD:Stp H1 M1 (upd H1 D (.lst [])) (mup M1 D (.lst [])):=Stp.own rm1 hD
  have rmD:RelM K (upd H1 D (.lst [])) (mup M1 D (.lst [])):=rm1.put sD ⟨[],upd_same,.nil⟩
  refine ⟨fun i m H2=>∃ M2 ys,Stp H1 M1 H2 M2∧RelM K H2 M2∧P i ys M2∧i≤S.xs.length∧m=S.xs.length - i,⟨_,_,[],sD,rmD,p0,Nat.zero_le _,rfl⟩,?_⟩
  rintro i m H2 ⟨M2,ys,s2,rm2,p2,hle,rfl⟩
  obtain ⟨ok2,d2,l2⟩:=inv i ys M2 p2
  by_cases hlt:i < S.xs.length
  · obtain ⟨go,yl⟩:=w.step H2 M2 s2 rm2 ok2 i S.xs[i] (by simp [hlt])
    refine .inr ⟨go,fun x H3 y=>?_⟩
    obtain ⟨s3,rm3,ru⟩:=yl x H3 y
    have rs3:RelS K H3 M2 (capt k ix σ) (capt k ix τ):=capt_rel k ix (((rs.stp s1).stp s2).stp s3)
    refine hg _ x _ _ H3 M2 _ ru rs3 rm3 (turn i S.xs[i] ys M2 (by simp [hlt]) p2) _ fun σ4 τ4 H4 M4 s4 rm4 rs4 q4=>?_
    refine hc σ4 τ4 H4 M4 _ rs4 rm4 q4 _ fun b M5 H5 s5 rm5 q5=>?_
    have s25:Stp H1 M1 H5 M5:=((s2.trans s3).trans s4).trans s5
    cases b with
    | false =>
      exact ⟨S.xs.length - (i + 1),by omega,M5,ys,s25,rm5,q5,hlt,rfl⟩
    | true =>
      refine he σ4 τ4 H5 M5 _ (rs4.stp s5) rm5 q5 _ fun u v M6 H6 s6 rm6 ru6 q6=>?_
      obtain ⟨d6,p6⟩:=q6
      obtain ⟨vs,h6,r6⟩:=rm6 D _ d6
      have l6:vs.length < sizeLine:=by rw [← r6.length];omega
      have s7:Stp H6 M6 (upd H6 D (.lst (vs++[v]))) (mup M6 D (.lst (ys++[u]))):=Stp.write d6
      exact ⟨vs,h6,l6,S.xs.length - (i + 1),by omega,_,ys++[u],(s25.trans s6).trans s7,rm6.put s7 ⟨_,upd_same,(r6.append (.cons ru6 .nil)).stp s7⟩,p6,hlt,rfl⟩
  · have e:i=S.xs.length:=by omega
    subst e
    refine .inl ⟨w.stop H2 M2 s2 rm2 ok2,?_⟩
    have q:=fin ys M2 p2
    cases o with
    | true=>exact c _ _ M2 H2 (s1.trans s2) rm2 relU_ref q
    | false =>
      obtain ⟨M',sb,n,q⟩:=q
      obtain ⟨vs,h6,r6⟩:=rm2 D _ d2
      have s':Stp H2 M2 H2 M':=sb.less
      exact c _ _ M' H2 ((s1.trans s2).trans s') (rm2.sub sb) (relU_lst n h6 (r6.stp s')) q
end
theorem comp_pure {o:Bool} {k:Nat} {ix:List Nat} {wi:UI} {g:UG} {tc:UT} {te:UE} {τ:SU} {M1:MHp} {Q:UK} {S:Src} (f:U→Option U) (hz:S.xs.length≤sizeLine) (hs:S.ok M1)
    (h:∀ x∈S.xs,∀ M,Sub M1 M→∀ R:Option U→MHp→Prop,R (f x) M→g x (capt k ix τ) M fun τ2 M2=>tc τ2 M2 fun ok M3=>if ok=true then te τ2 M3 fun y M4=>R (some y) M4 else R none M3)
    (q:mkL o (S.xs.filterMap f) M1 Q):S.xs.length≤sizeLine∧∀ D,M1 D=none→∃ P:Nat→List U→MHp→Prop,P 0 [] (mup M1 D (.lst [])) ∧
  (∀ i ys M,P i ys M→S.ok M∧M D=some (.lst ys)∧ys.length≤i) ∧
  (∀ i x ys M,S.xs[i]?=some x→P i ys M→g x (capt k ix τ) M fun τ2 M2=>tc τ2 M2 fun ok M3=>if ok=true then te τ2 M3 fun y M4=>M4 D=some (.lst ys)∧P (i + 1) (ys++[y]) (mup M4 D (.lst (ys++[y]))) else P (i + 1) ys M3) ∧
  ∀ ys M,P S.xs.length ys M→endC o Q D ys M:=by
  refine ⟨hz,fun D hD=>⟨fun i ys M=>ys=(S.xs.take i).filterMap f∧M=mup M1 D (.lst ys)∧i≤S.xs.length,⟨by simp,rfl,Nat.zero_le _⟩,?_,?_,?_⟩⟩
  · rintro i ys M ⟨rfl,rfl,hi⟩
    refine ⟨fun a e=>?_,mup_same,?_⟩
    · have:=hs a e
      rw [mup_ne (fun z=>by subst z;rw [hD] at this;cases this)]
      exact this
    · refine Nat.le_trans (List.length_filterMap_le _ _) ?_
      rw [List.length_take];omega
  · rintro i x ys M e ⟨rfl,rfl,hi⟩
    have hlt:i < S.xs.length:=(List.getElem?_eq_some_iff.mp e).1
    have hx:x∈S.xs:=List.mem_of_getElem? e
    have tk:(S.xs.take (i + 1)).filterMap f=(S.xs.take i).filterMap f++(f x).toList:=by
      rw [List.take_add_one,e,List.filterMap_append]
      cases q:f x <;> simp [q]
    refine h x hx (mup M1 D (.lst ((S.xs.take i).filterMap f))) ((Sub.refl M1).mup hD) (fun r M4=>match r with
      | some y=>M4 D=some (.lst ((S.xs.take i).filterMap f))∧((S.xs.take i).filterMap f++[y]=(S.xs.take (i + 1)).filterMap f∧mup M4 D (.lst ((S.xs.take i).filterMap f++[y]))=mup M1 D (.lst ((S.xs.take i).filterMap f++[y]))∧i + 1≤S.xs.length)
      | none=>(S.xs.take i).filterMap f=(S.xs.take (i + 1)).filterMap f∧M4=mup M1 D (.lst ((S.xs.take i).filterMap f))∧i + 1≤S.xs.length) ?_
    rw [tk]
    cases f x with
    | none=>exact ⟨by simp,rfl,hlt⟩
    | some y=>exact ⟨mup_same,rfl,mup_mup,hlt⟩
  · rintro ys M ⟨rfl,rfl,hi⟩
    rw [List.take_length]
    cases o with
    | true=>exact q D hD
    | false=>exact ⟨M1,(Sub.refl M1).mup hD,hD,q⟩
end U2
namespace U2
open PySem PySem.Spec PyProof.Rows L2
theorem turn_str {P:Program} {w:World} {K:PySem.W.Frag} {tg:Expr} {ty:String} (z:Str) (t:Tok) (it:Addr)
    (W:∀ A':Around,A'.handled=none→Walks P w A' it [it] [it] z.cps.size (SignAt z) (fun i h=>h.IsStrIter it ty z t i))
    (hty:["enumerate","zip","dict_itemiterator","dict_reverseitemiterator","odict_iterator","itertools.zip_longest","itertools.pairwise"].contains ty=false)
    (self:∀ (A:Around) (i:Nat) (s:Shared) (Q:Value→Shared→Prop) (E:Value→Shared→Prop),s.heap.IsStrIter it ty z t i→Q (.ref it) s→wpAny (model P w) A (pyIter (.ref it)) Q E s) :
    Turn P w K tg (Its z) [it] it (fun i h=>h.IsStrIter it ty z t i) where
  mem:=by simp
  obj:=fun i h st b hb=>by
    have e:b=it:=by simpa using hb
    subst e
    obtain ⟨o,e,c,d⟩:=st
    exact ⟨o,e,fun v z=>by rw [d] at z;cases z⟩
  keep:=fun i h h' st k=>let ⟨o,ho,r⟩:=st;⟨o,k it (by simp) o ho,r⟩
  item:=by
    intro X hP hw hK hc i pins s σ H E I hf st hg
    subst hP hw hK
    obtain ⟨f0,f1,f2,f3,f4,f5⟩:=hf it (by simp)
    refine (W X.A (I.ok.hd hc)).item i s _ E hg st fun v h' tk hv st' k=>?_
    obtain ⟨c,u,hc',rfl⟩:=hv
    have I1:Inv X pins σ H { s with heap:=h',toks:=tk }:=I.turned (t':=tk) (fun b o hb e=>k b o (by simpa using hb) e) f0 f1 f3 f4 f5
    obtain ⟨o,e,cl,d⟩:=id st'
    exact ⟨_,rfl,go_of (s:={ s with heap:=h',toks:=tk }) e cl d hty ⟨.str ⟨#[c]⟩,H,I1,⟨_,rfl⟩,⟨rfl,c,hc',rfl⟩,st',fun b hb=>(hf b hb).1⟩⟩
  done:=by
    intro X hP hw hK hc i pins s σ H E I hf st hg
    subst hP hw hK
    have hg':i=z.cps.size:=hg
    subst hg'
    obtain ⟨f0,f1,f2,f3,f4,f5⟩:=hf it (by simp)
    exact (W X.A (I.ok.hd hc)).done s _ E st fun h' tk k=>⟨rfl,I.turned (t':=tk) (fun b o hb e=>k b o (by simpa using hb) e) f0 f1 f3 f4 f5⟩
  self:=self
section
variable {X:Cx} {tg:Expr}
theorem pi_seq {l:Expr} {tl:TE} (hl:PE X l tl):PI X tg l (iSeq X.K tl):=by
  intro pins s σ H R I h
  refine thn (hl pins s σ H _ I h) fun v s1 ⟨x,H1,I1,r1,q1⟩=>?_
  have fp:∀ b∈[s1.heap.objs.size],FpOk X pins H1 b:=fun b hb=>by
    have e:b=s1.heap.objs.size:=by simpa using hb
    subst e
    exact I1.fpOk (Nat.le_refl _) (I1.hok.fresh (Nat.le_refl _))
  rcases q1 with ⟨a,rfl,⟨xs,hq⟩,q⟩ | ⟨a,rfl,⟨xs,hq⟩,q⟩ | ⟨z,rfl,q⟩
  · cases r1
    obtain ⟨its,rv,p,hz⟩:=I1.list hq
    refine wpAny_pyIter_list p.isList ?_
    exact ⟨s1.heap.objs.size,[s1.heap.objs.size],_,_,H1,rfl,I1.kept (t':=s1.toks) fun b o e=>Heap.get?_push_of_some _ e,turn_list a _,⟨_,Heap.get?_push_size _ rfl,rfl,rfl⟩,fp,q⟩
  · cases r1
    obtain ⟨its,rv,p,hz⟩:=I1.tuple hq
    refine wpAny_pyIter_tuple (show s1.heap.IsTuple a its.toArray from p) ?_
    exact ⟨s1.heap.objs.size,[s1.heap.objs.size],_,_,H1,rfl,I1.kept (t':=s1.toks) fun b o e=>Heap.get?_push_of_some _ e,turn_tuple a _,⟨_,Heap.get?_push_size _ rfl,rfl,rfl⟩,fp,q⟩
  · obtain ⟨t,rfl⟩:=r1
    cases ha:z.cps.all (· < 128)
    · refine wpAny_pyIter_wide ha ?_
      exact ⟨s1.heap.objs.size,[s1.heap.objs.size],_,_,H1,rfl,I1.kept (t':=s1.toks) fun b o e=>Heap.get?_push_of_some _ e,
        turn_str z t _ (fun A' hA=>Walks.strWide hA _ z t) (by decide) (fun A i s Q E st h=>wpAny_pyIter_striter_wide st h),⟨_,Heap.get?_push_size _ rfl,rfl,rfl⟩,fp,q⟩
    · refine wpAny_pyIter_ascii ha ?_
      exact ⟨s1.heap.objs.size,[s1.heap.objs.size],_,_,H1,rfl,I1.kept (t':=s1.toks) fun b o e=>Heap.get?_push_of_some _ e,
        turn_str z t _ (fun A' hA=>Walks.strAscii hA _ z t) (by decide) (fun A i s Q E st h=>wpAny_pyIter_striter_ascii st h),⟨_,Heap.get?_push_size _ rfl,rfl,rfl⟩,fp,q⟩
end
section
variable {prog:Program} {w:World} {A:Around} {R:Result→Shared→Prop} {s:Shared}
theorem compLoop_tg {elt target iter:Expr} {ifs:List Expr} {scope:Scope} {pos:Pos} {it acc:Value} {env:Env} (I:Nat→Shared→Prop)
    (turn:∀ n s,I n s→wpAny (model prog w) A (pyNext it) (fun r s₁=>match r with
      | none=>R (.ok .next) s₁
      | some v=>wpAny (model prog w) A (letOwnedTupleGo target it v) (fun _ s₀=>wpAny (model prog w) A (assign target env v) (fun _ s₂ =>
          wpAny (model prog w) A (forIn ifs true fun c r=>if r=true then do let ok ← isTrue c env (eval c env);pure (ForInStep.yield ok) else pure (ForInStep.yield r)) (fun ok s₃ =>
            if ok=true then wpAny (model prog w) A (eval elt env) (fun x s₄ =>
              wpAny (model prog w) A (call (.builtin "list.append") [acc,x]) (fun _ s₅=>∃ m,m < n∧I m s₅) (fun _ _=>False) s₄) (fun _ _=>False) s₃
            else ∃ m,m < n∧I m s₃) (fun _ _=>False) s₂) (fun _ _=>False) s₀) (fun _ _=>False) s₁) (fun _ _=>False) s)
    (n:Nat) (h:I n s) :
    codeAny (model prog w) A (.compLoop (.ListComp elt [⟨target,iter,ifs,0⟩] scope pos) 0 it acc env) R s:=by
  refine codeAny_loop rfl I (fun n s hI=>?_) n h
  show wpAny _ A ((compTurn (.ListComp elt [⟨target,iter,ifs,0⟩] scope pos) 0 it acc env).onRaise (fun x=>do noteFrame x env;theTreesLotGoes x)) _ _ s
  refine wpAny_noted ?_
  rw [compTurn_list]
  refine wpAny_bind (wpAny_standAt (wpAny_bind (wpAny_mono (turn n s hI) (fun r s₁ h₁=>?_) fun _ _ h'=>h'.elim)))
  cases r with
  | none=>exact wpAny_pure h₁
  | some v =>
    refine wpAny_bind (wpAny_mono h₁ (fun _ s₀ h₀=>?_) fun _ _ h'=>h'.elim)
    refine wpAny_bind (wpAny_mono h₀ (fun _ s₂ h₂=>wpAny_bind (wpAny_mono h₂ (fun ok s₃ h₃=>?_) fun _ _ h'=>h'.elim)) fun _ _ h'=>h'.elim)
    cases ok with
    | false=>exact wpAny_pure ⟨rfl,h₃⟩
    | true =>
      exact wpAny_bind (wpAny_bind (wpAny_mono h₃ (fun x s₄ h₄=>wpAny_bind (wpAny_mono h₄ (fun _ s₅ h₅=>wpAny_pure (wpAny_pure ⟨rfl,h₅⟩)) fun _ _ h'=>h'.elim)) fun _ _ h'=>h'.elim))
theorem closure_go {env:Env}:∀ (names:List (Str × NameKind)) (cs:List (Str × Addr)),(∀ x∈names,x.2=.free→∃ c,env.cells.lookup x.1=some c) →
    (∀ x c,cs.lookup x=some c→env.cells.lookup x=some c) →
    ∃ cl,(forIn names cs fun (x:Str × NameKind) (cs:List (Str × Addr))=>(if (x.2 == NameKind.free)=true then do let c ← cellOf env x.1;pure (ForInStep.yield ((x.1,c) :: cs)) else pure (ForInStep.yield cs):Sem (ForInStep (List (Str × Addr)))))=pure cl ∧
      (∀ x c,cl.lookup x=some c→env.cells.lookup x=some c)∧(∀ x,(∃ c,cs.lookup x=some c)∨(x,NameKind.free)∈names→∃ c,cl.lookup x=some c)
  | [],cs,_,h=>⟨cs,rfl,h,fun x hx=>by rcases hx with hx | hx;exact hx;cases hx⟩
  | (n,k) :: r,cs,hf,h=>by
    rw [List.forIn_cons]
    by_cases hk:k=.free
    · subst hk
      obtain ⟨c,hc⟩:=hf (n,.free) List.mem_cons_self rfl
      have e:cellOf env n=pure c:=by unfold cellOf;rw [hc]
      simp only [beq_self_eq_true,if_true,e,pure_bind]
      obtain ⟨cl,h1,h2,h3⟩:=closure_go r ((n,c) :: cs) (fun x hx=>hf x (List.mem_cons_of_mem _ hx)) (fun x d q=>by
        rw [List.lookup_cons] at q
        split at q
        · rename_i e;cases q;rw [beq_iff_eq.mp e];exact hc
        · exact h x d q)
      refine ⟨cl,h1,h2,fun x hx=>h3 x ?_⟩
      rcases hx with ⟨d,hd⟩ | hx
      · left
        rw [List.lookup_cons]
        split
        · exact ⟨_,rfl⟩
        · exact ⟨d,hd⟩
      · rcases List.mem_cons.mp hx with e | hx
        · left;cases e;exact ⟨c,by simp [List.lookup_cons]⟩
        · exact .inr hx
    · have hb:(k == NameKind.free)=false:=by simpa using hk
      simp only [hb,Bool.false_eq_true,if_false,pure_bind]
      obtain ⟨cl,h1,h2,h3⟩:=closure_go r cs (fun x hx=>hf x (List.mem_cons_of_mem _ hx)) h
      refine ⟨cl,h1,h2,fun x hx=>h3 x ?_⟩
      rcases hx with hx | hx
      · exact .inl hx
      · rcases List.mem_cons.mp hx with e | hx
        · cases e;exact absurd rfl hk
        · exact .inr hx
theorem closure_of {env:Env} {scope:Scope} (hf:∀ x∈scope.names,x.2=.free→∃ c,env.cells.lookup x.1=some c) :
    ∃ cl,closureFor scope env=pure cl∧(∀ x c,cl.lookup x=some c→env.cells.lookup x=some c)∧(∀ x,(x,NameKind.free)∈scope.names→∃ c,cl.lookup x=some c):=by
  obtain ⟨cl,h1,h2,h3⟩:=closure_go (env:=env) scope.names [] hf (fun x c h=>by cases h)
  refine ⟨cl,?_,h2,fun x hx=>h3 x (.inr hx)⟩
  unfold closureFor
  first
    | exact h1
    | (have:_:=h1;simpa using this)
end
def compCx (X:Cx) (N:List Str) (scope:Scope) (cl:List (Str × Addr)) (C:Addr) (s:Shared) (H:Hp) (fp:List Addr):Cx where
  prog:=X.prog
  w:=X.w
  K:=X.K
  mg:=X.mg
  base:=X.base
  A:=X.A
  N:=N
  s₀:=s
  H₀:=H
  env:=compEnvC scope cl C X.env
  outer:=X.stack
  stack:=X.stack
  ex:=fp
  fn:=fun _=>false
  calm:=X.calm
  pn:=[]
  xe:=fun _ _=>False
def PIf (X:Cx) (ifs:List Expr) (t:TT):Prop :=
  ∀ (pins:List (Addr × Obj)) (s:Shared) (σ:L2.St) (H:Hp) (Q:Bool→Hp→Prop),Inv X pins σ H s→t σ H Q →
    wpAny (model X.prog X.w) X.A (forIn ifs true fun c r=>if r=true then do let ok ← isTrue c X.env (eval c X.env);pure (ForInStep.yield ok) else pure (ForInStep.yield r)) (TP X pins σ Q) X.xe s
def tYes:TT:=fun _ H Q=>Q true H
theorem pif_nil {X:Cx}:PIf X [] tYes:=fun pins s σ H Q I h=>wpAny_tests_nil ⟨H,I,h⟩
theorem pif_one {X:Cx} {c:Expr} {t:TT} (h:PT X c t):PIf X [c] t:=fun pins s σ H Q I q=>wpAny_tests_one (h pins s σ H Q I q)
def GK (k:Nat) (g:TG):Prop:=∀ x σ H Q,g x σ H Q→g x σ H (fun σ2 H2=>(∀ j,k≤j→σ2[j]?=σ[j]?)∧Q σ2 H2)
def GKs (k:Nat) (g:TGs):Prop:=∀ xs σ H Q,g xs σ H Q→g xs σ H (fun σ2 H2=>(∀ j,k≤j→σ2[j]?=σ[j]?)∧Q σ2 H2)
theorem gk_name {k i:Nat} (h:i < k):GK k (gName i):=fun x σ H Q q=>⟨fun j hj=>by rw [List.getElem?_set,if_neg (by omega)],q⟩
theorem gk_nil {k:Nat}:GKs k gNil:=fun xs σ H Q q=>⟨q.1,fun j _=>rfl,q.2⟩
theorem gk_cons {k:Nat} {g:TG} {r:TGs} (h1:GK k g) (h2:GKs k r) (m2:∀ xs σ H Q Q',(∀ σ2 H2,Q σ2 H2→Q' σ2 H2)→r xs σ H Q→r xs σ H Q') (m1:∀ x σ H Q Q',(∀ σ2 H2,Q σ2 H2→Q' σ2 H2)→g x σ H Q→g x σ H Q'):GKs k (gCons g r):=fun xs σ H Q q=>by
  obtain ⟨v,r',rfl,q⟩:=q
  refine ⟨v,r',rfl,m1 _ _ _ _ _ (fun σ2 H2 z=>?_) (h1 _ _ _ _ q)⟩
  exact m2 _ _ _ _ _ (fun σ3 H3 y=>⟨fun j hj=>(y.1 j hj).trans (z.1 j hj),y.2⟩) (h2 _ _ _ _ z.2)
theorem m_name {i:Nat}:∀ x σ H (Q Q':L2.St→Hp→Prop),(∀ σ2 H2,Q σ2 H2→Q' σ2 H2)→gName i x σ H Q→gName i x σ H Q':=fun x σ H Q Q' h q=>h _ _ q
theorem m_nil:∀ xs σ H (Q Q':L2.St→Hp→Prop),(∀ σ2 H2,Q σ2 H2→Q' σ2 H2)→gNil xs σ H Q→gNil xs σ H Q':=fun x σ H Q Q' h q=>⟨q.1,h _ _ q.2⟩
theorem m_cons {g:TG} {r:TGs} (m1:∀ x σ H Q Q',(∀ σ2 H2,Q σ2 H2→Q' σ2 H2)→g x σ H Q→g x σ H Q') (m2:∀ xs σ H Q Q',(∀ σ2 H2,Q σ2 H2→Q' σ2 H2)→r xs σ H Q→r xs σ H Q') :
    ∀ xs σ H (Q Q':L2.St→Hp→Prop),(∀ σ2 H2,Q σ2 H2→Q' σ2 H2)→gCons g r xs σ H Q→gCons g r xs σ H Q':=fun xs σ H Q Q' h q=>by
  obtain ⟨v,r',rfl,q⟩:=q
  exact ⟨v,r',rfl,m1 _ _ _ _ _ (fun σ2 H2 z=>m2 _ _ _ _ _ h z) q⟩
theorem gk_tup {K:PySem.W.Frag} {k n:Nat} {r:TGs} (h:GKs k r):GK k (gTup K n r):=fun x σ H Q q=>by
  obtain ⟨a,xs,rfl,h1,h2,q⟩:=q
  exact ⟨a,xs,rfl,h1,h2,h _ _ _ _ q⟩
theorem m_tup {K:PySem.W.Frag} {n:Nat} {r:TGs} (m2:∀ xs σ H Q Q',(∀ σ2 H2,Q σ2 H2→Q' σ2 H2)→r xs σ H Q→r xs σ H Q') :
    ∀ x σ H (Q Q':L2.St→Hp→Prop),(∀ σ2 H2,Q σ2 H2→Q' σ2 H2)→gTup K n r x σ H Q→gTup K n r x σ H Q':=fun x σ H Q Q' h q=>by
  obtain ⟨a,xs,rfl,h1,h2,q⟩:=q
  exact ⟨a,xs,rfl,h1,h2,m2 _ _ _ _ _ h q⟩
theorem comp_core {X:Cx} {tg elt iter:Expr} {ifs:List Expr} {scope:Scope} {pos:Pos} {N:List Str} {k:Nat} {ix:List Nat} {wi:TI} {g:TG} {tc:TT} {te:TE}
    (hc:X.calm=true) (hi:PI X tg iter wi) (gk:GK k g)
    (hk:scope.kind=.function) (hcell:∀ y∈scope.names,y.2≠.cell) (hnames:∀ y∈scope.names,y.2=.local→scope.names.lookup y.1=some .local)
    (hfree:∀ y∈scope.names,y.2=.free→X.env.kindOf y.1=some .cell∨X.env.kindOf y.1=some .free)
    (hone:∀ y∈scope.names,y.2=.free→scope.names.lookup y.1=some .free)
    (hN:∀ (j:Nat) x,N[k + j]?=some x→∃ i,ix[j]?=some i∧X.N[i]?=some x)
    (hcap:∀ (j:Nat) x,N[k + j]?=some x→scope.names.lookup x=some .free)
    (hlen:N.length=k + ix.length)
    (hg:∀ cl C s H fp,PG (compCx X N scope cl C s H fp) tg g)
    (hif:∀ cl C s H fp,PIf (compCx X N scope cl C s H fp) ifs tc)
    (he:∀ cl C s H fp,PE (compCx X N scope cl C s H fp) elt te)
    (hs:∀ x,foldedSetIterable iter X.env x=pure x) {pins:List (Addr × Obj)} {s:Shared} {σ:L2.St} {H:Hp} {Q:VK} (I:L2.Inv X pins σ H s) (h:tComp k ix wi g tc te σ H Q) {pos':Pos} {use:Option (Value→Sem Unit)} {QQ:Value→Shared→Prop}
    (end_:∀ (D C:Addr) (H3:Hp) (s4:Shared),L2.Inv X pins σ H3 s4→(∃ m,s4.heap.Ns C m)→H3 C=none→C≠X.env.locals→X.s₀.heap.objs.size≤C→(∀ x c,X.env.cells.lookup x=some c→c≠C)→(∀ p∈X.pn++pins,p.1≠C) →
      (∀ h':Heap,Heap.SameBut C s4.heap h'→L2.Inv X pins σ H3 { s4 with heap:=h' })→Q (.ref D) H3→compPost (model X.prog X.w) X.A X.xe use QQ (.ref D) C (.ok .next) s4) :
    wpAny (model X.prog X.w) X.A (comprehension (.ListComp elt [⟨tg,iter,ifs,0⟩] scope pos) scope X.env pos' (newList []) false (eval iter X.env) use) QQ X.xe s:=by
  obtain ⟨cl,hclos,hcl,hcl2⟩:=closure_of (env:=X.env) (scope:=scope) (fun x hx e=>I.ok.has x.1 (hfree x hx e))
  refine wpAny_comprehension_free (use:=use) rfl hs hclos hk hnames (thn (hi pins s σ H _ I h) fun v s1 h1=>thn h1 fun itv s2 h2=>?_)
  obtain ⟨it,fp,tn,J,H2,rfl,I2,T,st2,f2,h2⟩:=h2
  refine wpAny_newObj_type (wpAny_newFunctionEnv hcell (by intro y hy;simp at hy) (fun h₁ hns₁ hsb₁=>?_) hk)
  dsimp only at hns₁ hsb₁ ⊢
  generalize hP:s2.heap.push { cls:=.type "list",dict:=none,data:=.seq ([]:List Value).toArray }=P2 at hns₁ hsb₁ ⊢
  have hCs:P2.objs.size=s2.heap.objs.size + 1:=by rw [← hP,Heap.size_push]
  have below:∀ b,b < s2.heap.objs.size→b≠P2.objs.size:=fun b hb=>by rw [hCs];omega
  have old:∀ b o,s2.heap.get? b=some o→h₁.get? b=some o:=fun b o e=>hsb₁.extBut b o (below b (Heap.lt_size e)) (Heap.get?_push_of_some _ (hP ▸ Heap.get?_push_of_some _ e))
  have hacc:h₁.get? s2.heap.objs.size=some { cls:=.type "list",dict:=none,data:=.seq ([]:List Value).toArray }:=hsb₁.extBut _ _ (show s2.heap.objs.size≠P2.objs.size by rw [hCs];exact Nat.ne_of_lt (Nat.lt_succ_self _)) (Heap.get?_push_of_some _ (hP ▸ Heap.get?_push_size _ rfl))
  obtain ⟨W,⟨m0,w0⟩,turn⟩:=h2 s2.heap.objs.size (I2.hok.fresh (Nat.le_refl _))
  have fpl:∀ b∈fp,b < s2.heap.objs.size:=fun b hb=>let ⟨o,e,_⟩:=T.obj _ _ st2 b hb;Heap.lt_size e
  have σl:(capt k ix σ).length=N.length:=by rw [hlen];simp [capt]
  have i2:=I2.ok
  -- the block's context is in order
  have ok':(compCx X N scope cl P2.objs.size s2 H2 fp).Ok:=by
    refine ⟨i2.mod,hk,i2.glob,i2.blt,(by show s2.heap.objs.size≤P2.objs.size;rw [hCs];exact Nat.le_succ _),fun x y c e1 e2=>i2.inj x y c (hcl x c e1) (hcl y c e2),fun x hx=>?_,(fun x c e=>by cases e),i2.hd,i2.frames,.inl rfl,fun b hb=>?_,fun b o e=>I2.bs b o e,Nat.le_trans i2.bsz I2.sz,fun b o e hb=>?_,fun b hb hb2=>?_,I2.stack,I2.stkFree⟩
    · -- a cell of the block's
      have hx':(relabel scope X.env).names.lookup x=some .cell∨(relabel scope X.env).names.lookup x=some .free:=hx
      have key:∀ (names:List (Str × NameKind)),(∀ y∈names,y.2≠.cell)→((names.map fun (n,k)=>if (k == NameKind.free && X.env.scope.kind == .function && X.env.kindOf n == some .cell) then (n,NameKind.cell) else (n,k)).lookup x=some .cell ∨
          (names.map fun (n,k)=>if (k == NameKind.free && X.env.scope.kind == .function && X.env.kindOf n == some .cell) then (n,NameKind.cell) else (n,k)).lookup x=some .free)→(x,NameKind.free)∈names:=by
        intro names
        induction names with
        | nil=>intro _ h;rcases h with h | h <;> cases h
        | cons y r ih =>
          obtain ⟨n,kd⟩:=y
          intro hnc h
          by_cases hxn:x=n
          · subst hxn
            have hkc:kd≠.cell:=hnc (x,kd) List.mem_cons_self
            by_cases hkf:kd=.free
            · subst hkf;exact List.mem_cons_self
            · exfalso
              have hb:(kd == NameKind.free)=false:=by simpa using hkf
              simp only [List.map_cons,hb,Bool.false_and,Bool.false_eq_true,if_false,List.lookup_cons,beq_self_eq_true] at h
              rcases h with h | h
              · exact hkc (Option.some.inj h)
              · exact hkf (Option.some.inj h)
          · have hb:(x == n)=false:=by simpa using hxn
            refine List.mem_cons_of_mem _ (ih (fun y hy=>hnc y (List.mem_cons_of_mem _ hy)) ?_)
            have e1:∀ z:NameKind,List.lookup x (((n,z)) :: (r.map fun (n,k)=>if (k == NameKind.free && X.env.scope.kind == .function && X.env.kindOf n == some .cell) then (n,NameKind.cell) else (n,k)))=List.lookup x (r.map fun (n,k)=>if (k == NameKind.free && X.env.scope.kind == .function && X.env.kindOf n == some .cell) then (n,NameKind.cell) else (n,k)):=fun z=>by rw [List.lookup_cons,hb]
            rw [List.map_cons] at h
            dsimp only at h
            split at h
            · rw [e1] at h;exact h
            · rw [e1] at h;exact h
      exact hcl2 x (key scope.names hcell hx')
    · exact ⟨below b (fpl b hb),fun x c e=>(f2 b hb).2.2.2.2.1 x c (hcl x c e)⟩
    · rcases (f2 b hb).2.2.2.1 with z | z
      · exact i2.noex b o e z
      · exact absurd (Nat.lt_of_lt_of_le (Heap.lt_size e) (Nat.le_trans i2.bsz z)) (Nat.lt_irrefl _)
    · rcases List.mem_cons.mp (I2.stkSub b hb2) with z | z
      · exact (f2 b hb).2.1 z
      · exact (f2 b hb).2.2.1 z
  have stat:∀ {H':Hp},(∀ b∈fp,H' b=none)→∀ b∈fp,FpOk (compCx X N scope cl P2.objs.size s2 H2 fp) [] H' b:=fun hn b hb =>
    ⟨hn b hb,below b (fpl b hb),fun z=>ok'.exfs b hb z,.inl hb,fun x c e=>(f2 b hb).2.2.2.2.1 x c (hcl x c e),(fun p hp=>by cases hp)⟩
  have hD:H2 s2.heap.objs.size=none:=I2.hok.fresh (Nat.le_refl _)
  have relf:∀ x,scope.names.lookup x=some .free→(X.env.kindOf x=some .cell∨X.env.kindOf x=some .free)→((relabel scope X.env).names.lookup x=some .cell∨(relabel scope X.env).names.lookup x=some .free):=by
    intro x hx hkx
    have key:∀ (names:List (Str × NameKind)),names.lookup x=some .free→((names.map fun (n,k)=>if (k == NameKind.free && X.env.scope.kind == .function && X.env.kindOf n == some .cell) then (n,NameKind.cell) else (n,k)).lookup x=some .cell ∨
        (names.map fun (n,k)=>if (k == NameKind.free && X.env.scope.kind == .function && X.env.kindOf n == some .cell) then (n,NameKind.cell) else (n,k)).lookup x=some .free):=by
      intro names
      induction names with
      | nil=>intro h;cases h
      | cons y r ih =>
        obtain ⟨n,kd⟩:=y
        intro h
        rw [List.lookup_cons] at h
        by_cases hxn:x=n
        · subst hxn
          simp only [beq_self_eq_true] at h
          cases h
          rw [List.map_cons]
          dsimp only
          split
          · left;simp [List.lookup_cons]
          · right;simp [List.lookup_cons]
        · have hb:(x == n)=false:=by simpa using hxn
          rw [hb] at h
          have:=ih h
          rw [List.map_cons]
          dsimp only
          split
          · rw [List.lookup_cons,hb];exact this
          · rw [List.lookup_cons,hb];exact this
    exact key scope.names hx
  have Istart:∀ tk,Inv (compCx X N scope cl P2.objs.size s2 H2 fp) [] (capt k ix σ) (upd H2 s2.heap.objs.size (.lst [])) { s2 with heap:=h₁,toks:=tk }:=fun tk=>by
    refine ⟨ok',rfl,I2.bare,Un.laid old (Nat.le_refl _) hD,⟨_,hns₁,fun i x v e1 e2 e3=>?_⟩,fun x c e=>?_,?_,fun x c e=>?_,(fun p hp=>by cases hp),I2.hok.laid old (Nat.le_refl _) ⟨Nat.zero_le _,[],_,.nil,hacc⟩,σl⟩
    · by_cases hik:i < k
      · exfalso
        unfold capt at e2
        rw [List.getElem?_append_left (by simpa using hik),List.getElem?_replicate] at e2
        split at e2 <;> cases e2
      · have ej:i=k + (i - k):=by omega
        have e1':N[k + (i - k)]?=some x:=by rw [← ej];exact e1
        obtain ⟨i0,hi0,hXN⟩:=hN (i - k) x e1'
        have hfx:=hcap (i - k) x e1'
        have hmem:(x,NameKind.free)∈scope.names:=PySem.mem_of_lookup hfx
        have hkx:=hfree _ hmem rfl
        have e4:σ[i0]?=some (some v):=by
          unfold capt at e2
          rw [List.getElem?_append_right (by simpa using Nat.le_of_not_lt hik),List.getElem?_map] at e2
          simp only [List.length_replicate,hi0,Option.map_some,Option.some.injEq] at e2
          cases z:σ[i0]? with
          | none=>rw [z] at e2;cases e2
          | some y=>rw [z] at e2;simp only [Option.getD_some] at e2;rw [e2]
        obtain ⟨m2,hn2,hl2⟩:=I2.loc
        obtain ⟨u,ru,lk⟩:=hl2 i0 x v hXN e4 (by rcases hkx with z | z;exact .inr (.inl z);exact .inr (.inr z))
        rcases lk with ⟨z,_⟩ | ⟨_,c,hc1,hc2⟩
        · exfalso
          have z':X.env.kindOf x=some .local:=z
          rcases hkx with y | y <;> (rw [z'] at y;cases y)
        · obtain ⟨c',hc'⟩:=hcl2 x hmem
          have e5:=hcl x c' hc'
          rw [hc1] at e5;cases e5
          obtain ⟨o,ho,hd⟩:=hc2
          exact ⟨u,ru,.inr ⟨relf x hfx hkx,c,hc',o,old _ _ ho,hd⟩⟩
    · obtain ⟨v,o,ho,hd⟩:=I2.cell x c (hcl x c e)
      exact ⟨v,o,old _ _ ho,hd⟩
    · show upd H2 s2.heap.objs.size (.lst []) P2.objs.size=none
      rw [upd_ne (show P2.objs.size≠s2.heap.objs.size by rw [hCs];exact Nat.succ_ne_self _)]
      exact I2.hok.fresh (show s2.heap.objs.size≤P2.objs.size by rw [hCs];exact Nat.le_succ _)
    · have e':=hcl x c e
      obtain ⟨v,o,ho,hd⟩:=I2.cell x c e'
      rw [upd_ne (Nat.ne_of_lt (Heap.lt_size ho))]
      exact I2.freeC x c e'
  have st1:tn 0 h₁:=T.keep 0 _ _ st2 fun b hb o e=>old b o e
  have fr1:∀ b∈fp,upd H2 s2.heap.objs.size (.lst []) b=none:=fun b hb=>by rw [upd_ne (Nat.ne_of_lt (fpl b hb))];exact (f2 b hb).1
  -- behind the block
  have fin:∀ (H3:Hp) (s4:Shared),Inv (compCx X N scope cl P2.objs.size s2 H2 fp) [] (capt k ix σ) H3 s4→∀ h':Heap,Heap.SameBut P2.objs.size s4.heap h'→Inv X pins σ H3 { s4 with heap:=h' }:=fun H3 s4 I4 h' sb=>by
    have kp:∀ b o,b < s2.heap.objs.size→s4.heap.get? b=some o→h'.get? b=some o:=fun b o hb e=>sb.extBut b o (below b hb) e
    have u:Un (frs X.stack) fp H2 H3 s2.heap s4.heap:=I4.base
    refine I2.call' (ch:=fp) (H':=H3) I4.os ⟨fun b o q n hb hx=>kp b o (Heap.lt_size q) (u.keep b o q n hb hx),fun b o q n hb hx=>?_,u.free,fun b o q hx=>?_,u.tups,u.frzs,u.tbls⟩ (fun a o e=>?_) I4.bare fun b hb=>⟨(f2 b hb).2.2.2.1,(f2 b hb).2.1,(f2 b hb).2.2.2.2.1,(f2 b hb).2.2.2.2.2⟩
    · obtain ⟨sl,e⟩:=u.slot b o q n hb hx
      exact ⟨sl,kp b _ (Heap.lt_size q) e⟩
    · obtain ⟨o',e⟩:=u.there b o q hx
      exact ⟨o',kp b _ (Heap.lt_size q) e⟩
    · have nC:H3 P2.objs.size=none:=I4.free
      refine (I4.hok a o e).stay (fun b z hb q=>sb.extBut b z ?_ q) (fun _ q=>q) fun _ _ q=>q
      rcases hb with rfl | hb
      · exact ne_of_none e nC
      · exact ne_of_none hb nC
  have loop:∀ tk,codeAny (model X.prog X.w) X.A (.compLoop (.ListComp elt [⟨tg,iter,ifs,0⟩] scope pos) 0 (.ref it) (.ref s2.heap.objs.size) (compEnvC scope cl P2.objs.size X.env))
      (compPost (model X.prog X.w) X.A X.xe use QQ (.ref s2.heap.objs.size) P2.objs.size) { s2 with heap:=h₁,toks:=tk }:=fun tk=>by
    refine compLoop_tg (fun n s'=>∃ i H',Inv (compCx X N scope cl P2.objs.size s2 H2 fp) [] (capt k ix σ) H' s'∧tn i s'.heap∧(∀ b∈fp,H' b=none)∧W i n H') ?_ m0 ⟨0,_,Istart tk,st1,fr1,w0⟩
    rintro n s3 ⟨i,H3,I3,st3,fr3,w3⟩
    rcases turn i n H3 w3 with ⟨stop,q⟩ | ⟨go,step⟩
    · refine thn (T.done (compCx X N scope cl P2.objs.size s2 H2 fp) rfl rfl rfl hc i [] s3 _ H3 (fun _ _=>False) I3 (stat fr3) st3 stop) fun r s4 ⟨hr,I4⟩=>?_
      subst hr
      obtain ⟨m,hn,_⟩:=I4.loc
      refine end_ s2.heap.objs.size P2.objs.size H3 s4 (fin H3 s4 I4 s4.heap (Heap.SameBut.refl ..)) ⟨m,hn⟩ I4.free (Ne.symm (below _ I2.lt)) (Nat.le_trans I2.sz (show s2.heap.objs.size≤P2.objs.size by rw [hCs];exact Nat.le_succ _)) (fun x c e=>?_) (fun p hp=>below _ (Heap.lt_size (I2.pin p hp).1)) (fin H3 s4 I4) q
      obtain ⟨v,o,ho,_⟩:=I2.cell x c e
      exact below _ (Heap.lt_size ho)
    · refine thn (T.item (compCx X N scope cl P2.objs.size s2 H2 fp) rfl rfl rfl hc i [] s3 _ H3 (fun _ _=>False) I3 (stat fr3) st3 go) fun r s4 ⟨u,hr,h4⟩=>?_
      subst hr
      refine thn h4 fun _ s5 ⟨x,H5,I5,r5,y5,st5,fr5⟩=>?_
      have I5':=I5.pinned (stat fr5) (T.obj _ _ st5)
      refine thn (hg cl P2.objs.size s2 H2 fp _ s5 _ H5 x u _ I5' r5 (gk _ _ _ _ (step x H5 y5))) fun _ s6 ⟨σ6,H6,I6,ag,q6⟩=>?_
      have again:∀ {s7:Shared} {H7:Hp} {m':Nat},Inv (compCx X N scope cl P2.objs.size s2 H2 fp) ([]++pinsAt fp s5.heap) σ6 H7 s7→m' < n→W (i + 1) m' H7→∃ m,m < n∧∃ i H',Inv (compCx X N scope cl P2.objs.size s2 H2 fp) [] (capt k ix σ) H' s7∧tn i s7.heap∧(∀ b∈fp,H' b=none)∧W i m H':=fun {s7 H7 m'} I7 hm w7=>by
        refine ⟨m',hm,i + 1,H7,(I7.unpinned).weak (by rw [σl];exact (I7.len).symm) (fun j v e=>?_),T.keep _ _ _ st5 fun b hb o e=>(I7.pin (b,o) (List.mem_append_right _ (List.mem_append_right _ (mem_pinsAt hb e)))).1,fun b hb=>?_,w7⟩
        · by_cases hj:j < k
          · exfalso
            unfold capt at e
            rw [List.getElem?_append_left (by simpa using hj),List.getElem?_replicate] at e
            split at e <;> cases e
          · rw [ag j (by omega)];exact e
        · obtain ⟨o,e,d⟩:=T.obj _ _ st5 b hb
          exact (I7.pin (b,o) (List.mem_append_right _ (List.mem_append_right _ (mem_pinsAt hb e)))).2.1
      refine thn (hif cl P2.objs.size s2 H2 fp _ s6 σ6 H6 _ I6 q6) fun ok s7 ⟨H7,I7,q7⟩=>?_
      cases ok with
      | false =>
        obtain ⟨m',hm,w7⟩:=q7
        exact again I7 hm w7
      | true =>
        refine thn (he cl P2.objs.size s2 H2 fp _ s7 σ6 H7 _ I7 q7) fun y s8 ⟨yv,H8,I8,r8,ys,hD8,hz8,m',hm,w8⟩=>?_
        refine thn (mt_append _ s8 σ6 H8 (.ref s2.heap.objs.size) [yv] (.ref s2.heap.objs.size) [y] (fun v H9=>H9=upd H8 s2.heap.objs.size (.lst (ys++[yv]))) I8 rfl (.cons r8 .nil) ⟨_,ys,yv,rfl,rfl,hD8,hz8,rfl⟩) fun _ s9 ⟨_,H9,I9,_,e9⟩=>?_
        subst e9
        exact again I9 hm w8
  exact codeAny_compStart_list (loop _) (T.self _ 0 _ _ _ st1 (loop _))
theorem pe_comp {X:Cx} {tg elt iter:Expr} {ifs:List Expr} {scope:Scope} {pos:Pos} {N:List Str} {k:Nat} {ix:List Nat} {wi:TI} {g:TG} {tc:TT} {te:TE}
    (hc:X.calm=true) (hi:PI X tg iter wi) (gk:GK k g)
    (hk:scope.kind=.function) (hcell:∀ y∈scope.names,y.2≠.cell) (hnames:∀ y∈scope.names,y.2=.local→scope.names.lookup y.1=some .local)
    (hfree:∀ y∈scope.names,y.2=.free→X.env.kindOf y.1=some .cell∨X.env.kindOf y.1=some .free)
    (hone:∀ y∈scope.names,y.2=.free→scope.names.lookup y.1=some .free)
    (hN:∀ (j:Nat) x,N[k + j]?=some x→∃ i,ix[j]?=some i∧X.N[i]?=some x)
    (hcap:∀ (j:Nat) x,N[k + j]?=some x→scope.names.lookup x=some .free)
    (hlen:N.length=k + ix.length)
    (hg:∀ cl C s H fp,PG (compCx X N scope cl C s H fp) tg g)
    (hif:∀ cl C s H fp,PIf (compCx X N scope cl C s H fp) ifs tc)
    (he:∀ cl C s H fp,PE (compCx X N scope cl C s H fp) elt te)
    (hs:∀ x,foldedSetIterable iter X.env x=pure x:=by intro _;rfl) :
    PE X (.ListComp elt [⟨tg,iter,ifs,0⟩] scope pos) (tComp k ix wi g tc te):=by
  intro pins s σ H Q I h
  rw [eval_ListComp]
  refine comp_core (use:=none) hc hi gk hk hcell hnames hfree hone hN hcap hlen hg hif he hs I h fun D C H3 s4 I4 ⟨m,hn⟩ _ _ _ _ _ fin q=>?_
  exact ⟨m,hn,fun h' sb=>⟨.ref D,H3,fin h' sb,rfl,q⟩⟩
theorem ps_comp {X:Cx} {tg elt iter:Expr} {ifs:List Expr} {scope:Scope} {pos spos py:Pos} {N:List Str} {k:Nat} {ix:List Nat} {wi:TI} {g:TG} {tc:TT} {te:TE} {i:Nat} {y:Str}
    (hc:X.calm=true) (hi:PI X tg iter wi) (gk:GK k g)
    (hk:scope.kind=.function) (hcell:∀ y∈scope.names,y.2≠.cell) (hnames:∀ y∈scope.names,y.2=.local→scope.names.lookup y.1=some .local)
    (hfree:∀ y∈scope.names,y.2=.free→X.env.kindOf y.1=some .cell∨X.env.kindOf y.1=some .free)
    (hone:∀ y∈scope.names,y.2=.free→scope.names.lookup y.1=some .free)
    (hN:∀ (j:Nat) x,N[k + j]?=some x→∃ i,ix[j]?=some i∧X.N[i]?=some x)
    (hcap:∀ (j:Nat) x,N[k + j]?=some x→scope.names.lookup x=some .free)
    (hlen:N.length=k + ix.length)
    (hg:∀ cl C s H fp,PG (compCx X N scope cl C s H fp) tg g)
    (hif:∀ cl C s H fp,PIf (compCx X N scope cl C s H fp) ifs tc)
    (he:∀ cl C s H fp,PE (compCx X N scope cl C s H fp) elt te)
    (hs:∀ x,foldedSetIterable iter X.env x=pure x) (hsw:swapsWith (.ListComp elt [⟨tg,iter,ifs,0⟩] scope pos) (some (.Name y py)) spos.line X.env=pure true)
    (hNd:X.N.Nodup) (hiy:X.N[i]?=some y) (hy:Loc X.env.scope y) (hf:X.fn y=true∨X.env.scope.names.lookup y=some .local) :
    PS X (.Assign [.Name y py] (.ListComp elt [⟨tg,iter,ifs,0⟩] scope pos) spos) (tAsg (tComp k ix wi g tc te) (gName i)):=by
  intro pins s σ H D I h
  rw [exec_Assign_Name_used _ _ _ _ hsw]
  refine wpAny_bind (wpAny_standAt (wpAny_bind ?_))
  show wpAny _ X.A (do let _ ← comprehension (.ListComp elt [⟨tg,iter,ifs,0⟩] scope pos) scope X.env _ (newList []) false (eval iter X.env) (some (assign (.Name y py) X.env))) _ _ s
  refine wpAny_bind (wpAny_mono (comp_core (use:=some (assign (.Name y py) X.env)) (QQ:=fun _ s'=>SP X pins D .next s') hc hi gk hk hcell hnames hfree hone hN hcap hlen hg hif he hs I h fun A C H3 s4 I4 hn nC nL sC cC pC fin q=>?_) (fun _ s' hq=>wpAny_pure (wpAny_pure hq)) fun _ _ e=>e)
  show wpAny _ X.A (assign (.Name y py) X.env (.ref A)) _ _ _
  refine wpAny_assign_Name (store_ok2 (i:=i) (v:=.ref A) I4 hNd hiy hy rfl (fun s5 I5 ⟨a,sb,ha⟩=>?_) hf)
  obtain ⟨m,hn⟩:=hn
  have aC:C≠a:=by
    rcases ha with z | z
    · rw [z];exact nL
    · exact fun e=>cC y a z e.symm
  refine ⟨m,hn.at' fun o e=>sb.extBut C o aC e,fun h' sb'=>?_⟩
  exact ⟨_,H3,I5.turned (t':=s5.toks) (fun b o hb e=>sb'.extBut b o hb e) nC nL (.inr sC) cC pC,q⟩
section
variable {X:Cx}
theorem op_catL:OpR X (binaryOp .Add) (rCatL X.K):=by
  intro pins s σ H x y v u Q I rx ry h
  obtain ⟨l,b,xs,zs,rfl,rfl,hH,hB,hz,q⟩:=h
  cases rx
  cases ry
  obtain ⟨its,r,p,hl⟩:=I.list hH
  obtain ⟨its2,r2,p2,hl2⟩:=I.list hB
  obtain ⟨⟨cls,dd,data,sl⟩,n,ho,hc,_,hd⟩:=p
  obtain ⟨⟨cls2,dd2,data2,sl2⟩,n2,ho2,hc2,_,hd2⟩:=p2
  simp only at hc hd hc2 hd2
  subst hc hd hc2 hd2
  have q1:=r.length
  have q2:=r2.length
  have e:its.toArray++its2.toArray=(its++its2).toArray:=by simp
  refine concat_meets ⟨_,ho,rfl⟩ ⟨_,ho2,rfl⟩ noFill_list_add seq_list_add PySem.F.slot_list_add PySem.F.entry_list_add (PySem.F.args_list_add_2 _ _) (list_addW l b its.toArray its2.toArray n n2 dd dd2 sl sl2 (by rw [List.size_toArray,List.size_toArray];omega)) ⟨ho,ho2,?_⟩
  rw [e]
  exact ⟨.ref _,_,I.lnew (t':=s.toks) (r.append r2) (by rw [List.length_append];omega),rfl,q _ I.fresh⟩
theorem op_catTA:OpR X (binaryOp .Add) (rCatTA X.K):=by
  intro pins s σ H x y v u Q I rx ry h
  obtain ⟨a,b,xs,ys,rfl,rfl,ha,hb,hz,q0,q1,q2⟩:=h
  by_cases hx:xs=[]
  · cases rx
    cases ry
    obtain ⟨its,r1,p1,_⟩:=I.tuple ha
    obtain ⟨its2,r2,p2,_⟩:=I.tuple hb
    obtain ⟨⟨cls,dd,data,sl⟩,ho,hc,n,hd⟩:=p1
    obtain ⟨⟨cls2,dd2,data2,sl2⟩,ho2,hc2,n2,hd2⟩:=p2
    simp only at hc hd hc2 hd2
    subst hc hd hc2 hd2
    have e:its=[]:=r1.nil_iff.mpr hx
    exact concat_meets ⟨_,ho,rfl⟩ ⟨_,ho2,rfl⟩ noFill_tuple_add seq_tuple_add PySem.F.slot_tuple_add PySem.F.entry_tuple_add (PySem.F.args_tuple_add_2 _ _) (tuple_addW0 a b its.toArray its2.toArray n n2 dd dd2 sl sl2 (by rw [e];rfl)) ⟨ho,ho2,.ref b,H,I,rfl,q0 hx⟩
  · exact op_catT pins s σ H _ _ v u Q I rx ry ⟨a,b,xs,ys,rfl,rfl,ha,hb,hx,hz,q1 hx,q2 hx⟩
theorem sl_str:SlR X (fun x lo hi H Q=>∃ z:Str,x=.str z∧z.length≤sizeLine∧Q (.str (Txt.slice z lo hi)) H):=by
  intro pins s σ H x v vl vu lo hi sl Q I rx hs pl pu h
  obtain ⟨z,rfl,hz,q⟩:=h
  obtain ⟨t,rfl⟩:=rx
  refine ⟨"str",_,F.slot_str_getitem.lookup,typeIs_str _ _ _,?_⟩
  have fin:∀ t' k,EP X pins σ Q (.str (Txt.slice z lo hi) t') { s with toks:=k }:=fun t' k=>⟨.str (Txt.slice z lo hi),H,I.tok k,⟨t',rfl⟩,q⟩
  cases pl with
  | none=>cases pu with
    | none=>exact wpAny_getItem_str_slice (l:=none) (u:=none) (st:=none) hs rfl (post_val_or_str ⟨Nat.le_trans (Txt.slice_le z _ _) hz,fun t' k=>fin t' k⟩)
    | int j uj=>exact wpAny_getItem_str_slice (l:=none) (u:=some (j,uj)) (st:=none) hs rfl (post_val_or_str ⟨Nat.le_trans (Txt.slice_le z _ _) hz,fun t' k=>fin t' k⟩)
  | int i ui=>cases pu with
    | none=>exact wpAny_getItem_str_slice (l:=some (i,ui)) (u:=none) (st:=none) hs rfl (post_val_or_str ⟨Nat.le_trans (Txt.slice_le z _ _) hz,fun t' k=>fin t' k⟩)
    | int j uj=>exact wpAny_getItem_str_slice (l:=some (i,ui)) (u:=some (j,uj)) (st:=none) hs rfl (post_val_or_str ⟨Nat.le_trans (Txt.slice_le z _ _) hz,fun t' k=>fin t' k⟩)
theorem sl_any:SlR X (rSlA X.K):=sl_list.or (sl_tup.or sl_str)
theorem call_allB (hc:X.calm=true):CallR X (.builtin "all") (fun xs H Q=>∃ (p:Addr) (bs:List Bool),xs=[.ref p]∧SqL X.K H p (bs.map V.bl)∧Q (.bl (bs.all fun b=>b)) H):=by
  intro pins s σ H xs us Q I r h
  obtain ⟨a,bs,rfl,ha,q⟩:=h
  obtain ⟨u,rfl,ru⟩:=vals1 r
  cases ru
  obtain ⟨its,rv,p,hz⟩:=I.list ha
  have hl:=rv.length
  have hne:a≠s.heap.objs.size:=by
    obtain ⟨o,n,e,_⟩:=p
    exact Nat.ne_of_lt (Heap.lt_size e)
  refine call_all_walk (wpAny_pyIter_list p.isList ?_)
  refine ⟨s.heap.objs.size,_,_,_,_,_,fun i=>(bs[i]?).getD false,rfl,Walks.list (show X.A.in1.handled=none from I.ok.hd hc) s.heap.objs.size a hne its.toArray,⟨⟨_,Heap.get?_push_size _ rfl,rfl,rfl⟩,?_⟩,?_,fun h' tk k=>?_⟩
  · obtain ⟨o,n,e,c,d,z⟩:=p
    exact ⟨o,Heap.get?_push_of_some _ e,c,n,z⟩
  · intro i v s' Q' E' hP hQ
    have hv:its[i]?=some v:=by simpa using hP
    have hi:i < bs.length:=by
      have:=(List.getElem?_eq_some_iff.mp hv).1
      rw [← hl] at this;simpa using this
    obtain ⟨u,hu,ru⟩:=rv.get (i:=i) (x:=.bl bs[i]) (by simp [hi])
    rw [hv] at hu;cases hu
    cases ru
    refine wpAny_truthy_bool ?_
    have:(bs[i]?).getD false=bs[i]:=by simp [hi]
    rw [← this];exact hQ
  · have e:(List.range its.toArray.size).all (fun i=>(bs[i]?).getD false)=bs.all fun b=>b:=by
      have:its.toArray.size=bs.length:=by rw [List.size_toArray,← hl,List.length_map]
      rw [this]
      clear this hl rv p hz k
      rw [Bool.eq_iff_iff]
      simp only [List.all_eq_true,List.mem_range]
      constructor
      · intro h b hb
        obtain ⟨i,hi,rfl⟩:=List.mem_iff_getElem.mp hb
        have:=h i hi
        simpa [hi] using this
      · intro h i hi
        have:=h bs[i] (List.getElem_mem hi)
        simpa [hi] using this
    rw [e]
    exact ⟨.bl _,H,I.kept (t':=tk) (fun b o e=>k b o (fun z=>Nat.lt_irrefl _ (Nat.lt_of_lt_of_le (Heap.lt_size e) (Nat.le_of_eq (show s.heap.objs.size=b from (List.mem_singleton.mp z).symm)))) (Heap.get?_push_of_some _ e)),rfl,q⟩
end
end U2
namespace U2
open PySem PySem.Spec PyProof.Rows L2
structure Dat where
  prog:Program
  w:World
  K:PySem.W.Frag
  mg:Str→Option Value
  base:Heap
  N:List Str
  sc:Scope
  k:Nat
  fn:Bool
  cod:Value:=.none
  qual:Str:=""
structure Has (D:Dat) (X:Cx):Prop where
  prog:X.prog=D.prog
  w:X.w=D.w
  K:X.K=D.K
  mg:X.mg=D.mg
  base:X.base=D.base
  N:X.N=D.N
  sc:X.env.scope=D.sc
  room:Room D.k X.A
  calm:X.calm=true
  xe:X.xe=fun _ _=>False
  fn:D.fn=true→∀ x,X.fn x=true
  cod:D.cod≠.none→X.env.code=D.cod∧X.env.qual=D.qual
def PEU (D:Dat) (e:Expr) (t':UE):Prop:=∃ t,(∀ X,Has D X→PE X e t)∧SimE D.K t t'
def PTU (D:Dat) (e:Expr) (t':UT):Prop:=∃ t,(∀ X,Has D X→PT X e t)∧SimT D.K t t'
def PWU (D:Dat) (e:Expr) (t':UT):Prop:=∃ t,(∀ X,Has D X→PW X e t)∧SimT D.K t t'
def PAU (D:Dat) (es:List Expr) (t':UA):Prop:=∃ t,(∀ X,Has D X→PA X es t)∧SimA D.K t t'
def PSU (D:Dat) (s:Stmt) (t':US):Prop:=∃ t,(∀ X,Has D X→PS X s t)∧SimS D.K t t'
def PSsU (D:Dat) (s:List Stmt) (t':US):Prop:=∃ t,(∀ X,Has D X→PSs X s t)∧SimS D.K t t'
def PGU (D:Dat) (k:Nat) (e:Expr) (g':UG):Prop:=∃ g,(∀ X,Has D X→PG X e g)∧SimG D.K g g'∧GK k g∧∀ x σ H Q Q',(∀ σ2 H2,Q σ2 H2→Q' σ2 H2)→g x σ H Q→g x σ H Q'
def PGsU (D:Dat) (k:Nat) (es:List Expr) (g':UGs):Prop:=∃ g,(∀ X,Has D X→PGs X es g)∧SimGs D.K g g'∧GKs k g∧∀ x σ H Q Q',(∀ σ2 H2,Q σ2 H2→Q' σ2 H2)→g x σ H Q→g x σ H Q'
def PIU (D:Dat) (tg e:Expr) (t':UI):Prop:=∃ t,(∀ X,Has D X→PI X tg e t)∧SimI D.K t t'
def POU (D:Dat) (e:Option Expr) (t':UO):Prop:=∃ t,(∀ X,Has D X→PO X e t)∧SimO D.K t t'
def PIfU (D:Dat) (es:List Expr) (t':UT):Prop:=∃ t,(∀ X,Has D X→PIf X es t)∧SimT D.K t t'
section
variable {D:Dat} {a b c e o:Expr} {ta tb tc te:UE} {pos:Pos}
theorem uv (i:Nat) {x:Str} (hN:D.N[i]?=some x:=by rfl) (hv:Vis D.sc x:=by first | exact Or.inl rfl | exact Or.inr (Or.inl rfl) | exact Or.inr (Or.inr rfl)) (hd:(x == ("__debug__":Str))=false:=by decide)
    (hcd:(x == ("__classdict__":Str))=false:=by decide):PEU D (.Name x pos) (uVar i) :=
  ⟨_,fun X h=>pe_var (by rw [h.N];exact hN) (by rw [h.sc];exact hv) hd hcd,sim_var i⟩
theorem un_ {i j}:PEU D (.Constant (.int i) j pos) (uC (.int i)):=⟨_,fun X h=>pe_int,sim_int⟩
theorem ub_ {i j}:PEU D (.Constant (.bool i) j pos) (uC (.bl i)):=⟨_,fun X h=>pe_bl,sim_bl⟩
theorem us_ {i j}:PEU D (.Constant (.str i) j pos) (uC (.str i)):=⟨_,fun X h=>pe_str,sim_str⟩
theorem ug_ref {x:Str} {f:Addr} (hm:D.mg x=some (.ref f)) (hg:D.sc.names.lookup x=some .globalImplicit:=by rfl) (hd:(x == ("__debug__":Str))=false:=by decide):PEU D (.Name x pos) (uC (.ref f)) :=
  ⟨_,fun X h=>pe_glob (v:=.ref f) (by show X.env.scope.names.lookup x=_;rw [h.sc];exact hg) (by rw [h.mg];exact hm) rfl hd,sim_ref⟩
theorem ug_ty {x:Str} {n:String} (hm:D.mg x=none) (hv:bootBuiltins x=some (.type n):=by kernel_rfl) (hg:D.sc.names.lookup x=some .globalImplicit:=by rfl) (hn:x≠"__name__":=by decide) (hd:(x == ("__debug__":Str))=false:=by decide):PEU D (.Name x pos) (uC (.ty n)) :=
  ⟨_,fun X h=>pe_bltn (v:=.ty n) (by show X.env.scope.names.lookup x=_;rw [h.sc];exact hg) (by rw [h.mg];exact hm) hv rfl hn hd,sim_ty⟩
theorem ue_op {op:Operator} {r:R2} {r':UR2} (ho:∀ X,Has D X→OpR X (binaryOp op) r) (hr:SimR2 D.K r r') (ha:PEU D a ta) (hb:PEU D b tb):PEU D (.BinOp a op b pos) (uOp r' ta tb):=by
  obtain ⟨x,p,s⟩:=ha;obtain ⟨y,q,r⟩:=hb
  exact ⟨_,fun X h=>pe_op (ho X h) (p X h) (q X h),sim_op hr s r⟩
theorem ue_sub (ha:PEU D a ta) (hb:PEU D b tb):PEU D (.BinOp a .Sub b pos) (uOp (uI0 fun i j=>.int (i - j)) ta tb):=ue_op (fun _ _=>op_sub) sim_int2 ha hb
theorem ue_mod (ha:PEU D a ta) (hb:PEU D b tb):PEU D (.BinOp a .Mod b pos) (uOp (uI (fun _ j=>0 < j) fun i j=>.int (i % j)) ta tb):=ue_op (fun _ _=>op_mod) sim_int2c ha hb
theorem ue_pow (ha:PEU D a ta) (hb:PEU D b tb):PEU D (.BinOp a .Pow b pos) (uOp (uI CPow fun i j=>.int (i ^ j.toNat)) ta tb):=ue_op (fun _ _=>op_pow) sim_int2c ha hb
def uAdd (o:Bool):UR2:=fun x y M Q=>match x,y with
  | .int i,.int j=>Q (.int (i + j)) M
  | .str i,.str j=>i.length + j.length≤sizeLine∧Q (.str (i++j)) M
  | .tup us,.tup ws=>us.length + ws.length≤sizeLine∧Q (.tup (us++ws)) M
  | x,y=>uAddL o x y M Q
def rAddA (K:PySem.W.Frag):R2:=fun x y H Q=>rI0 (fun i j=>.int (i + j)) x y H Q∨((∃ i j,x=.str i∧y=.str j∧i.length + j.length≤sizeLine∧Q (.str (i++j)) H)∨(rCatTA K x y H Q∨rCatL K x y H Q))
theorem sim_add {K:PySem.W.Frag} {o:Bool}:SimR2 K (rAddA K) (uAdd o):=fun x y u w H M Q' rm ru rw h Q c=>by
  unfold uAdd at h
  split at h
  · exact .inl (sim_int2 x y _ _ H M Q' rm ru rw h Q c)
  · exact .inr (.inl (sim_addS x y _ _ H M Q' rm ru rw h Q c))
  · exact .inr (.inr (.inl (sim_addT x y _ _ H M Q' rm ru rw h Q c)))
  · exact .inr (.inr (.inr (sim_addL x y _ _ H M Q' rm ru rw h Q c)))
theorem ue_add (own:Bool:=false) (ha:PEU D a ta) (hb:PEU D b tb):PEU D (.BinOp a .Add b pos) (uOp (uAdd own) ta tb) :=
  ue_op (r:=rAddA D.K) (fun X h=>by have:=op_add.or (op_add_str.or ((op_catTA (X:=X)).or (op_catL (X:=X))));rw [h.K] at this;exact this) sim_add ha hb
theorem ue_neg (ha:PEU D a ta):PEU D (.UnaryOp .USub a pos) (uUn (fun x M Q=>match x with | .int i=>Q (.int (-i)) M | _=>False) ta):=by
  obtain ⟨x,p,s⟩:=ha
  refine ⟨_,fun X h=>pe_un un_neg (p X h),sim_un (fun x u H M Q' rm ru h Q c=>?_) s⟩
  cases u with
  | int i=>exact ⟨i,ru.int,c.here rm relU_int h⟩
  | _=>exact h.elim
theorem ue_cmp {op:CmpOp} {r:R2} {r':UR2} (ho:∀ X,Has D X→OpR X (compareOp op) r) (hr:SimR2 D.K r r') (ha:PEU D a ta) (hb:PEU D b tb) (hm:behindInMarks op b=false):PEU D (.Compare a [op] [b] pos) (uOp r' ta tb):=by
  obtain ⟨x,p,s⟩:=ha;obtain ⟨y,q,r⟩:=hb
  exact ⟨_,fun X h=>pe_cmpR (ho X h) (p X h) (q X h) hm,sim_op hr s r⟩
theorem ut_cmp {op:CmpOp} {r:R2} {r':UR2} (ho:∀ X,Has D X→OpR X (compareOp op) r) (hr:SimR2 D.K r r') (ha:PEU D a ta) (hb:PEU D b tb) (hm:behindInMarks op b=false):PTU D (.Compare a [op] [b] pos) (uTest (uOp r' ta tb)):=by
  obtain ⟨x,p,s⟩:=ha;obtain ⟨y,q,r⟩:=hb
  exact ⟨_,fun X h=>pt_cmpR (ho X h) (p X h) (q X h) hm,sim_test (sim_op hr s r)⟩
abbrev cLt:UR2:=uI0 fun i j=>.bl (decide (i < j))
abbrev cLe:UR2:=uI0 fun i j=>.bl (decide (i≤j))
abbrev cGt:UR2:=uI0 fun i j=>.bl (decide (j < i))
abbrev cGe:UR2:=uI0 fun i j=>.bl (decide (j≤i))
structure Cmp (D:Dat) (op:CmpOp) (r':UR2):Prop where
  ex:∃ r:R2,(∀ X,Has D X→OpR X (compareOp op) r)∧SimR2 D.K r r'
theorem k_le:Cmp D .LtE cLe:=⟨⟨_,fun _ _=>op_le,sim_bool2⟩⟩
theorem k_gt:Cmp D .Gt cGt:=⟨⟨_,fun _ _=>op_gt,sim_bool2⟩⟩
theorem k_ge:Cmp D .GtE cGe:=⟨⟨_,fun _ _=>op_ge,sim_bool2⟩⟩
def inSt (neg:Bool):UR2:=fun x y M Q=>match x,y with
  | .str i,.str j=>Q (.bl (if neg then !(!(Builtin.Str.occurrences j i 0 j.length 1).isEmpty) else !(Builtin.Str.occurrences j i 0 j.length 1).isEmpty)) M
  | _,_=>False
theorem ue_c {op:CmpOp} {r':UR2} (k:Cmp D op r') (ha:PEU D a ta) (hb:PEU D b tb) (hm:behindInMarks op b=false:=by first | exact nomark _ | with_unfolding_all rfl):PEU D (.Compare a [op] [b] pos) (uOp r' ta tb) :=
  let ⟨_,h1,h2⟩:=k.ex;ue_cmp h1 h2 ha hb hm
theorem ut_c {op:CmpOp} {r':UR2} (k:Cmp D op r') (ha:PEU D a ta) (hb:PEU D b tb) (hm:behindInMarks op b=false:=by first | exact nomark _ | with_unfolding_all rfl):PTU D (.Compare a [op] [b] pos) (uTest (uOp r' ta tb)) :=
  let ⟨_,h1,h2⟩:=k.ex;ut_cmp h1 h2 ha hb hm
theorem ue_ch {op op':CmpOp} {r r':UR2} (k:Cmp D op r) (k':Cmp D op' r') (ha:PEU D a ta) (hb:PEU D b tb) (hc:PEU D c tc) (hm:lastMarks [op,op'] [b,c]=false:=by with_unfolding_all rfl) :
    PEU D (.Compare a [op,op'] [b,c] pos) (uChain r r' ta tb tc):=by
  obtain ⟨x,p,s⟩:=ha;obtain ⟨y,q,r⟩:=hb;obtain ⟨z,u,v⟩:=hc
  obtain ⟨_,h1,h2⟩:=k.ex
  obtain ⟨_,h3,h4⟩:=k'.ex
  exact ⟨_,fun X h=>pe_chain (h1 X h) (h3 X h) (p X h) (q X h) (u X h) hm,sim_chain h2 h4 s r v⟩
theorem ut_ch {op op':CmpOp} {r r':UR2} (k:Cmp D op r) (k':Cmp D op' r') (ha:PEU D a ta) (hb:PEU D b tb) (hc:PEU D c tc) (hm:lastMarks [op,op'] [b,c]=false:=by with_unfolding_all rfl) :
    PTU D (.Compare a [op,op'] [b,c] pos) (uTest (uChain r r' ta tb tc)):=by
  obtain ⟨x,p,s⟩:=ha;obtain ⟨y,q,r⟩:=hb;obtain ⟨z,u,v⟩:=hc
  obtain ⟨_,h1,h2⟩:=k.ex
  obtain ⟨_,h3,h4⟩:=k'.ex
  exact ⟨_,fun X h=>pt_chain (h1 X h) (h3 X h) (p X h) (q X h) (u X h) hm,sim_test (sim_chain h2 h4 s r v)⟩
theorem ut_val (ha:PEU D a ta) (he:∀ env whole,isTrue a env whole=(do let v ← whole;standAt a.pos;holding [v] (truthy v)):=by intro _ _;rfl):PTU D a (uTru ta):=by
  obtain ⟨x,p,s⟩:=ha
  refine ⟨_,fun X h=>?_,sim_tru s⟩
  have:=pt_truth (p X h) (he X.env)
  rw [h.K] at this
  exact this
theorem PWU.pt {t:UT} (h:PWU D a t):PTU D a t:=let ⟨_,p,s⟩:=h;⟨_,fun X h=>(p X h).pt,s⟩
variable {rest:List Expr} {tA tB':UT}
theorem uw_and1 (ha:PTU D a tA):PWU D (.BoolOp .And [a] pos) tA:=let ⟨_,p,s⟩:=ha;⟨_,fun X h=>pw_and1 (p X h),s⟩
theorem uw_or1 (ha:PTU D a tA):PWU D (.BoolOp .Or [a] pos) tA:=let ⟨_,p,s⟩:=ha;⟨_,fun X h=>pw_or1 (p X h),s⟩
theorem uw_and (ha:PTU D a tA) (hb:PWU D (.BoolOp .And (b :: rest) pos) tB'):PWU D (.BoolOp .And (a :: b :: rest) pos) (uAnd tA tB'):=let ⟨_,p,s⟩:=ha;let ⟨_,q,r⟩:=hb;⟨_,fun X h=>pw_and (p X h) (q X h),sim_and s r⟩
theorem uw_or (ha:PTU D a tA) (hb:PWU D (.BoolOp .Or (b :: rest) pos) tB'):PWU D (.BoolOp .Or (a :: b :: rest) pos) (uOr tA tB'):=let ⟨_,p,s⟩:=ha;let ⟨_,q,r⟩:=hb;⟨_,fun X h=>pw_or (p X h) (q X h),sim_or s r⟩
theorem ut_not (ha:PTU D a tA):PTU D (.UnaryOp .Not a pos) (uNot tA):=let ⟨_,p,s⟩:=ha;⟨_,fun X h=>pt_not (p X h),sim_not s⟩
theorem ue_one {op} (ha:PEU D a ta):PEU D (.BoolOp op [a] pos) ta:=let ⟨_,p,s⟩:=ha;⟨_,fun X h=>pe_one (p X h),s⟩
theorem ue_and (ha:PEU D a ta) (hb:PEU D (.BoolOp .And (b :: rest) pos) tb):PEU D (.BoolOp .And (a :: b :: rest) pos) (uAndV ta tb):=let ⟨_,p,s⟩:=ha;let ⟨_,q,r⟩:=hb;⟨_,fun X h=>pe_and (p X h) (q X h),sim_andV s r⟩
theorem ue_not (ha:PEU D a ta):PEU D (.UnaryOp .Not a pos) (uNotV ta):=let ⟨_,p,s⟩:=ha;⟨_,fun X h=>pe_not (p X h),sim_notV s⟩
theorem ue_if (hc:PTU D c tA) (ha:PEU D a ta) (hb:PEU D b tb):PEU D (.IfExp c a b pos) (uIf tA ta tb):=let ⟨_,p,s⟩:=ha;let ⟨_,q,r⟩:=hb;let ⟨_,u,v⟩:=hc;⟨_,fun X h=>pe_ifExp (u X h) (p X h) (q X h),sim_if v s r⟩
variable {es:List Expr} {tas:UA}
theorem ua_nil:PAU D [] uNil:=⟨_,fun X h=>pa_nil,sim_nil⟩
theorem ua_cons (ha:PEU D e te) (hr:PAU D es tas) (hs:∀ env,starEach (e :: es) env=(false,eval e env) :: starEach es env:=by intro _;rfl):PAU D (e :: es) (uCons te tas):=let ⟨_,p,s⟩:=ha;let ⟨_,q,r⟩:=hr;⟨_,fun X h=>pa_cons (p X h) (q X h) (hs _),sim_cons s r⟩
theorem ue_tup {x1} (h:PAU D es tas):PEU D (.Tuple es x1 pos) (uTup tas):=let ⟨_,p,s⟩:=h;⟨_,fun X h=>pe_tup (p X h),sim_tup s⟩
theorem ue_lst (own:Bool:=false) (h:PAU D es tas):PEU D (.List es pos) (uLst own tas):=let ⟨_,p,s⟩:=h;⟨_,fun X h=>pe_lst (p X h),sim_lst s⟩
theorem ue_ix (ha:PEU D a ta) (hb:PEU D b tb) (hs:PlainIx b:=by intro _ _;rfl):PEU D (.Subscript a b pos) (uOp uIx ta tb):=by
  obtain ⟨x,p,s⟩:=ha;obtain ⟨y,q,r⟩:=hb
  refine ⟨_,fun X h=>?_,sim_op sim_ix s r⟩
  have:=pe_ix (pos:=pos) ix_seq (p X h) (q X h) hs
  rw [h.K] at this
  exact this
theorem uo_none:POU D none uNoPart:=⟨_,fun X h=>po_none,sim_noPart⟩
theorem uo_some (h:PEU D e te):POU D (some e) (uPart te):=let ⟨_,p,s⟩:=h;⟨_,fun X h=>po_some (p X h),sim_part s⟩
variable {st:Stmt} {sts body body2:List Stmt} {t u:US}
theorem uss_nil:PSsU D [] uNext:=⟨_,fun X h=>pss_nil,sim_next⟩
theorem uss_cons (h1:PSU D st t) (h2:PSsU D sts u):PSsU D (st :: sts) (uSeq t u):=let ⟨_,p,s⟩:=h1;let ⟨_,q,r⟩:=h2;⟨_,fun X h=>pss_cons (p X h) (q X h),sim_seq s r⟩
theorem uss_one (h1:PSU D st t):PSsU D [st] t:=let ⟨_,p,s⟩:=h1;⟨_,fun X h=>pss_one (p X h),s⟩
theorem us_expr (he:PEU D e te) (hs:∀ env,swapsWith e none pos.line env=pure false:=by intro _;rfl):PSU D (.Expr e pos) (uDrop te):=let ⟨_,p,s⟩:=he;⟨_,fun X h=>ps_expr (p X h) (hs _),sim_drop s⟩
theorem us_ret (he:PEU D e te):PSU D (.Return (some e) pos) (uRet te):=let ⟨_,p,s⟩:=he;⟨_,fun X h=>ps_ret (p X h),sim_ret s⟩
theorem us_if {c:Expr} {tc:UT} (hc:PTU D c tc) (ha:PSsU D body t) (hb:PSsU D body2 u):PSU D (.If c body body2 pos) (uIfS tc t u):=let ⟨_,p,s⟩:=ha;let ⟨_,q,r⟩:=hb;let ⟨_,x,y⟩:=hc;⟨_,fun X h=>ps_if (x X h) (p X h) (q X h),sim_ifS y s r⟩
theorem us_while {c:Expr} {tc:UT} (hc:PTU D c tc) (hb:PSsU D body t):PSU D (.While c body [] pos) (uWhile tc t):=by
  obtain ⟨_,p,s⟩:=hb;obtain ⟨_,x,y⟩:=hc
  exact ⟨_,fun X h=>ps_while (by rw [h.xe];exact PassesOwn.never) (x X h) (p X h),sim_while y s⟩
variable {k:Nat} {g:UG} {gs:UGs}
theorem ug_name (i:Nat) {x:Str} (hN:D.N.Nodup) (hi:D.N[i]?=some x:=by rfl) (hx:Loc D.sc x:=by first | exact Or.inl rfl | exact Or.inr rfl) (hik:i < k:=by decide) (hf:D.fn=true∨D.sc.names.lookup x=some .local:=by first | exact .inl rfl | exact .inr rfl):PGU D k (.Name x pos) (hName i) :=
  ⟨_,fun X h=>pg_name (i:=i) (by rw [h.N];exact hN) (by rw [h.N];exact hi) (by rw [h.sc];exact hx) (by rcases hf with z | z;exact .inl (h.fn z x);exact .inr (by rw [h.sc];exact z)),sim_gname i,gk_name hik,m_name⟩
theorem ugs_nil:PGsU D k [] hNil:=⟨_,fun X h=>pgs_nil,sim_gnil,gk_nil,m_nil⟩
theorem ugs_cons (h1:PGU D k e g) (h2:PGsU D k es gs) (hs:∀ env,(assignEach (e :: es) env).map (·.2)=assign e env :: (assignEach es env).map (·.2):=by intro _;rfl):PGsU D k (e :: es) (hCons g gs) :=
  let ⟨_,p,s,x,y⟩:=h1;let ⟨_,q,r,z,w⟩:=h2;⟨_,fun X h=>pgs_cons (p X h) (q X h) (hs _),sim_gcons s r,gk_cons x z w y,m_cons y w⟩
theorem ug_tup {kk:Nat} {n:Nat} (h:PGsU D k es gs) (hn:∀ env,(assignEach es env).length=n:=by intro _;rfl) (hst:∀ env,(assignEach es env).findIdx? (·.1)=none:=by intro _;rfl):PGU D k (.Tuple es kk pos) (hTup n gs):=by
  obtain ⟨_,p,s,x,y⟩:=h
  refine ⟨_,fun X h=>?_,sim_gtup s,gk_tup x,m_tup y⟩
  have:=pg_tup (pos:=pos) (k:=kk) h.calm (p X h) (hn _) (hst _)
  rw [h.K] at this
  exact this
theorem us_asg {tg:Expr} (he:PEU D e te) (hg:PGU D k tg g) (hs:∀ env,swapsWithSole [tg] e pos.line env=pure false:=by intro _;rfl) (hw:∀ env,swappedStores [tg] e env=pure none:=by intro _;rfl)
    (h1:∀ env,(assignEach [tg] env).map (·.2)=[assign tg env]:=by intro _;rfl):PSU D (.Assign [tg] e pos) (uAsg te g):=let ⟨_,p,s⟩:=he;let ⟨_,q,r,_⟩:=hg;⟨_,fun X h=>ps_asg (p X h) (q X h) (hs _) (hw _) (h1 _),sim_asg s r⟩
theorem us_set (i:Nat) {x:Str} {pos':Pos} (hN:D.N.Nodup) (he:PEU D e te) (hi:D.N[i]?=some x:=by rfl) (hx:Loc D.sc x:=by first | exact Or.inl rfl | exact Or.inr rfl) (hs:∀ env,swapsWith e (some (.Name x pos')) pos.line env=pure false:=by intro _;rfl)
    (hf:D.fn=true∨D.sc.names.lookup x=some .local:=by first | exact .inl rfl | exact .inr rfl):PSU D (.Assign [.Name x pos'] e pos) (uAsg te (hName i)):=by
  obtain ⟨_,p,s⟩:=he
  exact ⟨_,fun X h=>ps_set (i:=i) (by rw [h.N];exact hN) (by rw [h.N];exact hi) (by rw [h.sc];exact hx) (p X h) (hs _) (by rcases hf with z | z;exact .inl (h.fn z x);exact .inr (by rw [h.sc];exact z)),sim_asg s (sim_gname i)⟩
variable {tg iter:Expr} {wi:UI}
theorem ui_seq (h:PEU D e te):PIU D tg e (uIter te):=by
  obtain ⟨_,p,s⟩:=h
  refine ⟨_,fun X h=>?_,sim_iter s⟩
  have:=pi_seq (tg:=tg) (p X h)
  rw [h.K] at this
  exact this
theorem ui_rng1 {p:Pos} {ta:UA} (hm:D.mg "range"=none) (ha:PAU D [a] ta) (hg:D.sc.names.lookup ("range":Str)=some .globalImplicit:=by rfl) (hs:∀ env,starEach [a] env=[(false,eval a env)]:=by intro _;rfl):PIU D tg (.Call (.Name "range" p) [a] [] pos) (uRng1 ta):=by
  obtain ⟨_,q,s⟩:=ha
  exact ⟨_,fun X h=>pi_range1 (by show X.env.scope.names.lookup _=_;rw [h.sc];exact hg) (by rw [h.mg];exact hm) (q X h) (hs _),sim_rng1 s⟩
theorem us_for (hi:PIU D tg iter wi) (hg:PGU D k tg g) (hb:PSsU D body t) (hs:∀ env x,foldedSetIterable iter env x=pure x:=by intro _ _;rfl):PSU D (.For tg iter body [] pos) (uFor wi g t):=by
  obtain ⟨_,p,s⟩:=hi;obtain ⟨_,q,r,_⟩:=hg;obtain ⟨_,x,y⟩:=hb
  exact ⟨_,fun X h=>ps_for (by rw [h.xe];exact PassesOwn.never) h.calm (p X h) (q X h) (x X h) (hs _),sim_for s r y⟩
end
end U2
namespace U2
open PySem PySem.Spec PyProof.Rows L2
structure Callee (P:Program) (w:World) (K:PySem.W.Frag) (mg:Str→Option Value) (base:Heap) (j:Nat) (x:Str) (sp:USp) (dus:List U):Prop where
  ex:∃ f fd ps dvs ds,FnOk P w K mg base CX0 j f fd ps (liftSp K sp)∧mg x=some (.ref f)∧PySem.W.keepIn K (.ref f)=true∧Binds K fd ps ds∧Vals dvs ds∧∀ H M,RelUs K H M dus dvs
abbrev Cal (D:Dat):=Callee D.prog D.w D.K D.mg D.base
section
variable {D:Dat} {a b c e o:Expr} {ta tb tc te:UE} {pos p:Pos} {es:List Expr} {tas:UA} {x:Str}
theorem ue_call {sp:USp} {dus:List U} {j:Nat} (F:Cal D j x sp dus) (ha:PAU D (e :: es) tas) (hj:j≤D.k:=by first | exact Nat.le_refl _ | (dsimp only;omega) | omega | (dsimp only [compD];omega)) (hg:D.sc.names.lookup x=some .globalImplicit:=by rfl) (hdb:(x == ("__debug__":Str))=false:=by decide)
    (he:∀ env,starEach (e :: es) env=(false,eval e env) :: starEach es env:=by intro _;rfl) (hpl:∀ env,(backTo pos (starEach es env)).any (·.1)=false:=by intro _;rfl):PEU D (.Call (.Name x p) (e :: es) [] pos) (uCall sp dus tas):=by
  obtain ⟨f,fd,ps,dvs,ds,F,hm,kp,hb,hd,hr⟩:=F.ex
  obtain ⟨_,q,s⟩:=ha
  refine ⟨tCall (liftSp D.K sp) dvs E0 _,fun X h=>?_,sim_call hr s⟩
  have F':FnOk X.prog X.w X.K X.mg X.base CX0 j f fd ps (liftSp D.K sp):=by rw [h.prog,h.w,h.K,h.mg,h.base];exact F
  exact pe_call F' (h.room.mono hj) (by show X.env.scope.names.lookup x=_;rw [h.sc];exact hg) (by rw [h.mg];exact hm) (by rw [h.K];exact kp) (by rw [h.K];exact hb) hd pass0 (q X h) hdb (he _) (hpl _)
structure Blt (D:Dat) (f:Value) (r':List U→MHp→UK→Prop):Prop where
  ex:∃ r,(∀ X,Has D X→CallR X f r)∧SimCl D.K r r'
theorem ue_b {id:String} {r':List U→MHp→UK→Prop} (k:Blt D (.builtin id) r') (hm:D.mg x=none) (ha:PAU D (e :: es) tas) (hv:bootBuiltins x=some (.builtin id):=by kernel_rfl) (hg:D.sc.names.lookup x=some .globalImplicit:=by rfl) (hn:x≠"__name__":=by decide) (hdb:(x == ("__debug__":Str))=false:=by decide)
    (he:∀ env,starEach (e :: es) env=(false,eval e env) :: starEach es env:=by intro _;rfl) (hpl:∀ env,(backTo pos (starEach es env)).any (·.1)=false:=by intro _;rfl):PEU D (.Call (.Name x p) (e :: es) [] pos) (uCB r' tas):=by
  obtain ⟨r,h1,h2⟩:=k.ex
  obtain ⟨_,q,s⟩:=ha
  exact ⟨_,fun X h=>pe_callB (h1 X h) (by show X.env.scope.names.lookup x=_;rw [h.sc];exact hg) (by rw [h.mg];exact hm) hv (q X h) hn hdb (he _) (hpl _),sim_cb h2 s⟩
theorem ue_t {T:String} {r':List U→MHp→UK→Prop} (k:Blt D (.type T) r') (hm:D.mg x=none) (ha:PAU D (e :: es) tas) (hv:bootBuiltins x=some (.type T):=by kernel_rfl) (hg:D.sc.names.lookup x=some .globalImplicit:=by rfl) (hn:x≠"__name__":=by decide) (hdb:(x == ("__debug__":Str))=false:=by decide)
    (he:∀ env,starEach (e :: es) env=(false,eval e env) :: starEach es env:=by intro _;rfl) (hpl:∀ env,(backTo pos (starEach es env)).any (·.1)=false:=by intro _;rfl):PEU D (.Call (.Name x p) (e :: es) [] pos) (uCB r' tas):=by
  obtain ⟨r,h1,h2⟩:=k.ex
  obtain ⟨_,q,s⟩:=ha
  exact ⟨_,fun X h=>pe_callTy (h1 X h) (by show X.env.scope.names.lookup x=_;rw [h.sc];exact hg) (by rw [h.mg];exact hm) hv (q X h) hn hdb (he _) (hpl _),sim_cb h2 s⟩
theorem b_len:Blt D (.builtin "len") bLen:=⟨⟨_,fun X h=>by have:=call_len (X:=X);rw [h.K] at this;exact this,sim_len⟩⟩
theorem b_abs:Blt D (.builtin "abs") (bInt1 (fun _=>True) fun i=>.int (if i < 0 then -i else i)):=⟨⟨_,fun X h=>call_abs,sim_abs⟩⟩
theorem b_list (own:Bool:=false):Blt D (.type "list") (bList own):=⟨⟨_,fun X h=>by have:=call_list_of (X:=X);rw [h.K] at this;exact this,sim_list⟩⟩
theorem b_tuple:Blt D (.type "tuple") bTuple:=⟨⟨_,fun X h=>by have:=call_tuple_of (X:=X);rw [h.K] at this;exact this,sim_tuple⟩⟩
def rIsi (K:PySem.W.Frag):List V→Hp→VK→Prop:=fun xs H Q=>∃ x T t b,xs=[x,.ty T]∧(TyOf K H x (.type t)∨(t="tuple"∧∃ p vs ob,x=.ref p∧H p=some (.frz ob (.tup vs)))∨(t="tuple"∧∃ p vs,x=.ref p∧KT K p vs)∨(t="list"∧∃ p vs,x=.ref p∧KL K p vs)∨(t="dict"∧∃ p ob u,x=.ref p∧H p=some (.frz ob u)∧isDk u=true))∧PySem.W.kitOne K (.type t) (.type T)=some b∧Q (.bl b) H
theorem call_isi {X:Cx}:CallR X (.builtin "isinstance") (rIsi X.K):=by
  intro pins s σ H xs us Q I r h
  obtain ⟨x,T,t,b,rfl,ty,e,q⟩:=h
  obtain ⟨u,w',rfl,ru,rw'⟩:=vals2 r
  cases rw'
  rcases ty with ty | ⟨rfl,p,vs,ob,rfl,m⟩ | ⟨rfl,p,vs,rfl,o,its,n,hk,hc,hd,_,_⟩ | ⟨rfl,p,vs,rfl,o,its,n,hk,hc,_,hd,_,_⟩ | ⟨rfl,p,ob,du,rfl,m,dk⟩
  · exact isinst_ok I ru ty e fun tk=>⟨.bl b,H,I.tok tk,rfl,q⟩
  · cases ru
    obtain ⟨_,_,_,_,o,h1,h2,_⟩:=(show ObjOk X.prog X.w H s.heap p (.frz ob (.tup vs)) from I.hok p _ m)
    exact PySem.W.kia_one PySem.W.kitx_tuple I.kIn ⟨o,h1,h2⟩ e (fun z=>nomatch z) fun tk=>⟨.bl b,H,I.tok tk,rfl,q⟩
  · cases ru
    exact PySem.W.kia_one PySem.W.kitx_tuple I.kIn ⟨o,I.kIn _ _ hk,hc⟩ e (fun z=>nomatch z) fun tk=>⟨.bl b,H,I.tok tk,rfl,q⟩
  · cases ru
    exact PySem.W.kia_one PySem.W.kitx_list I.kIn ⟨o,I.kIn _ _ hk,hc⟩ e (fun z=>nomatch z) fun tk=>⟨.bl b,H,I.tok tk,rfl,q⟩
  · cases ru
    obtain ⟨hg,ho⟩:=(show ObjOk X.prog X.w H s.heap p (.frz ob du) from I.hok p _ m)
    have hx:∃ o,s.heap.get? p=some o∧o.cls=.type "dict":=by
      cases du with
      | dK kvs=>obtain ⟨_,_,_,_,o,_,_,h1,h2,_⟩:=ho;exact ⟨o,h1,h2.1⟩
      | dT kvs=>obtain ⟨_,_,_,_,o,_,_,h1,h2,_⟩:=ho;exact ⟨o,h1,h2.1⟩
      | _=>cases dk
    exact PySem.W.kia_one PySem.W.kitx_dict I.kIn hx e (fun z=>nomatch z) fun tk=>⟨.bl b,H,I.tok tk,rfl,q⟩
def isiTab:List (String × String × Bool):=[("NoneType","bool",false),("NoneType","int",false),("NoneType","str",false),("NoneType","tuple",false),("NoneType","list",false),("NoneType","dict",false),("bool","bool",true),("bool","int",true),("bool","str",false),("bool","tuple",false),("bool","list",false),("bool","dict",false),("int","bool",false),("int","int",true),("int","str",false),("int","tuple",false),("int","list",false),("int","dict",false),("str","bool",false),("str","int",false),("str","str",true),("str","tuple",false),("str","list",false),("str","dict",false),("tuple","bool",false),("tuple","int",false),("tuple","str",false),("tuple","tuple",true),("tuple","list",false),("tuple","dict",false),("list","bool",false),("list","int",false),("list","str",false),("list","tuple",false),("list","list",true),("list","dict",false),("dict","bool",false),("dict","int",false),("dict","str",false),("dict","tuple",false),("dict","list",false),("dict","dict",true)]
theorem isiTab_ok {K:PySem.W.Frag}:∀ r∈isiTab,PySem.W.kitOne K (.type r.1) (.type r.2.1)=some r.2.2:=by
  intro r hr
  simp only [isiTab,List.mem_cons,List.not_mem_nil,or_false] at hr
  rcases hr with rfl | rfl | rfl | rfl | rfl | rfl | rfl | rfl | rfl | rfl | rfl | rfl | rfl | rfl | rfl | rfl | rfl | rfl | rfl | rfl | rfl | rfl | rfl | rfl | rfl | rfl | rfl | rfl | rfl | rfl | rfl | rfl | rfl | rfl | rfl | rfl | rfl | rfl | rfl | rfl | rfl | rfl <;> first | rfl | kernel_rfl
def under2 (t T:String):Option Bool:=(isiTab.find? fun r=>r.1 == t && r.2.1 == T).map (·.2.2)
theorem under2_ok {K:PySem.W.Frag} {t T:String} {b:Bool} (h:under2 t T=some b):PySem.W.kitOne K (.type t) (.type T)=some b:=by
  unfold under2 at h
  cases e:isiTab.find? fun r=>r.1 == t && r.2.1 == T with
  | none=>rw [e] at h;cases h
  | some r =>
    rw [e] at h
    cases h
    have h1:=List.find?_some e
    have h2:=isiTab_ok (K:=K) r (List.mem_of_find?_eq_some e)
    simp only [Bool.and_eq_true,beq_iff_eq] at h1
    rw [h1.1,h1.2] at h2
    exact h2
def bIsi2:List U→MHp→UK→Prop:=fun us M Q=>match us with
  | [x,.ty T]=>match typU M x with
    | some t=>match under2 t T with
      | some b=>Q (.bl b) M
      | none=>False
    | none=>False
  | _=>False
theorem sim_isi {K:PySem.W.Frag}:SimCl K (rIsi K) bIsi2:=fun xs us H M Q' rm rus h Q c=>by
  unfold bIsi2 at h
  split at h
  · rename_i x T
    split at h
    · rename_i t e
      split at h
      · rename_i b e2
        obtain ⟨v,z,rfl,a1,a2⟩:=rus.two
        cases a2.ty
        refine ⟨v,T,t,b,rfl,?_,under2_ok e2,c.here rm relU_bl h⟩
        cases x with
        | non=>cases a1.non;cases e;exact .inl .non
        | bl y=>cases a1.bl;cases e;exact .inl (.bl y)
        | int y=>cases a1.int;cases e;exact .inl (.int y)
        | str y=>cases a1.str;cases e;exact .inl (.str y)
        | ty y=>cases e
        | tup y =>
          cases e
          simp only [RelU] at a1
          obtain ⟨a,vs,rfl,m,r⟩:=a1
          exact .inl (.tup m.2)
        | lst y =>
          cases e
          simp only [RelU] at a1
          obtain ⟨a,vs,rfl,m,r⟩:=a1
          rcases m with ⟨_,m | ⟨ob,m⟩⟩ | k
          · exact .inl (.lst m)
          · exact .inl (.frz m)
          · exact .inr (.inr (.inr (.inl ⟨rfl,a,vs,rfl,k⟩)))
        | dic ks tk y =>
          cases e
          simp only [RelU] at a1
          obtain ⟨a,vs,rfl,m,r,_⟩:=a1
          cases tk with
          | true =>
            obtain ⟨ws,h1 | ⟨ob,h1⟩,_⟩:=r
            · exact .inl (.dT h1)
            · exact .inr (.inr (.inr (.inr ⟨rfl,a,ob,_,rfl,h1,rfl⟩)))
          | false =>
            obtain ⟨ws,h1 | ⟨ob,h1⟩,_⟩:=r
            · exact .inl (.dK h1)
            · exact .inr (.inr (.inr (.inr ⟨rfl,a,ob,_,rfl,h1,rfl⟩)))
        | ref y =>
          cases a1.ref
          simp only [typU] at e
          split at e
          · rename_i ws e3
            cases e
            obtain ⟨vs,h1,_⟩:=rm y _ e3
            exact .inl (.lst h1)
          · rename_i ws e4
            cases e
            obtain ⟨vs,h1,_⟩:=rm y _ e4;exact .inl (.dK h1)
          · rename_i ws e4
            cases e
            obtain ⟨vs,h1,_⟩:=rm y _ e4;exact .inl (.dT h1)
          · cases e
      · exact h.elim
    · exact h.elim
  · exact h.elim
theorem b_isi:Blt D (.builtin "isinstance") bIsi2:=⟨⟨_,fun X h=>by have:=call_isi (X:=X);rw [h.K] at this;exact this,sim_isi⟩⟩
def blsU:List U→Option (List Bool)
  | []=>some []
  | .bl b :: r=>(blsU r).map (b :: ·)
  | _=>none
def bAll:List U→MHp→UK→Prop:=fun us M Q=>match us with
  | [x]=>match view M x with
    | .lst ws=>match blsU ws with
      | some bs=>Q (.bl (bs.all fun b=>b)) M
      | none=>False
    | _=>False
  | _=>False
theorem blsU_rel {K:PySem.W.Frag} {H:Hp} {M:MHp}:∀ {us:List U} {vs:List V} {bs:List Bool},RelUs K H M us vs→blsU us=some bs→vs=bs.map V.bl
  | [],_,_,r,h=>by cases h;exact r.inv_nil
  | u :: us,_,bs,r,h=>by
    obtain ⟨v,vs',rfl,a,b⟩:=r.inv_cons
    cases u with
    | bl y =>
      simp only [blsU] at h
      cases e:blsU us with
      | none=>rw [e] at h;cases h
      | some cs =>
        rw [e] at h
        cases h
        rw [blsU_rel b e,a.bl];rfl
    | _=>cases h
theorem b_all:Blt D (.builtin "all") bAll:=⟨⟨_,fun X h=>by have:=call_allB (X:=X) h.calm;rw [h.K] at this;exact this,fun xs us H M Q' rm rus h Q c=>by
  unfold bAll at h
  split at h
  · rename_i x
    obtain ⟨v,rfl,a1⟩:=rus.one
    split at h
    · rename_i ws e
      split at h
      · rename_i bs e2
        obtain ⟨b,zvs,rfl,s2,r2⟩:=view_lst rm a1 e
        rw [blsU_rel r2 e2] at s2
        exact ⟨b,bs,rfl,s2,c.here rm relU_bl h⟩
      · exact h.elim
    · exact h.elim
  · exact h.elim⟩⟩
theorem ue_append {apos:Pos} (ho:PEU D o ta) (ha:PAU D [e] tas) (hbase:∀ env,attributeBase o "append" env (eval o env)=eval o env:=by intro _;rfl)
    (hfew:∀ env,((backTo pos (starEach [e] env)).all (fun x=>!x.1) && (backToKw pos (keywordEach [] env)).all (fun x=>x.1.isSome) && decide ([e].length + ([]:List Keyword).length + (if ([]:List Keyword).isEmpty then 0 else 1) < 30))=true:=by intro _;rfl)
    (hline:(apos.endLine == pos.line)=true:=by rfl) (hs:∀ env,starEach [e] env=[(false,eval e env)]:=by intro _;rfl):PEU D (.Call (.Attribute o "append" apos) [e] [] pos) (uBM mAppend ta tas):=by
  obtain ⟨_,p,s⟩:=ho;obtain ⟨_,q,r⟩:=ha
  refine ⟨_,fun X h=>?_,sim_bm sim_append s r⟩
  have:=pe_bm (cpos:=pos) (apos:=apos) PySem.F.plainAttrs_list PySem.F.slot_list_append PySem.F.type_list_append mt_append (p X h) (q X h) (hbase _) (hfew _) hline (hs _) (by rfl)
  rw [h.K] at this
  exact this
theorem ue_pop {apos:Pos} (ho:PEU D o ta) (hbase:∀ env,attributeBase o "pop" env (eval o env)=eval o env:=by intro _;rfl)
    (hline:(apos.endLine == pos.line)=true:=by rfl):PEU D (.Call (.Attribute o "pop" apos) [] [] pos) (uBM0 mPop ta):=by
  obtain ⟨_,p,s⟩:=ho
  refine ⟨_,fun X h=>?_,sim_bm0 sim_pop s⟩
  have:=pe_bm0 (cpos:=pos) (apos:=apos) PySem.F.plainAttrs_list PySem.F.slot_list_pop PySem.F.type_list_pop mt_pop (p X h) (hbase _) hline
  rw [h.K] at this
  exact this
def relabelSc (scope sc:Scope):Scope :=
  { scope with names:=scope.names.map fun (n,k)=>if (k == .free && sc.kind == .function && sc.names.lookup n == some .cell) then (n,.cell) else (n,k) }
def compD (D:Dat) (N:List Str) (scope:Scope):Dat:={ D with N:=N,sc:=relabelSc scope D.sc,fn:=false,cod:=.none }
theorem Has.comp {X:Cx} (h:Has D X) (N:List Str) (scope:Scope) (cl:List (Str × Addr)) (C:Addr) (s:Shared) (H:Hp) (fp:List Addr):Has (compD D N scope) (compCx X N scope cl C s H fp) :=
  ⟨h.prog,h.w,h.K,h.mg,h.base,rfl,by show relabelSc scope X.env.scope=relabelSc scope D.sc;rw [h.sc],h.room,h.calm,rfl,(fun z=>by cases z),(fun z=>absurd rfl z)⟩
theorem uif_nil:PIfU D [] (fun _ M Q=>Q true M):=⟨tYes,fun X h=>pif_nil,fun σ τ H M Q' rs rm q Q c=>c true M H (Stp.refl _ _) rm q⟩
theorem uif_one {t:UT} (h:PTU D c t):PIfU D [c] t:=let ⟨_,p,s⟩:=h;⟨_,fun X h=>pif_one (p X h),s⟩
theorem ue_comp (own:Bool) (N:List Str) (k:Nat) (ix:List Nat) {scope:Scope} {tg iter elt:Expr} {ifs:List Expr} {wi:UI} {g:UG} {tcs:UT} (hi:PIU D tg iter wi) (hg:PGU (compD D N scope) k tg g) (hif:PIfU (compD D N scope) ifs tcs) (he:PEU (compD D N scope) elt te)
    (hk:scope.kind=.function:=by rfl) (hcell:∀ y∈scope.names,y.2≠.cell:=by first | decide +kernel | (dsimp only;decide +kernel) | (dsimp only [compD,relabelSc];decide +kernel)) (hnames:∀ y∈scope.names,y.2=.local→scope.names.lookup y.1=some .local:=by first | decide +kernel | (dsimp only;decide +kernel) | (dsimp only [compD,relabelSc];decide +kernel))
    (hfree:∀ y∈scope.names,y.2=.free→D.sc.names.lookup y.1=some .cell∨D.sc.names.lookup y.1=some .free:=by first | decide +kernel | (dsimp only;decide +kernel) | (dsimp only [compD,relabelSc];decide +kernel)) (hone:∀ y∈scope.names,y.2=.free→scope.names.lookup y.1=some .free:=by first | decide +kernel | (dsimp only;decide +kernel) | (dsimp only [compD,relabelSc];decide +kernel))
    (hN:ix.map (fun i=>D.N[i]?)=(N.drop k).map some:=by rfl) (hcap:∀ x∈N.drop k,scope.names.lookup x=some .free:=by first | decide +kernel | (dsimp only;decide +kernel) | (dsimp only [compD,relabelSc];decide +kernel)) (hlen:N.length=k + ix.length:=by rfl)
    (hs:∀ env x,foldedSetIterable iter env x=pure x:=by intro _ _;rfl):PEU D (.ListComp elt [⟨tg,iter,ifs,0⟩] scope pos) (uComp own k ix wi g tcs te):=by
  obtain ⟨_,p1,s1⟩:=hi;obtain ⟨_,p2,s2,gk,_⟩:=hg;obtain ⟨_,p3,s3⟩:=hif;obtain ⟨_,p4,s4⟩:=he
  have hN':∀ (j:Nat) x,N[k + j]?=some x→∃ i,ix[j]?=some i∧D.N[i]?=some x:=fun j x e=>by
    have e1:((N.drop k).map some)[j]?=some (some x):=by rw [List.getElem?_map,List.getElem?_drop,e];rfl
    rw [← hN,List.getElem?_map] at e1
    cases q:ix[j]? with
    | none=>rw [q] at e1;cases e1
    | some i=>rw [q] at e1;exact ⟨i,rfl,Option.some.inj e1⟩
  have hcap':∀ (j:Nat) x,N[k + j]?=some x→scope.names.lookup x=some .free:=fun j x e=>hcap x (List.mem_of_getElem? (i:=j) (by rw [List.getElem?_drop];exact e))
  refine ⟨_,fun X h=>pe_comp (N:=N) (k:=k) (ix:=ix) h.calm (p1 X h) gk hk hcell hnames (fun y hy e=>by show X.env.scope.names.lookup y.1=_∨X.env.scope.names.lookup y.1=_;rw [h.sc];exact hfree y hy e) hone (fun j x e=>by rw [h.N];exact hN' j x e) hcap' hlen
    (fun cl C s H fp=>p2 _ (h.comp N scope cl C s H fp)) (fun cl C s H fp=>p3 _ (h.comp N scope cl C s H fp)) (fun cl C s H fp=>p4 _ (h.comp N scope cl C s H fp)) (hs _),sim_comp s1 s2 s3 s4⟩
theorem swaps_of {elt:Expr} {gens:List Comprehension} {scope:Scope} {pos py:Pos} {y:Str} {line:Nat} {env:Env} (h1:env.scope.kind=.function) (h2:env.scope.names.lookup y=some .local) (h3:(py.line == pos.line && !(scope.names.any fun (n,k)=>n == y && (k == .local || k == .cell)))=true) :
    swapsWith (.ListComp elt gens scope pos) (some (.Name y py)) line env=pure true:=by
  have e1:(env.blockKind == .function)=true:=by first | (unfold Env.blockKind;rw [h1];rfl) | (unfold Env.blockKind;simp [h1])
  have e2:(env.kindOf y == some .local)=true:=by unfold Env.kindOf;rw [h2];rfl
  show pure (env.blockKind == .function && env.kindOf y == some .local && py.line == pos.line && !(scope.names.any fun (n,k)=>n == y && (k == .local || k == .cell)))=pure true
  rw [e1,e2]
  simp only [Bool.and_eq_true] at h3
  rw [h3.1,h3.2]
  rfl
theorem us_setC (i:Nat) {y:Str} {spos py:Pos} (hNd:D.N.Nodup) (own:Bool) (N:List Str) (k:Nat) (ix:List Nat) {scope:Scope} {tg iter elt:Expr} {ifs:List Expr} {wi:UI} {g:UG} {tcs:UT} (hi:PIU D tg iter wi) (hg:PGU (compD D N scope) k tg g) (hif:PIfU (compD D N scope) ifs tcs) (he:PEU (compD D N scope) elt te)
    (hk:scope.kind=.function:=by rfl) (hcell:∀ y∈scope.names,y.2≠.cell:=by first | decide +kernel | (dsimp only;decide +kernel) | (dsimp only [compD,relabelSc];decide +kernel)) (hnames:∀ y∈scope.names,y.2=.local→scope.names.lookup y.1=some .local:=by first | decide +kernel | (dsimp only;decide +kernel) | (dsimp only [compD,relabelSc];decide +kernel))
    (hfree:∀ y∈scope.names,y.2=.free→D.sc.names.lookup y.1=some .cell∨D.sc.names.lookup y.1=some .free:=by first | decide +kernel | (dsimp only;decide +kernel) | (dsimp only [compD,relabelSc];decide +kernel)) (hone:∀ y∈scope.names,y.2=.free→scope.names.lookup y.1=some .free:=by first | decide +kernel | (dsimp only;decide +kernel) | (dsimp only [compD,relabelSc];decide +kernel))
    (hN:ix.map (fun i=>D.N[i]?)=(N.drop k).map some:=by rfl) (hcap:∀ x∈N.drop k,scope.names.lookup x=some .free:=by first | decide +kernel | (dsimp only;decide +kernel) | (dsimp only [compD,relabelSc];decide +kernel)) (hlen:N.length=k + ix.length:=by rfl)
    (hs:∀ env x,foldedSetIterable iter env x=pure x:=by intro _ _;rfl) (hl1:D.sc.kind=.function:=by rfl) (hl2:D.sc.names.lookup y=some .local:=by rfl) (hl3:(py.line == pos.line && !(scope.names.any fun (n,k)=>n == y && (k == .local || k == .cell)))=true:=by decide +kernel)
    (hiy:D.N[i]?=some y:=by rfl) (hy:Loc D.sc y:=by first | exact Or.inl rfl | exact Or.inr rfl) (hf:D.fn=true∨D.sc.names.lookup y=some .local:=by first | exact .inl rfl | exact .inr rfl):PSU D (.Assign [.Name y py] (.ListComp elt [⟨tg,iter,ifs,0⟩] scope pos) spos) (uAsg (uComp own k ix wi g tcs te) (hName i)):=by
  obtain ⟨_,p1,s1⟩:=hi;obtain ⟨_,p2,s2,gk,_⟩:=hg;obtain ⟨_,p3,s3⟩:=hif;obtain ⟨_,p4,s4⟩:=he
  have hN':∀ (j:Nat) x,N[k + j]?=some x→∃ i,ix[j]?=some i∧D.N[i]?=some x:=fun j x e=>by
    have e1:((N.drop k).map some)[j]?=some (some x):=by rw [List.getElem?_map,List.getElem?_drop,e];rfl
    rw [← hN,List.getElem?_map] at e1
    cases q:ix[j]? with
    | none=>rw [q] at e1;cases e1
    | some i=>rw [q] at e1;exact ⟨i,rfl,Option.some.inj e1⟩
  have hcap':∀ (j:Nat) x,N[k + j]?=some x→scope.names.lookup x=some .free:=fun j x e=>hcap x (List.mem_of_getElem? (i:=j) (by rw [List.getElem?_drop];exact e))
  refine ⟨_,fun X h=>ps_comp (i:=i) (N:=N) (k:=k) (ix:=ix) h.calm (p1 X h) gk hk hcell hnames (fun y hy e=>by show X.env.scope.names.lookup y.1=_∨X.env.scope.names.lookup y.1=_;rw [h.sc];exact hfree y hy e) hone (fun j x e=>by rw [h.N];exact hN' j x e) hcap' hlen
    (fun cl C s H fp=>p2 _ (h.comp N scope cl C s H fp)) (fun cl C s H fp=>p3 _ (h.comp N scope cl C s H fp)) (fun cl C s H fp=>p4 _ (h.comp N scope cl C s H fp)) (hs _) (swaps_of (by rw [h.sc];exact hl1) (by rw [h.sc];exact hl2) hl3) (by rw [h.N];exact hNd) (by rw [h.N];exact hiy) (by rw [h.sc];exact hy) (by rcases hf with z | z;exact .inl (h.fn z y);exact .inr (by rw [h.sc];exact z)),sim_asg (sim_comp s1 s2 s3 s4) (sim_gname i)⟩
end
section
variable {P:Program} {w:World} {K:PySem.W.Frag} {mg:Str→Option Value} {base:Heap}
theorem start_rel {H:Hp} {M:MHp} {N:List Str} {us:List U} {vs:List V} (r:RelUs K H M us vs):RelS K H M (L2.start N vs) (startU N us):=by
  have hl:=r.length
  refine ⟨by simp [L2.start,startU,hl],fun i u e=>?_⟩
  unfold startU at e
  unfold L2.start
  by_cases hi:i < us.length
  · rw [List.getElem?_append_left (by simpa using hi),List.getElem?_map] at e
    cases q:us[i]? with
    | none=>rw [q] at e;cases e
    | some u' =>
      rw [q] at e
      cases e
      obtain ⟨v,h1,h2⟩:=r.get q
      exact ⟨v,by rw [List.getElem?_append_left (by rw [List.length_map];omega),List.getElem?_map,h1];rfl,h2⟩
  · rw [List.getElem?_append_right (by simpa using hi),List.getElem?_replicate] at e
    split at e <;> cases e
theorem fnok_of {x:Str} {st:Stmt} {f:Addr} {fd:FuncData} {N ps:List Str} {k:Nat} {sp:USp} {t:US} (F:Fun K x x st f fd) (S:FnScope N ps (defScope st))
    (len:∀ us M Q,sp us M Q→us.length=ps.length)
    (h:PSsU ⟨P,w,K,mg,base,N,defScope st,k,true,.none,""⟩ (defBody st) t)
    (q:∀ us M Q,sp us M Q→t { nx:=fun _ M'=>rtU Q .non M',rt:=rtU Q } (startU N us) M):FnOk P w K mg base CX0 (k + 1) f fd ps (liftSp K sp):=by
  obtain ⟨t0,h1,h2⟩:=h
  refine F.ok S (fun vs H Q E ⟨us,M,Q',_,r,hs,_⟩=>by rw [← r.length];exact len us M Q' hs) (fun cdv A outer s H vs Q E hr ⟨us,M,Q',rm,r,hs,c⟩=>?_)
  refine ⟨t0,h1 _ ⟨rfl,rfl,rfl,rfl,rfl,rfl,rfl,hr,rfl,rfl,fun _ _=>rfl,fun h=>absurd rfl h⟩,?_⟩
  refine h2 _ (startU N us) H M _ (start_rel r) rm (q us M Q' hs) _ ⟨fun σ τ H1 M1 s1 rm1 rs1 q1=>?_,fun u v H1 M1 s1 rm1 ru q1=>rtU.ok c s1 rm1 ru q1,fun _ _ _ _ _ _ _ z=>z.elim,fun _ _ _ _ _ _ _ z=>z.elim⟩
  exact rtU.ok c s1 rm1 relU_non q1
theorem callee_of {x:Str} {st:Stmt} {f:Addr} {fd:FuncData} {N ps:List Str} {k:Nat} {sp:USp} {t:US} (F:Fun K x x st f fd) (hm:mg x=some (.ref f)) (S:FnScope N ps (defScope st))
    (bind:∀ (kV doc pm:Value) (an:Option Addr) (cdv ct:Value) (us:List Value),us.length=ps.length→bindArgs (PySem.W.fnOf x x (defArgs st) (defBody st) (defScope st) .none kV doc pm an cdv ct) ⟨us,[]⟩=pure (ps.zip us))
    (len:∀ us M Q,sp us M Q→us.length=ps.length)
    (h:PSsU ⟨P,w,K,mg,base,N,defScope st,k,true,.none,""⟩ (defBody st) t)
    (q:∀ us M Q,sp us M Q→t { nx:=fun _ M'=>rtU Q .non M',rt:=rtU Q } (startU N us) M):Callee P w K mg base (k + 1) x sp []:=by
  obtain ⟨t0,h1,h2⟩:=h
  refine ⟨f,fd,ps,[],[],F.ok S (fun vs H Q E ⟨us,M,Q',_,r,hs,_⟩=>by rw [← r.length];exact len us M Q' hs) (fun cdv A outer s H vs Q E hr ⟨us,M,Q',rm,r,hs,c⟩=>?_),hm,F.kp,F.binds bind,.nil,fun H M=>.nil⟩
  refine ⟨t0,h1 _ ⟨rfl,rfl,rfl,rfl,rfl,rfl,rfl,hr,rfl,rfl,fun _ _=>rfl,fun h=>absurd rfl h⟩,?_⟩
  refine h2 _ (startU N us) H M _ (start_rel r) rm (q us M Q' hs) _ ⟨fun σ τ H1 M1 s1 rm1 rs1 q1=>?_,fun u v H1 M1 s1 rm1 ru q1=>rtU.ok c s1 rm1 ru q1,fun _ _ _ _ _ _ _ z=>z.elim,fun _ _ _ _ _ _ _ z=>z.elim⟩
  exact rtU.ok c s1 rm1 relU_non q1
end
end U2
namespace U2
open PySem L2
theorem isi_NoneType_bool:under2 "NoneType" "bool"=some false:=by decide +kernel
theorem isi_NoneType_int:under2 "NoneType" "int"=some false:=by decide +kernel
theorem isi_NoneType_str:under2 "NoneType" "str"=some false:=by decide +kernel
theorem isi_NoneType_tuple:under2 "NoneType" "tuple"=some false:=by decide +kernel
theorem isi_NoneType_list:under2 "NoneType" "list"=some false:=by decide +kernel
theorem isi_NoneType_dict:under2 "NoneType" "dict"=some false:=by decide +kernel
theorem isi_bool_bool:under2 "bool" "bool"=some true:=by decide +kernel
theorem isi_bool_int:under2 "bool" "int"=some true:=by decide +kernel
theorem isi_bool_str:under2 "bool" "str"=some false:=by decide +kernel
theorem isi_bool_tuple:under2 "bool" "tuple"=some false:=by decide +kernel
theorem isi_bool_list:under2 "bool" "list"=some false:=by decide +kernel
theorem isi_bool_dict:under2 "bool" "dict"=some false:=by decide +kernel
theorem isi_int_bool:under2 "int" "bool"=some false:=by decide +kernel
theorem isi_int_int:under2 "int" "int"=some true:=by decide +kernel
theorem isi_int_str:under2 "int" "str"=some false:=by decide +kernel
theorem isi_int_tuple:under2 "int" "tuple"=some false:=by decide +kernel
theorem isi_int_list:under2 "int" "list"=some false:=by decide +kernel
theorem isi_int_dict:under2 "int" "dict"=some false:=by decide +kernel
theorem isi_str_bool:under2 "str" "bool"=some false:=by decide +kernel
theorem isi_str_int:under2 "str" "int"=some false:=by decide +kernel
theorem isi_str_str:under2 "str" "str"=some true:=by decide +kernel
theorem isi_str_tuple:under2 "str" "tuple"=some false:=by decide +kernel
theorem isi_str_list:under2 "str" "list"=some false:=by decide +kernel
theorem isi_str_dict:under2 "str" "dict"=some false:=by decide +kernel
theorem isi_tuple_bool:under2 "tuple" "bool"=some false:=by decide +kernel
theorem isi_tuple_int:under2 "tuple" "int"=some false:=by decide +kernel
theorem isi_tuple_str:under2 "tuple" "str"=some false:=by decide +kernel
theorem isi_tuple_tuple:under2 "tuple" "tuple"=some true:=by decide +kernel
theorem isi_tuple_list:under2 "tuple" "list"=some false:=by decide +kernel
theorem isi_tuple_dict:under2 "tuple" "dict"=some false:=by decide +kernel
theorem isi_list_bool:under2 "list" "bool"=some false:=by decide +kernel
theorem isi_list_int:under2 "list" "int"=some false:=by decide +kernel
theorem isi_list_str:under2 "list" "str"=some false:=by decide +kernel
theorem isi_list_tuple:under2 "list" "tuple"=some false:=by decide +kernel
theorem isi_list_list:under2 "list" "list"=some true:=by decide +kernel
theorem isi_list_dict:under2 "list" "dict"=some false:=by decide +kernel
theorem isi_dict_bool:under2 "dict" "bool"=some false:=by decide +kernel
theorem isi_dict_int:under2 "dict" "int"=some false:=by decide +kernel
theorem isi_dict_str:under2 "dict" "str"=some false:=by decide +kernel
theorem isi_dict_tuple:under2 "dict" "tuple"=some false:=by decide +kernel
theorem isi_dict_list:under2 "dict" "list"=some false:=by decide +kernel
theorem isi_dict_dict:under2 "dict" "dict"=some true:=by decide +kernel
theorem rt_same {Q:UK} {u:U} {M:MHp} (q:Q u M):rtU Q u M:=⟨u,M,Sub.refl M,.inl rfl,q⟩
theorem uComp_pure {o:Bool} {k:Nat} {ix:List Nat} {wi:UI} {g:UG} {tc:UT} {te:UE} {τ:SU} {M M1:MHp} {Q:UK} {S:Src} (f:U→Option U) (hw:∀ R:Src→MHp→Prop,R S M1→wi τ M R) (hz:S.xs.length≤sizeLine) (hs:S.ok M1)
    (h:∀ x∈S.xs,∀ M,Sub M1 M→∀ R:Option U→MHp→Prop,R (f x) M→g x (capt k ix τ) M fun τ2 M2=>tc τ2 M2 fun ok M3=>if ok=true then te τ2 M3 fun y M4=>R (some y) M4 else R none M3)
    (q:mkL o (S.xs.filterMap f) M1 Q):uComp o k ix wi g tc te τ M Q:=hw _ (comp_pure (wi:=wi) f hz hs h q)
theorem for_by {wi:UI} {g:UG} {tb:US} {D:UEnds} {τ:SU} {M M1:MHp} {S:Src} (hw:∀ R:Src→MHp→Prop,R S M1→wi τ M R) (P:Nat→SU→MHp→Prop) (h0:P 0 τ M1) (hok:∀ i τ M,P i τ M→S.ok M)
    (turn:∀ i x τ M,S.xs[i]?=some x→P i τ M→g x τ M fun τ2 M2=>tb { D with nx:=P (i + 1),ct:=P (i + 1),bk:=D.nx } τ2 M2) (fin:∀ τ M,P S.xs.length τ M→D.nx τ M):uFor wi g tb D τ M:=hw _ ⟨P,h0,hok,turn,fin⟩
theorem while_by {c:UT} {tb:US} {D:UEnds} {τ:SU} {M:MHp} (P:SU→MHp→Prop) (μ:SU→MHp→Nat) (h0:P τ M)
    (turn:∀ τ M,P τ M→c τ M fun b M1=>if b=true then tb { D with nx:=fun τ' M'=>P τ' M'∧μ τ' M' < μ τ M,ct:=fun τ' M'=>P τ' M'∧μ τ' M' < μ τ M,bk:=D.nx } τ M1 else D.nx τ M1):uWhile c tb D τ M:=⟨P,μ,h0,turn⟩
theorem rangeU_get {lo:Int} {n i:Nat} {x:U} (h:(rangeU lo n)[i]?=some x):x=.int (lo + i)∧i < n:=by
  have hi:i < n:=by
    have:=(List.getElem?_eq_some_iff.mp h).1
    simpa [rangeU] using this
  simp only [rangeU,List.getElem?_map,List.getElem?_range hi,Option.map_some] at h
  exact ⟨(Option.some.inj h).symm,hi⟩
theorem rangeU_len (lo:Int) (n:Nat):(rangeU lo n).length=n:=by simp [rangeU]
end U2
namespace U2
open PySem PySem.Spec PyProof.Rows L2
inductive Fl where
  | int (i:Int) | str (x:Str)
def Fl.d:Fl→PyData
  | .int i=>.int i
  | .str x=>.str x
def Fl.u:Fl→U
  | .int i=>.int i
  | .str x=>.str x
def tabD (T:List (Str × Fl)):List (PyData × PyData):=T.map fun p=>(PyData.str p.1,p.2.d)
def tabGet:List (Str × Fl)→Str→Option Fl
  | [],_=>none
  | (a,b) :: r,z=>if a=z then some b else tabGet r z
structure IsTab (P:Program) (w:World) (K:PySem.W.Frag) (d:Addr) (T:List (Str × Fl)):Prop where
  at_:∀ h:Heap,K.In h→StrTab P w h d (tabD T)
theorem sameS (a b:Str):same (.str a) (.str b)=decide (a=b):=by
  by_cases h:a=b <;> simp [same,h]
theorem lookup_tab:∀ (T:List (Str × Fl)) (z:Str),PySem.Spec.lookup (.str z) (tabD T)=(tabGet T z).map Fl.d
  | [],_=>rfl
  | (a,b) :: r,z=>by
    have ih:=lookup_tab r z
    show (if same (.str a) (.str z)=true then some b.d else PySem.Spec.lookup (.str z) (tabD r))=((if a=z then some b else tabGet r z).map Fl.d)
    rw [sameS]
    by_cases e:a=z
    · rw [if_pos (decide_eq_true e),if_pos e];rfl
    · rw [if_neg (by simpa using e),if_neg e,ih]
def tabP (T:List (Str × Fl)):List (Str × PyData):=T.map fun p=>(p.1,p.2.d)
theorem tab_of {P:Program} {w:World} {K:PySem.W.Frag} {d:Addr} {T:List (Str × Fl)} (n:((tabP T).map (·.1)).Nodup) (e:KTD.tabLook KTD.flatLooks (fun b=>K.lookup b) d (tabP T)=true) (q:KTD.hashesOf (fun b=>K.lookup b) d=(tabP T).map fun p=>(PySem.strKind P w).hash p.1):IsTab P w K d T:=⟨fun h hK=>by
  have:=PySem.W.kt_tab_in P w hK e n q
  unfold tabP at this
  rw [List.map_map] at this
  exact this⟩
section
variable {X:Cx} {d:Addr} {T:List (Str × Fl)}
theorem op_inTab (t:IsTab X.prog X.w X.K d T):OpR X (compareOp .In) (fun x y H Q=>∃ z,x=.str z∧y=.ref d∧Q (.bl (tabGet T z).isSome) H):=by
  intro pins s σ H x y v u Q I rx ry h
  obtain ⟨z,rfl,rfl,q⟩:=h
  obtain ⟨tk,rfl⟩:=rx
  cases ry
  refine in_strTab (t.at_ _ I.kIn) ?_
  rw [lookup_tab,Option.isSome_map]
  exact ⟨.bl _,H,I.tok _,rfl,q⟩
end
section
variable {D:Dat} {d:Addr} {T:List (Str × Fl)}
abbrev Tab (D:Dat):=IsTab D.prog D.w D.K
def inTab (d:Addr) (T:List (Str × Fl)) (neg:Bool):UR2:=fun x y M Q=>match x with
  | .str z=>y=.ref d∧Q (.bl (if neg then !(tabGet T z).isSome else (tabGet T z).isSome)) M
  | _=>False
theorem k_inTab (t:Tab D d T):Cmp D .In (inTab d T false):=⟨⟨_,fun X h=>op_inTab (by rw [h.prog,h.w,h.K];exact t),fun x y u w H M Q' rm ru rw h Q c=>by
  cases u with
  | str z=>obtain ⟨rfl,h⟩:=h;exact ⟨z,ru.str,rw.ref,c.here rm relU_bl h⟩
  | _=>exact h.elim⟩⟩
def ixTab (d:Addr) (T:List (Str × Fl)):UR2:=fun x y M Q=>match y with
  | .str z=>x=.ref d∧match tabGet T z with
    | some f=>Q f.u M
    | none=>False
  | _=>False
def uCallV (i:Nat) (f:Addr) (sp:USp) (t:UA):UE:=fun τ M Q=>uVar i τ M fun v M1=>v=.ref f∧t τ M1 fun us M2=>sp us M2 Q
end
end U2
namespace U2
open PySem PySem.Spec PyProof.Rows L2
def half (j:Int):Nat:=((j + 1) / 2).toNat
theorem size_two {j:Int} (h:0≤j):Builtin.Range.rangeSize 0 j 2=(half j:Nat):=by
  unfold Builtin.Range.rangeSize half
  simp only [show (2:Int) > 0 by decide,if_true]
  split <;> omega
def rangeU2 (n:Nat):List U:=(List.range n).map fun (k:Nat)=>U.int ((k:Int) * 2)
theorem rangeU2_len (n:Nat):(rangeU2 n).length=n:=by simp [rangeU2]
end U2
namespace U2
open PySem PySem.Spec PyProof.Rows L2
def strsU:List U→Option (List Str)
  | []=>some []
  | .str b :: r=>(strsU r).map (b :: ·)
  | _=>none
theorem strsU_rel {K:PySem.W.Frag} {H:Hp} {M:MHp}:∀ {us:List U} {vs:List V} {bs:List Str},RelUs K H M us vs→strsU us=some bs→vs=bs.map V.str
  | [],_,_,r,h=>by cases h;exact r.inv_nil
  | u :: us,_,bs,r,h=>by
    obtain ⟨v,vs',rfl,a,b⟩:=r.inv_cons
    cases u with
    | str y =>
      simp only [strsU] at h
      cases e:strsU us with
      | none=>rw [e] at h;cases h
      | some cs =>
        rw [e] at h
        cases h
        rw [strsU_rel b e,a.str];rfl
    | _=>cases h
end U2
namespace U2
open PySem L2
theorem at0 {α:Type} {a:α} {r:List α}:atI (a :: r) 0=some a:=atI_nat (j:=0) rfl
theorem at1 {α:Type} {a b:α} {r:List α}:atI (a :: b :: r) 1=some b:=atI_nat (j:=1) rfl
theorem at2 {α:Type} {a b c:α} {r:List α}:atI (a :: b :: c :: r) 2=some c:=atI_nat (j:=2) rfl
theorem at3 {α:Type} {a b c d:α} {r:List α}:atI (a :: b :: c :: d :: r) 3=some d:=atI_nat (j:=3) rfl
theorem atI_ex {α:Type} (l:List α) (i:Int) (h0:0≤i) (h1:i < l.length):∃ c,atI l i=some c:=by
  have hl:i.toNat < l.length:=by omega
  refine ⟨l[i.toNat],?_⟩
  have e:((i.toNat:Nat):Int)=i:=by omega
  have q:=atI_nat (xs:=l) (j:=i.toNat) (v:=l[i.toNat]) (by simp [hl])
  rw [e] at q
  exact q
theorem atI_m1 {α:Type} (l:List α) (a:α):atI (l++[a]) (-1)=some a:=atI_last l a
theorem gl_1 {α:Type} (l:List α) (a:α):(l++[a]).getLast?=some a:=by simp
theorem dl_1 {α:Type} (l:List α) (a:α):(l++[a]).dropLast=l:=List.dropLast_concat
theorem cut1 {α:Type} (a:α) (r:List α):cutU (a :: r) (some 1) none=r:=by
  unfold cutU
  simp [HT.sIx]
  try omega
theorem vw_non {M:MHp}:view M .non=.non:=rfl
theorem vw_bl {M:MHp} {x:Bool}:view M (.bl x)=.bl x:=rfl
theorem vw_int {M:MHp} {x:Int}:view M (.int x)=.int x:=rfl
theorem vw_str {M:MHp} {x:Str}:view M (.str x)=.str x:=rfl
theorem vw_tup {M:MHp} {x:List U}:view M (.tup x)=.tup x:=rfl
theorem vw_lst {M:MHp} {x:List U}:view M (.lst x)=.lst x:=rfl
theorem vw_own {M:MHp} {p:Addr} {us:List U}:view (mup M p (.lst us)) (.ref p)=.lst us:=view_ref mup_same
theorem isL_own {M:MHp} {p:Addr} {us:List U}:isL (mup M p (.lst us)) (.ref p):=⟨us,vw_own⟩
theorem uComp_list {o:Bool} {k:Nat} {ix:List Nat} {wi:UI} {g:UG} {te:UE} {τ:SU} {M M1:MHp} {Q:UK} {S:Src} (zs:List U) (hw:∀ R:Src→MHp→Prop,R S M1→wi τ M R) (hl:zs.length=S.xs.length) (hz:S.xs.length≤sizeLine) (hs:S.ok M1)
    (h:∀ (i:Nat) x y,S.xs[i]?=some x→zs[i]?=some y→∀ M,Sub M1 M→∀ R:UK,R y M→g x (capt k ix τ) M fun τ2 M2=>te τ2 M2 R)
    (q:mkL o zs M1 Q):uComp o k ix wi g (fun _ M Q=>Q true M) te τ M Q:=by
  refine hw _ ⟨hz,fun D hD=>⟨fun i ys M=>ys=zs.take i∧M=mup M1 D (.lst ys)∧i≤S.xs.length,⟨by simp,rfl,Nat.zero_le _⟩,?_,?_,?_⟩⟩
  · rintro i ys M ⟨rfl,rfl,hi⟩
    refine ⟨fun a e=>?_,mup_same,?_⟩
    · have:=hs a e
      rw [mup_ne (fun z=>by subst z;rw [hD] at this;cases this)]
      exact this
    · rw [List.length_take];omega
  · rintro i x ys M e ⟨rfl,rfl,hi⟩
    have hlt:i < S.xs.length:=(List.getElem?_eq_some_iff.mp e).1
    have hy:zs[i]?=some zs[i]:=by simp [show i < zs.length by omega]
    have tk:zs.take (i + 1)=zs.take i++[zs[i]]:=by rw [List.take_add_one,hy];rfl
    refine h i x zs[i] e hy (mup M1 D (.lst (zs.take i))) ((Sub.refl M1).mup hD) (fun y M4=>M4 D=some (.lst (zs.take i))∧(zs.take i++[y]=zs.take (i + 1)∧mup M4 D (.lst (zs.take i++[y]))=mup M1 D (.lst (zs.take i++[y]))∧i + 1≤S.xs.length)) ?_
    exact ⟨mup_same,tk.symm,mup_mup,hlt⟩
  · rintro ys M ⟨rfl,rfl,hi⟩
    rw [show zs.take S.xs.length=zs by rw [← hl];exact List.take_length]
    cases o with
    | true=>exact q D hD
    | false=>exact ⟨M1,(Sub.refl M1).mup hD,hD,q⟩
end U2
namespace U2
open PySem PySem.Spec PyProof.Rows L2
section
variable {prog:Program} {w:World} {A:Around} {E:Value→Shared→Prop} {s:Shared}
theorem nextOf_tuple_item {it t:Addr} {i:Nat} {items} {x:Value} {Q:Value→Shared→Prop} (hit:s.heap.IsTupleIter it t i)
    (ht:s.heap.IsTuple t items) (hx:items[i]?=some x)
    (hQ:∀ h',h'.IsTupleIter it t (i + 1)→Heap.SameBut it s.heap h'→Q x { s with heap:=h' }) :
    wpAny (model prog w) A (Builtin.SmallTypes.nextOf (.ref it)) Q E s:=by
  obtain ⟨o,ho,hc,hd⟩:=id hit
  obtain ⟨ol,hol,_,nl,hdl⟩:=ht
  unfold Builtin.SmallTypes.nextOf
  refine wpAny_bind (wpAny_callSpecial?_slot (name:=Str.ofString "__next__") hit.typeIs PySem.F.slot_tuple_iterator_next
    (wpAny_call_entry PySem.F.slot_tuple_iterator_next hit.typeIs PySem.F.entry_tuple_iterator_next ?_ (PySem.F.args_tuple_iterator_next_1 _)))
  show wpAny _ _ (field (.ref it) 0 >>= _) _ _ s
  refine wpAny_bind (wpAny_field ho hd (x:=.ref t) rfl ?_)
  show wpAny _ _ (if (Value.ref t == Value.none)=true then _ else _) _ _ s
  rw [if_neg (show ¬ ((Value.ref t == Value.none)=true) from Bool.false_ne_true)]
  show wpAny _ _ (field (.ref it) 1 >>= _) _ _ s
  refine wpAny_bind (wpAny_field ho hd (x:=.int i 0) rfl ?_)
  show wpAny _ _ (seqItems? (.ref t) >>= _) _ _ s
  refine wpAny_bind (wpAny_seqItems hol hdl ?_)
  simp only [Int.toNat_natCast,hx]
  refine wpAny_bind (wpAny_setField ho hd (by simp) (wpAny_pure ⟨x,rfl,wpAny_pure (hQ _ ?_ (Heap.SameBut.update ..))⟩))
  exact ⟨_,Heap.get?_update_self _ ho (Obj.isFreed_of_fields (Obj.data_mapFields hd _)),(Obj.cls_mapFields ..).trans hc,by
    rw [Obj.data_mapFields hd];simp [rawInt]⟩
theorem nextOf_tuple_end {it t:Addr} {i:Nat} {items} {Q:Value→Shared→Prop} (hh:A.handled=none)
    (hit:s.heap.IsTupleIter it t i) (ht:s.heap.IsTuple t items) (hx:items[i]?=none)
    (hE:∀ h' e,Heap.ExtBut it s.heap h'→(∃ o,h'.get? e=some o∧o.cls=.type "StopIteration")→E (.ref e) { s with heap:=h' }) :
    wpAny (model prog w) A (Builtin.SmallTypes.nextOf (.ref it)) Q E s:=by
  obtain ⟨o,ho,hc,hd⟩:=id hit
  obtain ⟨ol,hol,_,nl,hdl⟩:=ht
  unfold Builtin.SmallTypes.nextOf
  refine wpAny_bind (wpAny_callSpecial?_slot (name:=Str.ofString "__next__") hit.typeIs PySem.F.slot_tuple_iterator_next
    (wpAny_call_entry PySem.F.slot_tuple_iterator_next hit.typeIs PySem.F.entry_tuple_iterator_next ?_ (PySem.F.args_tuple_iterator_next_1 _)))
  show wpAny _ _ (field (.ref it) 0 >>= _) _ _ s
  refine wpAny_bind (wpAny_field ho hd (x:=.ref t) rfl ?_)
  show wpAny _ _ (if (Value.ref t == Value.none)=true then _ else _) _ _ s
  rw [if_neg (show ¬ ((Value.ref t == Value.none)=true) from Bool.false_ne_true)]
  show wpAny _ _ (field (.ref it) 1 >>= _) _ _ s
  refine wpAny_bind (wpAny_field ho hd (x:=.int i 0) rfl ?_)
  show wpAny _ _ (seqItems? (.ref t) >>= _) _ _ s
  refine wpAny_bind (wpAny_seqItems hol hdl ?_)
  simp only [Int.toNat_natCast,hx]
  refine wpAny_bind (wpAny_rule (wpAny_bind (wpAny_setField ho hd (by simp) ?_)))
  show wpAny _ _ (newExc (.type "StopIteration") [] >>= _) _ _ _
  refine wpAny_bind ?_
  simp only [newExc,newTuple]
  refine wpAny_bind (wpAny_newObj_type ?_ (by size_fits))
  refine wpAny_bind (m:=firstArgMember _ _) (wpAny_of_eq (a:=Value.none) (by first | rfl | (simp only [firstArgMember];rfl)) ?_)
  refine wpAny_newObj_type ?_ (by size_fits)
  simp only [raiseNew]
  refine wpAny_bind (wpAny_handled ?_)
  first | rw [show A.in1.handled=none from hh] | rw [hh]
  refine wpAny_bind (wpAny_pure (wpAny_throw ?_))
  exact hE _ _ (((Heap.SameBut.update ..).extBut.push _).push _) ⟨_,Heap.get?_push_size _ rfl,rfl⟩
theorem draws_tuple {prog:Program} {w:World} {A:Around} (hh:A.handled=none) (it l:Addr) (hne:l≠it) (items:Array Value) :
    Draws prog w A it [it,l] items.size (fun i v=>items[i]?=some v) (fun i h=>h.IsTupleIter it l i∧h.IsTuple l items) where
  live:=fun _ _ st=>let ⟨o,ho,_⟩:=st.1;⟨o,ho⟩
  frame:=fun _ _ _ st hk=>⟨st.1.at fun o e=>hk it (by simp) o e,let ⟨o,ho,r⟩:=st.2;⟨o,hk l (by simp) o ho,r⟩⟩
  item:=fun i s Q E hi st hQ=>by
    refine nextOf_tuple_item st.1 st.2 (x:=items[i]) (by simp [hi]) fun h' hit' hs'=>?_
    exact hQ _ h' s.toks (by simp [hi]) ⟨hit',let ⟨o,ho,r⟩:=st.2;⟨o,hs'.extBut l o hne ho,r⟩⟩ hs'
  done:=fun s Q E st hE=>nextOf_tuple_end hh st.1 st.2 (by simp) hE
theorem meets_enum_tuple (l:Addr) (items:Array Value) (n:Nat) (dd:Option Addr) (sl:Array (Option Value)) :
    Meets (Builtin.«enumerate.__new__» ⟨[.type "enumerate",.ref l],[]⟩) (fun _ R s=>s.heap.get? l=some { cls:=.type "tuple",dict:=dd,data:=.seq items n,slots:=sl } ∧
      R (.ok (.ret (.ref (s.heap.push { cls:=.type "tuple_iterator",data:=.fields #[.ref l,.int 0 0] }).objs.size)))
        { s with heap:=(s.heap.push { cls:=.type "tuple_iterator",data:=.fields #[.ref l,.int 0 0] }).push { cls:=.type "enumerate",data:=.fields #[.none,.bool false,.ref s.heap.objs.size,rawInt 0,.none,.none] } }) :=
  .of_wp fun prog w A R s h=>by
    obtain ⟨hp,g,d,tk,os⟩:=s;obtain ⟨hl,h⟩:=h
    have hsub:=PySem.sub_enumerate
    have hL:Heap.IsTuple (Shared.heap ⟨hp,g,d,tk,os⟩) l items:=⟨_,hl,rfl,n,rfl⟩
    wp_walk using wpAny_loadPart' hl
    refine wpAny_stack_any fun st=>wpAny_pure ?_
    split
    · rename_i c _ _ _ _ _
      cases (c == Value.type "enumerate")
      · wp_walk using wpAny_loadPart' hl,wpAny_pyIter_tuple hL
        exact ⟨_,rfl,h⟩
      · wp_walk using wpAny_loadPart' hl,wpAny_pyIter_tuple hL
        exact ⟨_,rfl,h⟩
    · wp_walk using wpAny_loadPart' hl,wpAny_pyIter_tuple hL
      exact ⟨_,rfl,h⟩
end
theorem inv_turnedLaid {X:Cx} {pins:List (Addr × Obj)} {σ:L2.St} {H:Hp} {s:Shared} {h':Heap} {ch:List Addr} {T:Addr} {o:HO} {tk:Nat} (I:L2.Inv X pins σ H s) (hf:∀ b∈ch,FpOk X pins H b)
    (k:∀ b o,b ∉ ch→s.heap.get? b=some o→h'.get? b=some o) (hT:s.heap.objs.size≤T) (new:ObjOk X.prog X.w (upd H T o) h' T o):L2.Inv X pins σ (upd H T o) { s with heap:=h',toks:=tk }:=by
  have hn:H T=none:=I.hok.fresh hT
  refine I.call' (ch:=ch) (H':=upd H T o) rfl ⟨fun b u q n hb hx=>k b u hx q,fun b u q n hb hx=>⟨u.slots,k b u hx q⟩,fun b u q n hx=>?_,fun b u q hx=>⟨u,k b u hx q⟩,fun b xs q=>by rw [upd_ne (ne_of_none q hn)];exact q,fun b u xs q=>by rw [upd_ne (ne_of_none q hn)];exact q,
    fun b ps q=>⟨#[],by rw [upd_ne (ne_of_none q hn),q];simp⟩⟩ (fun a u e=>?_) I.bare fun b hb=>⟨(hf b hb).2.2.2.1,(hf b hb).2.1,(hf b hb).2.2.2.2.1,(hf b hb).2.2.2.2.2⟩
  · rw [upd_ne (Nat.ne_of_lt (Nat.lt_of_lt_of_le (Heap.lt_size q) hT))];exact n
  · by_cases ha:a=T
    · subst ha;rw [upd_same] at e;cases e;exact new
    · rw [upd_ne ha] at e
      refine (I.hok a u e).stay (fun b z hb q=>k b z (fun hc=>?_) q) (fun c q=>by rw [upd_ne (ne_of_none q hn)];exact q) fun c xs q=>by rw [upd_ne (ne_of_none q hn)];exact q
      have hnone:=(hf b hc).1
      rcases hb with rfl | hb
      · rw [hnone] at e;cases e
      · rw [hnone] at hb;cases hb
def Ite (K:PySem.W.Frag) (a:Addr):It :=
  ⟨fun i H=>∃ xs x,SqT K H a xs∧xs[i]?=some x,fun i H x H'=>∃ p v,(∀ xs,SqT K H a xs→xs[i]?=some v)∧H p=none∧x=.ref p∧H'=upd H p (.tup [.int i,v]),fun i H=>∃ xs,SqT K H a xs∧xs.length=i⟩
theorem turn_enum {P:Program} {w:World} {K:PySem.W.Frag} {elts:List Expr} {kk:Nat} {pos:Pos} (a it e:Addr):Turn P w K (.Tuple elts kk pos) (Ite K a) [e,it] e (fun i h=>(∃ old,IsEnum h e it i old)∧h.IsTupleIter it a i) where
  mem:=by simp
  obj:=fun i h st b hb=>by
    obtain ⟨⟨old,he⟩,o,ho,hc,hd⟩:=st
    have:b=e∨b=it:=by simpa using hb
    rcases this with rfl | rfl
    · exact ⟨_,he,fun v z=>by
        have z':Data.fields _=Data.cell v:=z
        cases z'⟩
    · exact ⟨o,ho,fun v z=>by rw [hd] at z;cases z⟩
  keep:=fun i h h' st k=>let ⟨⟨old,he⟩,hi⟩:=st;⟨⟨old,k e (by simp) _ he⟩,hi.at fun o q=>k it (by simp) o q⟩
  item:=by
    intro X hP hw hK hc i pins s σ H E I hf st hg
    subst hP hw hK
    obtain ⟨⟨old,he⟩,hit⟩:=st
    obtain ⟨xs,x,hq,hx⟩:=hg
    obtain ⟨its,rv,p,hz⟩:=I.tuple hq
    obtain ⟨u,hu,ru⟩:=rv.get hx
    have p':s.heap.IsTuple a its.toArray:=p
    obtain ⟨oi,hoi,hci,hdi⟩:=id hit
    obtain ⟨oa,hoa,hca,na,hda⟩:=id p'
    have n1:a≠it:=fun z=>by subst z;rw [hoa] at hoi;cases hoi;rw [hca] at hci;exact absurd (Value.type.inj hci) (by decide)
    have n2:e≠it:=fun z=>by subst z;rw [he] at hoi;cases hoi;exact absurd (Value.type.inj hci) (by decide)
    have n3:e≠a:=fun z=>by subst z;rw [he] at hoa;cases hoa;exact absurd (Value.type.inj hca) (by decide)
    have W:=WalksT.enumerateD (prog:=X.prog) (w:=X.w) (A:=X.A) (draws_tuple (A:=X.A.in1) (show X.A.in1.handled=none from I.ok.hd hc) it a n1 its.toArray) e n2 (by simp [n2,n3]) (by simp)
    have hlt:i < its.toArray.size:=by
      have:=(List.getElem?_eq_some_iff.mp hu).1
      simpa using this
    refine W.item i s _ E hlt ⟨⟨old,he⟩,hit,p'⟩ fun T vals h' tk hP hT hTup hMid hk=>?_
    refine ⟨.ref T,rfl,W.go elts kk pos i T _ _ E hMid fun h'' hSt hk2=>?_⟩
    obtain ⟨t,y,hy,rfl⟩:=hP
    have hy':y=u:=by
      have h3:its[i]?=some y:=by simpa using hy
      rw [hu] at h3;exact (Option.some.inj h3).symm
    subst hy'
    have hTT:h''.IsTuple T #[.int i t,y]:=let ⟨o,ho,r⟩:=hTup;⟨o,hk2 T o (W.apart i T _ hMid) ho,r⟩
    refine ⟨.ref T,upd H T (.tup [.int i,x]),inv_turnedLaid (s:=s) (h':=h'') (tk:=tk) (ch:=[e,it]) I hf (fun b o hb q=>hk2 b o (by simpa using hb) (hk b o (by simpa using hb) q)) hT ⟨by show 2≤sizeLine;decide,[.int i t,y],.cons ⟨t,rfl⟩ (.cons ru .nil),hTT⟩,rfl,⟨T,x,fun ys hy=>by rw [← I.tuple_inj hq hy];exact hx,I.hok.fresh hT,rfl,rfl⟩,⟨by simpa using hSt.1,hSt.2.1⟩,fun b hb=>?_⟩
    have hn:=(hf b hb).1
    rw [upd_ne (Nat.ne_of_lt (Nat.lt_of_lt_of_le ?_ hT))]
    · exact hn
    · have:b=e∨b=it:=by simpa using hb
      rcases this with rfl | rfl
      · exact Heap.lt_size he
      · exact Heap.lt_size hoi
  done:=by
    intro X hP hw hK hc i pins s σ H E I hf st hg
    subst hP hw hK
    obtain ⟨⟨old,he⟩,hit⟩:=st
    obtain ⟨xs,hq,hx⟩:=hg
    obtain ⟨its,rv,p,hz⟩:=I.tuple hq
    have p':s.heap.IsTuple a its.toArray:=p
    obtain ⟨oi,hoi,hci,hdi⟩:=id hit
    obtain ⟨oa,hoa,hca,na,hda⟩:=id p'
    have n1:a≠it:=fun z=>by subst z;rw [hoa] at hoi;cases hoi;rw [hca] at hci;exact absurd (Value.type.inj hci) (by decide)
    have n2:e≠it:=fun z=>by subst z;rw [he] at hoi;cases hoi;exact absurd (Value.type.inj hci) (by decide)
    have n3:e≠a:=fun z=>by subst z;rw [he] at hoa;cases hoa;exact absurd (Value.type.inj hca) (by decide)
    have W:=WalksT.enumerateD (prog:=X.prog) (w:=X.w) (A:=X.A) (draws_tuple (A:=X.A.in1) (show X.A.in1.handled=none from I.ok.hd hc) it a n1 its.toArray) e n2 (by simp [n2,n3]) (by simp)
    have hi:i=its.toArray.size:=by rw [List.size_toArray,← rv.length];exact hx.symm
    subst hi
    refine W.done s _ E ⟨⟨old,he⟩,hit,p'⟩ fun h' tk hk=>⟨rfl,?_⟩
    have:=I.call' (ch:=[e,it]) (H':=H) (s':={ s with heap:=h',toks:=tk }) rfl ⟨fun b u q n hb hx=>hk b u (by simpa using hx) q,fun b u q n hb hx=>⟨u.slots,hk b u (by simpa using hx) q⟩,fun b u q n hx=>n,fun b u q hx=>⟨u,hk b u (by simpa using hx) q⟩,fun b xs q=>q,fun b u xs q=>q,fun b ps q=>⟨#[],by rw [q];simp⟩⟩
      (fun a u e'=>?_) I.bare fun b hb=>⟨(hf b hb).2.2.2.1,(hf b hb).2.1,(hf b hb).2.2.2.2.1,(hf b hb).2.2.2.2.2⟩
    · exact this
    · refine (I.hok a u e').stay (fun b z hb q=>hk b z (fun hc=>?_) q) (fun _ q=>q) fun _ _ q=>q
      have hnone:=(hf b (by simpa using hc)).1
      rcases hb with rfl | hb
      · rw [hnone] at e';cases e'
      · rw [hnone] at hb;cases hb
  self:=fun _ _ _ _ _ st h=>let ⟨⟨old,he⟩,_⟩:=st;wpAny_pyIter_enum he h
theorem call_enum_tuple {prog:Program} {w:World} {A:Around} {E:Value→Shared→Prop} {s:Shared} {l:Addr} {items:Array Value} {Q:Value→Shared→Prop}
    (hl:s.heap.IsTuple l items)
    (h:∀ h',IsEnum h' (s.heap.objs.size + 1) s.heap.objs.size 0 .none→h'.IsTupleIter s.heap.objs.size l 0→h'.objs.size=s.heap.objs.size + 2 →
      (∀ b o,s.heap.get? b=some o→h'.get? b=some o)→Q (.ref (s.heap.objs.size + 1)) { s with heap:=h' }) :
    wpAny (model prog w) A (call (.type "enumerate") [.ref l]) Q E s:=by
  obtain ⟨⟨oc,od,odt,osl⟩,ho,hc,n,hd⟩:=hl
  have hc':oc=.type "tuple":=hc
  have hd':odt=.seq items n:=hd
  subst hc' hd'
  refine callType_new F.called_enumerate (by decide) (F.typeCall_enumerate_1 _) (F.newCall_enumerate_1 _) (fun obj=>F.args_object_init_2 obj _) F.entry_enumerate_new
    (meets_enum_tuple l items n od osl) ⟨ho,?_⟩
  have hz:(s.heap.push { cls:=.type "tuple_iterator",data:=.fields #[.ref l,.int 0 0] }).objs.size=s.heap.objs.size + 1:=Heap.size_push ..
  show _∧_
  rw [hz]
  have he:IsEnum ((s.heap.push { cls:=.type "tuple_iterator",data:=.fields #[.ref l,.int 0 0] }).push
      { cls:=.type "enumerate",data:=.fields #[.none,.bool false,.ref s.heap.objs.size,rawInt 0,.none,.none] }) (s.heap.objs.size + 1) s.heap.objs.size 0 .none:=by
    have:=Heap.get?_push_size (s.heap.push { cls:=.type "tuple_iterator",data:=.fields #[.ref l,.int 0 0] })
      (o:={ cls:=.type "enumerate",data:=.fields #[.none,.bool false,.ref s.heap.objs.size,rawInt 0,.none,.none] }) rfl
    rw [hz] at this;exact this
  refine ⟨⟨_,he,rfl⟩,h _ he ⟨_,Heap.get?_push_of_some _ (Heap.get?_push_size _ rfl),rfl,rfl⟩ (by rw [Heap.size_push,hz]) fun b o x=>Heap.get?_push_of_some _ (Heap.get?_push_of_some _ x)⟩
def iEnum (K:PySem.W.Frag) (ta:TA):TI:=fun σ H R=>ta σ H fun vs H1=>∃ a,vs=[.ref a]∧(∃ xs,SqT K H1 a xs)∧R (Ite K a) H1
theorem pi_enum {X:Cx} {elts:List Expr} {kk:Nat} {tpos:Pos} {a:Expr} {ta:TA} {p pos:Pos} (hg:Gl X "enumerate") (hm:X.mg "enumerate"=none) (ha:PA X [a] ta) (hs:starEach [a] X.env=[(false,eval a X.env)]) :
    PI X (.Tuple elts kk tpos) (.Call (.Name "enumerate" p) [a] [] pos) (iEnum X.K ta):=by
  intro pins s σ H R I h
  refine Call_ (ld_blt I hg hm boot_enumerate (PyProof.Rows.callWith_type1 (thn (ha pos pins s σ H _ I h) fun us s1 ⟨vs,H1,I1,r1,q1⟩=>?_) hs rfl))
  obtain ⟨a,e,⟨xs,hq⟩,q⟩:=q1
  subst e
  cases r1 with
  | cons r rr =>
    cases rr
    cases r
    obtain ⟨its,rv,p,hz⟩:=I1.tuple hq
    refine call_enum_tuple (show s1.heap.IsTuple a its.toArray from p) fun h' he hit hsz hk=>?_
    refine wpAny_pyIter_enum (s:={ s1 with heap:=h' }) he ?_
    have I2:L2.Inv X pins σ H1 { s1 with heap:=h',toks:=s1.toks }:=I1.kept hk
    refine ⟨s1.heap.objs.size + 1,[s1.heap.objs.size + 1,s1.heap.objs.size],_,_,H1,rfl,I2,turn_enum a s1.heap.objs.size (s1.heap.objs.size + 1),⟨⟨_,he⟩,hit⟩,fun b hb=>?_,q⟩
    have e:b=s1.heap.objs.size + 1∨b=s1.heap.objs.size:=by simpa using hb
    rcases e with rfl | rfl
    · exact I1.fpOk (Nat.le_succ _) (I1.hok.fresh (Nat.le_succ _))
    · exact I1.fpOk (Nat.le_refl _) (I1.hok.fresh (Nat.le_refl _))
def numbered (us:List U):List U:=us.zipIdx.map fun p=>.tup [.int (p.2:Nat),p.1]
theorem numbered_len (us:List U):(numbered us).length=us.length:=by simp [numbered]
theorem numbered_get {us:List U} {i:Nat} {x:U} (h:(numbered us)[i]?=some x):∃ u,us[i]?=some u∧x=.tup [.int i,u]:=by
  simp only [numbered,List.getElem?_map,List.getElem?_zipIdx] at h
  cases e:us[i]? with
  | none=>rw [e] at h;simp at h
  | some u=>rw [e] at h;simp at h;exact ⟨u,rfl,h.symm⟩
theorem walk_enum {K:PySem.W.Frag} {a:Addr} {us:List U} {vs:List V} {H:Hp} {M:MHp} (m:M a=none∧H a=some (.tup vs)) (r:RelUs K H M us vs):Walk K (Ite K a) ⟨none,numbered us⟩ H M:=by
  have sq:∀ H1 M1,Stp H M H1 M1→SqT K H1 a vs:=fun H1 M1 s=>by
    exact .inl (.inl (s.to m.2 m.1).1)
  refine ⟨fun H1 M1 s rm _ i u e=>?_,fun H1 M1 s rm _=>⟨vs,sq H1 M1 s,by show vs.length=(numbered us).length;rw [numbered_len,r.length]⟩⟩
  obtain ⟨w,e1,rfl⟩:=numbered_get e
  obtain ⟨v,e2,ru⟩:=r.get e1
  refine ⟨⟨vs,v,sq H1 M1 s,e2⟩,fun x H2 y=>?_⟩
  obtain ⟨p,v',y,hp,rfl,rfl⟩:=y
  have:=y vs (sq _ M1 s)
  rw [e2] at this;cases this
  have st:=Stp.laid (o:=.tup [.int i,v]) rm hp
  have rr:RelUs K H1 M1 [.int i,w] [.int i,v]:=by
    simp only [RelUs]
    exact ⟨_,_,rfl,relU_int,_,_,rfl,ru.stp s,rfl⟩
  exact ⟨st,rm.laid hp,relU_tup (rm.no hp) upd_same (rr.stp st)⟩
def uEnum (ta:UA):UI:=fun τ M R=>ta τ M fun us M1=>match us with
  | [.tup us]=>R ⟨none,numbered us⟩ M1
  | _=>False
theorem sim_enum {K:PySem.W.Frag} {ta:TA} {ta':UA} (h:SimA K ta ta'):SimI K (iEnum K ta) (uEnum ta'):=fun σ τ H M R' rs rm q R c=>h σ τ H M _ rs rm q _ fun us vs M1 H1 s1 rm1 ru h1=>by
  split at h1
  · rename_i xs
    obtain ⟨v,rfl,a⟩:=ru.one
    simp only [RelU] at a
    obtain ⟨a,vs,rfl,m,r⟩:=a
    refine ⟨a,rfl,⟨vs,?_⟩,c _ _ M1 H1 s1 rm1 (walk_enum m r) h1⟩
    exact .inl (.inl m.2)
  · exact h1.elim
theorem ui_enumerate {D:Dat} {elts:List Expr} {kk:Nat} {tpos:Pos} {a:Expr} {p pos:Pos} {ta:UA} (hm:D.mg "enumerate"=none) (ha:PAU D [a] ta) (hg:D.sc.names.lookup ("enumerate":Str)=some .globalImplicit:=by rfl) (hs:∀ env,starEach [a] env=[(false,eval a env)]:=by intro _;rfl):PIU D (.Tuple elts kk tpos) (.Call (.Name "enumerate" p) [a] [] pos) (uEnum ta):=by
  obtain ⟨_,q,s⟩:=ha
  exact ⟨_,fun X h=>h.K ▸ pi_enum (by show X.env.scope.names.lookup _=_;rw [h.sc];exact hg) (by rw [h.mg];exact hm) (q X h) (hs _),sim_enum s⟩
end U2
namespace U2
open PySem PySem.Spec PyProof.Rows L2
mutual
def DatV (K:PySem.W.Frag) (H:Hp):PyData→V→Prop
  | .none,v=>v=.non
  | .bool b,v=>v=.bl b
  | .int i,v=>v=.int i
  | .str z,v=>v=.str z
  | .list ds,v=>∃ a xs,v=.ref a∧SqL K H a xs∧DatVs K H ds xs
  | .tuple ds,v=>∃ a xs,v=.ref a∧SqT K H a xs∧DatVs K H ds xs
  | .dict _,_=>False
def DatVs (K:PySem.W.Frag) (H:Hp):List PyData→List V→Prop
  | [],vs=>vs=[]
  | d :: ds,vs=>∃ v vs',vs=v :: vs'∧DatV K H d v∧DatVs K H ds vs'
end
mutual
theorem DatV.reads {X:Cx} {pins:List (Addr × Obj)} {σ:L2.St} {H:Hp} {s:Shared} (I:L2.Inv X pins σ H s):∀ {d:PyData} {v:V} {u:Value},DatV X.K H d v→RelV v u→∃ as,Reads s.heap u d as
  | .none,v,u,h,r=>by simp only [DatV] at h;subst h;cases r;exact ⟨_,.none⟩
  | .bool b,v,u,h,r=>by simp only [DatV] at h;subst h;cases r;exact ⟨_,.bool b⟩
  | .int i,v,u,h,r=>by simp only [DatV] at h;subst h;obtain ⟨t,rfl⟩:=r;exact ⟨_,.int i t⟩
  | .str z,v,u,h,r=>by simp only [DatV] at h;subst h;obtain ⟨t,rfl⟩:=r;exact ⟨_,.str z t⟩
  | .list ds,v,u,h,r=>by
    simp only [DatV] at h
    obtain ⟨a,xs,rfl,q,hs⟩:=h
    cases r
    obtain ⟨its,rv,p,hz⟩:=I.list q
    obtain ⟨as,ra⟩:=DatVs.reads I hs rv
    obtain ⟨o,h1,h2,n,h3⟩:=p.isList
    exact ⟨_,.list h1 h2 h3 (by simpa using ra)⟩
  | .tuple ds,v,u,h,r=>by
    simp only [DatV] at h
    obtain ⟨a,xs,rfl,q,hs⟩:=h
    cases r
    obtain ⟨its,rv,p,hz⟩:=I.tuple q
    obtain ⟨as,ra⟩:=DatVs.reads I hs rv
    obtain ⟨o,h1,h2,n,h3⟩:=(show s.heap.IsTuple a its.toArray from p)
    exact ⟨_,.tuple h1 h2 h3 (by simpa using ra)⟩
  | .dict _,v,u,h,r=>by simp only [DatV] at h
theorem DatVs.reads {X:Cx} {pins:List (Addr × Obj)} {σ:L2.St} {H:Hp} {s:Shared} (I:L2.Inv X pins σ H s):∀ {ds:List PyData} {vs:List V} {us:List Value},DatVs X.K H ds vs→Vals vs us→∃ as,ReadsAll s.heap us ds as
  | [],vs,us,h,r=>by simp only [DatVs] at h;subst h;cases r;exact ⟨_,.nil⟩
  | d :: ds,vs,us,h,r=>by
    simp only [DatVs] at h
    obtain ⟨v,vs',rfl,h1,h2⟩:=h
    cases r with
    | cons r rr =>
      obtain ⟨as,ra⟩:=DatV.reads I h1 r
      obtain ⟨bs,rb⟩:=DatVs.reads I h2 rr
      exact ⟨_,.cons ra rb⟩
end
def rEqD (K:PySem.W.Frag) (neg:Bool):R2:=fun x y H Q=>∃ d d',DatV K H d x∧DatV K H d' y∧d.canLay0=true∧d'.canLay0=true∧min d.depth d'.depth≤64∧Q (.bl (if neg then !PyData.eqv d d' else PyData.eqv d d')) H
theorem op_eqD {X:Cx} {k:Nat} (hr:Room k X.A):OpR X (compareOp .Eq) (rEqD X.K false):=by
  intro pins s σ H x y v u Q I rx ry h
  obtain ⟨d,d',h1,h2,c1,c2,hd,q⟩:=h
  obtain ⟨as,ra⟩:=h1.reads I rx
  obtain ⟨bs,rb⟩:=h2.reads I ry
  exact SeqAt.compareEq_reads ra rb c1 c2 (by have:=hr.units;omega) ⟨.bl _,H,I,rfl,q⟩
theorem op_neD {X:Cx} {k:Nat} (hr:Room k X.A):OpR X (compareOp .NotEq) (rEqD X.K true):=by
  intro pins s σ H x y v u Q I rx ry h
  obtain ⟨d,d',h1,h2,c1,c2,hd,q⟩:=h
  obtain ⟨as,ra⟩:=h1.reads I rx
  obtain ⟨bs,rb⟩:=h2.reads I ry
  exact SeqAt.compareNe_reads ra rb c1 c2 (by have:=hr.units;omega) ⟨.bl _,H,I,rfl,q⟩
mutual
def toD:U→Option PyData
  | .non=>some .none
  | .bl b=>some (.bool b)
  | .int i=>some (.int i)
  | .str z=>some (.str z)
  | .tup us=>(toDs us).map .tuple
  | .lst us=>(toDs us).map .list
  | .ty _=>none
  | .ref _=>none
  | .dic _ _ _=>none
def toDs:List U→Option (List PyData)
  | []=>some []
  | u :: us=>match toD u,toDs us with
    | some d,some ds=>some (d :: ds)
    | _,_=>none
end
def topD (M:MHp) (u:U):Option PyData:=match u with
  | .ref a=>match M a with
    | some (.lst us)=>(toDs us).map .list
    | _=>none
  | u=>toD u
mutual
theorem toD_rel {K:PySem.W.Frag} {H:Hp} {M:MHp}:∀ {u:U} {v:V} {d:PyData},RelU K H M u v→toD u=some d→DatV K H d v
  | .non,v,d,r,e=>by simp only [toD,Option.some.injEq] at e;subst e;simp only [DatV];exact r.non
  | .bl b,v,d,r,e=>by simp only [toD,Option.some.injEq] at e;subst e;simp only [DatV];exact r.bl
  | .int i,v,d,r,e=>by simp only [toD,Option.some.injEq] at e;subst e;simp only [DatV];exact r.int
  | .str i,v,d,r,e=>by simp only [toD,Option.some.injEq] at e;subst e;simp only [DatV];exact r.str
  | .tup us,v,d,r,e=>by
    simp only [toD] at e
    cases e2:toDs us with
    | none=>rw [e2] at e;simp at e
    | some ds =>
      rw [e2] at e;simp at e;subst e
      obtain ⟨a,vs,rfl,q,rs⟩:=r.tup
      simp only [DatV]
      exact ⟨a,vs,rfl,q,toDs_rel rs e2⟩
  | .lst us,v,d,r,e=>by
    simp only [toD] at e
    cases e2:toDs us with
    | none=>rw [e2] at e;simp at e
    | some ds =>
      rw [e2] at e;simp at e;subst e
      obtain ⟨a,vs,rfl,q,rs⟩:=r.lst
      simp only [DatV]
      exact ⟨a,vs,rfl,q,toDs_rel rs e2⟩
  | .ty _,v,d,r,e=>by simp [toD] at e
  | .ref _,v,d,r,e=>by simp [toD] at e
  | .dic _ _ _,v,d,r,e=>by simp [toD] at e
theorem toDs_rel {K:PySem.W.Frag} {H:Hp} {M:MHp}:∀ {us:List U} {vs:List V} {ds:List PyData},RelUs K H M us vs→toDs us=some ds→DatVs K H ds vs
  | [],vs,ds,r,e=>by simp only [toDs,Option.some.injEq] at e;subst e;simp only [DatVs];exact r.inv_nil
  | u :: us,vs,ds,r,e=>by
    obtain ⟨v,vs',rfl,a,b⟩:=r.inv_cons
    simp only [toDs] at e
    cases e1:toD u with
    | none=>rw [e1] at e;simp at e
    | some d =>
      cases e2:toDs us with
      | none=>rw [e1,e2] at e;simp at e
      | some ds' =>
        rw [e1,e2] at e;simp at e;subst e
        simp only [DatVs]
        exact ⟨v,vs',rfl,toD_rel a e1,toDs_rel b e2⟩
end
theorem topD_rel {K:PySem.W.Frag} {H:Hp} {M:MHp} {u:U} {v:V} {d:PyData} (rm:RelM K H M) (r:RelU K H M u v) (e:topD M u=some d):DatV K H d v:=by
  cases u with
  | ref a =>
    simp only [topD] at e
    split at e
    · rename_i us hM
      cases e2:toDs us with
      | none=>rw [e2] at e;simp at e
      | some ds =>
        rw [e2] at e;simp at e;subst e
        obtain ⟨vs,h1,rs⟩:=rm a _ hM
        cases r.ref
        simp only [DatV]
        exact ⟨a,vs,rfl,.inl (.inl h1),toDs_rel rs e2⟩
    · cases e
  | _=>exact toD_rel r (by simpa only [topD] using e)
def uEqD (neg:Bool):UR2:=fun x y M Q=>∃ d d',topD M x=some d∧topD M y=some d'∧d.canLay0=true∧d'.canLay0=true∧min d.depth d'.depth≤64∧Q (.bl (if neg then !PyData.eqv d d' else PyData.eqv d d')) M
theorem sim_eqD {K:PySem.W.Frag} {neg:Bool}:SimR2 K (rEqD K neg) (uEqD neg):=fun x y u w H M Q' rm ru rw h Q c=>by
  obtain ⟨d,d',e1,e2,c1,c2,hd,q⟩:=h
  exact ⟨d,d',topD_rel rm ru e1,topD_rel rm rw e2,c1,c2,hd,c.here rm relU_bl q⟩
variable {D:Dat}
def flatU:U→Bool
  | .non=>true
  | .bl _=>true
  | .int _=>true
  | .str _=>true
  | _=>false
def eqF:U→U→Bool
  | .non,.non=>true
  | .bl a,.bl b=>a == b
  | .bl a,.int j=>(if a then 1 else 0) == j
  | .int i,.bl b=>i == (if b then 1 else 0)
  | .int i,.int j=>i == j
  | .str x,.str y=>x == y
  | _,_=>false
def items (M:MHp):U→Option (List U)
  | .tup us=>some us
  | .lst us=>some us
  | .ref a=>match M a with
    | some (.lst us)=>some us
    | _=>none
  | _=>none
def uIn (neg:Bool):UR2:=fun x y M Q=>match items M y with
  | some us=>flatU x=true∧us.all flatU=true∧Q (.bl (if neg then !us.any (fun u=>eqF u x) else us.any (fun u=>eqF u x))) M
  | none=>False
theorem flat_rel {K:PySem.W.Frag} {H:Hp} {M:MHp} {u:U} {v:V} (r:RelU K H M u v) (f:flatU u=true):flatV v=true:=by
  cases u with
  | non=>cases r.non;rfl
  | bl b=>cases r.bl;rfl
  | int b=>cases r.int;rfl
  | str b=>cases r.str;rfl
  | _=>exact absurd (show false=true from f) Bool.false_ne_true
theorem eqF_rel {K:PySem.W.Frag} {H:Hp} {M:MHp} {u w:U} {v x:V} (r:RelU K H M u v) (r':RelU K H M w x) (f:flatU u=true) (f':flatU w=true):eqV v x=eqF u w:=by
  cases u <;> (first | (cases r.non) | (cases r.bl) | (cases r.int) | (cases r.str) | exact absurd (show false=true from f) Bool.false_ne_true) <;> cases w <;>
    (first | (cases r'.non) | (cases r'.bl) | (cases r'.int) | (cases r'.str) | exact absurd (show false=true from f') Bool.false_ne_true) <;> rfl
theorem flats_rel {K:PySem.W.Frag} {H:Hp} {M:MHp}:∀ {us:List U} {vs:List V},RelUs K H M us vs→us.all flatU=true→vs.all flatV=true
  | [],vs,r,_=>by cases r.inv_nil;rfl
  | u :: us,vs,r,f=>by
    obtain ⟨v,vs',rfl,a,b⟩:=r.inv_cons
    rw [List.all_cons,Bool.and_eq_true] at f ⊢
    exact ⟨flat_rel a f.1,flats_rel b f.2⟩
theorem inV_rel {K:PySem.W.Frag} {H:Hp} {M:MHp} {w:U} {x:V} (r':RelU K H M w x) (f':flatU w=true):∀ {us:List U} {vs:List V},RelUs K H M us vs→us.all flatU=true→inV x vs=us.any fun u=>eqF u w
  | [],vs,r,_=>by cases r.inv_nil;rfl
  | u :: us,vs,r,f=>by
    obtain ⟨v,vs',rfl,a,b⟩:=r.inv_cons
    rw [List.all_cons,Bool.and_eq_true] at f
    have:=inV_rel r' f' b f.2
    unfold inV at this ⊢
    rw [List.any_cons,List.any_cons,this,eqF_rel a r' f.1 f']
theorem items_rel {K:PySem.W.Frag} {H:Hp} {M:MHp} {u:U} {v:V} {us:List U} (rm:RelM K H M) (r:RelU K H M u v) (e:items M u=some us):∃ p xs,v=.ref p∧(SqL K H p xs∨SqT K H p xs)∧RelUs K H M us xs:=by
  cases u with
  | tup us'=>cases e;obtain ⟨a,vs,rfl,q,rs⟩:=r.tup;exact ⟨a,vs,rfl,.inr q,rs⟩
  | lst us'=>cases e;obtain ⟨a,vs,rfl,q,rs⟩:=r.lst;exact ⟨a,vs,rfl,.inl q,rs⟩
  | ref a =>
    simp only [items] at e
    split at e
    · rename_i us' hM
      cases e
      obtain ⟨vs,h1,rs⟩:=rm a _ hM
      exact ⟨a,vs,r.ref,.inl (.inl (.inl h1)),rs⟩
    · cases e
  | _=>cases e
theorem sim_in {K:PySem.W.Frag} {neg:Bool}:SimR2 K (rIn K neg) (uIn neg):=fun x y u w H M Q' rm ru rw h Q c=>by
  unfold uIn at h
  split at h
  · rename_i us e
    obtain ⟨f,fs,q⟩:=h
    obtain ⟨p,xs,rfl,hs,rs⟩:=items_rel rm rw e
    refine ⟨p,xs,rfl,hs,flat_rel ru f,flats_rel rs fs,?_⟩
    rw [inV_rel ru f rs fs]
    exact c.here rm relU_bl q
  · exact h.elim
theorem k_in:Cmp D .In (uIn false):=⟨⟨_,fun X h=>h.K ▸ op_in_seq,sim_in⟩⟩
theorem k_notIn:Cmp D .NotIn (uIn true):=⟨⟨_,fun X h=>h.K ▸ op_notIn_seq,sim_in⟩⟩
def uEqX (neg:Bool):UR2:=fun x y M Q=>match eqS x y with
  | some b=>Q (.bl (if neg then !b else b)) M
  | none=>uEqD neg x y M Q
theorem k_eqX:Cmp D .Eq (uEqX false):=⟨⟨_,fun X h=>h.K ▸ op_eq.or (op_eqD h.room),fun x y u w H M Q' rm ru rw h Q c=>by
  unfold uEqX at h
  split at h
  · rename_i b e
    obtain ⟨h1,h2⟩:=eqS_rel ru rw e
    exact .inl ⟨h1,c.here rm (by rw [h2];exact relU_bl) h⟩
  · exact .inr (sim_eqD x y u w H M Q' rm ru rw h Q c)⟩⟩
theorem k_neX:Cmp D .NotEq (uEqX true):=⟨⟨_,fun X h=>h.K ▸ op_ne.or (op_neD h.room),fun x y u w H M Q' rm ru rw h Q c=>by
  unfold uEqX at h
  split at h
  · rename_i b e
    obtain ⟨h1,h2⟩:=eqS_rel ru rw e
    exact .inl ⟨h1,c.here rm (by rw [h2];exact relU_bl) h⟩
  · exact .inr (sim_eqD x y u w H M Q' rm ru rw h Q c)⟩⟩
end U2
namespace U2
open PySem PySem.Spec PyProof.Rows L2
structure Zp (z TI TO i1 i2:Addr) (f1 f2:List Addr):Prop where
  TIz:TI≠z
  TOz:TO≠z
  i1z:i1≠z
  i2z:i2≠z
  TITO:TI≠TO
  TIi1:TI≠i1
  TIi2:TI≠i2
  TOi1:TO≠i1
  TOi2:TO≠i2
  i12:i1≠i2
  zf1:z ∉ f1
  zf2:z ∉ f2
  Tf1:TO ∉ f1
  Tf2:TO ∉ f2
  if2:i1 ∉ f2
  if1:i2 ∉ f1
theorem Draws.same {prog:Program} {w:World} {A:Around} {it:Addr} {fp:List Addr} {n:Nat} {P:Nat→Value→Prop} {St:Nat→Heap→Prop} (D:Draws prog w A it fp n P St) {i:Nat} {h h':Heap} {c:Addr} (st:St i h) (sb:Heap.ExtBut c h h') (hc:c ∉ fp):St i h' :=
  D.frame _ _ _ st fun b hb o e=>sb b o (fun q=>hc (q ▸ hb)) e
section
variable {prog:Program} {w:World} {A:Around} {E:Value→Shared→Prop} {s:Shared} {z TI TO i1 i2:Addr} {f1 f2:List Addr} {n1 n2:Nat} {P1 P2:Nat→Value→Prop} {S1 S2:Nat→Heap→Prop} {i:Nat} {a b:Value}
theorem zip_item (Z:Zp z TI TO i1 i2 f1 f2) (D1:Draws prog w A i1 f1 n1 P1 S1) (D2:Draws prog w A i2 f2 n2 P2 S2) {Q:Value→Shared→Prop}
    (hz:IsZip s.heap z TI TO .none) (hTI:IsPair s.heap TI (.ref i1) (.ref i2)) (hTO:IsPair s.heap TO a b) (h1:S1 i s.heap) (h2:S2 i s.heap) (l1:i < n1) (l2:i < n2)
    (hQ:∀ x y h' tk,P1 i x→P2 i y→IsZip h' z TI TO (rawInt s.heap.objs.size)→IsPair h' TO x y→S1 (i + 1) h'→S2 (i + 1) h'→IsPair h' s.heap.objs.size x y →
      (∀ c o,c≠z→c≠TO→c≠i1→c≠i2→s.heap.get? c=some o→h'.get? c=some o)→Q (.ref s.heap.objs.size) { s with heap:=h',toks:=tk }) :
    wpAny (model prog w) A (Builtin.«zip.__next__» ⟨[.ref z],[]⟩) (fun fin s'=>∃ v,fin=.done (.ret v)∧Q v s') E s:=by
  show wpAny _ _ (field (.ref z) 2 >>= _) _ _ _
  refine wpAny_bind (wpAny_field hz rfl (x:=.bool false) rfl ?_)
  show wpAny _ _ (field (.ref z) 3 >>= _) _ _ _
  refine wpAny_bind (wpAny_field hz rfl (x:=.ref TI) rfl ?_)
  refine wpAny_bind (wpAny_seqItems hTI rfl ?_)
  show wpAny _ _ (Builtin.SmallTypes.ownedTupleIsFree (.ref z) >>= _) _ _ _
  refine wpAny_bind ?_
  unfold Builtin.SmallTypes.ownedTupleIsFree
  refine wpAny_bind (wpAny_field hz rfl (x:=.none) rfl (wpAny_pure ?_))
  simp only [if_true]
  refine wpAny_bind (wpAny_rule ?_)
  refine wpAny_bind (wpAny_field hz rfl (x:=.ref TO) rfl ?_)
  refine wpAny_bind (wpAny_setField_rec hz (by simp) fun g1 hz1 hs1=>?_)
  replace hz1:IsZip g1 z TI TO .ellipsis:=hz1
  refine wpAny_bind ?_
  simp only [List.zipIdx_cons,List.zipIdx_nil,List.forIn_cons,List.forIn_nil]
  refine wpAny_bind (wpAny_bind (wpAny_onRaise ?_))
  show wpAny _ _ (Builtin.SmallTypes.nextOf (.ref i1) >>= _) _ _ _
  refine wpAny_bind (D1.item i _ _ _ l1 (Draws.same D1 h1 hs1.extBut Z.zf1) fun x g2 tk2 px st2 hs2=>wpAny_pure ?_)
  have hTO2:IsPair g2 TO a b:=hs2.extBut _ _ Z.TOi1 (hs1.extBut _ _ Z.TOz hTO)
  refine wpAny_bind (wpAny_seqItems hTO2 rfl ?_)
  refine wpAny_bind (wpAny_updateSeq_pair hTO2 fun g3 hTO3 hs3=>?_)
  replace hTO3:IsPair g3 TO x b:=hTO3
  refine wpAny_bind (wpAny_letGo (wpAny_pure ?_))
  refine wpAny_bind (wpAny_bind (wpAny_onRaise ?_))
  show wpAny _ _ (Builtin.SmallTypes.nextOf (.ref i2) >>= _) _ _ _
  refine wpAny_bind (D2.item i _ _ _ l2 (Draws.same D2 (Draws.same D2 (Draws.same D2 h2 hs1.extBut Z.zf2) hs2.extBut Z.if2) hs3.extBut Z.Tf2) fun y g4 tk4 py st4 hs4=>wpAny_pure ?_)
  have hTO4:IsPair g4 TO x b:=hs4.extBut _ _ Z.TOi2 hTO3
  refine wpAny_bind (wpAny_seqItems hTO4 rfl ?_)
  refine wpAny_bind (wpAny_updateSeq_pair hTO4 fun g5 hTO5 hs5=>?_)
  replace hTO5:IsPair g5 TO x y:=hTO5
  refine wpAny_bind (wpAny_letGo (wpAny_pure (wpAny_pure ?_)))
  refine wpAny_bind (wpAny_seqItems hTO5 rfl ?_)
  refine wpAny_bind (wpAny_newTuple ?_)
  have hsz:g5.objs.size=s.heap.objs.size:=by rw [hs5.1,hs4.1,hs3.1,hs2.1,hs1.1]
  have hz5:IsZip g5 z TI TO .ellipsis:=hs5.extBut _ _ Z.TOz.symm (hs4.extBut _ _ Z.i2z.symm (hs3.extBut _ _ Z.TOz.symm (hs2.extBut _ _ Z.i1z.symm hz1)))
  have hk5:∀ c o,c≠z→c≠TO→c≠i1→c≠i2→s.heap.get? c=some o→g5.get? c=some o:=fun c o c1 c2 c3 c4 e =>
    hs5.extBut _ _ c2 (hs4.extBut _ _ c4 (hs3.extBut _ _ c2 (hs2.extBut _ _ c3 (hs1.extBut _ _ c1 e))))
  have h15:S1 (i + 1) g5:=Draws.same D1 (Draws.same D1 (Draws.same D1 st2 hs3.extBut Z.Tf1) hs4.extBut Z.if1) hs5.extBut Z.Tf1
  have h25:S2 (i + 1) g5:=Draws.same D2 st4 hs5.extBut Z.Tf2
  have hzlt:z < g5.objs.size:=Heap.lt_size hz5
  show wpAny _ _ (Builtin.SmallTypes.ownedTupleHandOut (.ref z) (.ref g5.objs.size) >>= _) _ _ _
  refine wpAny_bind ?_
  unfold Builtin.SmallTypes.ownedTupleHandOut
  have hz6:IsZip (g5.push { cls:=.type "tuple",data:=.seq #[x,y] }) z TI TO .ellipsis:=Heap.get?_push_of_some _ hz5
  refine wpAny_bind (wpAny_setField_rec hz6 (by simp) fun g7 hz7 hs7=>?_)
  replace hz7:IsZip g7 z TI TO (rawInt g5.objs.size):=hz7
  refine wpAny_setField_rec hz7 (by simp) fun g8 hz8 hs8=>?_
  replace hz8:IsZip g8 z TI TO (rawInt g5.objs.size):=hz8
  have up:∀ c o,c≠z→g5.get? c=some o→g8.get? c=some o:=fun c o c1 e=>hs8.extBut _ _ c1 (hs7.extBut _ _ c1 (Heap.get?_push_of_some _ e))
  have hT8:IsPair g8 g5.objs.size x y:=hs8.extBut _ _ (Nat.ne_of_gt hzlt) (hs7.extBut _ _ (Nat.ne_of_gt hzlt) (Heap.get?_push_size _ rfl))
  rw [hsz] at hz8 hT8
  refine wpAny_pure ⟨_,rfl,?_⟩
  show Q (.ref g5.objs.size) _
  rw [hsz]
  exact hQ x y g8 _ px py hz8 (up _ _ Z.TOz hTO5) (D1.frame _ _ _ h15 fun b hb o e=>up b o (fun q=>Z.zf1 (q ▸ hb)) e) (D2.frame _ _ _ h25 fun b hb o e=>up b o (fun q=>Z.zf2 (q ▸ hb)) e) hT8 fun c o c1 c2 c3 c4 e=>up c o c1 (hk5 c o c1 c2 c3 c4 e)
theorem zip_end (Z:Zp z TI TO i1 i2 f1 f2) (D1:Draws prog w A i1 f1 n1 P1 S1) (D2:Draws prog w A i2 f2 n2 P2 S2) {Q:Fin→Shared→Prop}
    (hz:IsZip s.heap z TI TO .none) (hTI:IsPair s.heap TI (.ref i1) (.ref i2)) (hTO:IsPair s.heap TO a b) (h1:S1 i s.heap) (h2:S2 i s.heap) (l1:i≤n1) (hi:i=min n1 n2)
    (hE:∀ h' e tk,(∀ c o,c≠z→c≠TO→c≠i1→c≠i2→s.heap.get? c=some o→h'.get? c=some o)→(∃ o,h'.get? e=some o∧o.cls=.type "StopIteration")→E (.ref e) { s with heap:=h',toks:=tk }) :
    wpAny (model prog w) A (Builtin.«zip.__next__» ⟨[.ref z],[]⟩) Q E s:=by
  show wpAny _ _ (field (.ref z) 2 >>= _) _ _ _
  refine wpAny_bind (wpAny_field hz rfl (x:=.bool false) rfl ?_)
  show wpAny _ _ (field (.ref z) 3 >>= _) _ _ _
  refine wpAny_bind (wpAny_field hz rfl (x:=.ref TI) rfl ?_)
  refine wpAny_bind (wpAny_seqItems hTI rfl ?_)
  show wpAny _ _ (Builtin.SmallTypes.ownedTupleIsFree (.ref z) >>= _) _ _ _
  refine wpAny_bind ?_
  unfold Builtin.SmallTypes.ownedTupleIsFree
  refine wpAny_bind (wpAny_field hz rfl (x:=.none) rfl (wpAny_pure ?_))
  simp only [if_true]
  refine wpAny_bind (wpAny_rule ?_)
  refine wpAny_bind (wpAny_field hz rfl (x:=.ref TO) rfl ?_)
  refine wpAny_bind (wpAny_setField_rec hz (by simp) fun g1 hz1 hs1=>?_)
  replace hz1:IsZip g1 z TI TO .ellipsis:=hz1
  refine wpAny_bind ?_
  simp only [List.zipIdx_cons,List.zipIdx_nil,List.forIn_cons,List.forIn_nil]
  refine wpAny_bind (wpAny_bind (wpAny_onRaise ?_))
  show wpAny _ _ (Builtin.SmallTypes.nextOf (.ref i1) >>= _) _ _ _
  have hA:S1 i g1:=Draws.same D1 h1 hs1.extBut Z.zf1
  by_cases hlt:i < n1
  · have hn2:i=n2:=by omega
    refine wpAny_bind (D1.item i _ _ _ hlt hA fun x g2 tk2 px st2 hs2=>wpAny_pure ?_)
    have hTO2:IsPair g2 TO a b:=hs2.extBut _ _ Z.TOi1 (hs1.extBut _ _ Z.TOz hTO)
    refine wpAny_bind (wpAny_seqItems hTO2 rfl ?_)
    refine wpAny_bind (wpAny_updateSeq_pair hTO2 fun g3 hTO3 hs3=>?_)
    refine wpAny_bind (wpAny_letGo (wpAny_pure ?_))
    refine wpAny_bind (wpAny_bind (wpAny_onRaise ?_))
    show wpAny _ _ (Builtin.SmallTypes.nextOf (.ref i2) >>= _) _ _ _
    refine wpAny_bind (D2.done _ _ _ (hn2 ▸ Draws.same D2 (Draws.same D2 (Draws.same D2 h2 hs1.extBut Z.zf2) hs2.extBut Z.if2) hs3.extBut Z.Tf2) fun g4 e hs4 he=>?_)
    obtain ⟨oe,hoe,hce⟩:=he
    have hz4:IsZip g4 z TI TO .ellipsis:=hs4 _ _ Z.i2z.symm (hs3.extBut _ _ Z.TOz.symm (hs2.extBut _ _ Z.i1z.symm hz1))
    have hez:e≠z:=fun x=>by subst x;rw [hz4] at hoe;cases hoe;simp at hce
    exact wpAny_setField_rec hz4 (by simp) fun g5 _ hs5=>hE g5 e _ (fun c o c1 c2 c3 c4 x=>hs5.extBut _ _ c1 (hs4 _ _ c4 (hs3.extBut _ _ c2 (hs2.extBut _ _ c3 (hs1.extBut _ _ c1 x))))) ⟨oe,hs5.extBut _ _ hez hoe,hce⟩
  · have hn1:i=n1:=by omega
    refine wpAny_bind (D1.done _ _ _ (hn1 ▸ hA) fun g2 e hs2 he=>?_)
    obtain ⟨oe,hoe,hce⟩:=he
    have hz2:IsZip g2 z TI TO .ellipsis:=hs2 _ _ Z.i1z.symm hz1
    have hez:e≠z:=fun x=>by subst x;rw [hz2] at hoe;cases hoe;simp at hce
    exact wpAny_setField_rec hz2 (by simp) fun g3 _ hs3=>hE g3 e _ (fun c o c1 _ c3 _ x=>hs3.extBut _ _ c1 (hs2 _ _ c3 (hs1.extBut _ _ c1 x))) ⟨oe,hs3.extBut _ _ hez hoe,hce⟩
theorem next_zip_item (Z:Zp z TI TO i1 i2 f1 f2) (D1:Draws prog w A.in1 i1 f1 n1 P1 S1) (D2:Draws prog w A.in1 i2 f2 n2 P2 S2) {Q:Option Value→Shared→Prop}
    (hz:IsZip s.heap z TI TO .none) (hTI:IsPair s.heap TI (.ref i1) (.ref i2)) (hTO:IsPair s.heap TO a b) (h1:S1 i s.heap) (h2:S2 i s.heap) (l1:i < n1) (l2:i < n2)
    (hQ:∀ x y h' tk,P1 i x→P2 i y→IsZip h' z TI TO (rawInt s.heap.objs.size)→IsPair h' TO x y→S1 (i + 1) h'→S2 (i + 1) h'→IsPair h' s.heap.objs.size x y →
      (∀ c o,c≠z→c≠TO→c≠i1→c≠i2→s.heap.get? c=some o→h'.get? c=some o)→Q (some (.ref s.heap.objs.size)) { s with heap:=h',toks:=tk }) :
    wpAny (model prog w) A (pyNext (.ref z)) Q E s:=by
  have hT:s.TypeIs (.ref z) "zip":=⟨_,hz,rfl⟩
  unfold pyNext
  exact wpAny_bind (wpAny_attempt (wpAny_callSpecial?_slot (name:=Str.ofString "__next__") hT PySem.F.slot_zip_next
    (wpAny_call_entry PySem.F.slot_zip_next hT PySem.F.entry_zip_next
      (zip_item Z D1 D2 hz hTI hTO h1 h2 l1 l2 fun x y h' tk a1 a2 a3 a4 a5 a6 a7 a8=>wpAny_pure (hQ x y h' tk a1 a2 a3 a4 a5 a6 a7 a8)) (PySem.F.args_zip_next_1 _))))
theorem next_zip_end (Z:Zp z TI TO i1 i2 f1 f2) (D1:Draws prog w A.in1 i1 f1 n1 P1 S1) (D2:Draws prog w A.in1 i2 f2 n2 P2 S2) {Q:Option Value→Shared→Prop}
    (hz:IsZip s.heap z TI TO .none) (hTI:IsPair s.heap TI (.ref i1) (.ref i2)) (hTO:IsPair s.heap TO a b) (h1:S1 i s.heap) (h2:S2 i s.heap) (l1:i≤n1) (hi:i=min n1 n2)
    (hQ:∀ h' tk,(∀ c o,c≠z→c≠TO→c≠i1→c≠i2→s.heap.get? c=some o→h'.get? c=some o)→Q none { s with heap:=h',toks:=tk }):wpAny (model prog w) A (pyNext (.ref z)) Q E s:=by
  have hT:s.TypeIs (.ref z) "zip":=⟨_,hz,rfl⟩
  unfold pyNext
  refine wpAny_bind (wpAny_attempt (wpAny_callSpecial?_slot (name:=Str.ofString "__next__") hT PySem.F.slot_zip_next
    (wpAny_call_entry PySem.F.slot_zip_next hT PySem.F.entry_zip_next (zip_end Z D1 D2 hz hTI hTO h1 h2 l1 hi fun h' e tk hk he=>?_) (PySem.F.args_zip_next_1 _))))
  obtain ⟨o,ho,hc⟩:=he
  refine wpAny_bind (wpAny_isInstance (T:="StopIteration") (b:=true) ⟨o,ho,hc⟩ isSubtype_stop ?_)
  exact wpAny_pure (hQ _ _ hk)
end
def Itz (K:PySem.W.Frag) (a c:Addr):It :=
  ⟨fun i H=>∃ xs ys x y,SqT K H a xs∧SqT K H c ys∧xs[i]?=some x∧ys[i]?=some y,
   fun i H v H'=>∃ p x y,(∀ xs,SqT K H a xs→xs[i]?=some x)∧(∀ ys,SqT K H c ys→ys[i]?=some y)∧H p=none∧v=.ref p∧H'=upd H p (.tup [x,y]),
   fun i H=>∃ xs ys,SqT K H a xs∧SqT K H c ys∧i=min xs.length ys.length⟩
theorem zp_of {h:Heap} {z TI TO i1 i2 a c:Addr} {f0 u v:Value} {k1 k2:Nat} {xs ys:Array Value} (hz:IsZip h z TI TO f0) (q:TI≠TO∧i1≠i2∧TO≠a∧TO≠c) (hTI:IsPair h TI (.ref i1) (.ref i2)) (hTO:IsPair h TO u v)
    (h1:h.IsTupleIter i1 a k1) (h2:h.IsTupleIter i2 c k2) (ha:h.IsTuple a xs) (hc:h.IsTuple c ys):Zp z TI TO i1 i2 [i1,a] [i2,c]:=by
  obtain ⟨o1,e1,c1,_⟩:=h1
  obtain ⟨o2,e2,c2,_⟩:=h2
  obtain ⟨o3,e3,c3,_⟩:=ha
  obtain ⟨o4,e4,c4,_⟩:=hc
  have cl:∀ {b b':Addr} {o o':Obj} {n n':String},h.get? b=some o→h.get? b'=some o'→o.cls=.type n→o'.cls=.type n'→n≠n'→b≠b':=fun x y p q ne z=>by
    subst z;rw [x] at y;cases y;rw [p] at q;exact ne (Value.type.inj q)
  have tz:=fun {b o} (x:h.get? b=some o) (p:o.cls=.type "tuple")=>cl x hz p rfl (by decide)
  have iz:=fun {b o} (x:h.get? b=some o) (p:o.cls=.type "tuple_iterator")=>cl x hz p rfl (by decide)
  have ti:=fun {b o b' o'} (x:h.get? b=some o) (p:o.cls=.type "tuple") (y:h.get? b'=some o') (r:o'.cls=.type "tuple_iterator")=>cl x y p r (by decide)
  refine ⟨tz hTI rfl,tz hTO rfl,iz e1 c1,iz e2 c2,q.1,ti hTI rfl e1 c1,ti hTI rfl e2 c2,ti hTO rfl e1 c1,ti hTO rfl e2 c2,q.2.1,?_,?_,?_,?_,?_,?_⟩
  · simp only [List.mem_cons,List.not_mem_nil,or_false,not_or];exact ⟨(iz e1 c1).symm,(tz e3 c3).symm⟩
  · simp only [List.mem_cons,List.not_mem_nil,or_false,not_or];exact ⟨(iz e2 c2).symm,(tz e4 c4).symm⟩
  · simp only [List.mem_cons,List.not_mem_nil,or_false,not_or];exact ⟨ti hTO rfl e1 c1,q.2.2.1⟩
  · simp only [List.mem_cons,List.not_mem_nil,or_false,not_or];exact ⟨ti hTO rfl e2 c2,q.2.2.2⟩
  · simp only [List.mem_cons,List.not_mem_nil,or_false,not_or];exact ⟨q.2.1,(ti e4 c4 e1 c1).symm⟩
  · simp only [List.mem_cons,List.not_mem_nil,or_false,not_or];exact ⟨q.2.1.symm,(ti e3 c3 e2 c2).symm⟩
theorem turn_zip {P:Program} {w:World} {K:PySem.W.Frag} {elts:List Expr} {kk:Nat} {pos:Pos} (a c z TI TO i1 i2:Addr) (q:TI≠TO∧i1≠i2∧TO≠a∧TO≠c) :
    Turn P w K (.Tuple elts kk pos) (Itz K a c) [z,TI,TO,i1,i2] z (fun i h=>IsZip h z TI TO .none∧IsPair h TI (.ref i1) (.ref i2)∧(∃ u v,IsPair h TO u v)∧h.IsTupleIter i1 a i∧h.IsTupleIter i2 c i) where
  mem:=by simp
  obj:=fun i h st b hb=>by
    obtain ⟨hz,hTI,⟨u,v,hTO⟩,⟨o1,e1,c1,d1⟩,⟨o2,e2,c2,d2⟩⟩:=st
    have:b=z∨b=TI∨b=TO∨b=i1∨b=i2:=by simpa using hb
    rcases this with rfl | rfl | rfl | rfl | rfl
    · exact ⟨_,hz,fun v x=>by
        have x':Data.fields _=Data.cell v:=x
        cases x'⟩
    · exact ⟨_,hTI,fun v x=>by
        have x':Data.seq _ _=Data.cell v:=x
        cases x'⟩
    · exact ⟨_,hTO,fun v x=>by
        have x':Data.seq _ _=Data.cell v:=x
        cases x'⟩
    · exact ⟨_,e1,fun v x=>by rw [d1] at x;cases x⟩
    · exact ⟨_,e2,fun v x=>by rw [d2] at x;cases x⟩
  keep:=fun i h h' st k=>let ⟨hz,hTI,⟨u,v,hTO⟩,h1,h2⟩:=st
    ⟨k z (by simp) _ hz,k TI (by simp) _ hTI,⟨u,v,k TO (by simp) _ hTO⟩,h1.at fun o e=>k i1 (by simp) o e,h2.at fun o e=>k i2 (by simp) o e⟩
  item:=by
    intro X hP hw hK hc i pins s σ H E I hf st hg
    subst hP hw hK
    obtain ⟨hz,hTI,⟨u,v,hTO⟩,h1,h2⟩:=st
    obtain ⟨xs,ys,x,y,hqx,hqy,hx,hy⟩:=hg
    obtain ⟨its,rv,p,_⟩:=I.tuple hqx
    obtain ⟨its',rv',p',_⟩:=I.tuple hqy
    obtain ⟨x',hu,ru⟩:=rv.get hx
    obtain ⟨y',hu',ru'⟩:=rv'.get hy
    have pa:s.heap.IsTuple a its.toArray:=p
    have pc:s.heap.IsTuple c its'.toArray:=p'
    have Z:=zp_of hz q hTI hTO h1 h2 pa pc
    have n1:a≠i1:=by
      obtain ⟨o1,e1,c1,_⟩:=h1
      obtain ⟨o3,e3,c3,_⟩:=pa
      intro e;subst e;rw [e1] at e3;cases e3;rw [c1] at c3;exact absurd (Value.type.inj c3) (by decide)
    have n2:c≠i2:=by
      obtain ⟨o1,e1,c1,_⟩:=h2
      obtain ⟨o3,e3,c3,_⟩:=pc
      intro e;subst e;rw [e1] at e3;cases e3;rw [c1] at c3;exact absurd (Value.type.inj c3) (by decide)
    have hd:X.A.in1.handled=none:=I.ok.hd hc
    have lt1:i < its.toArray.size:=by
      have:=(List.getElem?_eq_some_iff.mp hu).1
      simpa using this
    have lt2:i < its'.toArray.size:=by
      have:=(List.getElem?_eq_some_iff.mp hu').1
      simpa using this
    refine next_zip_item Z (draws_tuple hd i1 a n1 its.toArray) (draws_tuple hd i2 c n2 its'.toArray) hz hTI hTO ⟨h1,pa⟩ ⟨h2,pc⟩ lt1 lt2 fun x1 y1 h' tk px py hz' hTO' s1 s2 hT hk=>?_
    refine ⟨_,rfl,wpAny_letOwnedTupleGo_zip (s:={ s with heap:=h',toks:=tk }) hz' fun h'' hz'' hs''=>?_⟩
    have ex:x1=x':=by
      have h3:its[i]?=some x1:=by simpa using px
      rw [hu] at h3;exact (Option.some.inj h3).symm
    have ey:y1=y':=by
      have h3:its'[i]?=some y1:=by simpa using py
      rw [hu'] at h3;exact (Option.some.inj h3).symm
    subst ex ey
    have lt:∀ {b o},s.heap.get? b=some o→s.heap.objs.size≠b:=fun e=>Nat.ne_of_gt (Heap.lt_size e)
    have hTT:h''.IsTuple s.heap.objs.size #[x1,y1]:=⟨_,hs''.extBut _ _ (lt hz) hT,rfl,_,rfl⟩
    refine ⟨.ref s.heap.objs.size,upd H s.heap.objs.size (.tup [x,y]),inv_turnedLaid (s:=s) (h':=h'') (tk:=tk) (ch:=[z,TI,TO,i1,i2]) I hf (fun b o hb e=>?_) (Nat.le_refl _) ⟨by show 2≤sizeLine;decide,[x1,y1],.cons ru (.cons ru' .nil),hTT⟩,rfl,
      ⟨s.heap.objs.size,x,y,fun zs hz=>by rw [← I.tuple_inj hqx hz];exact hx,fun zs hz=>by rw [← I.tuple_inj hqy hz];exact hy,I.hok.fresh (Nat.le_refl _),rfl,rfl⟩,⟨hz'',?_,?_,?_,?_⟩,fun b hb=>?_⟩
    · have hb':¬ (b=z∨b=TI∨b=TO∨b=i1∨b=i2):=by simpa using hb
      simp only [not_or] at hb'
      exact hs''.extBut _ _ hb'.1 (hk b o hb'.1 hb'.2.2.1 hb'.2.2.2.1 hb'.2.2.2.2 e)
    · exact hs''.extBut _ _ Z.TIz (hk _ _ Z.TIz Z.TITO Z.TIi1 Z.TIi2 hTI)
    · exact ⟨_,_,hs''.extBut _ _ Z.TOz hTO'⟩
    · exact s1.1.at fun o e=>hs''.extBut _ _ Z.i1z e
    · exact s2.1.at fun o e=>hs''.extBut _ _ Z.i2z e
    · rw [upd_ne (fun e=>?_)]
      · exact (hf b hb).1
      · have:b=z∨b=TI∨b=TO∨b=i1∨b=i2:=by simpa using hb
        obtain ⟨o1,e1,_⟩:=h1
        obtain ⟨o2,e2,_⟩:=h2
        rcases this with rfl | rfl | rfl | rfl | rfl
        · exact lt hz e.symm
        · exact lt hTI e.symm
        · exact lt hTO e.symm
        · exact lt e1 e.symm
        · exact lt e2 e.symm
  done:=by
    intro X hP hw hK hc i pins s σ H E I hf st hg
    subst hP hw hK
    obtain ⟨hz,hTI,⟨u,v,hTO⟩,h1,h2⟩:=st
    obtain ⟨xs,ys,hqx,hqy,hi⟩:=hg
    obtain ⟨its,rv,p,_⟩:=I.tuple hqx
    obtain ⟨its',rv',p',_⟩:=I.tuple hqy
    have pa:s.heap.IsTuple a its.toArray:=p
    have pc:s.heap.IsTuple c its'.toArray:=p'
    have Z:=zp_of hz q hTI hTO h1 h2 pa pc
    have n1:a≠i1:=by
      obtain ⟨o1,e1,c1,_⟩:=h1
      obtain ⟨o3,e3,c3,_⟩:=pa
      intro e;subst e;rw [e1] at e3;cases e3;rw [c1] at c3;exact absurd (Value.type.inj c3) (by decide)
    have n2:c≠i2:=by
      obtain ⟨o1,e1,c1,_⟩:=h2
      obtain ⟨o3,e3,c3,_⟩:=pc
      intro e;subst e;rw [e1] at e3;cases e3;rw [c1] at c3;exact absurd (Value.type.inj c3) (by decide)
    have hd:X.A.in1.handled=none:=I.ok.hd hc
    have hi':i=min its.toArray.size its'.toArray.size:=by rw [List.size_toArray,List.size_toArray,← rv.length,← rv'.length];exact hi
    refine next_zip_end Z (draws_tuple hd i1 a n1 its.toArray) (draws_tuple hd i2 c n2 its'.toArray) hz hTI hTO ⟨h1,pa⟩ ⟨h2,pc⟩ (by omega) hi' fun h' tk hk=>⟨rfl,?_⟩
    have kk:∀ b o,b ∉ [z,TI,TO,i1,i2]→s.heap.get? b=some o→h'.get? b=some o:=fun b o hb e=>by
      have hb':¬ (b=z∨b=TI∨b=TO∨b=i1∨b=i2):=by simpa using hb
      simp only [not_or] at hb'
      exact hk b o hb'.1 hb'.2.2.1 hb'.2.2.2.1 hb'.2.2.2.2 e
    have:=I.call' (ch:=[z,TI,TO,i1,i2]) (H':=H) (s':={ s with heap:=h',toks:=tk }) rfl ⟨fun b u q n hb hx=>kk b u hx q,fun b u q n hb hx=>⟨u.slots,kk b u hx q⟩,fun b u q n hx=>n,fun b u q hx=>⟨u,kk b u hx q⟩,fun b xs q=>q,fun b u xs q=>q,fun b ps q=>⟨#[],by rw [q];simp⟩⟩
      (fun a u e'=>?_) I.bare fun b hb=>⟨(hf b hb).2.2.2.1,(hf b hb).2.1,(hf b hb).2.2.2.2.1,(hf b hb).2.2.2.2.2⟩
    · exact this
    · refine (I.hok a u e').stay (fun b z hb q=>kk b z (fun hc=>?_) q) (fun _ q=>q) fun _ _ q=>q
      have hnone:=(hf b hc).1
      rcases hb with rfl | hb
      · rw [hnone] at e';cases e'
      · rw [hnone] at hb;cases hb
  self:=fun _ _ _ _ _ st h=>wpAny_pyIter_zip st.1 h
abbrev zH1 (h:Heap) (a:Addr):Heap:=h.push { cls:=.type "tuple_iterator",data:=.fields #[.ref a,.int 0 0] }
abbrev zH2 (h:Heap) (a c:Addr):Heap:=(zH1 h a).push { cls:=.type "tuple_iterator",data:=.fields #[.ref c,.int 0 0] }
abbrev zH3 (h:Heap) (a c:Addr):Heap:=(zH2 h a c).push { cls:=.type "tuple",data:=.seq #[.ref h.objs.size,.ref (zH1 h a).objs.size] }
abbrev zH4 (h:Heap) (a c:Addr):Heap:=(zH3 h a c).push { cls:=.type "tuple",data:=.seq #[.none,.none] }
abbrev zH5 (h:Heap) (a c:Addr):Heap:=(zH4 h a c).push { cls:=.type "zip",data:=.fields #[.none,.bool false,.bool false,.ref (zH2 h a c).objs.size,.ref (zH3 h a c).objs.size] }
theorem meets_zip_tuples (a c:Addr) (xs ys:Array Value) :
    Meets (Builtin.«zip.__new__» ⟨[.type "zip",.ref a,.ref c],[]⟩) (fun _ R s=>s.heap.IsTuple a xs∧s.heap.IsTuple c ys ∧
      R (.ok (.ret (.ref (zH4 s.heap a c).objs.size))) { s with heap:=zH5 s.heap a c }) :=
  .of_wp fun prog w A R s h=>by
    obtain ⟨hp,g,d,tk,os⟩:=s;obtain ⟨h1,h2,h⟩:=h
    have hsub:=sub_zip
    have hL1:Heap.IsTuple (Shared.heap ⟨hp,g,d,tk,os⟩) a xs:=h1
    have hL2:Heap.IsTuple (Shared.heap ⟨hp.push { cls:=.type "tuple_iterator",data:=.fields #[.ref a,.int 0 0] },g,d,tk,os⟩) c ys:=Heap.IsTuple.push h2 _
    wp_walk using wpAny_pyIter_tuple hL1,wpAny_pyIter_tuple hL2
    exact ⟨_,rfl,h⟩
theorem call_zip_tuples {prog:Program} {w:World} {A:Around} {E:Value→Shared→Prop} {s:Shared} {a c:Addr} {xs ys:Array Value} {Q:Value→Shared→Prop} (h1:s.heap.IsTuple a xs) (h2:s.heap.IsTuple c ys)
    (h:∀ h',IsZip h' (s.heap.objs.size + 4) (s.heap.objs.size + 2) (s.heap.objs.size + 3) .none→IsPair h' (s.heap.objs.size + 2) (.ref s.heap.objs.size) (.ref (s.heap.objs.size + 1)) →
      IsPair h' (s.heap.objs.size + 3) .none .none→h'.IsTupleIter s.heap.objs.size a 0→h'.IsTupleIter (s.heap.objs.size + 1) c 0 →
      (∀ b o,s.heap.get? b=some o→h'.get? b=some o)→Q (.ref (s.heap.objs.size + 4)) { s with heap:=h' }) :
    wpAny (model prog w) A (call (.type "zip") [.ref a,.ref c]) Q E s:=by
  refine callType_new PySem.F.called_zip (by decide) (PySem.F.typeCall_zip_2 _ _) (PySem.F.newCall_zip_2 _ _) (fun obj=>PySem.F.args_object_init_3 obj _ _) PySem.F.entry_zip_new
    (meets_zip_tuples a c xs ys) ⟨h1,h2,?_⟩
  have z1:(zH1 s.heap a).objs.size=s.heap.objs.size + 1:=Heap.size_push ..
  have z2:(zH2 s.heap a c).objs.size=s.heap.objs.size + 2:=by rw [Heap.size_push,z1]
  have z3:(zH3 s.heap a c).objs.size=s.heap.objs.size + 3:=by rw [Heap.size_push,z2]
  have z4:(zH4 s.heap a c).objs.size=s.heap.objs.size + 4:=by rw [Heap.size_push,z3]
  have g5:(zH5 s.heap a c).get? (zH4 s.heap a c).objs.size=some _:=Heap.get?_push_size _ rfl
  have g4:(zH5 s.heap a c).get? (zH3 s.heap a c).objs.size=some _:=Heap.get?_push_of_some _ (Heap.get?_push_size _ rfl)
  have g3:(zH5 s.heap a c).get? (zH2 s.heap a c).objs.size=some _:=Heap.get?_push_of_some _ (Heap.get?_push_of_some _ (Heap.get?_push_size _ rfl))
  have g2:(zH5 s.heap a c).get? (zH1 s.heap a).objs.size=some _:=Heap.get?_push_of_some _ (Heap.get?_push_of_some _ (Heap.get?_push_of_some _ (Heap.get?_push_size _ rfl)))
  have g1:(zH5 s.heap a c).get? s.heap.objs.size=some _:=Heap.get?_push_of_some _ (Heap.get?_push_of_some _ (Heap.get?_push_of_some _ (Heap.get?_push_of_some _ (Heap.get?_push_size _ rfl))))
  show _∧_
  rw [z2,z3,z4] at g5
  rw [z1,z2] at g3
  rw [z3] at g4
  rw [z1] at g2
  rw [z4]
  exact ⟨⟨_,g5,rfl⟩,h _ g5 g3 g4 ⟨_,g1,rfl,rfl⟩ ⟨_,g2,rfl,rfl⟩ fun b o x =>
    Heap.get?_push_of_some _ (Heap.get?_push_of_some _ (Heap.get?_push_of_some _ (Heap.get?_push_of_some _ (Heap.get?_push_of_some _ x))))⟩
def iZip (K:PySem.W.Frag) (ta:TA):TI:=fun σ H R=>ta σ H fun vs H1=>∃ a c,vs=[.ref a,.ref c]∧(∃ xs,SqT K H1 a xs)∧(∃ ys,SqT K H1 c ys)∧R (Itz K a c) H1
theorem pi_zip {X:Cx} {elts:List Expr} {kk:Nat} {tpos:Pos} {a b:Expr} {ta:TA} {p pos:Pos} (hg:Gl X "zip") (hm:X.mg "zip"=none) (ha:PA X [a,b] ta) (hs:starEach [a,b] X.env=[(false,eval a X.env),(false,eval b X.env)]) (hs2:starEach [b] X.env=[(false,eval b X.env)]) :
    PI X (.Tuple elts kk tpos) (.Call (.Name "zip" p) [a,b] [] pos) (iZip X.K ta):=by
  intro pins s σ H R I h
  refine Call_ (ld_blt I hg hm boot_zip (PyProof.Rows.callWith_type1 (thn (ha pos pins s σ H _ I h) fun us s1 ⟨vs,H1,I1,r1,q1⟩=>?_) (by rw [hs,hs2]) (by rw [hs2];rfl)))
  obtain ⟨a,c,e,⟨xs,hq⟩,⟨ys,hq'⟩,q⟩:=q1
  subst e
  cases r1 with
  | cons r rr =>
    cases rr with
    | cons r' rr =>
      cases rr
      cases r
      cases r'
      obtain ⟨its,rv,p,hz⟩:=I1.tuple hq
      obtain ⟨its',rv',p',hz'⟩:=I1.tuple hq'
      have pa:s1.heap.IsTuple a its.toArray:=p
      have pc:s1.heap.IsTuple c its'.toArray:=p'
      have la:a < s1.heap.objs.size:=by obtain ⟨_,e,_⟩:=pa;exact Heap.lt_size e
      have lc:c < s1.heap.objs.size:=by obtain ⟨_,e,_⟩:=pc;exact Heap.lt_size e
      refine call_zip_tuples pa pc fun h' hz hTI hTO h1 h2 hk=>?_
      refine wpAny_pyIter_zip (s:={ s1 with heap:=h' }) hz ?_
      have I2:L2.Inv X pins σ H1 { s1 with heap:=h',toks:=s1.toks }:=I1.kept hk
      refine ⟨_,_,_,_,H1,rfl,I2,turn_zip a c (s1.heap.objs.size + 4) (s1.heap.objs.size + 2) (s1.heap.objs.size + 3) s1.heap.objs.size (s1.heap.objs.size + 1) ⟨Nat.ne_of_lt (Nat.lt_succ_self _),Nat.ne_of_lt (Nat.lt_succ_self _),Nat.ne_of_gt (Nat.lt_of_lt_of_le la (Nat.le_add_right _ _)),Nat.ne_of_gt (Nat.lt_of_lt_of_le lc (Nat.le_add_right _ _))⟩,⟨hz,hTI,⟨_,_,hTO⟩,h1,h2⟩,fun b hb=>?_,q⟩
      have le:s1.heap.objs.size≤b:=by
        have:b=s1.heap.objs.size + 4∨b=s1.heap.objs.size + 2∨b=s1.heap.objs.size + 3∨b=s1.heap.objs.size∨b=s1.heap.objs.size + 1:=by simpa using hb
        rcases this with e | e | e | e | e <;> rw [e]
        · exact Nat.le_add_right _ _
        · exact Nat.le_add_right _ _
        · exact Nat.le_add_right _ _
        · exact Nat.le_refl _
        · exact Nat.le_add_right _ _
      exact I1.fpOk le (I1.hok.fresh le)
def zipped:List U→List U→List U
  | u :: us,w :: ws=>.tup [u,w] :: zipped us ws
  | _,_=>[]
theorem zipped_len:∀ us ws:List U,(zipped us ws).length=min us.length ws.length
  | [],ws=>by simp [zipped]
  | _ :: _,[]=>by simp [zipped]
  | u :: us,w :: ws=>by simp only [zipped,List.length_cons,zipped_len us ws];omega
theorem zipped_get:∀ {us ws:List U} {i:Nat} {x:U},(zipped us ws)[i]?=some x→∃ u w,us[i]?=some u∧ws[i]?=some w∧x=.tup [u,w]
  | [],ws,i,x,h=>by simp [zipped] at h
  | _ :: _,[],i,x,h=>by simp [zipped] at h
  | u :: us,w :: ws,0,x,h=>by simp [zipped] at h;exact ⟨u,w,rfl,rfl,h.symm⟩
  | u :: us,w :: ws,i + 1,x,h=>by
    simp only [zipped,List.getElem?_cons_succ] at h ⊢
    exact zipped_get h
theorem sqT_of {K:PySem.W.Frag} {H H1:Hp} {M M1:MHp} {a:Addr} {vs:List V} (s:Stp H M H1 M1) (m:M a=none∧H a=some (.tup vs)):SqT K H1 a vs:=by
  exact .inl (.inl (s.to m.2 m.1).1)
theorem walk_zip {K:PySem.W.Frag} {a c:Addr} {us ws:List U} {vs xs:List V} {H:Hp} {M:MHp} (m:M a=none∧H a=some (.tup vs)) (m':M c=none∧H c=some (.tup xs)) (r:RelUs K H M us vs) (r':RelUs K H M ws xs):Walk K (Itz K a c) ⟨none,zipped us ws⟩ H M:=by
  refine ⟨fun H1 M1 s rm _ i u e=>?_,fun H1 M1 s rm _=>⟨vs,xs,sqT_of s m,sqT_of s m',by show (zipped us ws).length=_;rw [zipped_len,r.length,r'.length]⟩⟩
  obtain ⟨u,w,e1,e1',rfl⟩:=zipped_get e
  obtain ⟨v,e2,ru⟩:=r.get e1
  obtain ⟨x,e2',ru'⟩:=r'.get e1'
  refine ⟨⟨vs,xs,v,x,sqT_of s m,sqT_of s m',e2,e2'⟩,fun y H2 y'=>?_⟩
  obtain ⟨p,v',x',y1,y2,hp,rfl,rfl⟩:=y'
  have:=y1 vs (sqT_of s m)
  rw [e2] at this;cases this
  have:=y2 xs (sqT_of s m')
  rw [e2'] at this;cases this
  have st:=Stp.laid (o:=.tup [v,x]) rm hp
  have rr:RelUs K H1 M1 [u,w] [v,x]:=by
    simp only [RelUs]
    exact ⟨_,_,rfl,ru.stp s,_,_,rfl,ru'.stp s,rfl⟩
  exact ⟨st,rm.laid hp,relU_tup (rm.no hp) upd_same (rr.stp st)⟩
def uZip (ta:UA):UI:=fun τ M R=>ta τ M fun us M1=>match us with
  | [.tup us,.tup ws]=>R ⟨none,zipped us ws⟩ M1
  | _=>False
theorem sim_zip {K:PySem.W.Frag} {ta:TA} {ta':UA} (h:SimA K ta ta'):SimI K (iZip K ta) (uZip ta'):=fun σ τ H M R' rs rm q R c=>h σ τ H M _ rs rm q _ fun us vs M1 H1 s1 rm1 ru h1=>by
  split at h1
  · obtain ⟨v,vs',rfl,a,b⟩:=ru.inv_cons
    obtain ⟨v2,rfl,a2⟩:=b.one
    simp only [RelU] at a a2
    obtain ⟨a,vs,rfl,m,r⟩:=a
    obtain ⟨a',vs',rfl,m',r'⟩:=a2
    exact ⟨a,a',rfl,⟨vs,sqT_of (Stp.refl _ _) m⟩,⟨vs',sqT_of (Stp.refl _ _) m'⟩,c _ _ M1 H1 s1 rm1 (walk_zip m m' r r') h1⟩
  · exact h1.elim
theorem ui_zip {D:Dat} {elts:List Expr} {kk:Nat} {tpos:Pos} {a b:Expr} {p pos:Pos} {ta:UA} (hm:D.mg "zip"=none) (ha:PAU D [a,b] ta) (hg:D.sc.names.lookup ("zip":Str)=some .globalImplicit:=by rfl) (hs:∀ env,starEach [a,b] env=[(false,eval a env),(false,eval b env)]:=by intro _;rfl) (hs2:∀ env,starEach [b] env=[(false,eval b env)]:=by intro _;rfl):PIU D (.Tuple elts kk tpos) (.Call (.Name "zip" p) [a,b] [] pos) (uZip ta):=by
  obtain ⟨_,q,s⟩:=ha
  exact ⟨_,fun X h=>h.K ▸ pi_zip (by show X.env.scope.names.lookup _=_;rw [h.sc];exact hg) (by rw [h.mg];exact hm) (q X h) (hs _) (hs2 _),sim_zip s⟩
end U2
namespace U2
open PySem PySem.Spec PyProof.Rows L2
theorem meets_extendL (l:Addr) (items:Array Value) (n:Nat) (b:Addr) (items2:Array Value) (n2:Nat) (dd:Option Addr) (sl:Array (Option Value)) (hc0:¬(!items.isEmpty && Builtin.List.listTooLong (items.size + items2.size))=true) (hc1:items.size≤sizeLine) (hs2:items.size + items2.size≤sizeLine + 1) :
    Meets (Builtin.«list.extend» ⟨[.ref l,.ref b],[]⟩) (fun _ R s=>s.heap.get? l=some { cls:=.type "list",dict:=none,data:=.seq items n,slots:=#[] }∧s.heap.get? b=some { cls:=.type "list",dict:=dd,data:=.seq items2 n2,slots:=sl }∧R (.ok (.ret Value.none)) { s with heap:=s.heap.update l (Obj.mapSeq fun x=>x++items2),toks:=s.toks }) :=
  .of_wp fun prog w A R s h=>by
    obtain ⟨hp,g,d,tk,os⟩:=s;obtain ⟨hl,hb,h⟩:=h
    have f1:=PySem.AutoSeq1.idx_int;have f2:=PySem.AutoSeq1.sub_tuple_tuple;have f3:=PySem.AutoSeq1.sub_list_list;have f4:=PySem.AutoSeq1.sub_tuple_list;have f5:=PySem.AutoSeq1.sub_list_tuple
    have hz':(items++items2).size≤sizeLine + 1:=by rw [Array.size_append];exact hs2
    wp_walk using (wpAny_updateSeq hl rfl (hz:=hc1) (_hz':=hz')),wpAny_loadPart' hl,wpAny_loadPart' hb
    exact ⟨_,rfl,h⟩
theorem mt_extendL {X:Cx}:MtM X "list.extend" (rExtendL X.K):=by
  intro pins s σ H x vs v us Q I rx rv h
  obtain ⟨l,b,xs,zs,rfl,rfl,hH,hB,hz,q⟩:=h
  cases rx
  obtain ⟨u,rfl,ru⟩:=rv.one
  cases ru
  obtain ⟨z,its,n,r,hl,e⟩:=I.lstM hH
  obtain ⟨its2,r2,⟨⟨oc,od,odt,osl⟩,n2,e2,hc,hd,hdt⟩,hl2⟩:=I.list hB
  have hc':oc=.type "list":=hc
  have hdt':odt=.seq its2.toArray n2:=hdt
  subst hc' hdt'
  have l2:=r2.length
  have hsz:its.toArray.size + its2.toArray.size≤sizeLine:=by rw [List.size_toArray,List.size_toArray];omega
  have hlong:¬ (!its.toArray.isEmpty && Builtin.List.listTooLong (its.toArray.size + its2.toArray.size))=true:=by
    rw [notLongL hsz,Bool.and_false]
    exact Bool.false_ne_true
  refine call_meets PySem.F.slot_list_extend ⟨_,e,rfl⟩ PySem.F.entry_list_extend (PySem.F.args_list_extend_2 _ _)
    (meets_extendL l its.toArray n b its2.toArray n2 od osl hlong (by rw [List.size_toArray];omega) (by omega)) ⟨e,e2,?_⟩
  refine ⟨.non,_,I.lset (its':=its++its2) hH e (by simp) (r.append r2) ?_,rfl,q⟩
  rw [List.length_append]
  omega
variable {D:Dat} {o e:Expr} {ta:UE} {tas:UA} {pos:Pos}
theorem ue_extend {apos:Pos} (ho:PEU D o ta) (ha:PAU D [e] tas) (hbase:∀ env,attributeBase o "extend" env (eval o env)=eval o env:=by intro _;rfl)
    (hfew:∀ env,((backTo pos (starEach [e] env)).all (fun x=>!x.1) && (backToKw pos (keywordEach [] env)).all (fun x=>x.1.isSome) && decide ([e].length + ([]:List Keyword).length + (if ([]:List Keyword).isEmpty then 0 else 1) < 30))=true:=by intro _;rfl)
    (hline:(apos.endLine == pos.line)=true:=by rfl) (hs:∀ env,starEach [e] env=[(false,eval e env)]:=by intro _;rfl):PEU D (.Call (.Attribute o "extend" apos) [e] [] pos) (uBM mExtend ta tas):=by
  obtain ⟨_,p,s⟩:=ho;obtain ⟨_,q,r⟩:=ha
  refine ⟨_,fun X h=>?_,sim_bm sim_extend s r⟩
  have:=pe_bm (cpos:=pos) (apos:=apos) PySem.F.plainAttrs_list PySem.F.slot_list_extend PySem.F.type_list_extend mt_extendL (p X h) (q X h) (hbase _) (hfew _) hline (hs _) (by rfl)
  rw [h.K] at this
  exact this
end U2
namespace U2
open PySem PySem.Spec PyProof.Rows L2
def intsOf:List U→Option (List Int)
  | []=>some []
  | .int i :: us=>(intsOf us).map (i :: ·)
  | _ :: _=>none
theorem intsOf_rel {K:PySem.W.Frag} {H:Hp} {M:MHp}:∀ {us:List U} {vs:List V} {xs:List Int},RelUs K H M us vs→intsOf us=some xs→vs=xs.map V.int
  | [],vs,xs,r,e=>by cases e;exact r.inv_nil
  | u :: us,vs,xs,r,e=>by
    obtain ⟨v,vs',rfl,a,b⟩:=r.inv_cons
    cases u with
    | int i =>
      simp only [intsOf] at e
      cases e2:intsOf us with
      | none=>rw [e2] at e;cases e
      | some ys=>rw [e2] at e;cases e;rw [a.int,intsOf_rel b e2];rfl
    | _=>cases e
def uLtX:UR2:=fun x y M Q=>match x,y with
  | .int i,.int j=>Q (.bl (decide (i < j))) M
  | .tup us,.tup ws=>∃ xs ys,intsOf us=some xs∧intsOf ws=some ys∧Q (.bl (HT.lexLt xs ys)) M
  | _,_=>False
variable {D:Dat}
theorem k_ltX:Cmp D .Lt uLtX:=⟨⟨_,fun X h=>h.K ▸ op_lt.or (op_ltT h.room.units0),fun x y u w H M Q' rm ru rw h Q c=>by
  unfold uLtX at h
  split at h
  · rename_i i j
    exact .inl (sim_bool2 (f:=fun i j=>decide (i < j)) x y (.int i) (.int j) H M Q' rm ru rw h Q c)
  · rename_i us ws
    obtain ⟨xs,ys,e1,e2,q⟩:=h
    obtain ⟨a,vs,rfl,s1,r1⟩:=ru.tup
    obtain ⟨a',vs',rfl,s2,r2⟩:=rw.tup
    cases intsOf_rel r1 e1
    cases intsOf_rel r2 e2
    exact .inr ⟨a,a',xs,ys,rfl,rfl,s1,s2,c.here rm relU_bl q⟩
  · exact h.elim⟩⟩
end U2
namespace U2
open PySem PySem.Spec PyProof.Rows L2
def maxI:Int→List Int→Int
  | m,[]=>m
  | m,n :: ns=>maxI (if n > m then n else m) ns
section
variable {X:Cx}
def bSum:List U→MHp→UK→Prop:=fun us M Q=>match us with
  | [x]=>match view M x with
    | .lst ws=>∃ ns,intsOf ws=some ns∧PySem.SumFits ns∧Q (.int ns.sum) M
    | _=>False
  | _=>False
def bMax:List U→MHp→UK→Prop:=fun us M Q=>match us with
  | [.int i,.int j]=>Q (.int (if j > i then j else i)) M
  | [x]=>match view M x with
    | .lst ws=>∃ m ns,intsOf ws=some (m :: ns)∧Q (.int (maxI m ns)) M
    | _=>False
  | _=>False
end
end U2
namespace U2
open PySem PySem.Spec PyProof.Rows L2
section
variable {D:Dat} {a b c e o i:Expr} {ta tb tc te to ti:UE} {pos p:Pos} {es:List Expr} {tas:UA} {x:Str}
def uSetI (te to ti:UE):US:=fun D τ M=>te τ M fun v M1=>to τ M1 fun x M2=>ti τ M2 fun y M3=>match x,y with
  | .ref a,.int k=>match M3 a with
    | some (.lst us)=>∃ j,ixN us.length k=some j∧D.nx τ (mup M3 a (.lst (us.set j v)))
    | _=>False
  | _,_=>False
def mPopAt:U→List U→MHp→UK→Prop:=fun x ws M Q=>match x,ws with
  | .ref a,[.int i]=>match M a with
    | some (.lst us)=>-(2 ^ 63)≤i∧i < 2 ^ 63∧∃ k y,seqIndex? i us.length=some k∧us[k]?=some y∧Q y (mup M a (.lst (us.eraseIdx k)))
    | _=>False
  | _,_=>False
def bInt:List U→MHp→UK→Prop:=fun us M Q=>match us with
  | [.int i]=>Q (.int i) M
  | [.bl k]=>Q (.int (if k then 1 else 0)) M
  | _=>False
def CMulB (i j:Int):Prop:=CMul i j∨(Builtin.Int.intBits i≤60000000∧Builtin.Int.intBits j≤60000000)
theorem CMulB.ok {i j:Int} (h:CMulB i j):IntMulOk i j:=by
  rcases h with h | ⟨h1,h2⟩
  · exact h.ok
  · exact IntMulOk.of_le h1 h2 (by decide)
theorem op_mulB {X:Cx}:OpR X (binaryOp .Mult) (rI CMulB fun i j=>.int (i * j)):=opI fun _ _ _ _ _ _ _ hc q=>mul_int q hc.ok
def repS (z:Str) (n:Int):Str:=if n < 1 then Str.empty else if (n == 1 || z.length == 0)=true then z else ⟨(List.replicate n.toNat z.cps).foldl (·++·) #[]⟩
theorem op_repS {X:Cx}:OpR X (binaryOp .Mult) (fun x y H Q=>∃ z n,x=.str z∧y=.int n∧-(2 ^ 63)≤n∧n < 2 ^ 20∧z.length≤2 ^ 20∧z.length * n.toNat≤100000∧Q (.str (repS z n)) H):=by
  intro pins s σ H x y v u Q I rx ry h
  obtain ⟨z,n,rfl,rfl,h1,h2,h3,h4,q⟩:=h
  obtain ⟨t,rfl⟩:=rx
  obtain ⟨t',rfl⟩:=ry
  have e1:(decide (n < -(2 ^ 63:Int)) || decide (n ≥ 2 ^ 63))=false:=by
    rw [decide_eq_false (by omega),decide_eq_false (by omega)];rfl
  refine PySem.P.mul_str e1 (fun g1 g2=>?_) (fun g1 g2=>?_) ?_
  · intro hh
    have hn:(1:Int)≤n:=by omega
    have e3:(z.length:Int) * n=((z.length * n.toNat:Nat):Int):=by
      rw [Int.natCast_mul,Int.toNat_of_nonneg (by omega)]
    have:=Int.le_ediv_of_mul_le (show (0:Int) < n by omega) (show (z.length:Int) * n≤2 ^ 63 - 1 by rw [e3];omega)
    omega
  · unfold Builtin.Str.tooLong sizeLine
    exact decide_eq_false (by omega)
  · have hq:∀ (t2:Tok) k,EP X pins σ Q (.str (repS z n) t2) { s with toks:=k }:=fun t2 k=>⟨.str (repS z n),H,I.tok k,⟨t2,rfl⟩,q⟩
    unfold repS at hq
    by_cases g1:n < 1
    · rw [if_pos g1]
      simp only [if_pos g1] at hq
      exact ⟨by decide,hq _ _⟩
    · rw [if_neg g1]
      simp only [if_neg g1] at hq
      by_cases g2:(n == 1 || z.length == 0)=true
      · rw [if_pos g2]
        simp only [if_pos g2] at hq
        exact hq t s.toks
      · rw [if_neg g2]
        simp only [if_neg g2] at hq
        refine ⟨?_,hq _ _⟩
        have hsz:∀ (k:Nat) (acc:Array Nat),((List.replicate k z.cps).foldl (·++·) acc).size=acc.size + k * z.cps.size:=by
          intro k
          induction k with
          | zero=>intro acc;simp
          | succ k ih=>intro acc;rw [List.replicate_succ,List.foldl_cons,ih,Array.size_append,Nat.succ_mul];omega
        show ((List.replicate n.toNat z.cps).foldl (·++·) #[]).size≤sizeLine
        rw [hsz]
        have h5:n.toNat * z.cps.size≤100000:=by rw [Nat.mul_comm];exact h4
        have:(100000:Nat)≤sizeLine:=by decide
        simp only [Array.size_empty,Nat.zero_add]
        omega
def uMul (o:Bool):UR2:=fun x y M Q=>match x,y with
  | .int i,.int j=>CMulB i j∧Q (.int (i * j)) M
  | .str z,.int n=>-(2 ^ 63)≤n∧n < 2 ^ 20∧z.length≤2 ^ 20∧z.length * n.toNat≤100000∧Q (.str (repS z n)) M
  | .ref a,.int k=>match M a with
    | some (.lst us)=>-(2 ^ 63)≤k∧k < 2 ^ 63∧us.length * k.toNat≤sizeLine∧mkL o (List.replicate k.toNat us).flatten M Q
    | _=>False
  | _,_=>False
theorem RelUs.rep {K:PySem.W.Frag} {H:Hp} {M:MHp} {us:List U} {vs:List V} (r:RelUs K H M us vs):∀ k:Nat,RelUs K H M (List.replicate k us).flatten (List.replicate k vs).flatten
  | 0=>by simp only [List.replicate_zero,List.flatten_nil];exact .nil
  | k + 1=>by simp only [List.replicate_succ,List.flatten_cons];exact r.append (RelUs.rep r k)
theorem sim_mul {K:PySem.W.Frag} {o:Bool}:SimR2 K (fun x y H Q=>rI CMulB (fun i j=>.int (i * j)) x y H Q∨((∃ z n,x=.str z∧y=.int n∧-(2 ^ 63)≤n∧n < 2 ^ 20∧z.length≤2 ^ 20∧z.length * n.toNat≤100000∧Q (.str (repS z n)) H)∨rRep x y H Q)) (uMul o):=fun x y u w H M Q' rm ru rw h Q c=>by
  unfold uMul at h
  split at h
  · rename_i i j
    exact .inl (sim_int2c (C:=CMulB) (f:=fun i j=>i * j) x y (.int i) (.int j) H M Q' rm ru rw h Q c)
  · rename_i z n
    cases ru.str;cases rw.int
    exact .inr (.inl ⟨z,n,rfl,rfl,h.1,h.2.1,h.2.2.1,h.2.2.2.1,c.here rm relU_str h.2.2.2.2⟩)
  · rename_i a k
    split at h
    · rename_i us e
      obtain ⟨vs,hv,r⟩:=rm a _ e
      cases ru.ref;cases rw.int
      exact .inr (.inr ⟨a,k,vs,rfl,rfl,hv,h.1,h.2.1,by rw [← r.length];exact h.2.2.1,fun p hp=>c.lst rm (r.rep k.toNat) hp h.2.2.2⟩)
    · exact h.elim
  · exact h.elim
theorem ue_mulX (own:Bool:=false) (ha:PEU D a ta) (hb:PEU D b tb):PEU D (.BinOp a .Mult b pos) (uOp (uMul own) ta tb):=ue_op (fun _ _=>op_mulB.or (op_repS.or op_rep)) sim_mul ha hb
def CDivB (_ j:Int):Prop:=0 < j∧j < 2 ^ 64
theorem op_fdivB {X:Cx}:OpR X (binaryOp .FloorDiv) (rI CDivB fun i j=>.int (i / j)):=opI fun i j _ _ _ _ _ hc q=>by
  have h1:(0:Int) < j:=hc.1
  have h2:j.natAbs.log2 < 9000:=by
    have h3:j.natAbs < 2 ^ 64:=by have:=hc.2;omega
    by_cases h:j.natAbs=0
    · rw [h];decide
    · have:=(Nat.log2_lt h).mpr h3
      omega
  exact floordiv_int (by omega) (by rw [Int.fdiv_eq_ediv_of_nonneg i (by omega)];exact q) (.inl (PyProof.noPylong_of_log2 h2))
theorem ue_divX (ha:PEU D a ta) (hb:PEU D b tb):PEU D (.BinOp a .FloorDiv b pos) (uOp (uI CDivB fun i j=>.int (i / j)) ta tb):=ue_op (fun _ _=>op_fdivB) sim_int2c ha hb
end
end U2
namespace HT
open PySem PySem.Spec PyProof.Rows L2
variable {prog:Program} {w:World} {A:Around} {E:Value→Shared→Prop} {s:Shared}
theorem getItem_tuple_whole {t sl:Addr} {items:Array Value} {vl vu:Value} {lo hi:Option Int} {Q:Value→Shared→Prop} (ht:IsTup s.heap t items) (hs:s.heap.IsSliceOf sl vl vu .none) (pl:IsPart vl lo) (pu:IsPart vu hi)
    (hw:sIx items.size 0 lo=0∧sIx items.size items.size hi=items.size)
    (h:Q (.ref t) s):wpAny (model prog w) A (getItem (.ref t) (.ref sl)) Q E s:=by
  obtain ⟨os,hos,hcs,hds⟩:=id hs
  have hTs:s.TypeIs (.ref sl) "slice":=⟨os,hos,hcs⟩
  unfold getItem
  try with_reducible refine wpAny_holding ?_
  first | refine wpAny_bind (wpAny_pure ?_) | skip
  refine wpAny_bind (wpAny_sequenceKey ht.typeIs (by decide) ?_)
  refine wpAny_bind (wpAny_callSpecial?_slot (name:=Str.ofString "__getitem__") ht.typeIs PyProof.Rows.slot_tuple_getitem
    (wpAny_call_entry PyProof.Rows.slot_tuple_getitem ht.typeIs entry_tuple_getitem ?_ (args_tuple_getitem _ _)))
  show wpAny _ _ (Builtin.Tuple.tupleItemsOf (.ref t) >>= _) _ _ s
  refine wpAny_bind (tupleItemsOf_ ht ?_)
  refine wpAny_bind (wpAny_typeOf hTs ?_)
  rw [if_pos (by decide)]
  refine wpAny_bind (sliceApplied_gen hs pl pu ?_)
  have hyes:((((sIx items.size 0 lo:Nat):Int) == 0 && (1:Int) == 1 && (sIx items.size items.size hi - sIx items.size 0 lo) == items.size)=true):=by
    rw [hw.1,hw.2];simp
  show wpAny _ _ (if (((sIx items.size 0 lo:Nat):Int) == 0 && (1:Int) == 1 && (sIx items.size items.size hi - sIx items.size 0 lo) == items.size)=true then _ else _) _ _ s
  rw [if_pos hyes]
  unfold Builtin.Tuple.tupleIsExact
  refine wpAny_bind (wpAny_bind (wpAny_typeOf ht.typeIs (wpAny_pure ?_)))
  rw [if_pos (by decide)]
  refine wpAny_bind (wpAny_rule ?_)
  exact wpAny_pure ⟨_,rfl,wpAny_pure h⟩
end HT
namespace U2
open PySem PySem.Spec PyProof.Rows L2
def rSlW (K:PySem.W.Frag):V→Option Int→Option Int→Hp→VK→Prop:=fun x lo hi H Q=>∃ a xs,x=.ref a∧SqT K H a xs∧(HT.sIx xs.length 0 lo=0∧HT.sIx xs.length xs.length hi=xs.length)∧Q (.ref a) H
theorem sl_tupW {X:Cx}:SlR X (rSlW X.K):=by
  intro pins s σ H x v vl vu lo hi sl Q I rx hs pl pu h
  obtain ⟨a,xs,rfl,hx,hw,q⟩:=h
  cases rx
  obtain ⟨its,r,ht,hz⟩:=I.tuple hx
  have hlen:its.toArray.size=xs.length:=by rw [List.size_toArray];exact r.length.symm
  refine ⟨"tuple",_,PyProof.Rows.slot_tuple_getitem.lookup,ht.typeIs,?_⟩
  refine HT.getItem_tuple_whole ht hs pl pu (by rw [hlen];exact hw) ⟨.ref a,H,I,rfl,q⟩
def uSlX (o:Bool) (te:UE) (tl th:UO):UE:=fun τ M Q=>te τ M fun x M1=>tl τ M1 fun l M2=>th τ M2 fun h M3=>match view M3 x with
  | .lst us=>mkL o (cutU us l h) M3 Q
  | .tup us=>Q (.tup (cutU us l h)) M3
  | .str z=>z.length≤sizeLine∧Q (.str (Txt.slice z l h)) M3
  | _=>False
theorem sim_slX {K:PySem.W.Frag} {o:Bool} {te:TE} {te':UE} {tl th:TO} {tl' th':UO} (h0:SimE K te te') (h1:SimO K tl tl') (h2:SimO K th th'):SimE K (tSl (fun x lo hi H Q=>rSlA K x lo hi H Q∨rSlW K x lo hi H Q) te tl th) (uSlX o te' tl' th'):=fun σ τ H M Q' rs rm q Q c =>
  h0 σ τ H M _ rs rm q _ fun u v M1 H1 s1 rm1 ru q1=>h1 σ τ H1 M1 _ (rs.stp s1) rm1 q1 _ fun lo M2 H2 s2 rm2 q2=>h2 σ τ H2 M2 _ ((rs.stp s1).stp s2) rm2 q2 _ fun hi M3 H3 s3 rm3 q3=>by
    have c3:=Cont.stp c ((s1.trans s2).trans s3)
    have ru3:=ru.stp (s2.trans s3)
    split at q3
    · rename_i us e
      obtain ⟨a,xs,rfl,r1,r2⟩:=view_lst rm3 ru3 e
      exact .inl (.inl ⟨a,xs,rfl,r1,fun p hp=>c3.lst rm3 (cut_rel r2 lo hi) hp q3⟩)
    · rename_i us e
      have e':=view_tup e
      subst e'
      obtain ⟨a,xs,rfl,r1,r2⟩:=ru3.tup
      by_cases hw:HT.sIx xs.length 0 lo=0∧HT.sIx xs.length xs.length hi=xs.length
      · refine .inr ⟨a,xs,rfl,r1,hw,c3 _ _ M3 H3 (Stp.refl _ _) rm3 ?_ q3⟩
        have e4:cutU us lo hi=us:=by
          unfold cutU
          rw [r2.length,hw.1,hw.2,List.drop_zero,Nat.sub_zero,← r2.length,List.take_length]
        rw [e4]
        exact ru3
      · exact .inl (.inr (.inl ⟨a,xs,rfl,r1,hw,fun p hp=>c3.tup rm3 (cut_rel r2 lo hi) hp q3⟩))
    · rename_i z e
      have e':=view_str e
      subst e'
      exact .inl (.inr (.inr ⟨z,ru3.str,q3.1,c3 _ _ M3 H3 (Stp.refl _ _) rm3 relU_str q3.2⟩))
    · exact q3.elim
theorem ue_slX {D:Dat} {a:Expr} {ta:UE} {pos:Pos} (own:Bool:=false) {lo hi:Option Expr} {tl th:UO} {p2:Pos} (ha:PEU D a ta) (hl:POU D lo tl) (hh:POU D hi th):PEU D (.Subscript a (.Slice lo hi none p2) pos) (uSlX own ta tl th):=by
  obtain ⟨_,p,s⟩:=ha;obtain ⟨_,q,r⟩:=hl;obtain ⟨_,u,v⟩:=hh
  refine ⟨_,fun X h=>?_,sim_slX s r v⟩
  have:=pe_slice (pos:=pos) (p2:=p2) (sl_any.or sl_tupW) (p X h) (q X h) (u X h)
  rw [h.K] at this
  exact this
end U2
namespace U2
open PySem PySem.Spec PyProof.Rows L2
section
variable {prog:Program} {w:World} {A:Around} {E:Value→Shared→Prop} {s:Shared}
theorem meets_enum_list (l:Addr) (items:Array Value) (n:Nat) (dd:Option Addr) (sl:Array (Option Value)) :
    Meets (Builtin.«enumerate.__new__» ⟨[.type "enumerate",.ref l],[]⟩) (fun _ R s=>s.heap.get? l=some { cls:=.type "list",dict:=dd,data:=.seq items n,slots:=sl } ∧
      R (.ok (.ret (.ref (s.heap.push { cls:=.type "list_iterator",data:=.fields #[.ref l,.int 0 0] }).objs.size)))
        { s with heap:=(s.heap.push { cls:=.type "list_iterator",data:=.fields #[.ref l,.int 0 0] }).push { cls:=.type "enumerate",data:=.fields #[.none,.bool false,.ref s.heap.objs.size,rawInt 0,.none,.none] } }) :=
  .of_wp fun prog w A R s h=>by
    obtain ⟨hp,g,d,tk,os⟩:=s;obtain ⟨hl,h⟩:=h
    have hsub:=PySem.sub_enumerate
    have hL:Heap.IsList (Shared.heap ⟨hp,g,d,tk,os⟩) l items:=⟨_,hl,rfl,n,rfl⟩
    wp_walk using wpAny_loadPart' hl
    refine wpAny_stack_any fun st=>wpAny_pure ?_
    split
    · rename_i c _ _ _ _ _
      cases (c == Value.type "enumerate")
      · wp_walk using wpAny_loadPart' hl,wpAny_pyIter_list hL
        exact ⟨_,rfl,h⟩
      · wp_walk using wpAny_loadPart' hl,wpAny_pyIter_list hL
        exact ⟨_,rfl,h⟩
    · wp_walk using wpAny_loadPart' hl,wpAny_pyIter_list hL
      exact ⟨_,rfl,h⟩
end
def IteL (K:PySem.W.Frag) (a:Addr):It :=
  ⟨fun i H=>∃ xs x,SqL K H a xs∧xs[i]?=some x,fun i H x H'=>∃ p v,(∀ xs,SqL K H a xs→xs[i]?=some v)∧H p=none∧x=.ref p∧H'=upd H p (.tup [.int i,v]),fun i H=>∃ xs,SqL K H a xs∧xs.length=i⟩
theorem turn_enumL {P:Program} {w:World} {K:PySem.W.Frag} {elts:List Expr} {kk:Nat} {pos:Pos} (a it e:Addr):Turn P w K (.Tuple elts kk pos) (IteL K a) [e,it] e (fun i h=>(∃ old,IsEnum h e it i old)∧h.IsListIter it a i) where
  mem:=by simp
  obj:=fun i h st b hb=>by
    obtain ⟨⟨old,he⟩,o,ho,hc,hd⟩:=st
    have:b=e∨b=it:=by simpa using hb
    rcases this with rfl | rfl
    · exact ⟨_,he,fun v z=>by
        have z':Data.fields _=Data.cell v:=z
        cases z'⟩
    · exact ⟨o,ho,fun v z=>by rw [hd] at z;cases z⟩
  keep:=fun i h h' st k=>let ⟨⟨old,he⟩,hi⟩:=st;⟨⟨old,k e (by simp) _ he⟩,hi.at fun o q=>k it (by simp) o q⟩
  item:=by
    intro X hP hw hK hc i pins s σ H E I hf st hg
    subst hP hw hK
    obtain ⟨⟨old,he⟩,hit⟩:=st
    obtain ⟨xs,x,hq,hx⟩:=hg
    obtain ⟨its,rv,p,hz⟩:=I.list hq
    obtain ⟨u,hu,ru⟩:=rv.get hx
    have p':s.heap.IsList a its.toArray:=p.isList
    obtain ⟨oi,hoi,hci,hdi⟩:=id hit
    obtain ⟨oa,hoa,hca,na,hda⟩:=id p'
    have n1:a≠it:=fun z=>by subst z;rw [hoa] at hoi;cases hoi;rw [hca] at hci;exact absurd (Value.type.inj hci) (by decide)
    have n2:e≠it:=fun z=>by subst z;rw [he] at hoi;cases hoi;exact absurd (Value.type.inj hci) (by decide)
    have n3:e≠a:=fun z=>by subst z;rw [he] at hoa;cases hoa;exact absurd (Value.type.inj hca) (by decide)
    have W:=WalksT.enumerateD (prog:=X.prog) (w:=X.w) (A:=X.A) (Draws.list (A:=X.A.in1) (show X.A.in1.handled=none from I.ok.hd hc) it a n1 its.toArray) e n2 (by simp [n2,n3]) (by simp)
    have hlt:i < its.toArray.size:=by
      have:=(List.getElem?_eq_some_iff.mp hu).1
      simpa using this
    refine W.item i s _ E hlt ⟨⟨old,he⟩,hit,p'⟩ fun T vals h' tk hP hT hTup hMid hk=>?_
    refine ⟨.ref T,rfl,W.go elts kk pos i T _ _ E hMid fun h'' hSt hk2=>?_⟩
    obtain ⟨t,y,hy,rfl⟩:=hP
    have hy':y=u:=by
      have h3:its[i]?=some y:=by simpa using hy
      rw [hu] at h3;exact (Option.some.inj h3).symm
    subst hy'
    have hTT:h''.IsTuple T #[.int i t,y]:=let ⟨o,ho,r⟩:=hTup;⟨o,hk2 T o (W.apart i T _ hMid) ho,r⟩
    refine ⟨.ref T,upd H T (.tup [.int i,x]),inv_turnedLaid (s:=s) (h':=h'') (tk:=tk) (ch:=[e,it]) I hf (fun b o hb q=>hk2 b o (by simpa using hb) (hk b o (by simpa using hb) q)) hT ⟨by show 2≤sizeLine;decide,[.int i t,y],.cons ⟨t,rfl⟩ (.cons ru .nil),hTT⟩,rfl,⟨T,x,fun ys hy=>by rw [← I.list_inj hq hy];exact hx,I.hok.fresh hT,rfl,rfl⟩,⟨by simpa using hSt.1,hSt.2.1⟩,fun b hb=>?_⟩
    have hn:=(hf b hb).1
    rw [upd_ne (Nat.ne_of_lt (Nat.lt_of_lt_of_le ?_ hT))]
    · exact hn
    · have:b=e∨b=it:=by simpa using hb
      rcases this with rfl | rfl
      · exact Heap.lt_size he
      · exact Heap.lt_size hoi
  done:=by
    intro X hP hw hK hc i pins s σ H E I hf st hg
    subst hP hw hK
    obtain ⟨⟨old,he⟩,hit⟩:=st
    obtain ⟨xs,hq,hx⟩:=hg
    obtain ⟨its,rv,p,hz⟩:=I.list hq
    have p':s.heap.IsList a its.toArray:=p.isList
    obtain ⟨oi,hoi,hci,hdi⟩:=id hit
    obtain ⟨oa,hoa,hca,na,hda⟩:=id p'
    have n1:a≠it:=fun z=>by subst z;rw [hoa] at hoi;cases hoi;rw [hca] at hci;exact absurd (Value.type.inj hci) (by decide)
    have n2:e≠it:=fun z=>by subst z;rw [he] at hoi;cases hoi;exact absurd (Value.type.inj hci) (by decide)
    have n3:e≠a:=fun z=>by subst z;rw [he] at hoa;cases hoa;exact absurd (Value.type.inj hca) (by decide)
    have W:=WalksT.enumerateD (prog:=X.prog) (w:=X.w) (A:=X.A) (Draws.list (A:=X.A.in1) (show X.A.in1.handled=none from I.ok.hd hc) it a n1 its.toArray) e n2 (by simp [n2,n3]) (by simp)
    have hi:i=its.toArray.size:=by rw [List.size_toArray,← rv.length];exact hx.symm
    subst hi
    refine W.done s _ E ⟨⟨old,he⟩,hit,p'⟩ fun h' tk hk=>⟨rfl,?_⟩
    have:=I.call' (ch:=[e,it]) (H':=H) (s':={ s with heap:=h',toks:=tk }) rfl ⟨fun b u q n hb hx=>hk b u (by simpa using hx) q,fun b u q n hb hx=>⟨u.slots,hk b u (by simpa using hx) q⟩,fun b u q n hx=>n,fun b u q hx=>⟨u,hk b u (by simpa using hx) q⟩,fun b xs q=>q,fun b u xs q=>q,fun b ps q=>⟨#[],by rw [q];simp⟩⟩
      (fun a u e'=>?_) I.bare fun b hb=>⟨(hf b hb).2.2.2.1,(hf b hb).2.1,(hf b hb).2.2.2.2.1,(hf b hb).2.2.2.2.2⟩
    · exact this
    · refine (I.hok a u e').stay (fun b z hb q=>hk b z (fun hc=>?_) q) (fun _ q=>q) fun _ _ q=>q
      have hnone:=(hf b (by simpa using hc)).1
      rcases hb with rfl | hb
      · rw [hnone] at e';cases e'
      · rw [hnone] at hb;cases hb
  self:=fun _ _ _ _ _ st h=>let ⟨⟨old,he⟩,_⟩:=st;wpAny_pyIter_enum he h
theorem call_enum_list {prog:Program} {w:World} {A:Around} {E:Value→Shared→Prop} {s:Shared} {l:Addr} {items:Array Value} {Q:Value→Shared→Prop}
    (hl:s.heap.IsList l items)
    (h:∀ h',IsEnum h' (s.heap.objs.size + 1) s.heap.objs.size 0 .none→h'.IsListIter s.heap.objs.size l 0→h'.objs.size=s.heap.objs.size + 2 →
      (∀ b o,s.heap.get? b=some o→h'.get? b=some o)→Q (.ref (s.heap.objs.size + 1)) { s with heap:=h' }) :
    wpAny (model prog w) A (call (.type "enumerate") [.ref l]) Q E s:=by
  obtain ⟨⟨oc,od,odt,osl⟩,ho,hc,n,hd⟩:=hl
  have hc':oc=.type "list":=hc
  have hd':odt=.seq items n:=hd
  subst hc' hd'
  refine callType_new F.called_enumerate (by decide) (F.typeCall_enumerate_1 _) (F.newCall_enumerate_1 _) (fun obj=>F.args_object_init_2 obj _) F.entry_enumerate_new
    (meets_enum_list l items n od osl) ⟨ho,?_⟩
  have hz:(s.heap.push { cls:=.type "list_iterator",data:=.fields #[.ref l,.int 0 0] }).objs.size=s.heap.objs.size + 1:=Heap.size_push ..
  show _∧_
  rw [hz]
  have he:IsEnum ((s.heap.push { cls:=.type "list_iterator",data:=.fields #[.ref l,.int 0 0] }).push
      { cls:=.type "enumerate",data:=.fields #[.none,.bool false,.ref s.heap.objs.size,rawInt 0,.none,.none] }) (s.heap.objs.size + 1) s.heap.objs.size 0 .none:=by
    have:=Heap.get?_push_size (s.heap.push { cls:=.type "list_iterator",data:=.fields #[.ref l,.int 0 0] })
      (o:={ cls:=.type "enumerate",data:=.fields #[.none,.bool false,.ref s.heap.objs.size,rawInt 0,.none,.none] }) rfl
    rw [hz] at this;exact this
  refine ⟨⟨_,he,rfl⟩,h _ he ⟨_,Heap.get?_push_of_some _ (Heap.get?_push_size _ rfl),rfl,rfl⟩ (by rw [Heap.size_push,hz]) fun b o x=>Heap.get?_push_of_some _ (Heap.get?_push_of_some _ x)⟩
def iEnumL (K:PySem.W.Frag) (ta:TA):TI:=fun σ H R=>ta σ H fun vs H1=>∃ a,vs=[.ref a]∧(∃ xs,SqL K H1 a xs)∧R (IteL K a) H1
theorem pi_enumL {X:Cx} {elts:List Expr} {kk:Nat} {tpos:Pos} {a:Expr} {ta:TA} {p pos:Pos} (hg:Gl X "enumerate") (hm:X.mg "enumerate"=none) (ha:PA X [a] ta) (hs:starEach [a] X.env=[(false,eval a X.env)]) :
    PI X (.Tuple elts kk tpos) (.Call (.Name "enumerate" p) [a] [] pos) (iEnumL X.K ta):=by
  intro pins s σ H R I h
  refine Call_ (ld_blt I hg hm boot_enumerate (PyProof.Rows.callWith_type1 (thn (ha pos pins s σ H _ I h) fun us s1 ⟨vs,H1,I1,r1,q1⟩=>?_) hs rfl))
  obtain ⟨a,e,⟨xs,hq⟩,q⟩:=q1
  subst e
  cases r1 with
  | cons r rr =>
    cases rr
    cases r
    obtain ⟨its,rv,p,hz⟩:=I1.list hq
    refine call_enum_list p.isList fun h' he hit hsz hk=>?_
    refine wpAny_pyIter_enum (s:={ s1 with heap:=h' }) he ?_
    have I2:L2.Inv X pins σ H1 { s1 with heap:=h',toks:=s1.toks }:=I1.kept hk
    refine ⟨s1.heap.objs.size + 1,[s1.heap.objs.size + 1,s1.heap.objs.size],_,_,H1,rfl,I2,turn_enumL a s1.heap.objs.size (s1.heap.objs.size + 1),⟨⟨_,he⟩,hit⟩,fun b hb=>?_,q⟩
    have e:b=s1.heap.objs.size + 1∨b=s1.heap.objs.size:=by simpa using hb
    rcases e with rfl | rfl
    · exact I1.fpOk (Nat.le_succ _) (I1.hok.fresh (Nat.le_succ _))
    · exact I1.fpOk (Nat.le_refl _) (I1.hok.fresh (Nat.le_refl _))
theorem walk_enumL {K:PySem.W.Frag} {a:Addr} {us:List U} {vs:List V} {H:Hp} {M:MHp} (m:(M a=none∧Rd H a (.lst vs))∨KL K a vs) (r:RelUs K H M us vs):Walk K (IteL K a) ⟨none,numbered us⟩ H M:=by
  have sq:∀ H1 M1,Stp H M H1 M1→SqL K H1 a vs:=fun H1 M1 s=>by
    rcases m with ⟨m,h⟩ | k
    · exact .inl (Rd.stp s m h).2
    · exact .inr k
  refine ⟨fun H1 M1 s rm _ i u e=>?_,fun H1 M1 s rm _=>⟨vs,sq H1 M1 s,by show vs.length=(numbered us).length;rw [numbered_len,r.length]⟩⟩
  obtain ⟨w,e1,rfl⟩:=numbered_get e
  obtain ⟨v,e2,ru⟩:=r.get e1
  refine ⟨⟨vs,v,sq H1 M1 s,e2⟩,fun x H2 y=>?_⟩
  obtain ⟨p,v',y,hp,rfl,rfl⟩:=y
  have:=y vs (sq _ M1 s)
  rw [e2] at this;cases this
  have st:=Stp.laid (o:=.tup [.int i,v]) rm hp
  have rr:RelUs K H1 M1 [.int i,w] [.int i,v]:=by
    simp only [RelUs]
    exact ⟨_,_,rfl,relU_int,_,_,rfl,ru.stp s,rfl⟩
  exact ⟨st,rm.laid hp,relU_tup (rm.no hp) upd_same (rr.stp st)⟩
def uEnumL (ta:UA):UI:=fun τ M R=>ta τ M fun us M1=>match us with
  | [.lst us]=>R ⟨none,numbered us⟩ M1
  | _=>False
theorem sim_enumL {K:PySem.W.Frag} {ta:TA} {ta':UA} (h:SimA K ta ta'):SimI K (iEnumL K ta) (uEnumL ta'):=fun σ τ H M R' rs rm q R c=>h σ τ H M _ rs rm q _ fun us vs M1 H1 s1 rm1 ru h1=>by
  split at h1
  · rename_i xs
    obtain ⟨v,rfl,a⟩:=ru.one
    simp only [RelU] at a
    obtain ⟨a,vs,rfl,m,r⟩:=a
    refine ⟨a,rfl,⟨vs,?_⟩,c _ _ M1 H1 s1 rm1 (walk_enumL m r) h1⟩
    rcases m with ⟨_,m⟩ | k
    · exact .inl m
    · exact .inr k
  · exact h1.elim
theorem ui_enumerateL {D:Dat} {elts:List Expr} {kk:Nat} {tpos:Pos} {a:Expr} {p pos:Pos} {ta:UA} (hm:D.mg "enumerate"=none) (ha:PAU D [a] ta) (hg:D.sc.names.lookup ("enumerate":Str)=some .globalImplicit:=by rfl) (hs:∀ env,starEach [a] env=[(false,eval a env)]:=by intro _;rfl):PIU D (.Tuple elts kk tpos) (.Call (.Name "enumerate" p) [a] [] pos) (uEnumL ta):=by
  obtain ⟨_,q,s⟩:=ha
  exact ⟨_,fun X h=>h.K ▸ pi_enumL (by show X.env.scope.names.lookup _=_;rw [h.sc];exact hg) (by rw [h.mg];exact hm) (q X h) (hs _),sim_enumL s⟩
end U2
namespace U2
open PySem PySem.Spec PyProof.Rows L2
abbrev yH1 (h:Heap) (a:Addr):Heap:=h.push { cls:=.type "tuple_iterator",data:=.fields #[.ref a,.int 0 0] }
abbrev yH2 (h:Heap) (a c:Addr):Heap:=(yH1 h a).push { cls:=.type "list_iterator",data:=.fields #[.ref c,.int 0 0] }
abbrev yH3 (h:Heap) (a c:Addr):Heap:=(yH2 h a c).push { cls:=.type "tuple",data:=.seq #[.ref h.objs.size,.ref (yH1 h a).objs.size] }
abbrev yH4 (h:Heap) (a c:Addr):Heap:=(yH3 h a c).push { cls:=.type "tuple",data:=.seq #[.none,.none] }
abbrev yH5 (h:Heap) (a c:Addr):Heap:=(yH4 h a c).push { cls:=.type "zip",data:=.fields #[.none,.bool false,.bool false,.ref (yH2 h a c).objs.size,.ref (yH3 h a c).objs.size] }
def uZipL (ta:UA):UI:=fun τ M R=>ta τ M fun us M1=>match us with
  | [.tup us,.lst ws]=>R ⟨none,zipped us ws⟩ M1
  | _=>False
end U2
namespace Att
open PySem PySem.Spec PyProof.Rows PySem.W Calls
end Att
namespace L2
open PySem PySem.Spec PyProof.Rows
end L2
namespace U2
open PySem PySem.Spec PyProof.Rows L2
def Itr (K:PySem.W.Frag) (n:Nat) (a:Addr):It :=
  ⟨fun i H=>∃ xs x,SqL K H a xs∧xs.length=n∧i < n∧xs[n - 1 - i]?=some x,fun i H x H'=>H'=H∧∀ xs,SqL K H a xs→xs[n - 1 - i]?=some x,fun i H=>i=n⟩
theorem turn_rev {P:Program} {w:World} {K:PySem.W.Frag} {tg:Expr} (n:Nat) (a it:Addr):Turn P w K tg (Itr K n a) [it] it (fun i h=>h.IsRevIter it a ((n:Int) - 1 - (i:Int))) where
  mem:=by simp
  obj:=fun i h st b hb=>by
    have e:b=it:=by simpa using hb
    subst e
    obtain ⟨o,e,c,d⟩:=st
    exact ⟨o,e,fun v z=>by rw [d] at z;cases z⟩
  keep:=fun i h h' st k=>st.at fun o e=>k it (by simp) o e
  item:=by
    intro X hP hw hK hc i pins s σ H E I hf st hg
    subst hP hw hK
    obtain ⟨xs,x,hq,hn,hi,hx⟩:=hg
    obtain ⟨its,rv,p,hz⟩:=I.list hq
    obtain ⟨u,hu,ru⟩:=rv.get hx
    obtain ⟨f0,f1,f2,f3,f4,f5⟩:=hf it (by simp)
    have e:(n:Int) - 1 - (i:Int)=((n - 1 - i:Nat):Int):=by omega
    have st0:=st
    rw [e] at st0
    refine wpAny_pyNext_rev_item st0 p.isList (x:=u) (by simpa using hu) fun h' st' sb=>?_
    have I1:Inv X pins σ H { s with heap:=h' }:=I.turned (t':=s.toks) (fun b o hb e=>(sb.2 b hb).trans e) f0 f1 f3 f4 f5
    have e2:((n - 1 - i:Nat):Int) - 1=(n:Int) - 1 - ((i + 1:Nat):Int):=by omega
    rw [e2] at st'
    obtain ⟨o,e,c,d⟩:=id st'
    exact ⟨u,rfl,go_of (s:={ s with heap:=h' }) e c d (by decide) ⟨x,H,I1,ru,⟨rfl,fun ys hy=>by rw [I.list_inj hy hq];exact hx⟩,st',fun b hb=>(hf b hb).1⟩⟩
  done:=by
    intro X hP hw hK hc i pins s σ H E I hf st hg
    subst hP hw hK
    have hg':i=n:=hg
    subst hg'
    obtain ⟨f0,f1,f2,f3,f4,f5⟩:=hf it (by simp)
    have e:(i:Int) - 1 - (i:Int)=-1:=by omega
    rw [e] at st
    exact wpAny_pyNext_rev_end (I.ok.hd hc) st fun h' eb=>⟨rfl,I.turned (t':=s.toks) (fun b o hb e=>eb b o hb e) f0 f1 f3 f4 f5⟩
  self:=fun _ _ _ _ _ st h=>wpAny_pyIter_revIter st h
def iRev (K:PySem.W.Frag) (ta:TA):TI:=fun σ H R=>ta σ H fun vs H1=>∃ a xs,vs=[.ref a]∧SqL K H1 a xs∧R (Itr K xs.length a) H1
theorem boot_reversed:bootBuiltins "reversed"=some (.type "reversed"):=by kernel_rfl
theorem pi_rev {X:Cx} {tg:Expr} {a:Expr} {ta:TA} {p pos:Pos} (hg:Gl X "reversed") (hm:X.mg "reversed"=none) (ha:PA X [a] ta) (hs:starEach [a] X.env=[(false,eval a X.env)]) :
    PI X tg (.Call (.Name "reversed" p) [a] [] pos) (iRev X.K ta):=by
  intro pins s σ H R I h
  refine Call_ (ld_blt I hg hm boot_reversed (PyProof.Rows.callWith_type1 (thn (ha pos pins s σ H _ I h) fun us s1 ⟨vs,H1,I1,r1,q1⟩=>?_) hs rfl))
  obtain ⟨a,xs,e,hq,q⟩:=q1
  subst e
  cases r1 with
  | cons r rr =>
    cases rr
    cases r
    obtain ⟨its,rv,p,hz⟩:=I1.list hq
    have hrev:Heap.IsRevIter (s1.heap.push (revObj a ((its.toArray.size:Int) - 1))) s1.heap.objs.size a ((xs.length:Int) - 1 - ((0:Nat):Int)):=by
      refine ⟨_,Heap.get?_push_size _ rfl,rfl,?_⟩
      have e1:((its.toArray.size:Nat):Int) - 1=(xs.length:Int) - 1 - ((0:Nat):Int):=by rw [List.size_toArray,← rv.length];omega
      rw [← e1];rfl
    refine call_reversed_list p.isList ?_
    refine wpAny_pyIter_revIter (s:={ s1 with heap:=s1.heap.push (revObj a ((its.toArray.size:Int) - 1)) }) hrev ?_
    have I2:L2.Inv X pins σ H1 { s1 with heap:=s1.heap.push (revObj a ((its.toArray.size:Int) - 1)),toks:=s1.toks }:=I1.kept fun b o e=>Heap.get?_push_of_some _ e
    refine ⟨s1.heap.objs.size,[s1.heap.objs.size],_,_,H1,rfl,I2,turn_rev xs.length a s1.heap.objs.size,hrev,fun b hb=>?_,q⟩
    have e:b=s1.heap.objs.size:=by simpa using hb
    subst e
    exact I1.fpOk (Nat.le_refl _) (I1.hok.fresh (Nat.le_refl _))
theorem walk_rev {K:PySem.W.Frag} {a:Addr} {us:List U} {vs:List V} {H:Hp} {M:MHp} (m:(M a=none∧Rd H a (.lst vs))∨KL K a vs) (r:RelUs K H M us vs):Walk K (Itr K vs.length a) ⟨none,us.reverse⟩ H M:=by
  have sq:∀ H1 M1,Stp H M H1 M1→SqL K H1 a vs:=fun H1 M1 s=>by
    rcases m with ⟨m,h⟩ | k
    · exact .inl (Rd.stp s m h).2
    · exact .inr k
  refine ⟨fun H1 M1 s rm _ i u e=>?_,fun H1 M1 s rm _=>by show us.reverse.length=vs.length;rw [List.length_reverse,r.length]⟩
  have e':us.reverse[i]?=some u:=e
  have hi:i < us.length:=by
    have:=(List.getElem?_eq_some_iff.mp e').1
    simpa using this
  rw [List.getElem?_reverse hi] at e'
  obtain ⟨v,e2,ru⟩:=r.get e'
  rw [r.length] at e2 hi
  refine ⟨⟨vs,v,sq H1 M1 s,rfl,hi,e2⟩,fun x H2 y=>?_⟩
  obtain ⟨rfl,y⟩:=y
  have:=y vs (sq _ M1 s)
  rw [e2] at this;cases this
  exact ⟨Stp.refl _ _,rm,ru.stp s⟩
def uRev (ta:UA):UI:=fun τ M R=>ta τ M fun us M1=>match us with
  | [.lst us]=>R ⟨none,us.reverse⟩ M1
  | _=>False
theorem sim_rev {K:PySem.W.Frag} {ta:TA} {ta':UA} (h:SimA K ta ta'):SimI K (iRev K ta) (uRev ta'):=fun σ τ H M R' rs rm q R c=>h σ τ H M _ rs rm q _ fun us vs M1 H1 s1 rm1 ru h1=>by
  split at h1
  · rename_i xs
    obtain ⟨v,rfl,a⟩:=ru.one
    simp only [RelU] at a
    obtain ⟨a,vs,rfl,m,r⟩:=a
    refine ⟨a,vs,rfl,?_,c _ _ M1 H1 s1 rm1 (walk_rev m r) h1⟩
    rcases m with ⟨_,m⟩ | k
    · exact .inl m
    · exact .inr k
  · exact h1.elim
theorem ui_reversed {D:Dat} {tg:Expr} {a:Expr} {p pos:Pos} {ta:UA} (hm:D.mg "reversed"=none) (ha:PAU D [a] ta) (hg:D.sc.names.lookup ("reversed":Str)=some .globalImplicit:=by rfl) (hs:∀ env,starEach [a] env=[(false,eval a env)]:=by intro _;rfl):PIU D tg (.Call (.Name "reversed" p) [a] [] pos) (uRev ta):=by
  obtain ⟨_,q,s⟩:=ha
  exact ⟨_,fun X h=>h.K ▸ pi_rev (by show X.env.scope.names.lookup _=_;rw [h.sc];exact hg) (by rw [h.mg];exact hm) (q X h) (hs _),sim_rev s⟩
end U2
namespace U2
open PySem PySem.Spec PyProof.Rows L2
theorem nolen_lri:typeLookup (.type "list_reverseiterator") "__len__"=pure none:=by rw [typeLookup_type,builtinLookup_eq_fast];kernel_rfl
theorem hint_lri:typeLookup (.type "list_reverseiterator") "__length_hint__"=pure (some (.builtin "list_reverseiterator.__length_hint__")):=by rw [typeLookup_type,builtinLookup_eq_fast];kernel_rfl
section
variable {prog:Program} {w:World} {A:Around} {E:Value→Shared→Prop} {s:Shared}
theorem extend_rev {R:Result→Shared→Prop} {it l:Addr} {items:Array Value} (hh:A.handled=none) (hit:s.heap.IsRevIter it l ((items.size:Int) - 1)) (hl:s.heap.IsList l items) (hne:l≠it) (hlen:items.size≤sizeLine) (S:Addr) (res:Value) (c₀:Nat)
    (hS:s.heap.get? S=some { cls:=.type "list",data:=.seq #[] c₀ }) (hSl:S≠l) (hSi:S≠it)
    (hR:∀ h' tk acc' c',(∀ b o,b≠S→b≠it→s.heap.get? b=some o→h'.get? b=some o)→h'.get? S=some { cls:=.type "list",dict:=none,data:=.seq acc' c',slots:=#[] } →
      ItemsOf (fun i v=>items[items.size - 1 - i]?=some v) acc' items.size→R (.ok (.ret res)) { s with heap:=h',toks:=tk }) :
    wpAny (model prog w) A.in1 (Builtin.List.listExtendWith (.ref S) (.ref it) res)
      (fun fin s'=>match fin with | .done f=>R (.ok f) s' | .again c'=>c'.quiet=true∧codeAny (model prog w) A c' R s') (fun e s'=>R (.error e) s') s:=by
  have hSf:S ∉ [it,l]:=fun hm=>by
    rcases List.mem_cons.mp hm with e | hm
    · exact hSi e
    · exact hSl (List.mem_singleton.mp hm)
  have W:=(Walks.listRev (prog:=prog) (w:=w) (A:=A.in1) hh it l hne items).toS
  have e0:((items.size:Int) - 1 - ((0:Nat):Int))=(items.size:Int) - 1:=by omega
  have hst:(0≤items.size∧s.heap.IsRevIter it l ((items.size:Int) - 1 - ((0:Nat):Int))∧s.heap.IsList l items):=⟨Nat.zero_le _,by rw [e0];exact hit,hl⟩
  have h1:Builtin.List.listSameRef (.ref S) (.ref it)=false:=by simp [Builtin.List.listSameRef,hSi]
  unfold Builtin.List.listExtendWith
  refine wpAny_bind (wpAny_typeOf hit.typeIs ?_)
  rw [if_neg (by rw [h1];decide)]
  refine wpAny_bind (wpAny_pyIter_revIter hit ?_)
  refine wpAny_bind (wpAny_holding ?_)
  unfold Builtin.List.listLengthHint
  refine wpAny_bind (wpAny_specialOf hit.typeIs nolen_lri ?_)
  show wpAny _ A.in1 (specialOf (Value.ref it) (Str.ofString "__length_hint__") >>= _) _ _ _
  refine wpAny_bind (wpAny_specialOf hit.typeIs hint_lri ?_)
  generalize hid:("list_reverseiterator.__length_hint__":String)=id0
  wp_delta
  rw [show splitId id0=some ("list_reverseiterator","__length_hint__") from by subst hid;decide +kernel]
  subst hid
  refine wpAny_bind (wpAny_isInstance (b:=true) hit.typeIs (by rw [isSubtype_type];kernel_rfl) ?_)
  refine wpAny_pure ?_
  rw [if_neg (by decide)]
  refine wpAny_pure ⟨plainId_quiet F.plain_extend_loop _,codeAny_extend_loopS W hlen S hSf res items.size 0 _ #[] c₀ rfl (Nat.zero_le _) hst hS (ItemsOf.nil _) fun s' acc' c' hm hS' hacc=>?_⟩
  rw [Moved.eq_with hm]
  refine hR s'.heap s'.toks acc' c' (fun b o hb hb2 e=>hm.heap b o (fun hmem=>?_) e) hS' hacc
  rcases List.mem_cons.mp hmem with e' | hmem
  · exact hb e'
  · exact hb2 (List.mem_singleton.mp hmem)
theorem list_init_rev {R:Result→Shared→Prop} {it l:Addr} {items:Array Value} (hh:A.handled=none) (hit:s.heap.IsRevIter it l ((items.size:Int) - 1)) (hl:s.heap.IsList l items) (hne:l≠it) (hlen:items.size≤sizeLine) (S:Addr)
    (hS:s.heap.get? S=some { cls:=.type "list",data:=.seq #[] }) (hSl:S≠l) (hSi:S≠it)
    (hR:∀ h' tk acc' c',(∀ b o,b≠S→b≠it→s.heap.get? b=some o→h'.get? b=some o)→h'.get? S=some { cls:=.type "list",dict:=none,data:=.seq acc' c',slots:=#[] } →
      ItemsOf (fun i v=>items[items.size - 1 - i]?=some v) acc' items.size→R (.ok (.ret .none)) { s with heap:=h',toks:=tk }) :
    wpAny (model prog w) A.in1 (Builtin.«list.__init__» ⟨[.ref S,.ref it],[]⟩)
      (fun fin s'=>match fin with | .done f=>R (.ok f) s' | .again c'=>c'.quiet=true∧codeAny (model prog w) A c' R s') (fun e s'=>R (.error e) s') s:=by
  show wpAny _ _ (do let old ← Builtin.List.listItems (.ref S);Builtin.List.listUpdate (.ref S) (fun _=>#[]);letGo old.toList.reverse;Builtin.List.listExtendWith (.ref S) (.ref it) .none) _ _ s
  refine wpAny_bind ?_
  unfold Builtin.List.listItems
  refine wpAny_bind (wpAny_seqItems hS rfl (wpAny_pure ?_))
  show wpAny _ _ (updateSeq S (fun _=>#[]) >>= fun _=>letGo (#[]:Array Value).toList.reverse >>= fun _=>Builtin.List.listExtendWith (.ref S) (.ref it) .none) _ _ s
  refine wpAny_bind (wpAny_updateSeq hS rfl ?_)
  have hS₂:=Heap.get?_update_self (Obj.mapSeq (fun _=>(#[]:Array Value))) hS rfl
  have oth:∀ b o,b≠S→s.heap.get? b=some o→(s.heap.update S (Obj.mapSeq (fun _=>(#[]:Array Value)))).get? b=some o :=
    fun b o hb e=>(Heap.get?_update_other _ _ (Ne.symm hb)).trans e
  refine wpAny_bind (wpAny_letGo ?_)
  refine extend_rev hh (hit.at fun o e=>oth it o (Ne.symm hSi) e) (hl.at fun o e=>oth l o (Ne.symm hSl) e) hne hlen S .none _ hS₂ hSl hSi fun h' tk acc' c' hk hS' hacc=>?_
  exact hR h' tk acc' c' (fun b o hb hb2 e=>hk b o hb hb2 (oth b o hb e)) hS' hacc
theorem call_list_rev {Q:Value→Shared→Prop} {it l:Addr} {items:Array Value} (hh:A.handled=none) (hit:s.heap.IsRevIter it l ((items.size:Int) - 1)) (hl:s.heap.IsList l items) (hne:l≠it) (hlen:items.size≤sizeLine)
    (hQ:∀ h' tk acc' c',(∀ b o,b≠it→s.heap.get? b=some o→h'.get? b=some o) →
      h'.get? s.heap.objs.size=some { cls:=.type "list",dict:=none,data:=.seq acc' c',slots:=#[] }→ItemsOf (fun i v=>items[items.size - 1 - i]?=some v) acc' items.size→Q (.ref s.heap.objs.size) { s with heap:=h',toks:=tk }) :
    wpAny (model prog w) A (call (.type "list") [.ref it]) Q E s:=by
  obtain ⟨oi,hoi,_⟩:=id hit
  obtain ⟨ol,hol,_⟩:=id hl
  refine callType_codes (Q₁:=fun obj s₁=>obj=.ref s.heap.objs.size∧s₁={ s with heap:=s.heap.push { cls:=.type "list",data:=.seq #[] } }) F.called_list (F.typeCall_list_1 _) F.entry_list_init
    (code_list_new _ ⟨rfl,rfl⟩) fun obj s₁ h₁=>?_
  obtain ⟨rfl,rfl⟩:=h₁
  have hS:(s.heap.push { cls:=.type "list",data:=.seq #[] }).get? s.heap.objs.size=some { cls:=.type "list",data:=.seq #[] }:=Heap.get?_push_size _ rfl
  refine ⟨⟨_,hS,rfl⟩,F.args_list_init_2 _ _,list_init_rev (A:=A.in1) hh (hit.at fun o e=>Heap.get?_push_of_some _ e) (hl.at fun o e=>Heap.get?_push_of_some _ e) hne hlen _ hS (fun z=>Nat.lt_irrefl _ (z ▸ Heap.lt_size hol)) (fun z=>Nat.lt_irrefl _ (z ▸ Heap.lt_size hoi)) fun h' tk acc' c' hk hS' hacc=>?_⟩
  exact ⟨rfl,hQ h' tk acc' c' (fun b o hb e=>hk b o (Nat.ne_of_lt (Heap.lt_size e)) hb (Heap.get?_push_of_some _ e)) hS' hacc⟩
end
theorem boot_list':bootBuiltins "list"=some (.type "list"):=by kernel_rfl
theorem items_rev {its:List Value} {acc:Array Value} (h:ItemsOf (fun i v=>its.toArray[its.toArray.size - 1 - i]?=some v) acc its.toArray.size):acc=its.reverse.toArray:=by
  obtain ⟨h1,h2⟩:=h
  have hs:its.toArray.size=its.length:=by simp
  rw [hs] at h1
  refine Array.ext (by simpa using h1) fun j hj hj2=>?_
  have:=h2 j acc[j] (by simp [hj])
  rw [hs] at this
  have h3:its[its.length - 1 - j]?=some acc[j]:=by simpa using this
  have h4:its.reverse[j]?=some acc[j]:=by rw [List.getElem?_reverse (by omega)];exact h3
  have h5:=(List.getElem?_eq_some_iff.mp h4).2
  simpa using h5.symm
def tListRev (K:PySem.W.Frag) (ta:TA):TE:=fun σ H Q=>ta σ H fun vs H1=>∃ a xs,vs=[.ref a]∧SqL K H1 a xs∧∀ p,H1 p=none→Q (.ref p) (upd H1 p (.lst xs.reverse))
theorem pe_listRev {X:Cx} {a:Expr} {ta:TA} {p1 p2 pos1 pos2:Pos} (hc:X.calm=true) (hgL:Gl X "list") (hmL:X.mg "list"=none) (hgR:Gl X "reversed") (hmR:X.mg "reversed"=none) (ha:PA X [a] ta) (hs:starEach [a] X.env=[(false,eval a X.env)])
    (hs2:starEach [.Call (.Name "reversed" p2) [a] [] pos2] X.env=[(false,eval (.Call (.Name "reversed" p2) [a] [] pos2) X.env)]) :
    PE X (.Call (.Name "list" p1) [.Call (.Name "reversed" p2) [a] [] pos2] [] pos1) (tListRev X.K ta):=by
  intro pins s σ H Q I h
  refine Call_ (ld_blt I hgL hmL boot_list' (PyProof.Rows.callWith_type1 ?_ hs2 rfl))
  rw [hs2]
  show wpAny _ _ (spliced ((false,eval (.Call (.Name "reversed" p2) [a] [] pos2) X.env) :: backTo pos1 [])) _ _ s
  refine Calls.spliced_cons (Call_ (ld_blt I hgR hmR boot_reversed (PyProof.Rows.callWith_type1 (thn (ha pos2 pins s σ H _ I h) fun us s1 ⟨vs,H1,I1,r1,q1⟩=>?_) hs rfl)))
  obtain ⟨b,xs,e,hq,q⟩:=q1
  subst e
  cases r1 with
  | cons r rr =>
    cases rr
    cases r
    obtain ⟨its,rv,pl,hz⟩:=I1.list hq
    have hl:=pl.isList
    obtain ⟨ol,hol,_⟩:=id hl
    refine call_reversed_list hl (Calls.spliced_nil ?_)
    have hrev:Heap.IsRevIter (s1.heap.push (revObj b ((its.toArray.size:Int) - 1))) s1.heap.objs.size b ((its.toArray.size:Int) - 1):=⟨_,Heap.get?_push_size _ rfl,rfl,rfl⟩
    refine call_list_rev (s:={ s1 with heap:=s1.heap.push (revObj b ((its.toArray.size:Int) - 1)) }) (I1.ok.hd hc) hrev (hl.at fun o e=>Heap.get?_push_of_some _ e) (Nat.ne_of_lt (Heap.lt_size hol)) (by rw [List.size_toArray,← rv.length];exact hz) fun h' tk acc' c' hk hS' hacc=>?_
    have hacc':=items_rev hacc
    subst hacc'
    have hsz:(s1.heap.push (revObj b ((its.toArray.size:Int) - 1))).objs.size=s1.heap.objs.size + 1:=Heap.size_push ..
    have hD:H1 (s1.heap.push (revObj b ((its.toArray.size:Int) - 1))).objs.size=none:=I1.hok.fresh (by rw [hsz];omega)
    refine ⟨.ref (s1.heap.push (revObj b ((its.toArray.size:Int) - 1))).objs.size,_,I1.laid (t':=tk) (o:=.lst xs.reverse) (fun c o e=>hk c o (Nat.ne_of_lt (Heap.lt_size e)) (Heap.get?_push_of_some _ e)) (by rw [hsz];omega) ⟨by rw [List.length_reverse];exact hz,its.reverse,c',rv.reverse,hS'⟩,rfl,q _ hD⟩
def uListRev (o:Bool) (ta:UA):UE:=fun τ M Q=>ta τ M fun us M1=>match us with
  | [x]=>match view M1 x with
    | .lst us=>mkL o us.reverse M1 Q
    | _=>False
  | _=>False
theorem sim_listRev {K:PySem.W.Frag} {o:Bool} {ta:TA} {ta':UA} (h:SimA K ta ta'):SimE K (tListRev K ta) (uListRev o ta'):=fun σ τ H M Q' rs rm q Q c=>h σ τ H M _ rs rm q _ fun us vs M1 H1 s1 rm1 ru h1=>by
  split at h1
  · rename_i x
    split at h1
    · rename_i ws e
      obtain ⟨v,rfl,a1⟩:=ru.one
      obtain ⟨a,zs,rfl,sq,r2⟩:=view_lst rm1 a1 e
      exact ⟨a,zs,rfl,sq,fun p hp=>(Cont.stp c s1).lst rm1 r2.reverse hp h1⟩
    · exact h1.elim
  · exact h1.elim
theorem ue_listRev {D:Dat} (own:Bool:=false) {a:Expr} {p1 p2 pos1 pos2:Pos} {ta:UA} (hmL:D.mg "list"=none) (hmR:D.mg "reversed"=none) (ha:PAU D [a] ta) (hgL:D.sc.names.lookup ("list":Str)=some .globalImplicit:=by rfl) (hgR:D.sc.names.lookup ("reversed":Str)=some .globalImplicit:=by rfl)
    (hs:∀ env,starEach [a] env=[(false,eval a env)]:=by intro _;rfl) (hs2:∀ env,starEach [.Call (.Name "reversed" p2) [a] [] pos2] env=[(false,eval (.Call (.Name "reversed" p2) [a] [] pos2) env)]:=by intro _;rfl) :
    PEU D (.Call (.Name "list" p1) [.Call (.Name "reversed" p2) [a] [] pos2] [] pos1) (uListRev own ta):=by
  obtain ⟨_,q,s⟩:=ha
  refine ⟨_,fun X h=>?_,sim_listRev s⟩
  have:=pe_listRev (X:=X) (p1:=p1) (p2:=p2) (pos1:=pos1) (pos2:=pos2) h.calm (by show X.env.scope.names.lookup _=_;rw [h.sc];exact hgL) (by rw [h.mg];exact hmL) (by show X.env.scope.names.lookup _=_;rw [h.sc];exact hgR) (by rw [h.mg];exact hmR) (q X h) (hs _) (hs2 _)
  rw [h.K] at this
  exact this
end U2
namespace U2
open PySem PySem.Spec PyProof.Rows L2
section
variable {prog:Program} {w:World} {A:Around} {E:Value→Shared→Prop} {s:Shared}
end
def uSetFrom (te to ti:UE):US:=fun D τ M=>te τ M fun v M1=>to τ M1 fun x M2=>ti τ M2 fun y M3=>match v,x,y with
  | .ref b,.ref l,.int a=>match M3 b,M3 l with
    | some (.lst ws),some (.lst us)=>l≠b∧0≤a∧a≤us.length∧us.length + ws.length≤sizeLine∧D.nx τ (mup M3 l (.lst (us.take a.toNat++ws)))
    | _,_=>False
  | _,_,_=>False
end U2
namespace U2
open PySem PySem.Spec PyProof.Rows L2
theorem pe_notT {X:Cx} {a:Expr} {ta:TE} {pos:Pos} (ha:PE X a ta):PE X (.UnaryOp .Not a pos) (fun σ H Q=>ta σ H fun x H1=>∃ k,TruV X.K x H1 k∧Q (.bl (!k)) H1):=by
  intro pins s σ H Q I h
  refine UnaryOp_ (thn (ha pins s σ H _ I h) fun v s1 ⟨x,H1,I1,r1,q1⟩=>?_)
  obtain ⟨k,tk,q⟩:=q1
  exact not_of (thn (tru_ok pins s1 σ H1 x v (fun b H'=>Q (.bl (!b)) H') I1 r1 ⟨k,tk,q⟩) fun b s2 ⟨H2,I2,q2⟩=>⟨.bl (!b),H2,I2,rfl,q2⟩)
def uNotT (ta:UE):UE:=fun τ M Q=>uTru ta τ M fun b M1=>Q (.bl (!b)) M1
theorem sim_notT {K:PySem.W.Frag} {t:TE} {t':UE} (h:SimE K t t'):SimE K (fun σ H Q=>t σ H fun x H1=>∃ k,TruV K x H1 k∧Q (.bl (!k)) H1) (uNotT t'):=fun σ τ H M Q' rs rm q Q c =>
  sim_tru h σ τ H M (fun b M1=>Q' (.bl (!b)) M1) rs rm q (fun b H1=>Q (.bl (!b)) H1) fun b M1 H1 s1 rm1 h1=>c _ _ M1 H1 s1 rm1 relU_bl h1
theorem ue_notT {D:Dat} {a:Expr} {ta:UE} {pos:Pos} (ha:PEU D a ta):PEU D (.UnaryOp .Not a pos) (uNotT ta):=by
  obtain ⟨_,p,s⟩:=ha
  refine ⟨_,fun X h=>?_,sim_notT s⟩
  have:=pe_notT (X:=X) (pos:=pos) (p X h)
  rw [h.K] at this
  exact this
end U2
namespace U2
open PySem PySem.Spec PyProof.Rows L2
abbrev zlH1 (h:Heap) (a:Addr):Heap:=h.push { cls:=.type "list_iterator",data:=.fields #[.ref a,.int 0 0] }
abbrev zlH2 (h:Heap) (a c:Addr):Heap:=(zlH1 h a).push { cls:=.type "list_iterator",data:=.fields #[.ref c,.int 0 0] }
abbrev zlH3 (h:Heap) (a c:Addr):Heap:=(zlH2 h a c).push { cls:=.type "tuple",data:=.seq #[.ref h.objs.size,.ref (zlH1 h a).objs.size] }
abbrev zlH4 (h:Heap) (a c:Addr):Heap:=(zlH3 h a c).push { cls:=.type "tuple",data:=.seq #[.none,.none] }
abbrev zlH5 (h:Heap) (a c:Addr):Heap:=(zlH4 h a c).push { cls:=.type "zip",data:=.fields #[.none,.bool false,.bool false,.ref (zlH2 h a c).objs.size,.ref (zlH3 h a c).objs.size] }
def uZipLL (ta:UA):UI:=fun τ M R=>ta τ M fun us M1=>match us with
  | [.lst us,.lst ws]=>R ⟨none,zipped us ws⟩ M1
  | _=>False
def uNotB:UR2:=fun x y M Q=>match x,y with
  | .bl i,.bl j=>Q (.bl (!decide (i=j))) M
  | _,_=>False
def uIsB2:UR2:=fun x y M Q=>match x,y with
  | .bl i,.bl j=>Q (.bl (decide (i=j))) M
  | _,_=>False
end U2
namespace U2
open PySem PySem.Spec PyProof.Rows L2
theorem DatVs.len {K:PySem.W.Frag} {H:Hp}:∀ {ds:List PyData} {vs:List V},DatVs K H ds vs→ds.length=vs.length
  | [],vs,h=>by simp only [DatVs] at h;subst h;rfl
  | d :: ds,vs,h=>by
    simp only [DatVs] at h
    obtain ⟨v,vs',rfl,_,h2⟩:=h
    simp only [List.length_cons,DatVs.len h2]
end U2
namespace U2
open PySem PySem.Spec PyProof.Rows L2
def NoKey (_:PySem.W.Frag):Prop:=True
def keyU:U→Option Key
  | .int i=>some (.inl i)
  | .str x=>some (.inr x)
  | _=>none
def keysU:List U→Option (List Key)
  | []=>some []
  | u :: us=>match keyU u,keysU us with
    | some k,some ks=>some (k :: ks)
    | _,_=>none
def kU:Key→U
  | .inl i=>.int i
  | .inr x=>.str x
theorem keyU_kU (k:Key):keyU (kU k)=some k:=by cases k <;> rfl
theorem keysU_kU:∀ ks:List Key,keysU (ks.map kU)=some ks
  | []=>rfl
  | k :: ks=>by simp only [List.map_cons,keysU,keyU_kU,keysU_kU ks]
theorem keyU_rel {K:PySem.W.Frag} {H:Hp} {M:MHp} {u:U} {v:V} {k:Key} (r:RelU K H M u v) (e:keyU u=some k):v=kV k:=by
  cases u with
  | int i=>cases e;exact r.int
  | str x=>cases e;exact r.str
  | _=>cases e
theorem keysU_rel {K:PySem.W.Frag} {H:Hp} {M:MHp}:∀ {us:List U} {vs:List V} {ks:List Key},RelUs K H M us vs→keysU us=some ks→vs=ks.map kV
  | [],_,_,r,e=>by cases e;exact r.inv_nil
  | u :: us,_,ks,r,e=>by
    obtain ⟨v,vs',rfl,a,b⟩:=r.inv_cons
    simp only [keysU] at e
    cases e1:keyU u with
    | none=>rw [e1] at e;cases e
    | some k =>
      cases e2:keysU us with
      | none=>rw [e1,e2] at e;cases e
      | some ks' =>
        rw [e1,e2] at e;cases e
        rw [keyU_rel a e1,keysU_rel b e2];rfl
section
variable {κ:Type} [DecidableEq κ]
def valU (kvs:List (κ × U)) (k:κ):Option U:=(kvs.find? fun kv=>decide (kv.1=k)).map (·.2)
def putU (kvs:List (κ × U)) (k:κ) (u:U):List (κ × U) :=
  if (kvs.any fun kv=>decide (kv.1=k))=true then kvs.map (fun kv=>if kv.1=k then (kv.1,u) else kv) else kvs++[(k,u)]
theorem valU_pos {p:κ × U} {r:List (κ × U)} {k:κ} (e:p.1=k):valU (p :: r) k=some p.2:=by simp [valU,List.find?_cons,e]
theorem valU_neg {p:κ × U} {r:List (κ × U)} {k:κ} (e:¬ p.1=k):valU (p :: r) k=valU r k:=by simp [valU,List.find?_cons,e]
theorem valU_any (k:κ):∀ kvs:List (κ × U),(kvs.any fun kv=>decide (kv.1=k))=(valU kvs k).isSome
  | []=>rfl
  | p :: r=>by
    rw [List.any_cons]
    by_cases e:p.1=k
    · simp only [valU_pos e,decide_eq_true e,Bool.true_or,Option.isSome_some]
    · rw [valU_neg e,decide_eq_false e,Bool.false_or];exact valU_any k r
theorem putU_new {kvs:List (κ × U)} {k:κ} {u:U} (h:valU kvs k=none):putU kvs k u=kvs++[(k,u)]:=by
  unfold putU
  rw [valU_any,h]
  exact if_neg (by decide)
theorem putU_old {kvs:List (κ × U)} {k:κ} {u w:U} (h:valU kvs k=some w):putU kvs k u=kvs.map (fun kv=>if kv.1=k then (kv.1,u) else kv):=by
  unfold putU
  rw [valU_any,h]
  exact if_pos rfl
theorem putU_len (kvs:List (κ × U)) (k:κ) (u:U):(putU kvs k u).length≤kvs.length + 1:=by
  unfold putU
  split
  · rw [List.length_map];omega
  · rw [List.length_append,List.length_cons,List.length_nil];omega
variable {K:PySem.W.Frag} {H:Hp} {M:MHp}
theorem RelKv.any {kvs:List (κ × U)} {ws:List (κ × V)} (r:RelKv K H M kvs ws) (k:κ):(kvs.any fun kv=>decide (kv.1=k))=ws.any fun kv=>decide (kv.1=k):=by
  unfold RelKv at r
  induction r with
  | nil=>rfl
  | cons h t ih=>rw [List.any_cons,List.any_cons,ih,h.1]
def RelOU (K:PySem.W.Frag) (H:Hp) (M:MHp):Option U→Option V→Prop
  | none,none=>True
  | some u,some v=>RelU K H M u v
  | _,_=>False
theorem RelKv.val {kvs:List (κ × U)} {ws:List (κ × V)} (r:RelKv K H M kvs ws) (k:κ):RelOU K H M (valU kvs k) (valV ws k):=by
  unfold RelKv at r
  induction r with
  | nil=>exact True.intro
  | @cons p q ps qs h t ih =>
    obtain ⟨h1,h2⟩:=h
    by_cases e:p.1=k
    · rw [valU_pos e,valV_pos (h1.symm.trans e)];exact h2
    · rw [valU_neg e,valV_neg (fun z=>e (h1.trans z))];exact ih
theorem RelKv.repl {kvs:List (κ × U)} {ws:List (κ × V)} (r:RelKv K H M kvs ws) (k:κ) {u:U} {v:V} (ru:RelU K H M u v):RelKv K H M (kvs.map fun kv=>if kv.1=k then (kv.1,u) else kv) (ws.map fun kv=>if kv.1=k then (kv.1,v) else kv):=by
  unfold RelKv at r ⊢
  induction r with
  | nil=>exact .nil
  | @cons p q ps qs h t ih =>
    rw [List.map_cons,List.map_cons]
    refine .cons ?_ ih
    obtain ⟨h1,h2⟩:=h
    by_cases e:p.1=k
    · rw [if_pos e,if_pos (h1.symm.trans e)];exact ⟨h1,ru⟩
    · rw [if_neg e,if_neg (fun z=>e (h1.trans z))];exact ⟨h1,h2⟩
theorem RelKv.put {kvs:List (κ × U)} {ws:List (κ × V)} (r:RelKv K H M kvs ws) (k:κ) {u:U} {v:V} (ru:RelU K H M u v):RelKv K H M (putU kvs k u) (putK ws k v):=by
  unfold putU putK
  rw [r.any k]
  split
  · exact r.repl k ru
  · exact Paired.snoc r ⟨rfl,ru⟩
theorem RelKv.length {kvs:List (κ × U)} {ws:List (κ × V)} (r:RelKv K H M kvs ws):kvs.length=ws.length:=Paired.length r
theorem dic_kv:∀ {ws:List (κ × V)} {us:List U},RelUs K H M us (ws.map (·.2))→RelKv K H M ((ws.map (·.1)).zip us) ws
  | [],us,r=>by
    have:=r.length
    cases us with
    | nil=>exact .nil
    | cons _ _=>simp at this
  | w :: ws,us,r=>by
    cases us with
    | nil=>have:=r.length;simp at this
    | cons u us =>
      obtain ⟨v,vs',e,a,b⟩:=r.inv_cons
      rw [List.map_cons] at e
      cases e
      exact .cons ⟨rfl,a⟩ (dic_kv b)
end
def hd1:List Key→Key
  | [k]=>k
  | _=>.inl 0
def dvw (M:MHp):U→Option MO
  | .ref a=>M a
  | .dic ks true us=>some (.dT (ks.zip us))
  | .dic ks false us=>some (.dK ((ks.map hd1).zip us))
  | _=>none
section
variable {K:PySem.W.Frag} {H:Hp} {M:MHp} {x y:U} {v u:V}
theorem dvw_K {kvs:List (Key × U)} (rm:RelM K H M) (r:RelU K H M x v) (e:dvw M x=some (.dK kvs)):∃ a ws,v=.ref a∧Rd H a (.dK ws)∧RelKv K H M kvs ws:=by
  cases x with
  | ref a=>obtain ⟨ws,h1,h2⟩:=rm a _ e;exact ⟨a,ws,r.ref,.inl h1,h2⟩
  | dic ks tk us =>
    cases tk with
    | true=>cases e
    | false =>
      simp only [dvw] at e
      cases e
      simp only [RelU] at r
      obtain ⟨a,vs,rfl,m,⟨ws,h1,rfl,rfl⟩,ru⟩:=r
      refine ⟨a,ws,rfl,h1,?_⟩
      have e1:(ws.map (fun p=>[p.1])).map hd1=ws.map (·.1):=by rw [List.map_map];rfl
      rw [e1];exact dic_kv ru
  | _=>cases e
theorem dvw_T {kvs:List (List Key × U)} (rm:RelM K H M) (r:RelU K H M x v) (e:dvw M x=some (.dT kvs)):∃ a ws,v=.ref a∧Rd H a (.dT ws)∧RelKv K H M kvs ws:=by
  cases x with
  | ref a=>obtain ⟨ws,h1,h2⟩:=rm a _ e;exact ⟨a,ws,r.ref,.inl h1,h2⟩
  | dic ks tk us =>
    cases tk with
    | false=>cases e
    | true =>
      simp only [dvw] at e
      cases e
      simp only [RelU] at r
      obtain ⟨a,vs,rfl,m,⟨ws,h1,rfl,rfl⟩,ru⟩:=r
      exact ⟨a,ws,rfl,h1,dic_kv ru⟩
  | _=>cases e
theorem key_tup {ys:List U} {ks:List Key} (hk:NoKey K) (r:RelU K H M (.tup ys) u) (e:keysU ys=some ks):∃ b,u=.ref b∧H b=some (.tup (ks.map kV)):=by
  simp only [RelU] at r
  obtain ⟨b,vs,rfl,h,ru⟩:=r
  have:=keysU_rel ru e
  subst this
  exact ⟨b,rfl,h.2⟩
def dLook (tk:Bool) (M:MHp) (x y:U):Option (Option U):=match tk with
  | false=>match dvw M x,keyU y with
    | some (.dK kvs),some k=>some (valU kvs k)
    | _,_=>none
  | true=>match dvw M x,y with
    | some (.dT kvs),.tup ys=>(keysU ys).map (valU kvs)
    | _,_=>none
theorem dLook_rel {tk:Bool} {o:Option U} (hk:tk=true→NoKey K) (rm:RelM K H M) (rx:RelU K H M x v) (ry:RelU K H M y u) (e:dLook tk M x y=some o):∃ a ov,v=.ref a∧DGet H a u ov∧RelOU K H M o ov:=by
  cases tk with
  | false =>
    simp only [dLook] at e
    split at e
    · rename_i kvs k e1 e2
      cases e
      obtain ⟨a,ws,rfl,h1,h2⟩:=dvw_K rm rx e1
      have:=keyU_rel ry e2
      subst this
      exact ⟨a,_,rfl,.inl ⟨_,k,h1,rfl,rfl⟩,h2.val k⟩
    · cases e
  | true =>
    simp only [dLook] at e
    split at e
    · rename_i kvs ys e1
      obtain ⟨a,ws,rfl,h1,h2⟩:=dvw_T rm rx e1
      cases e3:keysU ys with
      | none=>rw [e3] at e;cases e
      | some ks =>
        rw [e3] at e;cases e
        obtain ⟨b,rfl,hb⟩:=key_tup (hk rfl) ry e3
        exact ⟨a,_,rfl,.inr ⟨_,ks,b,h1,rfl,hb,rfl⟩,h2.val ks⟩
    · cases e
end
def uDGet (tk:Bool):UR2:=fun x y M Q=>match dLook tk M x y with
  | some (some u)=>Q u M
  | _=>False
def rDGet:R2:=fun x y H Q=>∃ a v,x=.ref a∧DGet H a y (some v)∧Q v H
theorem sim_dget {K:PySem.W.Frag} {tk:Bool} (hk:tk=true→NoKey K):SimR2 K rDGet (uDGet tk):=fun x y u w H M Q' rm ru rw h Q c=>by
  unfold uDGet at h
  split at h
  · rename_i z e
    obtain ⟨a,ov,rfl,g,r⟩:=dLook_rel hk rm ru rw e
    cases ov with
    | none=>exact r.elim
    | some v=>exact ⟨a,v,rfl,g,c.here rm r h⟩
  · exact h.elim
section
variable {D:Dat} {a b c e o i:Expr} {ta tb tc te to ti:UE} {pos p:Pos} {es:List Expr} {tas:UA} {x:Str}
theorem nokF {K:PySem.W.Frag}:false=true→NoKey K:=fun h=>by cases h
theorem ue_dget (tk:Bool) (hk:tk=true→NoKey D.K) (ha:PEU D a ta) (hb:PEU D b tb) (hs:NoSl b:=by intro _ _;rfl):PEU D (.Subscript a b pos) (uOp (uDGet tk) ta tb):=by
  obtain ⟨_,p,s⟩:=ha;obtain ⟨_,q,r⟩:=hb
  exact ⟨tOp rDGet _ _,fun X h=>pe_dget (hu_of h.room) (p X h) (q X h) hs,sim_op (sim_dget hk) s r⟩
def uDIn (tk neg:Bool):UR2:=fun y x M Q=>match dLook tk M x y with
  | some o=>Q (.bl (if neg then !o.isSome else o.isSome)) M
  | none=>False
def mD0 (tk:Bool):MO:=if tk then .dT [] else .dK []
def uDNew (tk:Bool):UE:=fun _ M Q=>∀ p,M p=none→Q (.ref p) (mup M p (mD0 tk))
theorem ue_dnew (tk:Bool):PEU D (.Dict [] [] pos) (uDNew tk):=by
  cases tk with
  | false =>
    refine ⟨tDNewK,fun X h=>pe_dnewK,fun σ τ H M Q' rs rm h Q c p hp=>?_⟩
    have st:Stp H M (upd H p (.dK [])) (mup M p (.dK [])):=Stp.own rm hp
    exact c (.ref p) _ _ _ st (rm.put st ⟨[],upd_same,.nil⟩) relU_ref (h p (rm.no hp))
  | true =>
    refine ⟨tDNewT,fun X h=>pe_dnewT,fun σ τ H M Q' rs rm h Q c p hp=>?_⟩
    have st:Stp H M (upd H p (.dT [])) (mup M p (.dT [])):=Stp.own rm hp
    exact c (.ref p) _ _ _ st (rm.put st ⟨[],upd_same,.nil⟩) relU_ref (h p (rm.no hp))
def uDPut (tk:Bool) (te to ti:UE):US:=fun D τ M=>te τ M fun v M1=>to τ M1 fun x M2=>ti τ M2 fun y M3=>match x with
  | .ref a=>match tk with
    | false=>match M3 a,keyU y with
      | some (.dK kvs),some k=>kvs.length < sizeLine∧D.nx τ (mup M3 a (.dK (putU kvs k v)))
      | _,_=>False
    | true=>match M3 a,y with
      | some (.dT kvs),.tup ys=>match keysU ys with
        | some ks=>kvs.length < sizeLine∧D.nx τ (mup M3 a (.dT (putU kvs ks v)))
        | none=>False
      | _,_=>False
  | _=>False
theorem us_dput (tk:Bool) (hk:tk=true→NoKey D.K) {tpos:Pos} (he:PEU D e te) (ho:PEU D o to) (hi:PEU D i ti) (hs:∀ env,swapsWith e (some (.Subscript o i tpos)) pos.line env=pure false:=by intro _;rfl):PSU D (.Assign [.Subscript o i tpos] e pos) (uDPut tk te to ti):=by
  obtain ⟨_,p1,s1⟩:=he;obtain ⟨_,p2,s2⟩:=ho;obtain ⟨_,p3,s3⟩:=hi
  refine ⟨_,fun X h=>ps_dput (hu_of h.room) (p2 X h) (p3 X h) (p1 X h) (hs _),fun σ τ H M D' rs rm h EE d=>?_⟩
  refine s1 σ τ H M _ rs rm h _ fun v vv M1 H1 st1 rm1 rv h1=>?_
  refine s2 σ τ H1 M1 _ (rs.stp st1) rm1 h1 _ fun x vx M2 H2 st2 rm2 rx h2=>?_
  refine s3 σ τ H2 M2 _ ((rs.stp st1).stp st2) rm2 h2 _ fun y vy M3 H3 st3 rm3 ry h3=>?_
  have rv3:=(rv.stp st2).stp st3
  have rs3:=((rs.stp st1).stp st2).stp st3
  cases x with
  | ref a =>
    cases (rx.stp st3).ref
    cases tk with
    | false =>
      dsimp only at h3
      split at h3
      · rename_i kvs k e1 e2
        obtain ⟨hl,q⟩:=h3
        obtain ⟨ws,hv,r⟩:=rm3 a _ e1
        have:=keyU_rel ry e2
        subst this
        have st4:Stp H3 M3 (upd H3 a (.dK (putK ws k vv))) (mup M3 a (.dK (putU kvs k v))):=Stp.write e1
        have rnew:RelM D.K (upd H3 a (.dK (putK ws k vv))) (mup M3 a (.dK (putU kvs k v))):=rm3.put st4 ⟨_,upd_same,(r.put k rv3).stp st4⟩
        exact ⟨a,_,rfl,.k hv (by rw [← r.length];exact hl),d.nx _ _ _ _ (((st1.trans st2).trans st3).trans st4) rnew (rs3.stp st4) q⟩
      · exact h3.elim
    | true =>
      dsimp only at h3
      split at h3
      · rename_i kvs ys e1
        split at h3
        · rename_i ks e2
          obtain ⟨hl,q⟩:=h3
          obtain ⟨ws,hv,r⟩:=rm3 a _ e1
          obtain ⟨b,rfl,hb⟩:=key_tup (hk rfl) ry e2
          have st4:Stp H3 M3 (upd H3 a (.dT (putK ws ks vv))) (mup M3 a (.dT (putU kvs ks v))):=Stp.write e1
          have rnew:RelM D.K (upd H3 a (.dT (putK ws ks vv))) (mup M3 a (.dT (putU kvs ks v))):=rm3.put st4 ⟨_,upd_same,(r.put ks rv3).stp st4⟩
          exact ⟨a,_,rfl,.t hv hb (by rw [← r.length];exact hl),d.nx _ _ _ _ (((st1.trans st2).trans st3).trans st4) rnew (rs3.stp st4) q⟩
        · exact h3.elim
      · exact h3.elim
  | _=>exact h3.elim
def isDb (M:MHp) (x:U):Bool:=match dvw M x with
  | some (.dK _)=>true
  | some (.dT _)=>true
  | _=>false
theorem isDb_rel {K:PySem.W.Frag} {H:Hp} {M:MHp} {x:U} {v:V} (rm:RelM K H M) (r:RelU K H M x v) (e:isDb M x=true):∃ a,v=.ref a∧IsD H a:=by
  unfold isDb at e
  split at e
  · rename_i kvs h
    obtain ⟨a,ws,rfl,h1,_⟩:=dvw_K rm r h
    exact ⟨a,rfl,.inl ⟨ws,h1⟩⟩
  · rename_i kvs h
    obtain ⟨a,ws,rfl,h1,_⟩:=dvw_T rm r h
    exact ⟨a,rfl,.inr ⟨ws,h1⟩⟩
  · cases e
theorem RelOU.getD {K:PySem.W.Frag} {H:Hp} {M:MHp} {o:Option U} {ov:Option V} {u:U} {v:V} (r:RelOU K H M o ov) (q:RelU K H M u v):RelU K H M (o.getD u) (ov.getD v):=by
  cases o <;> cases ov <;> first | exact q | exact r | exact r.elim
def uDGet1 (tk:Bool) (to ti:UE):UE:=fun τ M Q=>to τ M fun x M1=>isDb M1 x=true∧ti τ M1 fun y M2=>match dLook tk M2 x y with
  | some o=>Q (o.getD .non) M2
  | none=>False
def uDGet2 (tk:Bool) (to ti tx:UE):UE:=fun τ M Q=>to τ M fun x M1=>isDb M1 x=true∧ti τ M1 fun y M2=>tx τ M2 fun z M3=>match dLook tk M3 x y with
  | some o=>Q (o.getD z) M3
  | none=>False
theorem ue_dget2 (tk:Bool) (hk:tk=true→NoKey D.K) {apos:Pos} {f:Expr} {tf:UE} (ho:PEU D o to) (hi:PEU D e te) (hf:PEU D f tf) (hbase:∀ env,attributeBase o "get" env (eval o env)=eval o env:=by intro _;rfl)
    (hfew:∀ env,((backTo pos (starEach [e,f] env)).all (fun x=>!x.1) && (backToKw pos (keywordEach [] env)).all (fun x=>x.1.isSome) && decide ([e,f].length + ([]:List Keyword).length + (if ([]:List Keyword).isEmpty then 0 else 1) < 30))=true:=by intro _;rfl)
    (hline:(apos.endLine == pos.line)=true:=by rfl) (hs:∀ env,backTo pos (starEach [e,f] env)=[(false,eval e env),(false,eval f env)]:=by intro _;rfl):PEU D (.Call (.Attribute o "get" apos) [e,f] [] pos) (uDGet2 tk to te tf):=by
  obtain ⟨_,p1,s1⟩:=ho;obtain ⟨_,p2,s2⟩:=hi;obtain ⟨_,p3,s3⟩:=hf
  refine ⟨_,fun X h=>pe_dget2 (hu_of h.room) (p1 X h) (p2 X h) (p3 X h) ⟨hbase _,hfew _,hline,hs _⟩,fun σ τ H M Q' rs rm h Q c=>?_⟩
  refine s1 σ τ H M _ rs rm h _ fun x vx M1 H1 st1 rm1 rx h1=>?_
  obtain ⟨hd,h1⟩:=h1
  obtain ⟨a,rfl,hd⟩:=isDb_rel rm1 rx hd
  refine ⟨a,rfl,hd,s2 σ τ H1 M1 _ (rs.stp st1) rm1 h1 _ fun y vy M2 H2 st2 rm2 ry h2=>s3 σ τ H2 M2 _ ((rs.stp st1).stp st2) rm2 h2 _ fun z vz M3 H3 st3 rm3 rz h3=>?_⟩
  split at h3
  · rename_i o e
    obtain ⟨a',ov,e',g,r⟩:=dLook_rel hk rm3 ((rx.stp st2).stp st3) (ry.stp st3) e
    cases e'
    exact ⟨ov,g,c _ _ M3 H3 ((st1.trans st2).trans st3) rm3 (r.getD rz) h3⟩
  · exact h3.elim
end
end U2
namespace U2
open PySem PySem.Spec PyProof.Rows L2
end U2
namespace L2
open PySem PySem.Spec PyProof.Rows PySem.F
def RawAt (h:Heap) (d:Addr) (es:Array DictEntry) (ep:Nat):Prop:=∃ o,h.get? d=some o∧o.ExactDict∧o.data=.dict es ep
theorem RawAt.ty {s:Shared} {d:Addr} {es:Array DictEntry} {ep:Nat} (r:RawAt s.heap d es ep):s.TypeIs (.ref d) "dict":=let ⟨o,e,c,_⟩:=r;⟨o,e,c.1⟩
theorem RawAt.at {h h':Heap} {d:Addr} {es:Array DictEntry} {ep:Nat} (r:RawAt h d es ep) (k:∀ o,h.get? d=some o→h'.get? d=some o):RawAt h' d es ep:=let ⟨o,e,c⟩:=r;⟨o,k o e,c⟩
theorem RawAt.lt {h:Heap} {d:Addr} {es:Array DictEntry} {ep:Nat} (r:RawAt h d es ep):d < h.objs.size:=let ⟨_,e,_⟩:=r;Heap.lt_size e
section
variable {prog:Program} {w:World} {A:Around} {E:Value→Shared→Prop} {s:Shared} {d it vw:Addr} {es:Array DictEntry} {ep i:Nat} {e:DictEntry}
theorem raw_iter {Q:Value→Shared→Prop} (lo:(d == sysModules)=false) (r:RawAt s.heap d es ep)
    (q:Q (.ref s.heap.objs.size) { s with heap:=s.heap.push { cls:=.type "dict_keyiterator",data:=.fields #[.ref d,.int 0 0,.int es.size 0,.int ep 0] } }):wpAny (model prog w) A (pyIter (.ref d)) Q E s:=by
  obtain ⟨o,g,c,dd⟩:=id r
  refine wpAny_pyIter_slot r.ty slot_dict_iter (wpAny_call_entry slot_dict_iter r.ty entry_dict_iter ?_ (args_dict_iter_1 _))
  unfold Builtin.«dict.__iter__»;refine wpAny_bind ?_
  unfold Builtin.Dict.dictSlotNone;refine wpAny_bind (wpAny_notOrdered_dict r.ty ?_)
  show wpAny (model prog w) _ (pure (Value.ref d)) _ _ s;refine wpAny_pure ?_
  show wpAny (model prog w) _ (Builtin.Dict.showsAll d >>= _) _ _ s;unfold Builtin.Dict.showsAll
  rw [if_neg (by rw [lo];decide)];refine wpAny_bind (wpAny_pure (wpAny_bind (wpAny_dictEntries g dd (wpAny_bind (wpAny_dictEpoch g dd ?_)))))
  refine wpAny_bind (wpAny_newObj_type (wpAny_pure ⟨_,rfl,"dict_keyiterator",_,⟨_,Heap.get?_push_size _ rfl,rfl⟩,slot_dict_keyiterator_next.lookup,?_⟩))
  simpa [rawInt] using q
theorem raw_next {Q:Option Value→Shared→Prop} (hit:s.heap.IsKeyIter it d i es.size ep) (r:RawAt s.heap d es ep) (hx:es[i]?=some e)
    (q:∀ h',h'.IsKeyIter it d (i + 1) es.size ep→Heap.SameBut it s.heap h'→Q (some e.key) { s with heap:=h' }):wpAny (model prog w) A (pyNext (.ref it)) Q E s:=by
  obtain ⟨oi,gi,ci,di⟩:=id hit
  obtain ⟨o,g,c,dd⟩:=id r
  have T:=hit.typeIs
  have lt:i < es.size:=(Array.getElem?_eq_some_iff.mp hx).1
  unfold pyNext
  refine wpAny_bind (wpAny_attempt (wpAny_callSpecial?_slot (name:=Str.ofString "__next__") T slot_dict_keyiterator_next (wpAny_call_entry slot_dict_keyiterator_next T entry_dict_keyiterator_next ?_ (args_dict_keyiterator_next_1 _))))
  refine wpAny_bind (wpAny_pure (wpAny_bind (wpAny_bind ?_)))
  first | refine wpAny_bind (wpAny_typeNameOfWhole_keyiter T (wpAny_pure (wpAny_bind (wpAny_fieldsOf gi di ?_)))) | refine wpAny_bind (wpAny_typeNameOf_keyiter T (wpAny_pure (wpAny_bind (wpAny_fieldsOf gi di ?_))))
  simp only [show Builtin.Dict_items.ownsTuple "dict_keyiterator"=false by decide,Bool.false_eq_true,if_false]
  show wpAny (model prog w) _ (if (Value.ref d == Value.none)=true then _ else _) _ _ s
  rw [if_neg (show ¬ ((Value.ref d == Value.none)=true) from Bool.false_ne_true)];refine wpAny_bind (wpAny_pure (wpAny_bind (wpAny_dictEntries g dd ?_)))
  rw [if_neg (by simp)];refine wpAny_bind (wpAny_pure (wpAny_bind (wpAny_dictEpoch g dd ?_)));rw [if_neg (by simp)];refine wpAny_pure ?_
  simp only [show ¬ ((i:Int) < 0) by omega,if_false,Int.toNat_natCast,hx];refine wpAny_bind ?_
  first | refine wpAny_bind (wpAny_typeNameOfWhole_keyiter T (wpAny_pure (wpAny_bind (wpAny_isOneOf_keyiter T ?_)))) | refine wpAny_bind (wpAny_typeNameOf_keyiter T (wpAny_pure (wpAny_bind (wpAny_isOneOf_keyiter T ?_))))
  show wpAny (model prog w) _ (setField (.ref it) 1 (rawInt ((i:Int) + 1)) >>= _) _ _ s
  refine wpAny_bind (wpAny_setField gi di (by simp) ?_)
  have hit':(s.heap.update it (Obj.mapFields (·.setIfInBounds 1 (rawInt ((i:Int) + 1))))).IsKeyIter it d (i + 1) es.size ep :=
    ⟨_,Heap.get?_update_self _ gi (Obj.isFreed_of_fields (Obj.data_mapFields di _)),(Obj.cls_mapFields ..).trans ci,by rw [Obj.data_mapFields di];simp [rawInt]⟩
  refine wpAny_bind (wpAny_holding (wpAny_bind (wpAny_isOneOf_keyiter (s:={ s with heap:=s.heap.update it (Obj.mapFields (·.setIfInBounds 1 (rawInt ((i:Int) + 1)))) }) hit'.typeIs ?_)))
  show wpAny (model prog w) _ (pure e.key) _ _ _
  exact wpAny_pure (wpAny_pure ⟨_,rfl,wpAny_pure (q _ hit' (Heap.SameBut.update ..))⟩)
theorem raw_end {Q:Option Value→Shared→Prop} (hh:A.handled=none) (hit:s.heap.IsKeyIter it d i es.size ep) (r:RawAt s.heap d es ep) (hx:es[i]?=none)
    (q:∀ h',Heap.ExtBut it s.heap h'→Q none { s with heap:=h' }):wpAny (model prog w) A (pyNext (.ref it)) Q E s:=by
  obtain ⟨oi,gi,ci,di⟩:=id hit
  obtain ⟨o,g,c,dd⟩:=id r
  have T:=hit.typeIs
  unfold pyNext
  refine wpAny_bind (wpAny_attempt (wpAny_callSpecial?_slot (name:=Str.ofString "__next__") T slot_dict_keyiterator_next (wpAny_call_entry slot_dict_keyiterator_next T entry_dict_keyiterator_next ?_ (args_dict_keyiterator_next_1 _))))
  refine wpAny_bind (wpAny_pure (wpAny_bind (wpAny_bind ?_)))
  first | refine wpAny_bind (wpAny_typeNameOfWhole_keyiter T (wpAny_pure (wpAny_bind (wpAny_fieldsOf gi di ?_)))) | refine wpAny_bind (wpAny_typeNameOf_keyiter T (wpAny_pure (wpAny_bind (wpAny_fieldsOf gi di ?_))))
  simp only [show Builtin.Dict_items.ownsTuple "dict_keyiterator"=false by decide,Bool.false_eq_true,if_false]
  show wpAny (model prog w) _ (if (Value.ref d == Value.none)=true then _ else _) _ _ s
  rw [if_neg (show ¬ ((Value.ref d == Value.none)=true) from Bool.false_ne_true)];refine wpAny_bind (wpAny_pure (wpAny_bind (wpAny_dictEntries g dd ?_)))
  rw [if_neg (by simp)];refine wpAny_bind (wpAny_pure (wpAny_bind (wpAny_dictEpoch g dd ?_)));rw [if_neg (by simp)];refine wpAny_pure ?_
  simp only [show ¬ ((i:Int) < 0) by omega,if_false,Int.toNat_natCast,hx];refine wpAny_bind ?_
  first | refine wpAny_bind (wpAny_typeNameOfWhole_keyiter T (wpAny_pure ?_)) | refine wpAny_bind (wpAny_typeNameOf_keyiter T (wpAny_pure ?_))
  show wpAny (model prog w) _ (setField (.ref it) 0 .none >>= _) _ _ s
  refine wpAny_bind (wpAny_setField gi di (by simp) ?_)
  show wpAny (model prog w) _ (newExc (.type "StopIteration") [] >>= _) _ _ _
  refine wpAny_bind ?_;simp only [newExc,newTuple];refine wpAny_bind (wpAny_newObj_type ?_ (by size_fits))
  refine wpAny_bind (m:=firstArgMember _ _) (wpAny_of_eq (a:=Value.none) (by first | rfl | (simp only [firstArgMember];rfl)) (wpAny_newObj_type ?_ (by size_fits)))
  simp only [raiseNew];refine wpAny_bind (wpAny_handled ?_);rw [show A.in1.handled=none from hh]
  refine wpAny_bind (wpAny_pure (wpAny_throw ?_));refine wpAny_bind (wpAny_isInstance (T:="StopIteration") (b:=true) ⟨_,Heap.get?_push_size _ rfl,rfl⟩ isSubtype_stop ?_)
  exact wpAny_pure (q _ (((Heap.SameBut.update ..).extBut.push _).push _))
theorem raw_items (d:Addr) (lo:(d == sysModules)=false):MeetsIn prog w (Builtin.«dict.items» ⟨[.ref d],[]⟩) (fun _ R s=>(∃ es ep,RawAt s.heap d es ep)∧R (.ok (.ret (.ref s.heap.objs.size))) { s with heap:=s.heap.push { cls:=.type "dict_items",data:=.fields #[.ref d] } }) :=
  .of_wp fun A R s ⟨⟨es,ep,r⟩,h⟩=>by
    unfold Builtin.«dict.items»;refine wpAny_bind ?_
    unfold Builtin.Dict.noArgs;refine wpAny_bind (wpAny_notOrdered_dict r.ty ?_)
    show wpAny (model prog w) _ (pure d) _ _ s;refine wpAny_pure ?_
    show wpAny (model prog w) _ (Builtin.Dict.showsAll d >>= _) _ _ s;unfold Builtin.Dict.showsAll
    rw [if_neg (by rw [lo];decide)];exact wpAny_bind (wpAny_pure (wpAny_bind (wpAny_newObj_type (wpAny_pure ⟨_,rfl,h⟩))))
theorem raw_viewIter {Q:Value→Shared→Prop} (hv:s.heap.IsItemsView vw d) (r:RawAt s.heap d es ep)
    (q:Q (.ref s.heap.objs.size) { s with heap:=s.heap.push { cls:=.type "dict_itemiterator",data:=.fields #[.none,.bool false,.ref d,.int 0 0,.int es.size 0,.int ep 0,.none,.none] } }):wpAny (model prog w) A (pyIter (.ref vw)) Q E s:=by
  obtain ⟨ov,gv,cv,dv⟩:=id hv
  obtain ⟨o,g,c,dd⟩:=id r
  refine wpAny_pyIter_slot hv.typeIs slot_dict_items_iter (wpAny_call_entry slot_dict_items_iter hv.typeIs entry_dict_items_iter ?_ (args_dict_items_iter_1 _))
  unfold Builtin.«dict_items.__iter__»;refine wpAny_bind (wpAny_pure (wpAny_bind ?_))
  unfold Builtin.Dict_items.dictOf;refine wpAny_bind (wpAny_field gv dv (x:=.ref d) rfl (wpAny_pure (wpAny_bind ?_)))
  unfold Builtin.Dict_items.newIterator;refine wpAny_bind (wpAny_dictEntries g dd (wpAny_bind (wpAny_dictEpoch g dd ?_)))
  simp only [show Builtin.Dict_items.ownsTuple "dict_itemiterator"=true by decide,if_true]
  refine wpAny_newObj_type (wpAny_pure ⟨_,rfl,"dict_itemiterator",_,⟨_,Heap.get?_push_size _ rfl,rfl⟩,slot_dict_itemiterator_next.lookup,?_⟩) (by simp only [sizeOk,Builtin.Dict_items.ownedTupleFields,List.size_toArray,List.length_append,List.length_cons,List.length_nil,sizeLine_eq];omega)
  simpa [rawInt,Builtin.Dict_items.ownedTupleFields] using q
theorem raw_itemsEnd {ok ov:Value} {Q:Option Value→Shared→Prop} (hh:A.handled=none) (hit:IsItemIter s.heap it d i es.size ep ok ov) (r:RawAt s.heap d es ep) (hx:es[i]?=none)
    (q:∀ h',Heap.ExtBut it s.heap h'→Q none { s with heap:=h' }):wpAny (model prog w) A (pyNext (.ref it)) Q E s:=by
  obtain ⟨o,g,c,dd⟩:=id r
  have T:s.TypeIs (.ref it) "dict_itemiterator":=⟨_,hit,rfl⟩
  unfold pyNext
  refine wpAny_bind (wpAny_attempt (wpAny_callSpecial?_slot (name:=Str.ofString "__next__") T slot_dict_itemiterator_next (wpAny_call_entry slot_dict_itemiterator_next T entry_dict_itemiterator_next ?_ (args_dict_itemiterator_next_1 _))))
  refine wpAny_bind (wpAny_pure (wpAny_bind (wpAny_bind ?_)))
  first | refine wpAny_bind (wpAny_typeNameOfWhole_itemiter T (wpAny_pure (wpAny_bind (wpAny_fieldsOf hit rfl ?_)))) | refine wpAny_bind (wpAny_typeNameOf_itemiter T (wpAny_pure (wpAny_bind (wpAny_fieldsOf hit rfl ?_))))
  simp only [show Builtin.Dict_items.ownsTuple "dict_itemiterator"=true by decide,if_true]
  show wpAny (model prog w) _ (if (Value.ref d == Value.none)=true then _ else _) _ _ s
  rw [if_neg (show ¬ ((Value.ref d == Value.none)=true) from Bool.false_ne_true)];refine wpAny_bind (wpAny_pure (wpAny_bind (wpAny_dictEntries g dd ?_)))
  rw [if_neg (by simp)];refine wpAny_bind (wpAny_pure (wpAny_bind (wpAny_dictEpoch g dd ?_)));rw [if_neg (by simp)];refine wpAny_pure ?_
  simp only [show ¬ ((i:Int) < 0) by omega,if_false,Int.toNat_natCast,hx];refine wpAny_bind ?_
  first | refine wpAny_bind (wpAny_typeNameOfWhole_itemiter T (wpAny_pure ?_)) | refine wpAny_bind (wpAny_typeNameOf_itemiter T (wpAny_pure ?_))
  show wpAny (model prog w) _ (setField (.ref it) 2 .none >>= _) _ _ s
  refine wpAny_bind (wpAny_setField hit rfl (by simp) ?_)
  show wpAny (model prog w) _ (newExc (.type "StopIteration") [] >>= _) _ _ _
  refine wpAny_bind ?_;simp only [newExc,newTuple];refine wpAny_bind (wpAny_newObj_type ?_ (by size_fits))
  refine wpAny_bind (m:=firstArgMember _ _) (wpAny_of_eq (a:=Value.none) (by first | rfl | (simp only [firstArgMember];rfl)) (wpAny_newObj_type ?_ (by size_fits)))
  simp only [raiseNew];refine wpAny_bind (wpAny_handled ?_);rw [show A.in1.handled=none from hh]
  refine wpAny_bind (wpAny_pure (wpAny_throw ?_));refine wpAny_bind (wpAny_isInstance (T:="StopIteration") (b:=true) ⟨_,Heap.get?_push_size _ rfl,rfl⟩ isSubtype_stop ?_)
  exact wpAny_pure (q _ (((Heap.SameBut.update ..).extBut.push _).push _))
theorem raw_itemsNext {ok ov:Value} {Q:Option Value→Shared→Prop} (hit:IsItemIter s.heap it d i es.size ep ok ov) (r:RawAt s.heap d es ep) (hx:es[i]?=some e)
    (q:∀ h',IsItemIterOut h' it d (i + 1) es.size ep e.key e.val s.heap.objs.size→h'.get? s.heap.objs.size=some { cls:=.type "tuple",data:=.seq #[e.key,e.val] }→h'.objs.size=s.heap.objs.size + 1 →
      (∀ b o,b≠it→s.heap.get? b=some o→h'.get? b=some o)→Q (some (.ref s.heap.objs.size)) { s with heap:=h' }):wpAny (model prog w) A (pyNext (.ref it)) Q E s:=by
  obtain ⟨hp,gs,dr,tk,os⟩:=s
  obtain ⟨o,g,c,dd⟩:=id r
  have T:Shared.TypeIs ⟨hp,gs,dr,tk,os⟩ (.ref it) "dict_itemiterator":=⟨_,hit,rfl⟩
  unfold pyNext
  refine wpAny_bind (wpAny_attempt (wpAny_callSpecial?_slot (name:=Str.ofString "__next__") T slot_dict_itemiterator_next (wpAny_call_entry slot_dict_itemiterator_next T entry_dict_itemiterator_next ?_ (args_dict_itemiterator_next_1 _))))
  refine wpAny_bind (wpAny_pure (wpAny_bind (wpAny_bind ?_)))
  first | refine wpAny_bind (wpAny_typeNameOfWhole_itemiter T (wpAny_pure (wpAny_bind (wpAny_fieldsOf hit rfl ?_)))) | refine wpAny_bind (wpAny_typeNameOf_itemiter T (wpAny_pure (wpAny_bind (wpAny_fieldsOf hit rfl ?_))))
  simp only [show Builtin.Dict_items.ownsTuple "dict_itemiterator"=true by decide,if_true]
  show wpAny (model prog w) _ (if (Value.ref d == Value.none)=true then _ else _) _ _ _
  rw [if_neg (show ¬ ((Value.ref d == Value.none)=true) from Bool.false_ne_true)];refine wpAny_bind (wpAny_pure (wpAny_bind (wpAny_dictEntries g dd ?_)))
  rw [if_neg (by simp)];refine wpAny_bind (wpAny_pure (wpAny_bind (wpAny_dictEpoch g dd ?_)));rw [if_neg (by simp)];refine wpAny_pure ?_
  simp only [show ¬ ((i:Int) < 0) by omega,if_false,Int.toNat_natCast,hx];refine wpAny_bind ?_
  first | refine wpAny_bind (wpAny_typeNameOfWhole_itemiter T (wpAny_pure (wpAny_bind (wpAny_isOneOf_itemiter T ?_)))) | refine wpAny_bind (wpAny_typeNameOf_itemiter T (wpAny_pure (wpAny_bind (wpAny_isOneOf_itemiter T ?_))))
  show wpAny (model prog w) _ (setField (.ref it) 3 (rawInt ((i:Int) + 1)) >>= _) _ _ ⟨hp,gs,dr,tk,os⟩
  refine wpAny_bind (wpAny_setField_rec hit (by simp) fun h₁ x₁ y₁=>?_)
  replace y₁:Heap.SameBut it hp h₁:=y₁
  replace x₁:IsItemIter h₁ it d (i + 1) es.size ep ok ov:=by
    unfold IsItemIter;rw [show ((i + 1:Nat):Int)=(i:Int) + 1 by omega];simpa [rawInt] using x₁
  have T₁:Shared.TypeIs ⟨h₁,gs,dr,tk,os⟩ (.ref it) "dict_itemiterator":=⟨_,x₁,rfl⟩
  refine wpAny_bind (wpAny_holding (wpAny_bind (wpAny_isOneOf_itemiter T₁ (wpAny_bind (wpAny_isOneOf_itemiter T₁ ?_)))))
  show wpAny (model prog w) _ (Builtin.Dict_items.pairFromOwner (.ref it) 6 e.key e.val) _ _ ⟨h₁,gs,dr,tk,os⟩
  unfold Builtin.Dict_items.pairFromOwner;refine wpAny_bind (wpAny_newTuple ?_)
  have x₂:IsItemIter (h₁.push { cls:=.type "tuple",data:=.seq #[e.key,e.val] }) it d (i + 1) es.size ep ok ov:=Heap.get?_push_of_some _ x₁
  generalize eq₂:h₁.push { cls:=.type "tuple",data:=.seq #[e.key,e.val] }=h₂ at x₂
  have z₁:h₁.objs.size=hp.objs.size:=y₁.1
  have il:it < hp.objs.size:=Heap.lt_size hit
  have t₂:h₂.get? hp.objs.size=some { cls:=.type "tuple",data:=.seq #[e.key,e.val] }:=by rw [← eq₂,← z₁];exact Heap.get?_push_size _ rfl
  have z₂:h₂.objs.size=hp.objs.size + 1:=by rw [← eq₂,Heap.size_push,z₁]
  have k₂:∀ b o,b≠it→hp.get? b=some o→h₂.get? b=some o:=fun b o hb z=>by rw [← eq₂];exact Heap.get?_push_of_some _ (y₁.extBut b o hb z)
  show wpAny (model prog w) _ (Builtin.Dict_items.ownedTupleIsFree (.ref it) >>= _) _ _ ⟨h₂,gs,dr,tk,os⟩
  rw [z₁];clear eq₂ x₁ y₁ T₁ z₁ h₁;refine wpAny_bind ?_
  unfold Builtin.Dict_items.ownedTupleIsFree;refine wpAny_bind (wpAny_field x₂ rfl (x:=.none) rfl (wpAny_pure ?_));simp only [if_true]
  refine wpAny_bind (wpAny_field x₂ rfl (x:=ok) rfl (wpAny_bind (wpAny_field x₂ rfl (x:=ov) rfl (wpAny_bind (wpAny_setField_rec x₂ (by simp) fun h₃ x₃ y₃=>?_)))))
  replace y₃:Heap.SameBut it h₂ h₃:=y₃
  replace x₃:IsItemIter h₃ it d (i + 1) es.size ep e.key ov:=x₃
  refine wpAny_bind (wpAny_setField_rec x₃ (by simp) fun h₄ x₄ y₄=>?_)
  replace y₄:Heap.SameBut it h₃ h₄:=y₄
  replace x₄:IsItemIter h₄ it d (i + 1) es.size ep e.key e.val:=x₄
  refine wpAny_bind (wpAny_setField_rec x₄ (by simp) fun h₅ x₅ y₅=>?_)
  replace y₅:Heap.SameBut it h₄ h₅:=y₅
  replace x₅:IsItemIterOut h₅ it d (i + 1) es.size ep e.key e.val hp.objs.size:=x₅
  refine wpAny_bind (wpAny_setField_rec x₅ (by simp) fun h₆ x₆ y₆=>?_)
  replace y₆:Heap.SameBut it h₅ h₆:=y₆
  replace x₆:IsItemIterOut h₆ it d (i + 1) es.size ep e.key e.val hp.objs.size:=x₆
  refine wpAny_bind (wpAny_letGo (wpAny_pure (wpAny_pure ⟨_,rfl,wpAny_pure (q h₆ x₆ ?_ ?_ ?_)⟩)))
  · have n:=Nat.ne_of_gt il
    exact y₆.extBut _ _ n (y₅.extBut _ _ n (y₄.extBut _ _ n (y₃.extBut _ _ n t₂)))
  · show h₆.objs.size=hp.objs.size + 1;rw [y₆.1,y₅.1,y₄.1,y₃.1,z₂]
  · exact fun b o hb z=>y₆.extBut b o hb (y₅.extBut b o hb (y₄.extBut b o hb (y₃.extBut b o hb (k₂ b o hb z))))
end
end L2
namespace L2
open PySem PySem.Spec PyProof.Rows
def esOf (o:Obj):Array DictEntry:=match o.data with | .dict es _=>es | _=>#[]
def epO (o:Obj):Nat:=match o.data with | .dict _ ep=>ep | _=>0
def lenD:HO→Nat
  | .dK kvs=>kvs.length
  | .dT kvs=>kvs.length
  | _=>0
def KeyAt (H:Hp) (i:Nat) (x:V):HO→Prop
  | .dK kvs=>∃ p,kvs[i]?=some p∧x=kV p.1
  | .dT kvs=>∃ p b,kvs[i]?=some p∧x=.ref b∧H b=some (.tup (p.1.map kV))
  | _=>False
def ValAt (i:Nat) (x:V):HO→Prop
  | .dK kvs=>∃ p,kvs[i]?=some p∧x=p.2
  | .dT kvs=>∃ p,kvs[i]?=some p∧x=p.2
  | _=>False
theorem kV_rel {P:Program} {w:World} {k:Key} {u:Value} (h:(mixKind P w).is k u=true):RelV (kV k) u:=by
  rcases keyIs_shape (show keyIs k u=true from h) with ⟨i,t,rfl,rfl⟩ | ⟨x,t,rfl,rfl⟩
  · exact ⟨_,rfl⟩
  · exact ⟨_,rfl⟩
theorem pairsAt {P:Program} {w:World}:∀ {es:List DictEntry} {vs:List (Key × Value)} {kvs:List (Key × V)},Pairs (mixKind P w) es vs→KV kvs vs→es.length=kvs.length∧∀ (i:Nat) (e:DictEntry),es[i]?=some e→∃ p,kvs[i]?=some p∧RelV (kV p.1) e.key∧RelV p.2 e.val
  | _,_,_,.nil,.nil=>⟨rfl,fun i e h=>by simp at h⟩
  | _,_,_,.cons h1 h2 t,.cons q r=>by
    obtain ⟨hl,ih⟩:=pairsAt t r
    refine ⟨by simp [hl],fun i e h=>?_⟩
    cases i with
    | zero=>simp at h;subst h;exact ⟨_,rfl,by rw [q.1];exact kV_rel h1,by rw [h2];exact q.2⟩
    | succ j=>simpa using ih j e (by simpa using h)
theorem frz_raw {P:Program} {w:World} {H:Hp} {h:Heap} {d:Addr} {o:Obj} {u:HO} (ok:HOk P w H h) (e:H d=some (.frz o u)) (dk:U2.isDk u=true):RawAt h d (esOf o) (epO o)∧(esOf o).size=lenD u∧(d == sysModules)=false∧lenD u≤sizeLine ∧
    ∀ (i:Nat) en,(esOf o)[i]?=some en→∃ k v,KeyAt H i k u∧RelV k en.key∧ValAt i v u∧RelV v en.val:=by
  obtain ⟨g,hq⟩:=(show ObjOk P w H h d (.frz o u) from ok d _ e)
  cases u with
  | dK kvs =>
    obtain ⟨z,hs,vs,rel,o',es,ep,g',c',d',kk,pp,nn⟩:=hq
    rw [g] at g';cases g'
    have e1:esOf o=es:=by unfold esOf;rw [d']
    have e2:epO o=ep:=by unfold epO;rw [d']
    obtain ⟨hl,pr⟩:=pairsAt pp rel
    rw [e1,e2]
    refine ⟨⟨o,g,c',d'⟩,by simpa [lenD] using hl,hs,z,fun i en hi=>?_⟩
    obtain ⟨p,h1,h2,h3⟩:=pr i en (by rw [Array.getElem?_toList];exact hi)
    exact ⟨_,_,⟨p,h1,rfl⟩,h2,⟨p,h1,rfl⟩,h3⟩
  | dT kvs =>
    obtain ⟨z,hs,xs,rel,o',es,ep,g',c',d',pp,nn⟩:=hq
    rw [g] at g';cases g'
    have e1:esOf o=es:=by unfold esOf;rw [d']
    have e2:epO o=ep:=by unfold epO;rw [d']
    rw [e1,e2]
    have hl:es.size=kvs.length:=by rw [← Array.length_toList,pp,List.length_map];exact (Paired.length rel).symm
    have pr:∀ {kvs:List (List Key × V)} {xs:List (List Key × Addr × Value)},Paired (fun (p:List Key × V) (q:List Key × Addr × Value)=>p.1=q.1∧H q.2.1=some (.tup (p.1.map kV))∧RelV p.2 q.2.2) kvs xs→∀ (i:Nat) q,xs[i]?=some q→∃ p,kvs[i]?=some p∧p.1=q.1∧H q.2.1=some (.tup (p.1.map kV))∧RelV p.2 q.2.2:=by
      intro kvs xs r
      induction r with
      | nil=>intro i q h;simp at h
      | cons h t ih =>
        intro i q hq
        cases i with
        | zero=>simp at hq;subst hq;exact ⟨_,rfl,h⟩
        | succ j=>simpa using ih j q (by simpa using hq)
    refine ⟨⟨o,g,c',d'⟩,hl,hs,z,fun i en hi=>?_⟩
    have h0:(xs.map (entryOfKey (tupleKind (mixKind P w))))[i]?=some en:=by rw [← pp,Array.getElem?_toList];exact hi
    rw [List.getElem?_map] at h0
    cases hx:xs[i]? with
    | none=>rw [hx] at h0;cases h0
    | some q =>
      rw [hx] at h0;cases h0
      obtain ⟨p,h1,h2,h3,h4⟩:=pr rel i q hx
      exact ⟨.ref q.2.1,p.2,⟨p,q.2.1,h1,rfl,h3⟩,rfl,⟨p,h1,rfl⟩,h4⟩
  | _=>cases dk
def ItK (d:Addr) (o:Obj) (u:HO):It :=
  ⟨fun i H=>H d=some (.frz o u)∧i < lenD u,fun i H x H'=>H'=H∧KeyAt H i x u,fun i H=>H d=some (.frz o u)∧lenD u≤i⟩
def ItP (d:Addr) (o:Obj) (u:HO):It :=
  ⟨fun i H=>H d=some (.frz o u)∧i < lenD u,fun i H x H'=>∃ T k v,KeyAt H i k u∧ValAt i v u∧H T=none∧x=.ref T∧H'=upd H T (.tup [k,v]),fun i H=>H d=some (.frz o u)∧lenD u≤i⟩
theorem turn_keys {P:Program} {w:World} {K:PySem.W.Frag} {tg:Expr} (d it:Addr) (o:Obj) (u:HO) (dk:U2.isDk u=true):Turn P w K tg (ItK d o u) [it] it (fun i h=>h.IsKeyIter it d i (esOf o).size (epO o)) where
  mem:=by simp
  obj:=fun i h st b hb=>by
    have e:b=it:=by simpa using hb
    subst e
    obtain ⟨o,e,c,d⟩:=st
    exact ⟨o,e,fun v z=>by rw [d] at z;cases z⟩
  keep:=fun i h h' st k=>st.at fun o e=>k it (by simp) o e
  item:=by
    intro X hP hw hK hc i pins s σ H E I hf st hg
    subst hP hw hK
    obtain ⟨hq,hx⟩:=hg
    obtain ⟨raw,hlen,hs,_,at'⟩:=frz_raw I.hok hq dk
    obtain ⟨f0,f1,f2,f3,f4,f5⟩:=hf it (by simp)
    have hil:i < (esOf o).size:=by rw [hlen];exact hx
    obtain ⟨k,v,hk,rk,_,_⟩:=at' i _ (Array.getElem?_eq_getElem hil)
    refine raw_next st raw (Array.getElem?_eq_getElem hil) fun h' st' sb=>?_
    have I1:Inv X pins σ H { s with heap:=h' }:=I.turned (t':=s.toks) (fun b o hb e=>(sb.2 b hb).trans e) f0 f1 f3 f4 f5
    obtain ⟨ob,e,c,dd⟩:=id st'
    exact ⟨_,rfl,go_of (s:={ s with heap:=h' }) e c dd (by decide) ⟨k,H,I1,rk,⟨rfl,hk⟩,st',fun b hb=>(hf b hb).1⟩⟩
  done:=by
    intro X hP hw hK hc i pins s σ H E I hf st hg
    subst hP hw hK
    obtain ⟨hq,hx⟩:=hg
    obtain ⟨raw,hlen,hs,_,at'⟩:=frz_raw I.hok hq dk
    obtain ⟨f0,f1,f2,f3,f4,f5⟩:=hf it (by simp)
    exact raw_end (I.ok.hd hc) st raw (Array.getElem?_eq_none (by rw [hlen];exact hx)) fun h' eb=>⟨rfl,I.turned (t':=s.toks) (fun b o hb e=>eb b o hb e) f0 f1 f3 f4 f5⟩
  self:=fun _ _ _ _ _ st h=>wpAny_pyIter_keyiter st h
theorem entry_pairIter:entryFor table "dict_itemiterator.__iter__"=some Builtin.«dict_keyiterator.__iter__» :=
  entryFor_alias (id':="dict_keyiterator.__iter__") (by kernel_rfl) (by rfl) (by decide +kernel) (by kernel_rfl)
theorem turn_pairs {P:Program} {w:World} {K:PySem.W.Frag} {elts:List Expr} {kk:Nat} {pos:Pos} (d it:Addr) (o:Obj) (u:HO) (dk:U2.isDk u=true):Turn P w K (.Tuple elts kk pos) (ItP d o u) [it] it (fun i h=>∃ ok ov,IsItemIter h it d i (esOf o).size (epO o) ok ov) where
  mem:=by simp
  obj:=fun i h st b hb=>by
    have e:b=it:=by simpa using hb
    subst e
    obtain ⟨ok,ov,e⟩:=st
    exact ⟨_,e,fun v z=>by
      have z':Data.fields _=Data.cell v:=z
      cases z'⟩
  keep:=fun i h h' st k=>let ⟨ok,ov,e⟩:=st;⟨ok,ov,k it (by simp) _ e⟩
  item:=by
    intro X hP hw hK hc i pins s σ H E I hf st hg
    subst hP hw hK
    obtain ⟨ok,ov,st⟩:=st
    obtain ⟨hq,hx⟩:=hg
    obtain ⟨raw,hlen,hs,_,at'⟩:=frz_raw I.hok hq dk
    have hil:i < (esOf o).size:=by rw [hlen];exact hx
    obtain ⟨k,v,hk,rk,hv,rv⟩:=at' i _ (Array.getElem?_eq_getElem hil)
    refine raw_itemsNext st raw (Array.getElem?_eq_getElem hil) fun h' so ht hz hk2=>?_
    refine ⟨.ref s.heap.objs.size,rfl,wpAny_letOwnedTupleGo_items (s:={ s with heap:=h' }) so fun h'' so2 sb=>?_⟩
    have hTi:s.heap.objs.size≠it:=Nat.ne_of_gt (Heap.lt_size st)
    have hTT:h''.get? s.heap.objs.size=some { cls:=.type "tuple",data:=.seq #[(esOf o)[i].key,(esOf o)[i].val] }:=sb.extBut _ _ hTi ht
    refine ⟨.ref s.heap.objs.size,upd H s.heap.objs.size (.tup [k,v]),U2.inv_turnedLaid (s:=s) (h':=h'') (tk:=s.toks) (ch:=[it]) I hf (fun b o hb q=>?_) (Nat.le_refl _) ⟨by show 2≤sizeLine;decide,[(esOf o)[i].key,(esOf o)[i].val],.cons rk (.cons rv .nil),⟨_,hTT,rfl,_,rfl⟩⟩,rfl,⟨_,k,v,hk,hv,I.hok.fresh (Nat.le_refl _),rfl,rfl⟩,⟨_,_,so2⟩,fun b hb=>?_⟩
    · have hb':b≠it:=by simpa using hb
      exact sb.extBut b o hb' (hk2 b o hb' q)
    · have e:b=it:=by simpa using hb
      subst e
      rw [upd_ne (Ne.symm hTi)]
      exact (hf _ hb).1
  done:=by
    intro X hP hw hK hc i pins s σ H E I hf st hg
    subst hP hw hK
    obtain ⟨ok,ov,st⟩:=st
    obtain ⟨hq,hx⟩:=hg
    obtain ⟨raw,hlen,hs,_,at'⟩:=frz_raw I.hok hq dk
    obtain ⟨f0,f1,f2,f3,f4,f5⟩:=hf it (by simp)
    exact raw_itemsEnd (I.ok.hd hc) st raw (Array.getElem?_eq_none (by rw [hlen];exact hx)) fun h' eb=>⟨rfl,I.turned (t':=s.toks) (fun b o hb e=>eb b o hb e) f0 f1 f3 f4 f5⟩
  self:=fun A i s Q E st h=>by
    obtain ⟨ok,ov,st⟩:=st
    have T:s.TypeIs (.ref it) "dict_itemiterator":=⟨_,st,rfl⟩
    refine wpAny_pyIter_slot T PySem.F.slot_dict_itemiterator_iter (wpAny_call_entry PySem.F.slot_dict_itemiterator_iter T entry_pairIter ?_ (PySem.F.args_dict_itemiterator_iter_1 _))
    show wpAny (model P w) _ (ret (.ref it)) _ _ s;exact wpAny_pure ⟨_,rfl,"dict_itemiterator",_,T,PySem.F.slot_dict_itemiterator_next.lookup,h⟩
section
variable {X:Cx} {tg:Expr}
theorem freeze {pins:List (Addr × Obj)} {σ:St} {H:Hp} {s:Shared} {d:Addr} {u:HO} (I:Inv X pins σ H s) (e:H d=some u) (dk:U2.isDk u=true):∃ o,Inv X pins σ (upd H d (.frz o u)) s:=by
  have ok:ObjOk X.prog X.w H s.heap d u:=I.hok d _ e
  have hx:∃ o,s.heap.get? d=some o:=by
    cases u with
    | dK kvs=>obtain ⟨_,_,_,_,o,_,_,h1,_⟩:=ok;exact ⟨o,h1⟩
    | dT kvs=>obtain ⟨_,_,_,_,o,_,_,h1,_⟩:=ok;exact ⟨o,h1⟩
    | _=>cases dk
  obtain ⟨o,g⟩:=hx
  refine ⟨o,?_⟩
  have ok2:ObjOk X.prog X.w (upd H d (.frz o u)) s.heap d u:=by
    cases u with
    | dK kvs=>exact ok
    | dT kvs =>
      obtain ⟨z,hs,xs,rel,r⟩:=ok
      refine ⟨z,hs,xs,?_,r⟩
      have up:∀ {kvs:List (List Key × V)} {xs:List (List Key × Addr × Value)},Paired (fun (p:List Key × V) (q:List Key × Addr × Value)=>p.1=q.1∧H q.2.1=some (.tup (p.1.map kV))∧RelV p.2 q.2.2) kvs xs→∀ f:HO,Paired (fun (p:List Key × V) (q:List Key × Addr × Value)=>p.1=q.1∧upd H d f q.2.1=some (.tup (p.1.map kV))∧RelV p.2 q.2.2) kvs xs:=by
        intro kvs xs r f
        induction r with
        | nil=>exact .nil
        | cons h t ih=>exact .cons ⟨h.1,by rw [upd_ne (fun z=>by rw [z,e] at h;exact absurd h.2.1 (by simp))];exact h.2.1,h.2.2⟩ ih
      exact up rel _
    | _=>cases dk
  have:=I.write (x:=d) (e:=d) (o:=.frz o u) (h':=s.heap) (t':=s.toks) (by rw [e];cases u <;> first | trivial | cases dk) (.inl rfl) (fun b u _ q=>q) ⟨o,g⟩ ⟨g,ok2⟩
  exact this
def Froz (H:Hp) (d:Addr) (R:Obj→HO→Hp→Prop):Prop:=∃ u,U2.isDk u=true∧((H d=some u∧∀ o,R o u (upd H d (.frz o u)))∨∃ o,H d=some (.frz o u)∧R o u H)
theorem Froz.go {pins:List (Addr × Obj)} {σ:St} {H:Hp} {s:Shared} {d:Addr} {R:Obj→HO→Hp→Prop} (I:Inv X pins σ H s) (h:Froz H d R):∃ o u H2,Inv X pins σ H2 s∧H2 d=some (.frz o u)∧U2.isDk u=true∧R o u H2:=by
  obtain ⟨u,dk,⟨e,r⟩ | ⟨o,e,r⟩⟩:=h
  · obtain ⟨o,I2⟩:=freeze I e dk
    exact ⟨o,u,_,I2,upd_same,dk,r o⟩
  · exact ⟨o,u,H,I,e,dk,r⟩
def iKeys (tl:TE):TI:=fun σ H R=>tl σ H fun x H1=>∃ d,x=.ref d∧Froz H1 d fun o u H2=>R (ItK d o u) H2
theorem pi_keys {l:Expr} {tl:TE} (hl:PE X l tl):PI X tg l (iKeys tl):=by
  intro pins s σ H R I h
  refine thn (hl pins s σ H _ I h) fun v s1 ⟨x,H1,I1,r1,q1⟩=>?_
  obtain ⟨d,e,hq⟩:=q1
  subst e
  cases r1
  obtain ⟨o,u,H2,I2,e,dk,q⟩:=hq.go I1
  obtain ⟨raw,hlen,hs,_⟩:=frz_raw I2.hok e dk
  refine raw_iter hs raw ?_
  refine ⟨s1.heap.objs.size,[s1.heap.objs.size],_,_,H2,rfl,I2.kept (t':=s1.toks) fun b o e=>Heap.get?_push_of_some _ e,turn_keys d _ o u dk,⟨_,Heap.get?_push_size _ rfl,rfl,rfl⟩,fun b hb=>?_,q⟩
  have e:b=s1.heap.objs.size:=by simpa using hb
  subst e
  exact I2.fpOk (Nat.le_refl _) (I2.hok.fresh (Nat.le_refl _))
def iPairs (tl:TE):TI:=fun σ H R=>tl σ H fun x H1=>∃ d,x=.ref d∧Froz H1 d fun o u H2=>R (ItP d o u) H2
theorem pi_pairs {elts:List Expr} {kk:Nat} {tpos apos cpos:Pos} {l:Expr} {tl:TE} (hl:PE X l tl) (hbase:attributeBase l "items" X.env (eval l X.env)=eval l X.env:=by rfl) (hline:(apos.endLine == cpos.line)=true:=by rfl):PI X (.Tuple elts kk tpos) (.Call (.Attribute l "items" apos) [] [] cpos) (iPairs tl):=by
  intro pins s σ H R I h
  refine wpAny_Call_method0_late hbase hline (thn (hl pins s σ H _ I h) fun v s1 ⟨x,H1,I1,r1,q1⟩=>?_)
  obtain ⟨d,e,hq⟩:=q1
  subst e
  cases r1
  obtain ⟨o,u,H2,I2,e,dk,q⟩:=hq.go I1
  obtain ⟨raw,hlen,hs,_⟩:=frz_raw I2.hok e dk
  refine ⟨"dict","dict.items",PySem.F.plainAttrs_dict,PySem.F.slot_dict_items,PySem.F.type_dict_items,raw.ty,fun b q=>?_,Calls.callWith_builtin rfl (PySem.evalArgs_none ?_)⟩
  · cases q
    obtain ⟨ob,g,c,_⟩:=raw
    exact ⟨ob,g,c.2.1⟩
  · refine call_meetsIn PySem.F.slot_dict_items raw.ty PySem.F.entry_dict_items (PySem.F.args_dict_items_1 _) (raw_items d hs) ⟨⟨_,_,raw⟩,?_⟩
    have raw2:=raw.at (h':=s1.heap.push { cls:=.type "dict_items",data:=.fields #[.ref d] }) fun o e=>Heap.get?_push_of_some _ e
    show wpAny (model X.prog X.w) X.A (pyIter (.ref s1.heap.objs.size)) _ _ _
    refine raw_viewIter (s:={ s1 with heap:=s1.heap.push { cls:=.type "dict_items",data:=.fields #[.ref d] } }) ⟨_,Heap.get?_push_size _ rfl,rfl,rfl⟩ raw2 ?_
    have hz:(s1.heap.push { cls:=.type "dict_items",data:=.fields #[.ref d] }).objs.size=s1.heap.objs.size + 1:=Heap.size_push ..
    refine ⟨_,[(s1.heap.push { cls:=.type "dict_items",data:=.fields #[.ref d] }).objs.size],_,_,H2,rfl,I2.kept (t':=s1.toks) fun b o e=>Heap.get?_push_of_some _ (Heap.get?_push_of_some _ e),turn_pairs d _ o u dk,⟨_,_,Heap.get?_push_size _ rfl⟩,fun b hb=>?_,q⟩
    have e:b=(s1.heap.push { cls:=.type "dict_items",data:=.fields #[.ref d] }).objs.size:=by simpa using hb
    subst e
    exact I2.fpOk (by rw [hz];exact Nat.le_succ _) (I2.hok.fresh (by rw [hz];exact Nat.le_succ _))
theorem walks_raw {prog:Program} {w:World} {A:Around} (hh:A.handled=none) (I d:Addr) (hne:d≠I) (es:Array DictEntry) (ep:Nat):Walks prog w A I [I,d] [I] es.size (fun i v=>∃ e,es[i]?=some e∧v=e.key) (fun i h=>h.IsKeyIter I d i es.size ep∧RawAt h d es ep) where
  sub:=fun b hb=>by simp at hb;simp [hb]
  frame:=fun _ _ _ st hk=>⟨st.1.at fun o e=>hk I (by simp) o e,st.2.at fun o e=>hk d (by simp) o e⟩
  item:=fun i s Q E hi st hQ=>raw_next st.1 st.2 (Array.getElem?_eq_getElem hi) fun h' hit' hs'=>hQ _ h' s.toks ⟨_,Array.getElem?_eq_getElem hi,rfl⟩ ⟨hit',st.2.at fun o e=>hs'.extBut d o hne e⟩ fun b o hb e=>hs'.extBut b o (fun h=>hb (by simp [h])) e
  done:=fun s Q E st hQ=>raw_end hh st.1 st.2 (Array.getElem?_eq_none (Nat.le_refl _)) fun h' he'=>hQ h' s.toks fun b o hb e=>he' b o (fun h=>hb (by simp [h])) e
  self:=fun _ _ _ _ st hQ=>wpAny_pyIter_keyiter st.1 hQ
theorem src_raw {prog:Program} {w:World} {d:Addr} (lo:(d == sysModules)=false) (es:Array DictEntry) (ep:Nat):PySem.W.KdlSrc prog w "dict" d d es.size (fun i v=>∃ e,es[i]?=some e∧v=e.key) (fun h=>RawAt h d es ep) where
  type:=fun _ hm=>hm.ty
  there:=fun _ hm=>⟨hm.lt,hm.lt⟩
  keep:=fun _ _ hm hk=>hm.at fun o e=>hk d (.inl rfl) o e
  notList:=by decide
  notTuple:=by decide
  hint:=fun _ _ _ _ hm hq=>PySem.W.kdl_hint_dict hm.ty hq
  iter:=fun _ _ hh hm=>⟨_,_,(fun _ _ hq=>raw_iter lo hm hq),walks_raw hh _ d (Nat.ne_of_lt hm.lt) es ep,⟨⟨_,Heap.get?_push_size _ rfl,rfl,rfl⟩,hm.at fun o e=>Heap.get?_push_of_some _ e⟩⟩
def KeysAre (H:Hp) (u:HO) (ys:List V):Prop:=ys.length=lenD u∧∀ i x,ys[i]?=some x→KeyAt H i x u
def rListD:List V→Hp→VK→Prop:=fun xs H Q=>∃ d,xs=[.ref d]∧Froz H d fun o u H2=>∀ l ys,H2 l=none→KeysAre H2 u ys→Q (.ref l) (upd H2 l (.lst ys))
theorem vals_make {P:Nat→V→Prop}:∀ (us:List Value),(∀ (i:Nat) u,us[i]?=some u→∃ x,P i x∧RelV x u)→∃ xs:List V,Vals xs us∧∀ i x,xs[i]?=some x→P i x:=by
  intro us
  induction us generalizing P with
  | nil=>exact fun _=>⟨[],.nil,fun i x h=>by simp at h⟩
  | cons u us ih =>
    intro h
    obtain ⟨x,hx,rx⟩:=h 0 u rfl
    obtain ⟨xs,rv,hp⟩:=ih (P:=fun i=>P (i + 1)) fun i u' e=>h (i + 1) u' (by simpa using e)
    refine ⟨x :: xs,.cons rx rv,fun i y e=>?_⟩
    cases i with
    | zero=>simp at e;subst e;exact hx
    | succ j=>exact hp j y (by simpa using e)
theorem call_listD (hc:X.calm=true):CallR X (.type "list") rListD:=by
  intro pins s σ H xs us Q I r h
  obtain ⟨d,rfl,hq⟩:=h
  obtain ⟨v,rfl,ru⟩:=vals1 r
  cases ru
  obtain ⟨o,u,H2,I2,e,dk,q⟩:=hq.go I
  obtain ⟨raw,hlen,hs,hz,at'⟩:=frz_raw I2.hok e dk
  refine PySem.W.kdl_call (src_raw hs (esOf o) (epO o)) (I2.ok.hd hc) raw (by rw [hlen];exact hz) fun h' tk acc c hk hD hacc=>?_
  obtain ⟨xs,rv,hp⟩:=vals_make (P:=fun i x=>KeyAt H2 i x u) acc.toList fun i v hv=>by
    obtain ⟨en,e1,rfl⟩:=hacc.2 i v (by rw [← Array.getElem?_toList];exact hv)
    obtain ⟨k,_,h1,h2,_⟩:=at' i en e1
    exact ⟨k,h1,h2⟩
  have hl:xs.length=lenD u:=by rw [rv.length,Array.length_toList,hacc.1,hlen]
  have hn:H2 s.heap.objs.size=none:=I2.hok.fresh (Nat.le_refl _)
  refine ⟨.ref s.heap.objs.size,upd H2 s.heap.objs.size (.lst xs),I2.laid (t':=tk) hk (Nat.le_refl _) ⟨by rw [hl];exact hz,acc.toList,c,rv,by simpa using hD⟩,rfl,q _ xs hn ⟨hl,hp⟩⟩
end
end L2
namespace U2
open PySem PySem.Spec PyProof.Rows L2
def keyOf (tk:Bool) (k:List Key):U:=if tk then .tup (k.map kU) else kU (hd1 k)
def keyUs (tk:Bool) (ks:List (List Key)):List U:=ks.map (keyOf tk)
def pairUs (tk:Bool) (ks:List (List Key)) (us:List U):List U:=(ks.zip us).map fun p=>.tup [keyOf tk p.1,p.2]
theorem keyUs_len (tk:Bool) (ks:List (List Key)):(keyUs tk ks).length=ks.length:=by simp [keyUs]
def DOk (u:HO) (ks:List (List Key)) (tk:Bool) (vs:List V):Prop:=match tk with
  | true=>∃ ws,u=.dT ws∧ks=ws.map (·.1)∧vs=ws.map (·.2)
  | false=>∃ ws,u=.dK ws∧ks=ws.map (fun p=>[p.1])∧vs=ws.map (·.2)
section
variable {K:PySem.W.Frag} {H:Hp} {M:MHp}
theorem kU_rel (k:Key):RelU K H M (kU k) (kV k):=by cases k <;> simp only [kU,kV,RelU]
theorem kUs_rel:∀ k:List Key,RelUs K H M (k.map kU) (k.map kV)
  | []=>.nil
  | a :: k=>.cons (kU_rel a) (kUs_rel k)
theorem RelM.tupNone (rm:RelM K H M) {b:Addr} {ys:List V} (h:H b=some (.tup ys)):M b=none:=by
  cases e:M b with
  | none=>rfl
  | some mo =>
    have r:=rm b mo e
    cases mo with
    | lst us=>obtain ⟨vs,x,_⟩:=r;rw [h] at x;cases x
    | dK us=>obtain ⟨vs,x,_⟩:=r;rw [h] at x;cases x
    | dT us=>obtain ⟨vs,x,_⟩:=r;rw [h] at x;cases x
    | tbl q=>obtain ⟨_,ps,x,_⟩:=r;rw [h] at x;cases x
theorem DOk.key {u:HO} {ks:List (List Key)} {tk:Bool} {vs:List V} {i:Nat} {x:V} (d:DOk u ks tk vs) (rm:RelM K H M) (h:KeyAt H i x u):∃ k,ks[i]?=some k∧RelU K H M (keyOf tk k) x:=by
  cases tk with
  | true =>
    obtain ⟨ws,rfl,rfl,rfl⟩:=d
    obtain ⟨p,b,h1,rfl,h3⟩:=h
    refine ⟨p.1,by rw [List.getElem?_map,h1];rfl,?_⟩
    show RelU K H M (.tup (p.1.map kU)) (.ref b)
    simp only [RelU]
    exact ⟨b,_,rfl,⟨rm.tupNone h3,h3⟩,kUs_rel _⟩
  | false =>
    obtain ⟨ws,rfl,rfl,rfl⟩:=d
    obtain ⟨p,h1,rfl⟩:=h
    exact ⟨[p.1],by rw [List.getElem?_map,h1];rfl,kU_rel _⟩
theorem DOk.val {u:HO} {ks:List (List Key)} {tk:Bool} {vs:List V} {i:Nat} {x:V} (d:DOk u ks tk vs) (h:ValAt i x u):vs[i]?=some x:=by
  cases tk with
  | true=>obtain ⟨ws,rfl,rfl,rfl⟩:=d;obtain ⟨p,h1,rfl⟩:=h;rw [List.getElem?_map,h1];rfl
  | false=>obtain ⟨ws,rfl,rfl,rfl⟩:=d;obtain ⟨p,h1,rfl⟩:=h;rw [List.getElem?_map,h1];rfl
theorem DOk.len {u:HO} {ks:List (List Key)} {tk:Bool} {vs:List V} (d:DOk u ks tk vs):ks.length=lenD u∧vs.length=lenD u:=by
  cases tk with
  | true=>obtain ⟨ws,rfl,rfl,rfl⟩:=d;simp [lenD]
  | false=>obtain ⟨ws,rfl,rfl,rfl⟩:=d;simp [lenD]
theorem dic_froz {ks:List (List Key)} {tk:Bool} {us:List U} {v:V} {R:Addr→Obj→HO→Hp→Prop} (rm:RelM K H M) (r:RelU K H M (.dic ks tk us) v)
    (h:∀ a o u H2 vs,v=.ref a→Stp H M H2 M→RelM K H2 M→H2 a=some (.frz o u)→M a=none→DOk u ks tk vs→RelUs K H2 M us vs→R a o u H2):∃ d,v=.ref d∧Froz H d (R d):=by
  simp only [RelU] at r
  obtain ⟨a,vs,rfl,m,da,ru⟩:=r
  refine ⟨a,rfl,?_⟩
  have go:∀ u,isDk u=true→DOk u ks tk vs→Rd H a u→Froz H a (R a):=by
    intro u dk dok rd
    rcases rd with e | ⟨o,e⟩
    · refine ⟨u,dk,.inl ⟨e,fun o=>?_⟩⟩
      have st:Stp H M (upd H a (.frz o u)) M:=fun b ob eb mb=>by
        by_cases hb:b=a
        · subst hb;rw [e] at eb;cases eb
          exact ⟨.inr ⟨dk,o,upd_same⟩,m⟩
        · exact ⟨.inl (by rw [upd_ne hb];exact eb),mb⟩
      have rm2:RelM K (upd H a (.frz o u)) M:=fun b mo eb=>(rm b mo eb).stp (fun _ _ z=>z) st (upd_ne (fun z=>by rw [z,m] at eb;cases eb))
      exact h a o u _ vs rfl st rm2 upd_same m dok (ru.stp st)
    · exact ⟨u,dk,.inr ⟨o,e,h a o u H vs rfl (Stp.refl _ _) rm e m dok ru⟩⟩
  cases tk with
  | true=>obtain ⟨ws,e,e1,e2⟩:=da;exact go _ rfl ⟨ws,rfl,e1,e2⟩ e
  | false=>obtain ⟨ws,e,e1,e2⟩:=da;exact go _ rfl ⟨ws,rfl,e1,e2⟩ e
theorem frz_stay {H1:Hp} {M1:MHp} {a:Addr} {o:Obj} {u:HO} (st:Stp H M H1 M1) (e:H a=some (.frz o u)) (m:M a=none):H1 a=some (.frz o u):=(st.to e m).1
theorem walk_keys {ks:List (List Key)} {tk:Bool} {vs:List V} {a:Addr} {o:Obj} {u:HO} (e:H a=some (.frz o u)) (m:M a=none) (d:DOk u ks tk vs):Walk K (ItK a o u) ⟨none,keyUs tk ks⟩ H M:=by
  refine ⟨fun H1 M1 s rm _ i w ew=>?_,fun H1 M1 s rm _=>⟨frz_stay s e m,by show lenD u≤(keyUs tk ks).length;rw [keyUs_len,d.len.1];exact Nat.le_refl _⟩⟩
  have hi:i < ks.length:=by have:=(List.getElem?_eq_some_iff.mp ew).1;simpa [keyUs] using this
  refine ⟨⟨frz_stay s e m,by rw [← d.len.1];exact hi⟩,fun x H2 y=>?_⟩
  obtain ⟨rfl,y⟩:=y
  refine ⟨Stp.refl _ _,rm,?_⟩
  obtain ⟨k,h1,h2⟩:=d.key rm y
  have:(keyUs tk ks)[i]?=some (keyOf tk k):=by simp only [keyUs,List.getElem?_map,h1,Option.map_some]
  rw [show (Src.mk none (keyUs tk ks)).xs[i]?=(keyUs tk ks)[i]? from rfl,this] at ew
  cases ew;exact h2
theorem walk_pairs {ks:List (List Key)} {tk:Bool} {us:List U} {vs:List V} {a:Addr} {o:Obj} {u:HO} (e:H a=some (.frz o u)) (m:M a=none) (d:DOk u ks tk vs) (ru:RelUs K H M us vs):Walk K (ItP a o u) ⟨none,pairUs tk ks us⟩ H M:=by
  have hl:us.length=ks.length:=by rw [ru.length,d.len.2,d.len.1]
  have pl:(pairUs tk ks us).length=ks.length:=by simp [pairUs,hl]
  refine ⟨fun H1 M1 s rm _ i w ew=>?_,fun H1 M1 s rm _=>⟨frz_stay s e m,by show lenD u≤(pairUs tk ks us).length;rw [pl,d.len.1];exact Nat.le_refl _⟩⟩
  have hi:i < ks.length:=by have:=(List.getElem?_eq_some_iff.mp ew).1;rw [← pl];exact this
  refine ⟨⟨frz_stay s e m,by rw [← d.len.1];exact hi⟩,fun x H2 y=>?_⟩
  obtain ⟨T,k,v,hk,hv,hT,rfl,rfl⟩:=y
  obtain ⟨kk,h1,h2⟩:=d.key rm hk
  have h3:=d.val hv
  obtain ⟨z,hz⟩:∃ z,us[i]?=some z:=⟨us[i]'(by omega),List.getElem?_eq_getElem (by omega)⟩
  obtain ⟨v',h4,h5⟩:=ru.get hz
  rw [h3] at h4;cases h4
  have st:=Stp.laid (o:=.tup [k,v]) rm hT
  have:(pairUs tk ks us)[i]?=some (.tup [keyOf tk kk,z]):=by
    have hz':(ks.zip us)[i]?=some (kk,z):=by rw [List.getElem?_zip_eq_some];exact ⟨h1,hz⟩
    simp only [pairUs,List.getElem?_map,hz',Option.map_some]
  rw [show (Src.mk none (pairUs tk ks us)).xs[i]?=(pairUs tk ks us)[i]? from rfl,this] at ew
  cases ew
  have rr:RelUs K H1 M1 [keyOf tk kk,z] [k,v]:=.cons h2 (.cons (h5.stp s) .nil)
  exact ⟨st,rm.laid hT,relU_tup (rm.no hT) upd_same (rr.stp st)⟩
def uKeys (te:UE):UI:=fun τ M R=>te τ M fun x M1=>match x with
  | .dic ks tk us=>R ⟨none,keyUs tk ks⟩ M1
  | _=>False
def uPairs (te:UE):UI:=fun τ M R=>te τ M fun x M1=>match x with
  | .dic ks tk us=>R ⟨none,pairUs tk ks us⟩ M1
  | _=>False
theorem sim_keys {t:TE} {t':UE} (h:SimE K t t'):SimI K (iKeys t) (uKeys t'):=fun σ τ H M R' rs rm q R c=>h σ τ H M _ rs rm q _ fun x v M1 H1 s1 rm1 ru h1=>by
  cases x with
  | dic ks tk us=>exact dic_froz rm1 ru fun a o u H2 vs hv st rm2 e m d r=>c _ _ M1 H2 (s1.trans st) rm2 (walk_keys e m d) h1
  | _=>exact h1.elim
theorem sim_pairs {t:TE} {t':UE} (h:SimE K t t'):SimI K (iPairs t) (uPairs t'):=fun σ τ H M R' rs rm q R c=>h σ τ H M _ rs rm q _ fun x v M1 H1 s1 rm1 ru h1=>by
  cases x with
  | dic ks tk us=>exact dic_froz rm1 ru fun a o u H2 vs hv st rm2 e m d r=>c _ _ M1 H2 (s1.trans st) rm2 (walk_pairs e m d r) h1
  | _=>exact h1.elim
end
section
variable {D:Dat} {tg e:Expr} {te:UE} {pos p:Pos}
theorem ui_keys (h:PEU D e te):PIU D tg e (uKeys te):=by
  obtain ⟨_,q,s⟩:=h
  exact ⟨_,fun X h=>pi_keys (q X h),sim_keys s⟩
theorem ui_items {elts:List Expr} {kk:Nat} {tpos apos cpos:Pos} (h:PEU D e te) (hbase:∀ env,attributeBase e "items" env (eval e env)=eval e env:=by intro _;rfl) (hline:(apos.endLine == cpos.line)=true:=by rfl):PIU D (.Tuple elts kk tpos) (.Call (.Attribute e "items" apos) [] [] cpos) (uPairs te):=by
  obtain ⟨_,q,s⟩:=h
  exact ⟨_,fun X h=>pi_pairs (q X h) (hbase _) hline,sim_pairs s⟩
def bListD (o:Bool):List U→MHp→UK→Prop:=fun us M Q=>match us with
  | [.dic ks tk _]=>mkL o (keyUs tk ks) M Q
  | _=>False
theorem relUs_of {K:PySem.W.Frag} {H:Hp} {M:MHp}:∀ {us:List U} {vs:List V},us.length=vs.length→(∀ (i:Nat) u v,us[i]?=some u→vs[i]?=some v→RelU K H M u v)→RelUs K H M us vs
  | [],[],_,_=>.nil
  | u :: us,v :: vs,hl,h=>.cons (h 0 u v rfl rfl) (relUs_of (by simpa using hl) fun i a b h1 h2=>h (i + 1) a b (by simpa using h1) (by simpa using h2))
  | [],_ :: _,hl,_=>by simp at hl
  | _ :: _,[],hl,_=>by simp at hl
theorem b_listD (own:Bool:=false):Blt D (.type "list") (bListD own):=⟨⟨_,fun X h=>call_listD h.calm,fun xs us H M Q' rm rus h Q c=>by
  unfold bListD at h
  split at h
  · rename_i ks tk ws
    obtain ⟨v,rfl,a1⟩:=rus.one
    obtain ⟨d,rfl,f⟩:=dic_froz (R:=fun d o u H2=>∀ l ys,H2 l=none→KeysAre H2 u ys→Q (.ref l) (upd H2 l (.lst ys))) rm a1 fun a o u H2 vs hv st rm2 e m dk r l ys hl hk=>by
      have rr:RelUs D.K H2 M (keyUs tk ks) ys:=relUs_of (by rw [keyUs_len,dk.len.1];exact hk.1.symm) fun i w y h1 h2=>by
        obtain ⟨k,h3,h4⟩:=dk.key rm2 (hk.2 i y h2)
        simp only [keyUs,List.getElem?_map,h3,Option.map_some,Option.some.injEq] at h1
        rw [← h1];exact h4
      exact (c.stp st).lst rm2 rr hl h
    exact ⟨d,rfl,f⟩
  · exact h.elim⟩⟩
end
end U2
namespace U2
open PySem PySem.Spec PyProof.Rows L2
def Cv (τ:SU) (M:MHp) (τ':SU) (M':MHp):Prop:=∀ (K:PySem.W.Frag) (H:Hp) (σ:L2.St),RelM K H M→RelS K H M σ τ→Stp H M H M'∧RelM K H M'∧RelS K H M' σ τ'
def uCv (t:US):US:=fun D τ M=>t { D with nx:=fun τ1 M1=>∃ τ' M',Cv τ1 M1 τ' M'∧D.nx τ' M' } τ M
theorem us_cv {D:Dat} {s:Stmt} {t:US} (h:PSU D s t):PSU D s (uCv t):=by
  obtain ⟨u,p,q⟩:=h
  refine ⟨u,p,fun σ τ H M D' rs rm h D d=>q σ τ H M _ rs rm h D ⟨fun σ1 τ1 H1 M1 s1 rm1 rs1 h1=>?_,d.rt,d.bk,d.ct⟩⟩
  obtain ⟨τ',M',c,h2⟩:=h1
  obtain ⟨s2,rm2,rs2⟩:=c _ H1 σ1 rm1 rs1
  exact d.nx σ1 τ' H1 M' (s1.trans s2) rm2 rs2 h2
def cvU (Q:UK):UK:=fun u M1=>∃ u' M',(∀ (K:PySem.W.Frag) (H:Hp) (v:V),RelM K H M1→RelU K H M1 u v→Stp H M1 H M'∧RelM K H M'∧RelU K H M' u' v)∧Q u' M'
theorem Callee.conv {P:Program} {w:World} {K:PySem.W.Frag} {mg:Str→Option Value} {base:Heap} {j:Nat} {x:Str} {sp sp':USp} {dus:List U} (c:Callee P w K mg base j x sp dus) (h:∀ us M Q,sp' us M Q→sp us M (cvU Q)):Callee P w K mg base j x sp' dus :=
  let ⟨f,fd,ps,dvs,ds,F,r⟩:=c.ex;⟨f,fd,ps,dvs,ds,F.imp fun vs H Q E ⟨us,M,Q',h1,h2,h3,h4⟩=>⟨us,M,cvU Q',h1,h2,h us M Q' h3,fun u v M1 H1 st rm1 ru ⟨u',M',cv,q⟩=>let ⟨s2,rm2,ru2⟩:=cv K H1 v rm1 ru;h4 u' v M' H1 (st.trans s2) rm2 ru2 q⟩,r⟩
section
variable {K:PySem.W.Frag} {H:Hp} {M1 M':MHp}
theorem kv_keys {κ:Type}:∀ {kvs:List (κ × U)} {ws:List (κ × V)} {M:MHp},RelKv K H M kvs ws→kvs.map (·.1)=ws.map (·.1)∧RelUs K H M (kvs.map (·.2)) (ws.map (·.2))
  | _,_,_,.nil=>⟨rfl,.nil⟩
  | _,_,_,.cons h t=>by
    obtain ⟨h1,h2⟩:=kv_keys t
    refine ⟨?_,.cons h.2 h2⟩
    rw [List.map_cons,List.map_cons,h1,h.1]
def setK (kvs:List (Key × U)):U:=.dic (kvs.map fun e=>[e.1]) false (kvs.map (·.2))
def setT (kvs:List (List Key × U)):U:=.dic (kvs.map (·.1)) true (kvs.map (·.2))
theorem setK_dvw (M:MHp) (kvs:List (Key × U)):dvw M (setK kvs)=some (.dK kvs):=by
  have e:∀ l:List (Key × U),((l.map fun e=>[e.1]).map hd1).zip (l.map (·.2))=l:=by
    intro l
    induction l with
    | nil=>rfl
    | cons a r ih=>simp only [List.map_cons,List.zip_cons_cons,ih,hd1]
  simp only [setK,dvw,e]
theorem setT_dvw (M:MHp) (kvs:List (List Key × U)):dvw M (setT kvs)=some (.dT kvs):=by
  have e:∀ l:List (List Key × U),(l.map (·.1)).zip (l.map (·.2))=l:=by
    intro l
    induction l with
    | nil=>rfl
    | cons a r ih=>simp only [List.map_cons,List.zip_cons_cons,ih]
  simp only [setT,dvw,e]
theorem setK_rel {kvs:List (Key × U)} {a:Addr} (rm:RelM K H M1) (h:M1 a=some (.dK kvs)) (hn:M' a=none) (st:Stp H M1 H M'):RelU K H M' (setK kvs) (.ref a):=by
  obtain ⟨ws,h1,r⟩:=rm a _ h
  obtain ⟨h2,h3⟩:=kv_keys r
  refine ⟨a,ws.map (·.2),rfl,hn,⟨ws,.inl h1,?_,rfl⟩,h3.stp st⟩
  have:=congrArg (List.map fun k:Key=>[k]) h2
  rw [List.map_map,List.map_map] at this
  exact this
theorem setT_rel {kvs:List (List Key × U)} {a:Addr} (rm:RelM K H M1) (h:M1 a=some (.dT kvs)) (hn:M' a=none) (st:Stp H M1 H M'):RelU K H M' (setT kvs) (.ref a):=by
  obtain ⟨ws,h1,r⟩:=rm a _ h
  obtain ⟨h2,h3⟩:=kv_keys r
  exact ⟨a,ws.map (·.2),rfl,hn,⟨ws,.inl h1,h2,rfl⟩,h3.stp st⟩
theorem lst_rel {us:List U} {a:Addr} (rm:RelM K H M1) (h:M1 a=some (.lst us)) (hn:M' a=none) (st:Stp H M1 H M'):RelU K H M' (.lst us) (.ref a):=by
  obtain ⟨vs,h1,r⟩:=rm a _ h
  exact relU_lst hn h1 (r.stp st)
theorem kv_conv {κ:Type} {kvs kvs':List (κ × U)} {ws:List (κ × V)} (r:RelKv K H M1 kvs ws) (hl:kvs.length=kvs'.length) (h:∀ (i:Nat) p p',kvs[i]?=some p→kvs'[i]?=some p'→p.1=p'.1∧∀ x,RelU K H M1 p.2 x→RelU K H M' p'.2 x):RelKv K H M' kvs' ws:=by
  induction r generalizing kvs' with
  | nil=>cases kvs' with
    | nil=>exact .nil
    | cons a r=>simp at hl
  | cons q t ih=>cases kvs' with
    | nil=>simp at hl
    | cons a r =>
      obtain ⟨h1,h2⟩:=h 0 _ _ rfl rfl
      exact .cons ⟨h1 ▸ q.1,h2 _ q.2⟩ (ih (by simpa using hl) fun i p p' e1 e2=>h (i + 1) p p' (by simpa using e1) (by simpa using e2))
end
theorem cv_last {τ:SU} {M:MHp} {k r:Addr} {xs:List (List Key × U)} {key:List Key} {kvs:List (Key × U)} (hr:M r=none) (hk:k≠r):Cv τ (mup (mup M k (.dT (xs++[(key,.ref r)]))) r (.dK kvs)) τ (mup M k (.dT (xs++[(key,setK kvs)]))):=by
  intro K H σ rm rs
  generalize hM1:mup (mup M k (.dT (xs++[(key,.ref r)]))) r (.dK kvs)=M1 at *
  generalize hM':mup M k (.dT (xs++[(key,setK kvs)]))=M' at *
  have a1:M1 r=some (.dK kvs):=by rw [← hM1,mup_same]
  have ak:M1 k=some (.dT (xs++[(key,.ref r)])):=by rw [← hM1,mup_ne hk,mup_same]
  have n1:M' r=none:=by rw [← hM',mup_ne (Ne.symm hk)];exact hr
  have oth:∀ b,b≠k→b≠r→M1 b=M b∧M' b=M b:=fun b b1 b2=>by rw [← hM1,← hM',mup_ne b2,mup_ne b1,mup_ne b1];exact ⟨rfl,rfl⟩
  have st:Stp H M1 H M':=Stp.less fun b hb=>by
    have b1:b≠k:=fun z=>by subst z;rw [ak] at hb;cases hb
    have b2:b≠r:=fun z=>by subst z;rw [a1] at hb;cases hb
    obtain ⟨o1,o2⟩:=oth b b1 b2
    rw [o2,← o1];exact hb
  refine ⟨st,fun a mo e=>?_,rs.stp st⟩
  by_cases e1:a=k
  · subst e1
    rw [← hM',mup_same] at e;cases e
    obtain ⟨ws,g1,q⟩:=rm a _ ak
    refine ⟨ws,g1,kv_conv q (by simp) fun i p p' h1 h2=>?_⟩
    by_cases hi:i < xs.length
    · rw [List.getElem?_append_left hi] at h1 h2
      rw [h1] at h2;cases h2
      exact ⟨rfl,fun x rx=>rx.stp st⟩
    · rw [List.getElem?_append_right (by omega)] at h1 h2
      cases hj:i - xs.length with
      | zero =>
        rw [hj] at h1 h2
        simp at h1 h2
        subst h1;subst h2
        exact ⟨rfl,fun x rx=>by rw [rx.ref];exact setK_rel rm a1 n1 st⟩
      | succ j=>rw [hj] at h1;simp at h1
  · have e2:a≠r:=fun z=>by subst z;rw [n1] at e;cases e
    obtain ⟨o1,o2⟩:=oth a e1 e2
    rw [o2,← o1] at e
    refine (rm a mo e).stp (fun b q z=>?_) st rfl
    have b1:b≠k:=fun y=>by subst y;rw [← hM',mup_same] at z;cases z
    have b2:b≠r:=fun y=>by subst y;rw [n1] at z;cases z
    rw [(oth b b1 b2).1,← (oth b b1 b2).2];exact z
theorem cv_out {M M1:MHp} {a:Addr} {kvs:List (Key × U)} {Q:UK} (hs:Sub M M1) (ha:M1 a=some (.dK kvs)) (hn:M a=none) (q:Q (setK kvs) M):cvU Q (.ref a) M1 :=
  ⟨_,M,fun K H v rm ru=>⟨hs.less,rm.sub hs,by rw [ru.ref];exact setK_rel rm ha hn hs.less⟩,q⟩
theorem cv_outT {M M1:MHp} {a:Addr} {kvs:List (List Key × U)} {Q:UK} (hs:Sub M M1) (ha:M1 a=some (.dT kvs)) (hn:M a=none) (q:Q (setT kvs) M):cvU Q (.ref a) M1 :=
  ⟨_,M,fun K H v rm ru=>⟨hs.less,rm.sub hs,by rw [ru.ref];exact setT_rel rm ha hn hs.less⟩,q⟩
theorem cv_outL {M M1:MHp} {a:Addr} {l:List (Key × Addr × List U)} {Q:UK} (hs:Sub M M1) (ha:M1 a=some (.dK (l.map fun e=>(e.1,.ref e.2.1)))) (hl:∀ e∈l,M1 e.2.1=some (.lst e.2.2)∧M e.2.1=none) (hn:M a=none) (q:Q (setK (l.map fun e=>(e.1,.lst e.2.2))) M):cvU Q (.ref a) M1 :=
  ⟨_,M,fun K H v rm ru=>⟨hs.less,rm.sub hs,by
    rw [ru.ref]
    have st:Stp H M1 H M:=hs.less
    obtain ⟨ws,h1,r⟩:=rm a _ ha
    have r2:RelKv K H M (l.map fun e=>(e.1,U.lst e.2.2)) ws:=kv_conv r (by simp) fun i p p' e1 e2=>by
      rw [List.getElem?_map] at e1 e2
      cases hj:l[i]? with
      | none=>rw [hj] at e1;cases e1
      | some e =>
        rw [hj] at e1 e2;cases e1;cases e2
        obtain ⟨h3,h4⟩:=hl e (List.mem_of_getElem? hj)
        exact ⟨rfl,fun x rx=>by rw [rx.ref];exact lst_rel rm h3 h4 st⟩
    obtain ⟨h2,h3⟩:=kv_keys r2
    refine ⟨a,ws.map (·.2),rfl,hn,⟨ws,.inl h1,?_,rfl⟩,h3⟩
    have:=congrArg (List.map fun k:Key=>[k]) h2
    rw [List.map_map,List.map_map (l:=ws)] at this
    exact this⟩,q⟩
end U2
namespace L2
open PySem PySem.Spec PyProof.Rows
section
variable {X:Cx} {o e f:Expr} {apos cpos:Pos} {td ty tx:TE}
def tDSet (td ty tx:TE):TE:=fun σ H Q=>td σ H fun x H1=>∃ a,x=.ref a∧IsD H1 a∧ty σ H1 fun y H2=>tx σ H2 fun z H3=>∃ kvs k,H3 a=some (.dK kvs)∧y=kV k∧kvs.length < sizeLine ∧
  (∀ v,valV kvs k=some v→Q v H3)∧(valV kvs k=none→Q z (upd H3 a (.dK (putK kvs k z))))
theorem pe_dset (ho:PE X o td) (he:PE X e ty) (hf:PE X f tx) (m:M2 X o "setdefault" apos e f cpos):PE X (.Call (.Attribute o "setdefault" apos) [e,f] [] cpos) (tDSet td ty tx):=by
  intro pins s σ H Q I h
  refine wpAny_Call_method m.base m.few m.line PySem.F.plainAttrs_dict PySem.F.slot_dict_setdefault PySem.F.type_dict_setdefault (thn (ho pins s σ H _ I h) fun u s1 ⟨x,H1,I1,rx,a,ex,d,q1⟩=>?_)
  subst ex
  obtain rfl:u=Value.ref a:=rx
  obtain ⟨t1,t2,_⟩:=isD_at I1 d
  refine ⟨t1,t2,?_⟩
  rw [m.trees]
  refine Calls.callWith_builtin rfl (Calls.evalArgs_plain (Calls.spliced_cons (thn (he pins s1 σ H1 _ I1 q1) fun iv s2 ⟨y,H2,I2,ry,q2⟩ =>
    Calls.spliced_cons (thn (hf pins s2 σ H2 _ I2 q2) fun fv s3 ⟨z,H3,I3,rz,kvs,k,ea,ey,hl,q3,q4⟩=>Calls.spliced_nil ?_))))
  subst ey
  obtain ⟨hz,hd,vs,rel,dd⟩:=dk_of I3.hok ea
  refine call_meetsIn PySem.F.slot_dict_setdefault dd.typeIs PySem.F.entry_dict_setdefault (PySem.F.args_dict_setdefault_3 _ _ _) (PySem.kt_meets_setdefault (mixKind X.prog X.w) a (kV_is ry) hd fv) ⟨vs,dd,by rw [← rel.length];exact hz,fun v hv=>?_,fun hv h' dd' hs=>?_⟩
  · have:=rel.val k
    rw [hv] at this
    cases hk:valV kvs k with
    | none=>rw [hk] at this;exact this.elim
    | some w=>rw [hk] at this;exact ⟨w,H3,I3.tok _,this,q3 w hk⟩
  · have:=rel.val k
    rw [hv] at this
    cases hk:valV kvs k with
    | some w=>rw [hk] at this;exact this.elim
    | none =>
      have he:∃ q,h'.get? a=some q:=let ⟨q,_,_,hq,_⟩:=dd';⟨q,hq⟩
      exact ⟨z,_,d_write I3 (by rw [ea];exact True.intro) hs he (dk_new (by have:=length_putK kvs k z;omega) hd (rel.put k rz) dd'),rz,q4 hk⟩
end
end L2
namespace U2
open PySem PySem.Spec PyProof.Rows L2
def uDSet (to ti tx:UE):UE:=fun τ M Q=>to τ M fun x M1=>isDb M1 x=true∧ti τ M1 fun y M2=>tx τ M2 fun z M3=>match x with
  | .ref a=>match M3 a,keyU y with
    | some (.dK kvs),some k=>kvs.length < sizeLine∧match valU kvs k with
      | some v=>Q v M3
      | none=>Q z (mup M3 a (.dK (putU kvs k z)))
    | _,_=>False
  | _=>False
theorem ue_setdefault {D:Dat} {o e f:Expr} {to te tf:UE} {apos pos:Pos} (ho:PEU D o to) (hi:PEU D e te) (hf:PEU D f tf) (hbase:∀ env,attributeBase o "setdefault" env (eval o env)=eval o env:=by intro _;rfl)
    (hfew:∀ env,((backTo pos (starEach [e,f] env)).all (fun x=>!x.1) && (backToKw pos (keywordEach [] env)).all (fun x=>x.1.isSome) && decide ([e,f].length + ([]:List Keyword).length + (if ([]:List Keyword).isEmpty then 0 else 1) < 30))=true:=by intro _;rfl)
    (hline:(apos.endLine == pos.line)=true:=by rfl) (hs:∀ env,backTo pos (starEach [e,f] env)=[(false,eval e env),(false,eval f env)]:=by intro _;rfl):PEU D (.Call (.Attribute o "setdefault" apos) [e,f] [] pos) (uDSet to te tf):=by
  obtain ⟨_,p1,s1⟩:=ho;obtain ⟨_,p2,s2⟩:=hi;obtain ⟨_,p3,s3⟩:=hf
  refine ⟨_,fun X h=>pe_dset (p1 X h) (p2 X h) (p3 X h) ⟨hbase _,hfew _,hline,hs _⟩,fun σ τ H M Q' rs rm h Q c=>?_⟩
  refine s1 σ τ H M _ rs rm h _ fun x vx M1 H1 st1 rm1 rx h1=>?_
  obtain ⟨hd,h1⟩:=h1
  obtain ⟨a,rfl,hd⟩:=isDb_rel rm1 rx hd
  refine ⟨a,rfl,hd,s2 σ τ H1 M1 _ (rs.stp st1) rm1 h1 _ fun y vy M2 H2 st2 rm2 ry h2=>s3 σ τ H2 M2 _ ((rs.stp st1).stp st2) rm2 h2 _ fun z vz M3 H3 st3 rm3 rz h3=>?_⟩
  cases x with
  | ref b =>
    cases (rx.stp (st2.trans st3)).ref
    dsimp only at h3
    split at h3
    · rename_i kvs k e1 e2
      obtain ⟨hl,h3⟩:=h3
      obtain ⟨ws,hv,r⟩:=rm3 a _ e1
      have:=keyU_rel (ry.stp st3) e2
      subst this
      have rv:=r.val k
      refine ⟨ws,k,hv,rfl,by rw [← r.length];exact hl,fun v hv2=>?_,fun hv2=>?_⟩
      · rw [hv2] at rv
        cases hk:valU kvs k with
        | none=>rw [hk] at rv;exact rv.elim
        | some w=>rw [hk] at rv h3;exact c w v M3 H3 ((st1.trans st2).trans st3) rm3 rv h3
      · rw [hv2] at rv
        cases hk:valU kvs k with
        | some w=>rw [hk] at rv;exact rv.elim
        | none =>
          rw [hk] at h3
          have st4:Stp H3 M3 (upd H3 a (.dK (putK ws k vz))) (mup M3 a (.dK (putU kvs k z))):=Stp.write e1
          exact c z vz _ _ (((st1.trans st2).trans st3).trans st4) (rm3.put st4 ⟨_,upd_same,(r.put k rz).stp st4⟩) (rz.stp st4) h3
    · exact h3.elim
  | _=>exact h3.elim
end U2
namespace U2
open PySem PySem.Spec PyProof.Rows L2
section
variable {prog:Program} {w:World} {A:Around} {E:Value→Shared→Prop} {s:Shared} {r:Addr} {a b:Int} {t u v:Tok}
end
section
variable {X:Cx} {tg a b e:Expr} {ta:TA} {te:TE} {p pos:Pos}
end
def uBack2 (ta:UA):UI:=fun τ M R=>ta τ M fun us M1=>match us with
  | [.int i,.int j]=>(-(2 ^ 62)≤i∧i < 2 ^ 62∧-(2 ^ 62)≤j∧j < 2 ^ 62)∧R ⟨none,(rangeU i (j - i).toNat).reverse⟩ M1
  | _=>False
def uBack1 (ta:UA):UI:=fun τ M R=>ta τ M fun us M1=>match us with
  | [.int j]=>(-(2 ^ 62)≤j∧j < 2 ^ 62)∧R ⟨none,(rangeU 0 j.toNat).reverse⟩ M1
  | _=>False
section
variable {D:Dat} {tg a b:Expr} {p p2 pos pos2:Pos} {ta:UA}
end
end U2
namespace U2
open PySem PySem.Spec PyProof.Rows L2
section
variable {X:Cx}
theorem call_sumG (hc:X.calm=true):CallR X (.builtin "sum") (fun xs H Q=>∃ (p:Addr) (ns:List Int),xs=[.ref p]∧SqL X.K H p (ns.map V.int)∧Q (.int ns.sum) H):=by
  intro pins s σ H xs us Q I r h
  obtain ⟨p,ns,rfl,hq,q⟩:=h
  obtain ⟨u,rfl,rx⟩:=vals1 r
  cases rx
  obtain ⟨its,r',pl,hz⟩:=I.list hq
  have hi:IntsAre its ns:=intsAre_of r'
  obtain ⟨ys,e⟩:=hi.allInts.items
  have hns:ns=ys.toList.map (·.1):=by
    rw [← hi.numsOf,← nums_intItems,← e]
  have hl:=pl.isList
  rw [e] at hl
  subst hns
  refine sum_intListG (I.ok.hd hc) hl fun h' tk t' hk=>?_
  · refine ⟨.int _,H,I.kept hk,⟨t',?_⟩,q⟩
    rw [preSum_eq,List.take_of_length_le (by simp)]
def bSumG:List U→MHp→UK→Prop:=fun us M Q=>match us with
  | [x]=>match view M x with
    | .lst ws=>∃ ns,intsOf ws=some ns∧Q (.int ns.sum) M
    | _=>False
  | _=>False
theorem b_sumG {D:Dat}:Blt D (.builtin "sum") bSumG:=⟨⟨_,fun X h=>by
    have:=(call_sumG (X:=X) h.calm);rw [h.K] at this;exact this,fun xs us H M Q' rm rus h Q c=>by
  unfold bSumG at h
  split at h
  · rename_i x
    obtain ⟨v,rfl,a1⟩:=rus.one
    split at h
    · rename_i ws e
      obtain ⟨ns,e2,q⟩:=h
      obtain ⟨b,zvs,rfl,s2,r2⟩:=view_lst rm a1 e
      rw [intsOf_rel r2 e2] at s2
      exact ⟨b,ns,rfl,s2,c.here rm relU_int q⟩
    · exact h.elim
  · exact h.elim⟩⟩
end
end U2
namespace L2
open PySem PySem.Spec PyProof.Rows
def addS (σ:List Str) (v:Str):List Str:=if σ.any (· == v) then σ else σ++[v]
def ddS (l:List Str):List Str:=l.foldl addS []
theorem ddS_snoc (l:List Str) (v:Str):ddS (l++[v])=addS (ddS l) v:=by simp [ddS,List.foldl_append]
theorem addS_len (σ:List Str) (v:Str):(addS σ v).length=if σ.any (· == v) then σ.length else σ.length + 1:=by
  unfold addS;split <;> simp
theorem addS_any (σ:List Str) (v k:Str):(addS σ v).any (· == k)=(σ.any (· == k) || decide (k=v)):=by
  unfold addS
  by_cases h:σ.any (· == v)=true
  · rw [if_pos h]
    by_cases e:k=v
    · subst e;simp [h]
    · simp [e]
  · rw [if_neg h,List.any_append]
    by_cases e:k=v
    · subst e;simp
    · have:(v == k)=false:=by simpa using fun z:v=k=>e z.symm
      simp [this,e]
theorem snoc_ind {P:List Str→Prop} (h0:P []) (h1:∀ l v,P l→P (l++[v])) (l:List Str):P l:=by
  have:∀ r:List Str,P r.reverse:=by
    intro r
    induction r with
    | nil=>exact h0
    | cons a r ih=>rw [List.reverse_cons];exact h1 _ _ ih
  have:=this l.reverse
  rwa [List.reverse_reverse] at this
theorem ddS_any (l:List Str) (k:Str):(ddS l).any (· == k)=decide (k∈l):=by
  refine snoc_ind (P:=fun l=>(ddS l).any (· == k)=decide (k∈l)) (by simp [ddS]) (fun l v ih=>?_) l
  rw [ddS_snoc,addS_any,ih];by_cases h:k∈l <;> by_cases e:k=v <;> simp [h,e]
theorem ddS_le (l:List Str):(ddS l).length≤l.length:=by
  refine snoc_ind (P:=fun l=>(ddS l).length≤l.length) (by simp [ddS]) (fun l v ih=>?_) l
  rw [ddS_snoc,addS_len,List.length_append,List.length_singleton];split <;> omega
theorem ddS_nodup (l:List Str):((ddS l).length=l.length) ↔ l.Nodup:=by
  refine snoc_ind (P:=fun l=>((ddS l).length=l.length) ↔ l.Nodup) (by simp [ddS]) (fun l v ih=>?_) l
  rw [ddS_snoc,addS_len,ddS_any,List.length_append,List.length_singleton]
  have hle:=ddS_le l
  have hn:(l++[v]).Nodup ↔ l.Nodup∧v ∉ l:=by
    rw [List.nodup_append]
    constructor
    · rintro ⟨a,_,b⟩;exact ⟨a,fun h=>b v h v (by simp) rfl⟩
    · rintro ⟨a,b⟩;exact ⟨a,by simp,fun x hx y hy e=>b (by simp at hy;subst hy;subst e;exact hx)⟩
  rw [hn,← ih]
  by_cases h:v∈l
  · simp [h];omega
  · simp [h]
section
variable {prog:Program} {w:World} {A:Around} {I:Addr} {fp wr:List Addr} {G:Array GenState→Array GenState→Prop} {n:Nat} {P:Nat→Value→Prop} {St:Nat→Shared→Prop} {R:Result→Shared→Prop}
theorem set_loopS (W:WalksS prog w A.in1 I fp wr G n P St) (S:Addr) (hSf:S ∉ fp) (l:List Str) (hl:l.length=n) (hval:∀ i v,P i v→∃ x t,l[i]?=some x∧v=.str x t) (hb:n + 1 < scanBound) :
    ∀ (k i:Nat) (s:Shared),n - i=k→i≤n→St i s→s.heap.SetOf (strKind prog w) S (fun y=>(ddS (l.take i)).any (· == y)) (ddS (l.take i)).length →
      (∀ s',Moved (S :: wr) G s s'→s'.heap.SetOf (strKind prog w) S (fun y=>(ddS l).any (· == y)) (ddS l).length→R (.ok (.ret .none)) s') →
      codeAny (model prog w) A (.builtin "set.update.loop" ⟨[.ref S,.ref I],[]⟩) R s:=by
  have hSw:S ∉ wr:=fun h=>hSf (W.sub _ h)
  have up:∀ b∈wr,b∈S :: wr:=fun b hb=>List.mem_cons_of_mem _ hb
  have keep:∀ {s s':Shared} {T:Str→Bool} {m:Nat},Moved wr G s s'→s.heap.SetOf (strKind prog w) S T m→s'.heap.SetOf (strKind prog w) S T m:=by
    intro s s' T m hm h
    obtain ⟨o,es,ep,t,ho,rest⟩:=h
    exact ⟨o,es,ep,t,hm.heap S _ hSw ho,rest⟩
  intro k
  induction k with
  | zero =>
    intro i s hk hi hst hS hR
    obtain rfl:i=n:=by omega
    refine codeAny_builtin F.entry_set_update_loop ?_
    rw [Around.under_plainId F.plain_set_update_loop _]
    show wpAny _ A.in1 (pyNext (.ref I) >>= _) _ _ s
    refine wpAny_bind (W.done s _ _ hst fun s' hm=>?_)
    show wpAny _ A.in1 (ret Value.none) _ _ s'
    refine wpAny_pure (hR s' (hm.mono up) (keep hm ?_))
    rw [List.take_of_length_le (by omega)] at hS
    exact hS
  | succ k ih =>
    intro i s hk hi hst hS hR
    have hlt:i < n:=by omega
    refine codeAny_builtin F.entry_set_update_loop ?_
    rw [Around.under_plainId F.plain_set_update_loop _]
    show wpAny _ A.in1 (pyNext (.ref I) >>= _) _ _ s
    refine wpAny_bind (W.item i s _ _ hlt hst fun v s' hP hst' hm=>?_)
    obtain ⟨x,t,hx,rfl⟩:=hval i v hP
    have hS':=keep hm hS
    show wpAny _ A.in1 (holding [Value.str x t] (setAdd S (.str x t)) >>= _) _ _ s'
    refine wpAny_bind (wpAny_holding ?_)
    unfold setAdd
    refine wpAny_holding ?_
    refine wpAny_bind ((strKind prog w).pyHash (k:=x) (strKind_is _ _ _ _) ?_)
    have hroom:(ddS (l.take i)).length + 1 < scanBound:=by have:=ddS_le (l.take i);rw [List.length_take] at this;omega
    refine wpAny_setAddHashed_of (knd:=strKind prog w) (s:={ s' with toks:=s'.toks + 1 }) (strKind_is _ _ _ _) rfl hS' hroom fun h' hsb hS2=>?_
    have e1:l.take (i + 1)=l.take i++[x]:=by rw [List.take_succ,hx];rfl
    have hSi:h'.SetOf (strKind prog w) S (fun y=>(ddS (l.take (i + 1))).any (· == y)) (ddS (l.take (i + 1))).length :=
      SetOf_congr hS2 (fun y=>by rw [e1,ddS_snoc,addS_any]) (by rw [e1,ddS_snoc,addS_len])
    refine wpAny_pure ⟨plainId_quiet F.plain_set_update_loop _,ih (i + 1) _ (by omega) hlt (W.frame _ s' _ _ hst' (Nat.le_succ _) fun b hb o e=>?_) hSi fun s2 hm2 hS3=>?_⟩
    · rw [hsb.2 b (fun h:b=S=>hSf (by rw [← h];exact hb))];exact e
    · refine hR s2 (Moved.trans W.gtrans ((hm.mono up).then_heap (Nat.le_succ _) fun b o hb e=>?_) hm2) hS3
      rw [hsb.2 b (fun h:b=S=>hb (by rw [h];exact List.mem_cons_self))];exact e
end
section
variable {prog:Program} {w:World} {A:Around} {E:Value→Shared→Prop} {s:Shared}
def setObj (led:Bool):Obj:={ cls:=.type "set",dict:=none,data:=.set #[] 0 (.fresh 0 0 led) }
theorem call_setS {a:Addr} {items:Array Value} {l:List Str} {Q:Value→Shared→Prop} (hh:A.handled=none) (ha:s.heap.IsList a items) (hs:items.size=l.length) (hi:∀ (i:Nat) v,items[i]?=some v→∃ x t,l[i]?=some x∧v=.str x t) (hb:l.length + 1 < scanBound)
    (h:∀ (h':Heap) (tk:Nat),h'.SetOf (strKind prog w) s.heap.objs.size (fun y=>(ddS l).any (· == y)) (ddS l).length→(∀ b o,b < s.heap.objs.size→s.heap.get? b=some o→h'.get? b=some o)→Q (.ref s.heap.objs.size) { s with heap:=h',toks:=tk }) :
    wpAny (model prog w) A (call (.type "set") [.ref a]) Q E s:=by
  obtain ⟨c,tl,hmro⟩:=F.called_set.mro
  have hmade:=F.called_set.made
  have hsub:=F.called_set.sub
  refine wpAny_call (codeAny_of_tree ?_)
  show wpAny _ _ (callAny (.type "set") _) _ _ _
  refine wpAny_pure ⟨Code.quiet_builtin _ (by decide +kernel),codeAny_builtin F.entry_type_call ?_⟩
  rw [Around.under_plain (weight_type_call_type "set" [.ref a] []) rfl]
  have h1:=F.called_set.notType
  have h2:=F.called_set.canCreate
  have hct:=F.typeCall_set_1 (.ref a)
  repeat (any_goals (first | assumption | wp_step))
  refine codeAny_mono (code_set_new_1 (.ref a) (E:=E) (Q₁:=fun obj s1=>∃ led:Bool,obj=.ref s.heap.objs.size∧s1={ s with heap:=s.heap.push (setObj led) }) fun led=>⟨led,rfl,rfl⟩) fun r s1 hr=>?_
  cases r with
  | error e=>exact hr
  | ok fl =>
    cases fl with
    | ret obj =>
      obtain ⟨led,rfl,rfl⟩:=hr
      have hS:(s.heap.push (setObj led)).get? s.heap.objs.size=some (setObj led):=Heap.get?_push_size _ rfl
      have hT:Shared.TypeIs { s with heap:=s.heap.push (setObj led) } (.ref s.heap.objs.size) "set":=⟨_,hS,rfl⟩
      have hli:=F.called_set.init.lookup
      have hbi:=F.called_set.init.bind (.ref s.heap.objs.size)
      repeat (any_goals (first | assumption | wp_step))
      have hlt:a < s.heap.objs.size:=by obtain ⟨o,ho,_⟩:=ha;exact Heap.lt_size ho
      refine codeAny_mono (codeAny_call_builtin (R:=wants (fun r s2=>r=.none∧∃ h' tk,s2={ s with heap:=h',toks:=tk } ∧
          h'.SetOf (strKind prog w) s.heap.objs.size (fun y=>(ddS l).any (· == y)) (ddS l).length∧(∀ b o,b < s.heap.objs.size→s.heap.get? b=some o→h'.get? b=some o)) E) F.called_set.init.plain F.entry_set_init (check_set_init_1 hT ?_)) fun r2 s2 hr2=>?_
      · obtain ⟨ol,hol,hcl,nl,hdl⟩:=ha
        obtain ⟨ocls,odict,odata,oslots⟩:=ol
        simp only at hcl hdl
        subst hcl;subst hdl
        have hol':(s.heap.push (setObj led)).get? a=some { cls:=.type "list",dict:=odict,data:=.seq items nl,slots:=oslots }:=Heap.get?_push_of_some _ hol
        have g1:=F.sub_list_set
        have g2:=F.sub_list_frozenset
        have hne:(Value.type "list" == Value.type "dict")=false:=by decide
        have hl1:(s.heap.push (setObj led)).IsList a items:=⟨_,hol',rfl,nl,rfl⟩
        unfold Builtin.«set.__init__» noKeywords Builtin.Frozenset.updateFrom
        generalize hPI:pyIter=PI
        wp_walk
        subst hPI
        refine wpAny_pyIter_list hl1 ?_
        refine wpAny_bind (wpAny_runValue ?_)
        have hh3:A.in1.in1.in1.handled=none:=by simp [hh]
        have hsz:(s.heap.push (setObj led)).objs.size=s.heap.objs.size + 1:=Heap.size_push _ _
        refine set_loopS ((Walks.list hh3 _ a (by rw [hsz];exact Nat.ne_of_lt (Nat.lt_succ_of_lt hlt)) items).toS) s.heap.objs.size (by rw [hsz];simp only [List.mem_cons,List.not_mem_nil,or_false,not_or];exact ⟨Nat.ne_of_lt (Nat.lt_succ_self _),Nat.ne_of_gt hlt⟩) l hs.symm hi (by omega) (items.size - 0) 0 _ (by omega) (Nat.zero_le _) ⟨⟨_,Heap.get?_push_size _ rfl,rfl,rfl⟩,(hl1.push _)⟩ ?_ ?_
        · exact SetOf_congr ((setObjOf_fresh (knd:=strKind prog w) led).setOf (Heap.get?_push_of_some _ hS) (by unfold scanBound;omega)) (fun _=>by simp [ddS]) (by simp [ddS])
        · intro s' hm hS'
          obtain ⟨h',g',d',tk',os'⟩:=s'
          have eg:g'=s.gens:=hm.gens
          have ed:d'=s.drawn:=hm.drawn
          have eo:os'=s.os:=hm.os
          subst eg;subst ed;subst eo
          show wpAny _ _ _ _ _ _
          refine wpAny_pure ?_
          show wpAny _ _ (ret Value.none) _ _ _
          refine wpAny_pure ⟨rfl,h',tk',rfl,hS',fun b o hb e=>?_⟩
          exact hm.heap b o (by rw [hsz];simp only [List.mem_cons,List.not_mem_nil,or_false,not_or];exact ⟨Nat.ne_of_lt hb,Nat.ne_of_lt (Nat.lt_succ_of_lt hb)⟩) (Heap.get?_push_of_some _ (Heap.get?_push_of_some _ e))
      · cases r2 with
        | error e=>exact hr2
        | ok fl2 =>
          cases fl2 with
          | ret r =>
            obtain ⟨rfl,h',tk,rfl,hS',hk'⟩:=hr2
            repeat (any_goals (first | assumption | wp_step))
            exact h _ _ hS' hk'
          | _=>exact hr2.elim
    | _=>exact hr.elim
end
end L2
namespace L2
open PySem PySem.Spec PyProof.Rows
theorem strsAre {ns:List Str}:∀ {us:List Value},Vals (ns.map V.str) us→us.length=ns.length∧∀ (i:Nat) v,us[i]?=some v→∃ x t,ns[i]?=some x∧v=.str x t:=by
  induction ns with
  | nil=>intro us r;cases r;exact ⟨rfl,fun i v h=>by simp at h⟩
  | cons n ns ih =>
    intro us r
    rw [List.map_cons] at r
    cases r with
    | cons r1 r2 =>
      obtain ⟨t,rfl⟩:=r1
      obtain ⟨h1,h2⟩:=ih r2
      refine ⟨by simp [h1],fun i v h=>?_⟩
      cases i with
      | zero=>simp at h;exact ⟨n,t,rfl,h.symm⟩
      | succ i=>simp at h;exact h2 i v h
theorem boot_set:bootBuiltins "set"=some (.type "set"):=by kernel_rfl
theorem boot_len':bootBuiltins "len"=some (.builtin "len"):=by kernel_rfl
def tLenSet (K:PySem.W.Frag) (ta:TA):TE:=fun σ H Q=>ta σ H fun vs H1=>∃ a ss,vs=[.ref a]∧SqL K H1 a (ss.map V.str)∧ss.length < 1000∧Q (.int (ddS ss).length) H1
section
variable {X:Cx} {a:Expr} {ta:TA} {p p2 pos pos2:Pos}
theorem pe_lenSet (hc:X.calm=true) (hg:Gl X "len") (hm:X.mg "len"=none) (hg2:Gl X "set") (hm2:X.mg "set"=none) (ha:PA X [a] ta) (hs:starEach [a] X.env=[(false,eval a X.env)]) (hs2:starEach [.Call (.Name "set" p2) [a] [] pos2] X.env=[(false,eval (.Call (.Name "set" p2) [a] [] pos2) X.env)]) :
    PE X (.Call (.Name "len" p) [.Call (.Name "set" p2) [a] [] pos2] [] pos) (tLenSet X.K ta):=by
  intro pins s σ H Q I h
  refine wpAny_Call_Name_kw (ld_blt I hg hm boot_len' ?_)
  refine PyProof.Rows.callWith_builtin1 ?_ hs2 rfl
  rw [hs2]
  show wpAny _ _ (spliced ((false,eval (.Call (.Name "set" p2) [a] [] pos2) X.env) :: backTo pos [])) _ _ s
  refine Calls.spliced_cons (wpAny_Call_Name_kw (ld_blt I hg2 hm2 boot_set (PyProof.Rows.callWith_type1 (thn (ha pos2 pins s σ H _ I h) fun us s1 ⟨vs,H1,I1,r1,q1⟩=>?_) hs rfl)))
  obtain ⟨b,ss,rfl,hq,hlt,q⟩:=q1
  obtain ⟨u,rfl,rx⟩:=vals1 r1
  cases rx
  obtain ⟨its,r',pl,hz⟩:=I1.list hq
  obtain ⟨e1,e2⟩:=strsAre r'
  refine call_setS (I1.ok.hd hc) pl.isList (l:=ss) (by simpa using e1) (fun i v hv=>e2 i v (by simpa using hv)) (by unfold scanBound;omega) fun h' tk hS hk=>?_
  refine Calls.spliced_nil ?_
  obtain ⟨o,es,ep,t,ho,hex,hd,_,_,hb,hf,hn⟩:=hS
  refine call_len_set (s:={ s1 with heap:=h',toks:=tk }) ho hex hd hf (by have:=hb;unfold scanBound at this;omega) ?_
  refine ⟨.int (ddS ss).length,H1,?_,⟨_,by rw [hn]⟩,q⟩
  exact I1.kept fun b o e=>hk b o (Heap.lt_size e) e
end
end L2
namespace U2
open PySem PySem.Spec PyProof.Rows L2
def uLenSet (ta:UA):UE:=fun τ M Q=>ta τ M fun us M1=>match us with
  | [x]=>match view M1 x with
    | .lst ws=>∃ ss:List Str,ws=ss.map U.str∧ss.length < 1000∧Q (.int (ddS ss).length) M1
    | _=>False
  | _=>False
theorem relUs_strs2 {K:PySem.W.Frag} {H:Hp} {M:MHp}:∀ {ss:List Str} {vs:List V},RelUs K H M (ss.map U.str) vs→vs=ss.map V.str
  | [],vs,r=>r.inv_nil
  | s :: ss,vs,r=>by
    obtain ⟨v,vs',rfl,a,b⟩:=RelUs.inv_cons r
    rw [a.str,relUs_strs2 b];rfl
section
variable {D:Dat} {a:Expr} {ta:UA} {pos p p2 pos2:Pos}
theorem ue_lenSet (hm:D.mg "len"=none) (hm2:D.mg "set"=none) (ha:PAU D [a] ta) (hg:D.sc.names.lookup ("len":Str)=some .globalImplicit:=by rfl) (hg2:D.sc.names.lookup ("set":Str)=some .globalImplicit:=by rfl) (hs:∀ env,starEach [a] env=[(false,eval a env)]:=by intro _;rfl)
    (hs2:∀ env,starEach [.Call (.Name "set" p2) [a] [] pos2] env=[(false,eval (.Call (.Name "set" p2) [a] [] pos2) env)]:=by intro _;rfl):PEU D (.Call (.Name "len" p) [.Call (.Name "set" p2) [a] [] pos2] [] pos) (uLenSet ta):=by
  obtain ⟨t,q,s⟩:=ha
  refine ⟨tLenSet D.K t,fun X h=>by have:=pe_lenSet (p:=p) (p2:=p2) (pos:=pos) (pos2:=pos2) h.calm (by show X.env.scope.names.lookup _=_;rw [h.sc];exact hg) (by rw [h.mg];exact hm) (by show X.env.scope.names.lookup _=_;rw [h.sc];exact hg2) (by rw [h.mg];exact hm2) (q X h) (hs _) (hs2 _);rw [h.K] at this;exact this,fun σ τ H M Q' rs rm h Q c=>?_⟩
  refine s σ τ H M _ rs rm h _ fun us vs M1 H1 s1 rm1 ru h1=>?_
  split at h1
  · obtain ⟨v,rfl,a1⟩:=ru.one
    split at h1
    · rename_i ws e
      obtain ⟨ss,rfl,hl,q⟩:=h1
      obtain ⟨b,zvs,rfl,s2,r2⟩:=view_lst rm1 a1 e
      rw [relUs_strs2 r2] at s2
      exact ⟨b,ss,rfl,s2,hl,c _ _ M1 H1 s1 rm1 relU_int q⟩
    · exact h1.elim
  · exact h1.elim
end
end U2
namespace L2
open PySem
theorem ar0 {q:List Value→Prop} (h:q []) (us:List Value) (e:us.length=0):q us:=by rw [List.length_eq_zero_iff.mp e];exact h
theorem arS {n:Nat} {q:List Value→Prop} (h:∀ x us,us.length=n→q (x :: us)) (us:List Value) (e:us.length=n + 1):q us:=by
  cases us with
  | nil=>cases e
  | cons x r=>exact h x r (Nat.succ.inj e)
abbrev Ar:=Value→Value→Value→Option Addr→Value→Value→List Value→Prop
theorem ar1 {p:Ar} (h:∀ a b c d e g x0,p a b c d e g [x0]) (a b c d e g):∀ us,us.length=1→p a b c d e g us:=arS fun x0=>ar0 (h a b c d e g x0)
theorem ar2 {p:Ar} (h:∀ a b c d e g x0 x1,p a b c d e g [x0,x1]) (a b c d e g):∀ us,us.length=2→p a b c d e g us:=arS fun x0=>arS fun x1=>ar0 (h a b c d e g x0 x1)
theorem ar3 {p:Ar} (h:∀ a b c d e g x0 x1 x2,p a b c d e g [x0,x1,x2]) (a b c d e g):∀ us,us.length=3→p a b c d e g us:=arS fun x0=>arS fun x1=>arS fun x2=>ar0 (h a b c d e g x0 x1 x2)
theorem ar4 {p:Ar} (h:∀ a b c d e g x0 x1 x2 x3,p a b c d e g [x0,x1,x2,x3]) (a b c d e g):∀ us,us.length=4→p a b c d e g us:=arS fun x0=>arS fun x1=>arS fun x2=>arS fun x3=>ar0 (h a b c d e g x0 x1 x2 x3)
theorem ar5 {p:Ar} (h:∀ a b c d e g x0 x1 x2 x3 x4,p a b c d e g [x0,x1,x2,x3,x4]) (a b c d e g):∀ us,us.length=5→p a b c d e g us:=arS fun x0=>arS fun x1=>arS fun x2=>arS fun x3=>arS fun x4=>ar0 (h a b c d e g x0 x1 x2 x3 x4)
end L2
namespace U2
open PySem PySem.Spec PyProof.Rows L2
theorem fsc {N P:List Str} {sc:Scope} (a:sc.kind=.function:=by rfl) (b:sc.isCoroutine=false:=by rfl) (c:sc.isGenerator=false:=by rfl) (d:N.Nodup:=by decide +kernel) (e:N.take P.length=P:=by rfl) (f:∀ x∈P,sc.names.lookup x=some .local∨sc.names.lookup x=some .cell:=by decide +kernel) (g:∀ y∈sc.names,y.2≠.free:=by decide +kernel):FnScope N P sc:=⟨a,b,c,d,e,f,g⟩
theorem nk {xs:List U} {I:Nat→SU→MHp→Prop}:∀ i τ M,I i τ M→(Src.mk none xs).ok M:=fun _ _ _ _ _ e=>nomatch e
theorem callee2 {P:Program} {w:World} {K:PySem.W.Frag} {mg:Str→Option Value} {base:Heap} {x:Str} {st:Stmt} {f:Addr} {fd:FuncData} {N ps:List Str} {k:Nat} {sp:USp} {t:US} (F:Fun K x x st f fd) (hm:mg x=some (.ref f)) (S:FnScope N ps (defScope st))
    (bind:∀ (kV doc pm:Value) (an:Option Addr) (cdv ct:Value) (us:List Value),us.length=ps.length→bindArgs (PySem.W.fnOf x x (defArgs st) (defBody st) (defScope st) .none kV doc pm an cdv ct) ⟨us,[]⟩=pure (ps.zip us))
    (h:PSsU ⟨P,w,K,mg,base,N,defScope st,k,true,.none,""⟩ (defBody st) t)
    (q:∀ us M Q,sp us M Q→us.length=ps.length∧t { nx:=fun _ M'=>rtU Q .non M',rt:=rtU Q } (startU N us) M):Callee P w K mg base (k + 1) x sp [] :=
  callee_of F hm S bind (fun us M Q hs=>(q us M Q hs).1) h (fun us M Q hs=>(q us M Q hs).2)
end U2
namespace K24
open PySem L2 U2
def top (i:Nat):Stmt:=PySem.Challenge.pw_rowsmith_k24_passes_never_ring.main.body.getD i (.Pass ⟨0,0,0,0⟩)
abbrev s_is_whole:Stmt:=top 2
theorem sc_is_whole:FnScope ["thing"] ["thing"] (defScope s_is_whole):=fsc
abbrev s_parts_of:Stmt:=top 3
theorem sc_parts_of:FnScope ["shape"] ["shape"] (defScope s_parts_of):=fsc
abbrev s_places_of:Stmt:=top 4
theorem sc_places_of:FnScope ["shape","found","number","part"] ["shape"] (defScope s_places_of):=fsc
abbrev s_shape_at:Stmt:=top 5
theorem sc_shape_at:FnScope ["shape","place","here","number"] ["shape","place"] (defScope s_shape_at):=fsc
abbrev s_lies_on_leaf:Stmt:=top 6
theorem sc_lies_on_leaf:FnScope ["pattern","tree"] ["pattern","tree"] (defScope s_lies_on_leaf):=fsc
abbrev s_is_pass:Stmt:=top 7
theorem sc_is_pass:FnScope ["tile"] ["tile"] (defScope s_is_pass):=fsc
abbrev s_parts:Stmt:=top 9
theorem sc_parts:FnScope ["tree"] ["tree"] (defScope s_parts):=fsc
abbrev s_places:Stmt:=top 10
theorem sc_places:FnScope ["tree"] ["tree"] (defScope s_places):=fsc
abbrev s_tree_at:Stmt:=top 11
theorem sc_tree_at:FnScope ["tree","place"] ["tree","place"] (defScope s_tree_at):=fsc
abbrev s_holes:Stmt:=top 13
theorem sc_holes:FnScope ["pattern","found"] ["pattern"] (defScope s_holes):=fsc
abbrev s_lies:Stmt:=top 15
theorem sc_lies:FnScope ["pattern","tree"] ["pattern","tree"] (defScope s_lies):=fsc
abbrev s_is_cover:Stmt:=top 16
theorem sc_is_cover:FnScope ["table","tree","cls","thing","waiting","number","wanted","tile"] ["table","tree","cls","thing"] (defScope s_is_cover):=fsc
abbrev s_wanted_below:Stmt:=top 17
theorem sc_wanted_below:FnScope ["tile","wanted","passed"] ["tile","wanted"] (defScope s_wanted_below):=fsc
abbrev s_tiles_at:Stmt:=top 19
theorem sc_tiles_at:FnScope ["table","tree","place","here","found","number","tile","spots"] ["table","tree","place"] (defScope s_tiles_at):=fsc
abbrev s_laid_tiles:Stmt:=top 20
theorem sc_laid_tiles:FnScope ["table","tree","found","place"] ["table","tree"] (defScope s_laid_tiles):=fsc
abbrev s_pass_chains:Stmt:=top 22
theorem sc_pass_chains:FnScope ["table","cls","passes","found","waiting","chain","numbers","classes","number","to","hole"] ["table","cls"] (defScope s_pass_chains):=fsc
abbrev s_all_chains:Stmt:=top 23
theorem sc_all_chains:FnScope ["table","found","cls"] ["table"] (defScope s_all_chains):=fsc
abbrev s_first_counts:Stmt:=top 24
theorem sc_first_counts:FnScope ["tiles","counts","found","number","cls","price","spots","ways","place","kind"] ["tiles","counts"] (defScope s_first_counts):=fsc
abbrev s_count_covers:Stmt:=top 25
theorem sc_count_covers:FnScope ["laid","chains","counts","place","first","here","cls"] ["laid","chains"] (defScope s_count_covers):=fsc
abbrev s_how_many:Stmt:=top 26
theorem sc_how_many:FnScope ["table","tree","cls"] ["table","tree","cls"] (defScope s_how_many):=fsc
abbrev s_law_mixed:Stmt:=top 28
theorem sc_law_mixed:FnScope ["cell","k","one"] ["cell","k"] (defScope s_law_mixed):=fsc
abbrev s_law_draws:Stmt:=top 29
theorem sc_law_draws:FnScope ["cell","many","found","left","k"] ["cell","many"] (defScope s_law_draws):=fsc
abbrev s_law_cell_at:Stmt:=top 30
theorem sc_law_cell_at:FnScope ["script","k"] ["script","k"] (defScope s_law_cell_at):=fsc
abbrev s_law_great:Stmt:=top 31
abbrev s_law_name:Stmt:=top 32
theorem sc_law_name:FnScope ["one","letters"] ["one"] (defScope s_law_name):=fsc
abbrev s_law_word:Stmt:=top 33
theorem sc_law_word:FnScope ["k","one","letters"] ["k","one"] (defScope s_law_word):=fsc
abbrev s_law_tiles:Stmt:=top 34
theorem sc_law_tiles:FnScope ["cells","sorts","some","passes","k","cell","one","at","inner","last","tiles"] ["cells","sorts","some"] (defScope s_law_tiles):=fsc
abbrev s_law_ways:Stmt:=top 35
theorem sc_law_ways:FnScope ["tiles","seen","last","many","tile"] ["tiles","seen","last"] (defScope s_law_ways):=fsc
abbrev s_law_walk:Stmt:=top 36
theorem sc_law_walk:FnScope ["tiles","some","seen","word","one","here","k"] ["tiles","some","seen"] (defScope s_law_walk):=fsc
abbrev s_law:Stmt:=top 37
theorem sc_law:FnScope ["script","cells","some","sorts","tiles","last","table","tree","cell","one","sort","word","seen","ended","due","told","twins"] ["script"] (defScope s_law):=fsc
section
variable {P:Program} {w:World} {K:PySem.W.Frag} {mg:Str→Option Value} {base:Heap} {f d d2 fl:Addr} {fd:FuncData}
inductive Op where
  | sum | less | by_
def Op.word:Op→Str
  | .sum=>"sum" | .less=>"less" | .by_=>"by"
inductive Tr where
  | num (n:Int) | name (x:Str) | turn (a:Tr) | two (o:Op) (a b:Tr)
def Tr.toU:Tr→U
  | .num n=>.tup [.str "num",.int n]
  | .name x=>.tup [.str "name",.str x]
  | .turn a=>.tup [.str "turn",a.toU]
  | .two o a b=>.tup [.str o.word,a.toU,b.toU]
def Tr.ok:Tr→Prop
  | .num _=>True
  | .name x=>PyData.strOk x=true∧x.length≤100
  | .turn a=>a.ok
  | .two _ a b=>a.ok∧b.ok
def Tr.dep:Tr→Nat
  | .num _=>1
  | .name _=>1
  | .turn a=>a.dep + 1
  | .two _ a b=>max a.dep b.dep + 1
inductive Pt where
  | hole (c:Str) | any | fr (l h:Int) | turn (a:Pt) | two (o:Op) (a b:Pt)
def Pt.toU:Pt→U
  | .hole c=>.tup [.str "at",.str c]
  | .any=>.tup [.str "any"]
  | .fr l h=>.tup [.str "from",.int l,.int h]
  | .turn a=>.tup [.str "turn",a.toU]
  | .two o a b=>.tup [.str o.word,a.toU,b.toU]
def Pt.ok:Pt→Prop
  | .hole c=>PyData.strOk c=true
  | .any=>True
  | .fr l h=>0≤l∧l≤h
  | .turn a=>a.ok
  | .two _ a b=>a.ok∧b.ok
def Pt.dep:Pt→Nat
  | .hole _=>1
  | .any=>1
  | .fr _ _=>1
  | .turn a=>a.dep + 1
  | .two _ a b=>max a.dep b.dep + 1
def Pt.holes:Pt→Nat
  | .hole _=>1
  | .any=>0
  | .fr _ _=>0
  | .turn a=>a.holes
  | .two _ a b=>a.holes + b.holes
def Pt.leafy:Pt→Bool
  | .turn _=>false
  | .two _ _ _=>false
  | _=>true
def Pt.ends:Pt→List Pt
  | .turn a=>a.ends
  | .two _ a b=>a.ends++b.ends
  | p=>[p]
instance:DecidableEq Op:=fun a b=>by cases a <;> cases b <;> first | exact isTrue rfl | exact isFalse (fun h=>nomatch h)
def lieF:Pt→Tr→Bool
  | .hole _,_=>true
  | .any,.name _=>true
  | .any,_=>false
  | .fr l h,.num n=>decide (l≤n) && decide (n≤h)
  | .fr _ _,_=>false
  | .turn p,.turn a=>lieF p a
  | .turn _,_=>false
  | .two o p q,.two o' a b=>decide (o=o') && (lieF p a && lieF q b)
  | .two _ _ _,_=>false
theorem Op.word_inj {a b:Op}:a.word=b.word ↔ a=b:=by
  cases a <;> cases b <;> first | exact ⟨fun _=>rfl,fun _=>rfl⟩ | exact ⟨fun h=>absurd h (by decide +kernel),fun h=>nomatch h⟩
def SIGNS:List (Str × Fl):=[("turn",.int 1),("sum",.int 2),("less",.int 2),("by",.int 2)]
theorem app_toList (x y:Str):(x++y).cps.toList=x.cps.toList++y.cps.toList:=by
  show (x.cps++y.cps).toList=_
  simp
theorem atI_mem {α:Type} {l:List α} {i:Int} {c:α} (h:atI l i=some c):c∈l:=by
  unfold atI at h
  cases e:ixN l.length i with
  | none=>rw [e] at h;cases h
  | some j=>rw [e] at h;exact List.mem_of_getElem? h
theorem small {n:Nat} (h:n≤100000):n≤sizeLine:=Nat.le_trans h (by decide)
theorem szl {n:Nat} (h:n≤100000):(n≤sizeLine)=True:=eq_true (small h)
theorem w_at_any:(Str.ofString "at"=Str.ofString "any")=False:=eq_false (by decide +kernel)
theorem w_at_from:(Str.ofString "at"=Str.ofString "from")=False:=eq_false (by decide +kernel)
theorem w_at_turn:(Str.ofString "at"=Str.ofString "turn")=False:=eq_false (by decide +kernel)
theorem w_at_num:(Str.ofString "at"=Str.ofString "num")=False:=eq_false (by decide +kernel)
theorem w_at_name:(Str.ofString "at"=Str.ofString "name")=False:=eq_false (by decide +kernel)
theorem w_any_at:(Str.ofString "any"=Str.ofString "at")=False:=eq_false (by decide +kernel)
theorem w_any_from:(Str.ofString "any"=Str.ofString "from")=False:=eq_false (by decide +kernel)
theorem w_any_turn:(Str.ofString "any"=Str.ofString "turn")=False:=eq_false (by decide +kernel)
theorem w_any_num:(Str.ofString "any"=Str.ofString "num")=False:=eq_false (by decide +kernel)
theorem w_any_name:(Str.ofString "any"=Str.ofString "name")=False:=eq_false (by decide +kernel)
theorem w_from_at:(Str.ofString "from"=Str.ofString "at")=False:=eq_false (by decide +kernel)
theorem w_from_any:(Str.ofString "from"=Str.ofString "any")=False:=eq_false (by decide +kernel)
theorem w_from_turn:(Str.ofString "from"=Str.ofString "turn")=False:=eq_false (by decide +kernel)
theorem w_from_num:(Str.ofString "from"=Str.ofString "num")=False:=eq_false (by decide +kernel)
theorem w_from_name:(Str.ofString "from"=Str.ofString "name")=False:=eq_false (by decide +kernel)
theorem w_turn_at:(Str.ofString "turn"=Str.ofString "at")=False:=eq_false (by decide +kernel)
theorem w_turn_any:(Str.ofString "turn"=Str.ofString "any")=False:=eq_false (by decide +kernel)
theorem w_turn_from:(Str.ofString "turn"=Str.ofString "from")=False:=eq_false (by decide +kernel)
theorem w_turn_num:(Str.ofString "turn"=Str.ofString "num")=False:=eq_false (by decide +kernel)
theorem w_turn_name:(Str.ofString "turn"=Str.ofString "name")=False:=eq_false (by decide +kernel)
theorem w_num_at:(Str.ofString "num"=Str.ofString "at")=False:=eq_false (by decide +kernel)
theorem w_num_any:(Str.ofString "num"=Str.ofString "any")=False:=eq_false (by decide +kernel)
theorem w_num_from:(Str.ofString "num"=Str.ofString "from")=False:=eq_false (by decide +kernel)
theorem w_num_turn:(Str.ofString "num"=Str.ofString "turn")=False:=eq_false (by decide +kernel)
theorem w_num_name:(Str.ofString "num"=Str.ofString "name")=False:=eq_false (by decide +kernel)
theorem w_name_at:(Str.ofString "name"=Str.ofString "at")=False:=eq_false (by decide +kernel)
theorem w_name_any:(Str.ofString "name"=Str.ofString "any")=False:=eq_false (by decide +kernel)
theorem w_name_from:(Str.ofString "name"=Str.ofString "from")=False:=eq_false (by decide +kernel)
theorem w_name_turn:(Str.ofString "name"=Str.ofString "turn")=False:=eq_false (by decide +kernel)
theorem w_name_num:(Str.ofString "name"=Str.ofString "num")=False:=eq_false (by decide +kernel)
theorem w_o_at (o:Op):(o.word=Str.ofString "at")=False:=eq_false (by cases o <;> decide +kernel)
theorem w_o_any (o:Op):(o.word=Str.ofString "any")=False:=eq_false (by cases o <;> decide +kernel)
theorem w_o_from (o:Op):(o.word=Str.ofString "from")=False:=eq_false (by cases o <;> decide +kernel)
theorem w_o_turn (o:Op):(o.word=Str.ofString "turn")=False:=eq_false (by cases o <;> decide +kernel)
theorem w_o_num (o:Op):(o.word=Str.ofString "num")=False:=eq_false (by cases o <;> decide +kernel)
theorem w_o_name (o:Op):(o.word=Str.ofString "name")=False:=eq_false (by cases o <;> decide +kernel)
theorem w_at_o (o:Op):(Str.ofString "at"=o.word)=False:=eq_false (by cases o <;> decide +kernel)
theorem w_any_o (o:Op):(Str.ofString "any"=o.word)=False:=eq_false (by cases o <;> decide +kernel)
theorem w_from_o (o:Op):(Str.ofString "from"=o.word)=False:=eq_false (by cases o <;> decide +kernel)
theorem w_turn_o (o:Op):(Str.ofString "turn"=o.word)=False:=eq_false (by cases o <;> decide +kernel)
theorem w_num_o (o:Op):(Str.ofString "num"=o.word)=False:=eq_false (by cases o <;> decide +kernel)
theorem w_name_o (o:Op):(Str.ofString "name"=o.word)=False:=eq_false (by cases o <;> decide +kernel)
theorem wwa:(Str.ofString "at"=Str.ofString "any")=False∧(Str.ofString "at"=Str.ofString "from")=False∧(Str.ofString "at"=Str.ofString "turn")=False∧(Str.ofString "at"=Str.ofString "num")=False∧(Str.ofString "at"=Str.ofString "name")=False∧(Str.ofString "any"=Str.ofString "at")=False:=⟨w_at_any,w_at_from,w_at_turn,w_at_num,w_at_name,w_any_at⟩
theorem wwb:(Str.ofString "any"=Str.ofString "from")=False∧(Str.ofString "any"=Str.ofString "turn")=False∧(Str.ofString "any"=Str.ofString "num")=False∧(Str.ofString "any"=Str.ofString "name")=False∧(Str.ofString "from"=Str.ofString "at")=False∧(Str.ofString "from"=Str.ofString "any")=False:=⟨w_any_from,w_any_turn,w_any_num,w_any_name,w_from_at,w_from_any⟩
theorem wwc:(Str.ofString "from"=Str.ofString "turn")=False∧(Str.ofString "from"=Str.ofString "num")=False∧(Str.ofString "from"=Str.ofString "name")=False∧(Str.ofString "turn"=Str.ofString "at")=False∧(Str.ofString "turn"=Str.ofString "any")=False∧(Str.ofString "turn"=Str.ofString "from")=False:=⟨w_from_turn,w_from_num,w_from_name,w_turn_at,w_turn_any,w_turn_from⟩
theorem wwd:(Str.ofString "turn"=Str.ofString "num")=False∧(Str.ofString "turn"=Str.ofString "name")=False∧(Str.ofString "num"=Str.ofString "at")=False∧(Str.ofString "num"=Str.ofString "any")=False∧(Str.ofString "num"=Str.ofString "from")=False∧(Str.ofString "num"=Str.ofString "turn")=False:=⟨w_turn_num,w_turn_name,w_num_at,w_num_any,w_num_from,w_num_turn⟩
theorem wwe:(Str.ofString "num"=Str.ofString "name")=False∧(Str.ofString "name"=Str.ofString "at")=False∧(Str.ofString "name"=Str.ofString "any")=False∧(Str.ofString "name"=Str.ofString "from")=False∧(Str.ofString "name"=Str.ofString "turn")=False∧(Str.ofString "name"=Str.ofString "num")=False:=⟨w_num_name,w_name_at,w_name_any,w_name_from,w_name_turn,w_name_num⟩
theorem wwf:(∀ o:Op,(o.word=Str.ofString "at")=False)∧(∀ o:Op,(o.word=Str.ofString "any")=False)∧(∀ o:Op,(o.word=Str.ofString "from")=False)∧(∀ o:Op,(o.word=Str.ofString "turn")=False)∧(∀ o:Op,(o.word=Str.ofString "num")=False)∧(∀ o:Op,(o.word=Str.ofString "name")=False):=⟨w_o_at,w_o_any,w_o_from,w_o_turn,w_o_num,w_o_name⟩
theorem wwg:(∀ o:Op,(Str.ofString "at"=o.word)=False)∧(∀ o:Op,(Str.ofString "any"=o.word)=False)∧(∀ o:Op,(Str.ofString "from"=o.word)=False)∧(∀ o:Op,(Str.ofString "turn"=o.word)=False)∧(∀ o:Op,(Str.ofString "num"=o.word)=False)∧(∀ o:Op,(Str.ofString "name"=o.word)=False):=⟨w_at_o,w_any_o,w_from_o,w_turn_o,w_num_o,w_name_o⟩
def ABC:Str:=Str.ofString "abcdefghijklmnopqrstuvwxyz"
theorem len_app (x y:Str):(x++y).length=x.length + y.length:=by
  show (x.cps++y.cps).size=x.cps.size + y.cps.size
  simp
theorem eqX_int {neg:Bool} {i j:Int} {M:MHp} {Q:UK}:uEqX neg (.int i) (.int j) M Q=Q (.bl (if neg then !decide (i=j) else decide (i=j))) M:=rfl
theorem eqX_str {neg:Bool} {i j:Str} {M:MHp} {Q:UK}:uEqX neg (.str i) (.str j) M Q=Q (.bl (if neg then !decide (i=j) else decide (i=j))) M:=rfl
theorem big {k:Nat} (h:k < 100000):k < sizeLine:=Nat.lt_of_lt_of_le h (by decide)
def spPartsG:USp:=fun us M Q=>∃ (z:Str) (r:List U) (b:Bool),us=[.tup (.str z :: r)]∧(tabGet SIGNS z).isSome=b∧r.length≤1000∧Q (.tup (if b then r else [])) M
local macro_rules | `(tactic| dsimp! only [$xs,*] $[$l]?) => `(tactic| simp only [$xs,*, Bool.false_eq_true, Bool.not_false, Bool.not_true, List.append_nil, List.cons_append, List.getElem?_cons_succ, List.getElem?_cons_zero, List.length_cons, List.length_nil, List.map_cons, List.map_nil, List.nil_append, List.replicate, List.set_cons_succ, List.set_cons_zero, Nat.add_sub_cancel, Nat.reduceAdd, Nat.reduceLeDiff, Nat.reduceSub, Nat.sub_self, Option.getD_some, Option.some.injEq, and_true, at0, at1, at2, at3, bAll, bInt, bInt1, bInt2, bIsi2, bLen, bList, bMax, bSum, bTuple, cGe, cGt, cLe, cLt, capt, decide_false, decide_true, eqX_int, eqX_str, exists_eq_left', hCons, hName, hNil, hTup, if_false, if_true, inSt, inTab, isNon, isi_NoneType_bool, isi_NoneType_dict, isi_NoneType_int, isi_NoneType_list, isi_NoneType_str, isi_NoneType_tuple, isi_bool_bool, isi_bool_dict, isi_bool_int, isi_bool_list, isi_bool_str, isi_bool_tuple, isi_dict_bool, isi_dict_dict, isi_dict_int, isi_dict_list, isi_dict_str, isi_dict_tuple, isi_int_bool, isi_int_dict, isi_int_int, isi_int_list, isi_int_str, isi_int_tuple, isi_list_bool, isi_list_dict, isi_list_int, isi_list_list, isi_list_str, isi_list_tuple, isi_str_bool, isi_str_dict, isi_str_int, isi_str_list, isi_str_str, isi_str_tuple, isi_tuple_bool, isi_tuple_dict, isi_tuple_int, isi_tuple_list, isi_tuple_str, isi_tuple_tuple, items, ixTab, mAppend, mClear, mExtend, mPop, mPopAt, mkL, mup_mup, mup_same, reduceCtorEq, startU, szl, true_and, typU, uAdd, uAddL, uAnd, uAndV, uAsg, uBM, uBM0, uBreak, uC, uCB, uCall, uCallV, uChain, uCons, uCont, uDrop, uEnum, uEnumL, uEqS, uI, uI0, uIf, uIfS, uIn, uIsN, uIter, uIx, uLst, uLtX, uMul, uNeS, uNext, uNil, uNoPart, uNot, uNotN, uNotV, uOp, uOr, uOrV, uPart, uRet, uRetN, uRng1, uRng2, uSeq, uSetI, uSlX, uTest, uTru, uTup, uUn, uVar, uZip, vw_bl, vw_int, vw_lst, vw_non, vw_own, vw_str, vw_tup] $[$l]?)
theorem ok_parts_of (F:Fun K "parts_of" "parts_of" s_parts_of f fd) (hm:mg "parts_of"=some (.ref f)) (T_SIGNS:IsTab P w K d SIGNS) (g_SIGNS:mg "SIGNS"=some (.ref d)):Callee P w K mg base 1 "parts_of" spPartsG []:=by
  refine callee2 F hm sc_parts_of (ar1 fun _ _ _ _ _ _ _=>rfl) (uss_one (us_ret (ue_if (ut_c (k_inTab T_SIGNS) (ue_ix (uv 0) un_) (ug_ref g_SIGNS)) (ue_slX (own:=false) (uv 0) (uo_some un_) uo_none) (ue_tup ua_nil)))) ?_
  rintro us M Q ⟨z,r,b,rfl,hb,hl,q⟩
  refine ⟨rfl,?_⟩
  dsimp! only [hb]
  cases b with
  | true =>
    dsimp! only [cut1]
    exact rt_same q
  | false =>
    dsimp! only [true_and]
    exact rt_same q
theorem ok_parts (F:Fun K "parts" "parts" s_parts f fd) (hm:mg "parts"=some (.ref f)) (C_parts_of:Callee P w K mg base 1 "parts_of" spPartsG []):Callee P w K mg base 2 "parts" spPartsG []:=by
  refine callee2 F hm sc_parts (ar1 fun _ _ _ _ _ _ _=>rfl) (uss_one (us_ret (ue_call C_parts_of (ua_cons (uv 0) ua_nil)))) ?_
  rintro us M Q ⟨z,r,b,rfl,hb,hl,q⟩
  refine ⟨rfl,?_⟩
  dsimp! only [true_and]
  exact ⟨z,r,b,rfl,hb,hl,rt_same q⟩
theorem sg_turn:(tabGet SIGNS (Str.ofString "turn")).isSome=true:=by decide +kernel
theorem sg_two (o:Op):(tabGet SIGNS o.word).isSome=true:=by cases o <;> decide +kernel
def spOnLeaf:USp:=fun us M Q=>∃ (p:Pt) (t:Tr),us=[p.toU,t.toU]∧(p=.any∨∃ l h,p=.fr l h)∧Q (.bl (lieF p t)) M
theorem seq_gen {u v:US} {D:UEnds} {τ:SU} {M:MHp} (h:∀ V:SU→MHp→Prop,V=v D→u { D with nx:=V } τ M):uSeq u v D τ M:=h _ rfl
theorem if_gen {c:UT} {t u:US} {D:UEnds} {τ:SU} {M:MHp} (h:∀ A B:MHp→Prop,A=t D τ→B=u D τ→c τ M fun b M1=>if b=true then A M1 else B M1):uIfS c t u D τ M:=h _ _ rfl rfl
local macro_rules | `(tactic| simp_all! only [$xs,*]) => `(tactic| simp only [$xs,*, Bool.false_eq_true, Bool.not_false, Bool.not_true, List.append_nil, List.cons_append, List.getElem?_cons_succ, List.getElem?_cons_zero, List.length_cons, List.length_nil, List.map_cons, List.map_nil, List.nil_append, List.replicate, List.set_cons_succ, List.set_cons_zero, Nat.add_sub_cancel, Nat.reduceAdd, Nat.reduceLeDiff, Nat.reduceSub, Nat.sub_self, Option.getD_some, Option.some.injEq, and_true, at0, at1, at2, at3, bAll, bInt, bInt1, bInt2, bIsi2, bLen, bList, bMax, bSum, bTuple, cGe, cGt, cLe, cLt, capt, decide_false, decide_true, eqX_int, eqX_str, exists_eq_left', if_false, if_true, inSt, inTab, isNon, isi_NoneType_bool, isi_NoneType_dict, isi_NoneType_int, isi_NoneType_list, isi_NoneType_str, isi_NoneType_tuple, isi_bool_bool, isi_bool_dict, isi_bool_int, isi_bool_list, isi_bool_str, isi_bool_tuple, isi_dict_bool, isi_dict_dict, isi_dict_int, isi_dict_list, isi_dict_str, isi_dict_tuple, isi_int_bool, isi_int_dict, isi_int_int, isi_int_list, isi_int_str, isi_int_tuple, isi_list_bool, isi_list_dict, isi_list_int, isi_list_list, isi_list_str, isi_list_tuple, isi_str_bool, isi_str_dict, isi_str_int, isi_str_list, isi_str_str, isi_str_tuple, isi_tuple_bool, isi_tuple_dict, isi_tuple_int, isi_tuple_list, isi_tuple_str, isi_tuple_tuple, items, ixTab, mAppend, mClear, mExtend, mPop, mPopAt, mkL, mup_mup, mup_same, reduceCtorEq, startU, szl, true_and, typU, uAdd, uAddL, uAnd, uAndV, uBM, uBM0, uC, uCB, uCall, uCallV, uChain, uCons, uEnum, uEnumL, uEqS, uI, uI0, uIf, uIn, uIsN, uIter, uIx, uLst, uLtX, uMul, uNeS, uNil, uNoPart, uNot, uNotN, uNotV, uOp, uOr, uOrV, uPart, uRng1, uRng2, uSetI, uSlX, uTest, uTru, uTup, uUn, uVar, uZip, vw_bl, vw_int, vw_lst, vw_non, vw_own, vw_str, vw_tup])
theorem ok_lies_on_leaf (F:Fun K "lies_on_leaf" "lies_on_leaf" s_lies_on_leaf f fd) (hm:mg "lies_on_leaf"=some (.ref f)):Callee P w K mg base 1 "lies_on_leaf" spOnLeaf []:=by
  refine callee2 F hm sc_lies_on_leaf (ar2 fun _ _ _ _ _ _ _ _=>rfl) (uss_cons (us_if (ut_c k_eqX (ue_ix (uv 0) un_) us_)
  (uss_one (us_ret (ue_c k_eqX (ue_ix (uv 1) un_) us_)))
  uss_nil)
  (uss_one (us_ret (ue_and (ue_c k_eqX (ue_ix (uv 1) un_) us_) (ue_one (ue_ch k_le k_le (ue_ix (uv 0) un_) (ue_ix (uv 1) un_) (ue_ix (uv 0) un_))))))) ?_
  rintro us M Q ⟨p,t,rfl,hp,q⟩
  refine ⟨rfl,?_⟩
  refine seq_gen fun V hV=>?_
  refine if_gen fun A B hA hB=>?_
  rcases hp with rfl | ⟨l,h,rfl⟩
  · simp_all! only [Pt.toU,wwa,wwb,wwc,wwd,wwe,wwf,wwg,hTup,hCons,hNil,hName]
    subst hA
    cases t <;> (simp only [uRet,Pt.toU,Tr.toU,lieF,wwa,wwb,wwc,wwd,wwe,wwf,wwg,eqX_int,eqX_str,capt,hTup,hCons,hNil,uLtX,uIn,items,uEnum,uZip,mExtend,mClear,at0,at1,at2,at3,Option.some.injEq,exists_eq_left',true_and,and_true,uBM,uBM0,mAppend,mPop,uCallV,inTab,ixTab,bMax,bSum,cLt,cLe,cGt,cGe,uAddL,startU,uOr,uAnd,uNot,uTru,uTest,uCB,uCons,uVar,uC,uNil,hName,uOp,uUn,uChain,uI0,uI,uAndV,uOrV,uNotV,uIf,uTup,uLst,mkL,uCall,bIsi2,bLen,bAll,bInt1,bInt2,bList,bTuple,vw_non,vw_bl,vw_int,vw_str,vw_tup,vw_lst,vw_own,mup_same,mup_mup,typU,uEqS,uNeS,uIsN,uNotN,isNon,uAdd,uIx,uSlX,uNoPart,uPart,inSt,uIter,uRng1,uRng2,List.map_cons,List.map_nil,List.length_cons,List.length_nil,List.cons_append,List.nil_append,List.replicate,List.getElem?_cons_zero,List.getElem?_cons_succ,List.set_cons_zero,List.set_cons_succ,List.append_nil,Nat.reduceAdd,Nat.reduceSub,Nat.sub_self,Nat.add_sub_cancel,Bool.not_false,Bool.not_true,if_true,if_false,Bool.false_eq_true,reduceCtorEq,decide_true,decide_false,isi_NoneType_bool,isi_NoneType_int,isi_NoneType_str,isi_NoneType_tuple,isi_NoneType_list,isi_NoneType_dict,isi_bool_bool,isi_bool_int,isi_bool_str,isi_bool_tuple,isi_bool_list,isi_bool_dict,isi_int_bool,isi_int_int,isi_int_str,isi_int_tuple,isi_int_list,isi_int_dict,isi_str_bool,isi_str_int,isi_str_str,isi_str_tuple,isi_str_list,isi_str_dict,isi_tuple_bool,isi_tuple_int,isi_tuple_str,isi_tuple_tuple,isi_tuple_list,isi_tuple_dict,isi_list_bool,isi_list_int,isi_list_str,isi_list_tuple,isi_list_list,isi_list_dict,isi_dict_bool,isi_dict_int,isi_dict_str,isi_dict_tuple,isi_dict_list,isi_dict_dict,uMul,bInt,mPopAt,uSetI,uEnumL,szl,Nat.reduceLeDiff,Option.getD_some] at q ⊢;exact rt_same q)
  · simp_all! only [Pt.toU,wwa,wwb,wwc,wwd,wwe,wwf,wwg,hTup,hCons,hNil,hName]
    subst hB
    simp only [uNext]
    subst hV
    cases t with
    | num n =>
      simp only [uRet,Pt.toU,Tr.toU,lieF,wwa,wwb,wwc,wwd,wwe,wwf,wwg,eqX_int,eqX_str,capt,hTup,hCons,hNil,uLtX,uIn,items,uEnum,uZip,mExtend,mClear,at0,at1,at2,at3,Option.some.injEq,exists_eq_left',true_and,and_true,uBM,uBM0,mAppend,mPop,uCallV,inTab,ixTab,bMax,bSum,cLt,cLe,cGt,cGe,uAddL,startU,uOr,uAnd,uNot,uTru,uTest,uCB,uCons,uVar,uC,uNil,hName,uOp,uUn,uChain,uI0,uI,uAndV,uOrV,uNotV,uIf,uTup,uLst,mkL,uCall,bIsi2,bLen,bAll,bInt1,bInt2,bList,bTuple,vw_non,vw_bl,vw_int,vw_str,vw_tup,vw_lst,vw_own,mup_same,mup_mup,typU,uEqS,uNeS,uIsN,uNotN,isNon,uAdd,uIx,uSlX,uNoPart,uPart,inSt,uIter,uRng1,uRng2,List.map_cons,List.map_nil,List.length_cons,List.length_nil,List.cons_append,List.nil_append,List.replicate,List.getElem?_cons_zero,List.getElem?_cons_succ,List.set_cons_zero,List.set_cons_succ,List.append_nil,Nat.reduceAdd,Nat.reduceSub,Nat.sub_self,Nat.add_sub_cancel,Bool.not_false,Bool.not_true,if_true,if_false,Bool.false_eq_true,reduceCtorEq,decide_true,decide_false,isi_NoneType_bool,isi_NoneType_int,isi_NoneType_str,isi_NoneType_tuple,isi_NoneType_list,isi_NoneType_dict,isi_bool_bool,isi_bool_int,isi_bool_str,isi_bool_tuple,isi_bool_list,isi_bool_dict,isi_int_bool,isi_int_int,isi_int_str,isi_int_tuple,isi_int_list,isi_int_dict,isi_str_bool,isi_str_int,isi_str_str,isi_str_tuple,isi_str_list,isi_str_dict,isi_tuple_bool,isi_tuple_int,isi_tuple_str,isi_tuple_tuple,isi_tuple_list,isi_tuple_dict,isi_list_bool,isi_list_int,isi_list_str,isi_list_tuple,isi_list_list,isi_list_dict,isi_dict_bool,isi_dict_int,isi_dict_str,isi_dict_tuple,isi_dict_list,isi_dict_dict,uMul,bInt,mPopAt,uSetI,uEnumL,szl,Nat.reduceLeDiff,Option.getD_some] at q ⊢
      by_cases h1:l≤n
      · rw [if_pos (decide_eq_true h1)]
        rw [decide_eq_true h1,Bool.true_and] at q
        exact rt_same q
      · rw [if_neg (by simpa using h1)]
        rw [decide_eq_false h1,Bool.false_and] at q
        exact rt_same q
    | _=>simp only [uRet,Pt.toU,Tr.toU,lieF,wwa,wwb,wwc,wwd,wwe,wwf,wwg,eqX_int,eqX_str,capt,hTup,hCons,hNil,uLtX,uIn,items,uEnum,uZip,mExtend,mClear,at0,at1,at2,at3,Option.some.injEq,exists_eq_left',true_and,and_true,uBM,uBM0,mAppend,mPop,uCallV,inTab,ixTab,bMax,bSum,cLt,cLe,cGt,cGe,uAddL,startU,uOr,uAnd,uNot,uTru,uTest,uCB,uCons,uVar,uC,uNil,hName,uOp,uUn,uChain,uI0,uI,uAndV,uOrV,uNotV,uIf,uTup,uLst,mkL,uCall,bIsi2,bLen,bAll,bInt1,bInt2,bList,bTuple,vw_non,vw_bl,vw_int,vw_str,vw_tup,vw_lst,vw_own,mup_same,mup_mup,typU,uEqS,uNeS,uIsN,uNotN,isNon,uAdd,uIx,uSlX,uNoPart,uPart,inSt,uIter,uRng1,uRng2,List.map_cons,List.map_nil,List.length_cons,List.length_nil,List.cons_append,List.nil_append,List.replicate,List.getElem?_cons_zero,List.getElem?_cons_succ,List.set_cons_zero,List.set_cons_succ,List.append_nil,Nat.reduceAdd,Nat.reduceSub,Nat.sub_self,Nat.add_sub_cancel,Bool.not_false,Bool.not_true,if_true,if_false,Bool.false_eq_true,reduceCtorEq,decide_true,decide_false,isi_NoneType_bool,isi_NoneType_int,isi_NoneType_str,isi_NoneType_tuple,isi_NoneType_list,isi_NoneType_dict,isi_bool_bool,isi_bool_int,isi_bool_str,isi_bool_tuple,isi_bool_list,isi_bool_dict,isi_int_bool,isi_int_int,isi_int_str,isi_int_tuple,isi_int_list,isi_int_dict,isi_str_bool,isi_str_int,isi_str_str,isi_str_tuple,isi_str_list,isi_str_dict,isi_tuple_bool,isi_tuple_int,isi_tuple_str,isi_tuple_tuple,isi_tuple_list,isi_tuple_dict,isi_list_bool,isi_list_int,isi_list_str,isi_list_tuple,isi_list_list,isi_list_dict,isi_dict_bool,isi_dict_int,isi_dict_str,isi_dict_tuple,isi_dict_list,isi_dict_dict,uMul,bInt,mPopAt,uSetI,uEnumL,szl,Nat.reduceLeDiff,Option.getD_some] at q ⊢;exact rt_same q
theorem in_af (z:Str):([U.str (Str.ofString "any"),U.str (Str.ofString "from")].any fun u=>eqF u (.str z))=(decide (Str.ofString "any"=z) || decide (Str.ofString "from"=z)):=by
  have e:∀ a:Str,eqF (.str a) (.str z)=decide (a=z):=fun a=>by
    show (a == z)=_
    by_cases h:a=z
    · subst h;simp
    · simp [h]
  simp only [List.any_cons,List.any_nil,e,Bool.or_false]
def spLies (n:Nat):USp:=fun us M Q=>∃ (p:Pt) (t:Tr),us=[p.toU,t.toU]∧p.dep≤n∧Q (.bl (lieF p t)) M
theorem ok_lies {n:Nat} (F:Fun K "lies" "lies" s_lies f fd) (hm:mg "lies"=some (.ref f)) (m_all:mg "all"=none) (m_zip:mg "zip"=none) (C_lies_on_leaf:Callee P w K mg base 1 "lies_on_leaf" spOnLeaf []) (C_parts_of:Callee P w K mg base 1 "parts_of" spPartsG []) (C_parts:Callee P w K mg base 2 "parts" spPartsG [])
    (C_lies:Callee P w K mg base (n + 3) "lies" (spLies n) []):Callee P w K mg base (n + 4) "lies" (spLies (n + 1)) []:=by
  refine callee2 F hm sc_lies (ar2 fun _ _ _ _ _ _ _ _=>rfl) (uss_cons (us_if (ut_c k_eqX (ue_ix (uv 0) un_) us_)
  (uss_one (us_ret ub_))
  uss_nil)
  (uss_cons (us_if (ut_c k_in (ue_ix (uv 0) un_) (ue_tup (ua_cons us_ (ua_cons us_ ua_nil))))
  (uss_one (us_ret (ue_call C_lies_on_leaf (ua_cons (uv 0) (ua_cons (uv 1) ua_nil)))))
  uss_nil)
  (uss_cons (us_if (ut_c k_neX (ue_ix (uv 0) un_) (ue_ix (uv 1) un_))
  (uss_one (us_ret ub_))
  uss_nil)
  (uss_one (us_ret (ue_b b_all m_all (ua_cons (ue_comp false ["inner","part"] 2 [] (ui_zip m_zip (ua_cons (ue_call C_parts_of (ua_cons (uv 0) ua_nil)) (ua_cons (ue_call C_parts (ua_cons (uv 1) ua_nil)) ua_nil))) (ug_tup (n:=2) (ugs_cons (ug_name (k:=2) 0 (by dsimp only [compD];decide +kernel)) (ugs_cons (ug_name (k:=2) 1 (by dsimp only [compD];decide +kernel)) ugs_nil))) uif_nil (ue_call C_lies (ua_cons (uv 0) (ua_cons (uv 1) ua_nil)))) ua_nil))))))) ?_
  rintro us M Q ⟨p,t,rfl,hd,q⟩
  refine ⟨rfl,?_⟩
  have fl:∀ z:Str,flatU (.str z)=true:=fun _=>rfl
  have fl2:[U.str (Str.ofString "any"),U.str (Str.ofString "from")].all flatU=true:=rfl
  refine seq_gen fun V hV=>?_
  have g1:(∀ c,p≠.hole c)→V [some p.toU,some t.toU] M:=fun p1=>by
    subst hV
    refine seq_gen fun V hV=>?_
    have g2:p≠.any→(∀ l h,p≠.fr l h)→V [some p.toU,some t.toU] M:=fun p2 p3=>by
      subst hV
      refine seq_gen fun V hV=>?_
      refine if_gen fun A B hA hB=>?_
      have hno:lieF p t=false→A M:=fun h=>by subst hA;simp only [uRet,uC];rw [h] at q;exact rt_same q
      cases p with
      | hole c=>exact absurd rfl (p1 c)
      | any=>exact absurd rfl p2
      | fr l h=>exact absurd rfl (p3 l h)
      | turn a =>
        have hda:a.dep≤n:=by simp only [Pt.dep] at hd;omega
        cases t with
        | turn b =>
          simp_all! only [Pt.toU,wwa,wwb,wwc,wwd,wwe,wwf,wwg,hTup,hCons,hNil,hName,Tr.toU]
          subst hB
          subst hV
          simp only [uNext]
          dsimp! only [Pt.toU,Tr.toU,lieF,wwa,wwb,wwc,wwd,wwe,wwf,wwg,in_af,fl,fl2,Bool.or_false] at q ⊢
          refine uComp_list (S:=⟨none,zipped [a.toU] [b.toU]⟩) (M1:=M) [.bl (lieF a b)] (fun R r=>?_) rfl (show 1≤sizeLine by decide) (fun a e=>by cases e) ?_ ?_
          · dsimp! only [true_and]
            refine ⟨_,_,true,rfl,sg_turn,by simp,⟨_,_,true,rfl,sg_turn,by simp,?_⟩⟩
            dsimp! only [true_and]
            exact r
          · intro j x y hx hy M' _ R r'
            match j,hx,hy with
            | 0,hx,hy =>
              cases hx;cases hy
              dsimp! only [true_and]
              exact ⟨a,b,rfl,hda,r'⟩
            | j + 1,hx,hy=>cases hy
          · dsimp! only [blsU,Option.map_some,List.all_cons,List.all_nil,Bool.and_true]
            exact rt_same q
        | _=>simp_all! only [Pt.toU,wwa,wwb,wwc,wwd,wwe,wwf,wwg,hTup,hCons,hNil,hName,Tr.toU];exact hno rfl
      | two o a c =>
        have hda:a.dep≤n∧c.dep≤n:=by simp only [Pt.dep] at hd;omega
        cases t with
        | two o' b e =>
          by_cases ho:o=o'
          · subst ho
            simp_all! only [Pt.toU,wwa,wwb,wwc,wwd,wwe,wwf,wwg,hTup,hCons,hNil,hName,Tr.toU]
            subst hB
            subst hV
            simp only [uNext]
            dsimp! only [Pt.toU,Tr.toU,lieF,wwa,wwb,wwc,wwd,wwe,wwf,wwg,in_af,fl,fl2,Bool.or_false,Op.word_inj] at q ⊢
            dsimp! only [Bool.true_and] at q ⊢
            refine uComp_list (S:=⟨none,zipped [a.toU,c.toU] [b.toU,e.toU]⟩) (M1:=M) [.bl (lieF a b),.bl (lieF c e)] (fun R r=>?_) rfl (show 2≤sizeLine by decide) (fun a e=>by cases e) ?_ ?_
            · dsimp! only [true_and]
              refine ⟨_,_,true,rfl,sg_two o,by simp,⟨_,_,true,rfl,sg_two o,by simp,?_⟩⟩
              dsimp! only [true_and]
              exact r
            · intro j x y hx hy M' _ R r'
              match j,hx,hy with
              | 0,hx,hy =>
                cases hx;cases hy
                dsimp! only [true_and]
                exact ⟨a,b,rfl,hda.1,r'⟩
              | 1,hx,hy =>
                cases hx;cases hy
                dsimp! only [true_and]
                exact ⟨c,e,rfl,hda.2,r'⟩
              | j + 2,hx,hy=>cases hy
            · dsimp! only [blsU,Option.map_some,List.all_cons,List.all_nil,Bool.and_true]
              exact rt_same q
          · simp_all! only [Op.word_inj,ho,Pt.toU,wwa,wwb,wwc,wwd,wwe,wwf,wwg,hTup,hCons,hNil,hName,Tr.toU]
            exact hno (by simp [lieF,ho])
        | _=>simp_all! only [Pt.toU,wwa,wwb,wwc,wwd,wwe,wwf,wwg,hTup,hCons,hNil,hName,Tr.toU];exact hno rfl
    refine if_gen fun A B hA hB=>?_
    have hyes:p≠.any→(∀ l h,p≠.fr l h)→B M:=fun h h'=>by subst hB;simp only [uNext];exact g2 h h'
    cases p with
    | hole c=>exact absurd rfl (p1 c)
    | any =>
      simp_all! only [in_af,fl,fl2,Bool.or_false,Bool.or_true,Bool.true_or,Pt.toU,wwa,wwb,wwc,wwd,wwe,wwf,wwg,hTup,hCons,hNil,hName]
      subst hA
      simp_all! only [uRet,Pt.toU,wwa,wwb,wwc,wwd,wwe,wwf,wwg,hTup,hCons,hNil,hName]
      exact ⟨.any,t,rfl,.inl rfl,rt_same q⟩
    | fr l h =>
      simp_all! only [in_af,fl,fl2,Bool.or_false,Bool.or_true,Bool.true_or,Pt.toU,wwa,wwb,wwc,wwd,wwe,wwf,wwg,hTup,hCons,hNil,hName]
      subst hA
      simp_all! only [uRet,Pt.toU,wwa,wwb,wwc,wwd,wwe,wwf,wwg,hTup,hCons,hNil,hName]
      exact ⟨.fr l h,t,rfl,.inr ⟨l,h,rfl⟩,rt_same q⟩
    | _=>simp_all! only [in_af,fl,fl2,Bool.or_false,Pt.toU,wwa,wwb,wwc,wwd,wwe,wwf,wwg,hTup,hCons,hNil,hName];exact hyes (fun z=>by cases z) (fun l h z=>by cases z)
  refine if_gen fun A B hA hB=>?_
  have hyes:(∀ c,p≠.hole c)→B M:=fun h=>by subst hB;simp only [uNext];exact g1 h
  cases p with
  | hole c =>
    simp_all! only [Pt.toU,wwa,wwb,wwc,wwd,wwe,wwf,wwg,hTup,hCons,hNil,hName]
    subst hA
    simp only [uRet,uC,lieF] at q ⊢
    exact rt_same q
  | _=>simp_all! only [Pt.toU,wwa,wwb,wwc,wwd,wwe,wwf,wwg,hTup,hCons,hNil,hName];exact hyes (fun c z=>by cases z)
theorem pdep_pos:∀ p:Pt,1≤p.dep
  | .hole _=>Nat.le_refl _
  | .any=>Nat.le_refl _
  | .fr _ _=>Nat.le_refl _
  | .turn a=>by simp only [Pt.dep];omega
  | .two o a b=>by simp only [Pt.dep];omega
theorem tdep_pos:∀ p:Tr,1≤p.dep
  | .num _=>Nat.le_refl _
  | .name _=>Nat.le_refl _
  | .turn a=>by simp only [Tr.dep];omega
  | .two o a b=>by simp only [Tr.dep];omega
theorem lies_all (F:Fun K "lies" "lies" s_lies f fd) (hm:mg "lies"=some (.ref f)) (m_all:mg "all"=none) (m_zip:mg "zip"=none) (C_lies_on_leaf:Callee P w K mg base 1 "lies_on_leaf" spOnLeaf []) (C_parts_of:Callee P w K mg base 1 "parts_of" spPartsG []) (C_parts:Callee P w K mg base 2 "parts" spPartsG []):∀ n,Callee P w K mg base (n + 3) "lies" (spLies n) []
  | 0=>by
    have no:∀ us M Q,¬ spLies 0 us M Q:=fun us M Q h=>by
      obtain ⟨p,t,_,h,_⟩:=h
      have:=pdep_pos p
      omega
    refine ⟨f,fd,["pattern","tree"],[],[],⟨fun vs H Q E h=>?_,fun A outer s H args us vs Q E _ _ _ _ h=>?_⟩,hm,F.kp,F.binds (ar2 fun _ _ _ _ _ _ _ _=>rfl),.nil,fun H M=>.nil⟩
    · obtain ⟨us,M,Q',_,_,h,_⟩:=h;exact absurd h (no us M Q')
    · obtain ⟨us,M,Q',_,_,h,_⟩:=h;exact absurd h (no us M Q')
  | n + 1=>ok_lies F hm m_all m_zip C_lies_on_leaf C_parts_of C_parts (lies_all F hm m_all m_zip C_lies_on_leaf C_parts_of C_parts n)
theorem mulL {i j:Int} (h1:-(2 ^ 64) < i) (h2:i < 2 ^ 64):CMulB i j:=.inl (.inl ⟨h1,h2⟩)
theorem mulR {i j:Int} (h1:-(2 ^ 64) < j) (h2:j < 2 ^ 64):CMulB i j:=.inl (.inr ⟨h1,h2⟩)
def spMixed:USp:=fun us M Q=>∃ c k:Int,us=[.int c,.int k]∧0≤k∧k≤1000∧∀ n:Int,0≤n→Q (.int n) M
theorem ok_mixed (F:Fun K "_law_mixed" "_law_mixed" s_law_mixed f fd) (hm:mg "_law_mixed"=some (.ref f)):Callee P w K mg base 1 "_law_mixed" spMixed []:=by
  refine callee2 F hm sc_law_mixed (ar2 fun _ _ _ _ _ _ _ _=>rfl) (uss_cons (us_set 2 sc_law_mixed.nd (ue_mod (ue_mulX (own:=false) (ue_add (own:=false) (ue_add (own:=false) (ue_mod (uv 0) un_) (ue_mulX (own:=false) un_ (uv 1))) un_) un_) un_))
  (uss_cons (us_set 2 sc_law_mixed.nd (ue_mod (ue_mulX (own:=false) (uv 2) (uv 2)) un_))
  (uss_one (us_ret (ue_divX (ue_mod (ue_mulX (own:=false) (ue_add (own:=false) (uv 2) (ue_mulX (own:=false) un_ (ue_add (own:=false) (uv 1) un_))) un_) un_) un_))))) ?_
  rintro us M Q ⟨c,k,rfl,h1,h2,q⟩
  refine ⟨rfl,?_⟩
  dsimp! only [true_and]
  have a1:=Int.emod_nonneg c (show (1000000007:Int)≠0 by decide)
  have a2:=Int.emod_lt_of_pos c (show (0:Int) < 1000000007 by decide)
  generalize c % 1000000007=x at a1 a2
  generalize hy:(x + 7919 * k + 1) * 48271 % 2147483647=y
  have b1:0≤y:=by rw [← hy];exact Int.emod_nonneg _ (by decide)
  have b2:y < 2147483647:=by rw [← hy];exact Int.emod_lt_of_pos _ (by decide)
  generalize hz:y * y % 998244353=z
  have c1:0≤z:=by rw [← hz];exact Int.emod_nonneg _ (by decide)
  have c2:z < 998244353:=by rw [← hz];exact Int.emod_lt_of_pos _ (by decide)
  refine ⟨by decide,mulL (by decide) (by decide),mulR (by decide) (by decide),by decide,mulL (by omega) (by omega),by decide,mulL (by decide) (by decide),mulR (by decide) (by decide),by decide,⟨by decide,by decide⟩,rt_same (q _ ?_)⟩
  exact Int.ediv_nonneg (Int.emod_nonneg _ (by decide)) (by decide)
def spDraws:USp:=fun us M Q=>∃ (c:Int) (m:Nat),us=[.int c,.int (m:Int)]∧m≤100∧∀ l:List Int,l.length=m→(∀ x∈l,0≤x)→Q (.lst (l.map .int)) M
theorem abs_ge (c:Int):0≤(if c < 0 then -c else c):=by split <;> omega
theorem ok_draws (F:Fun K "_law_draws" "_law_draws" s_law_draws f fd) (hm:mg "_law_draws"=some (.ref f)) (m_abs:mg "abs"=none) (m_range:mg "range"=none) (C_law_mixed:Callee P w K mg base 1 "_law_mixed" spMixed []):Callee P w K mg base 2 "_law_draws" spDraws []:=by
  refine callee2 F hm sc_law_draws (ar2 fun _ _ _ _ _ _ _ _=>rfl) (uss_cons (us_set 2 sc_law_draws.nd (ue_lst (own:=true) ua_nil))
  (uss_cons (us_set 3 sc_law_draws.nd (ue_b b_abs m_abs (ua_cons (uv 0) ua_nil)))
  (uss_cons (us_for (ui_rng1 m_range (ua_cons (uv 1) ua_nil)) (ug_name (k:=1000) 4 sc_law_draws.nd)
  (uss_one (us_if (PWU.pt (uw_and (ut_c k_ge (ue_b b_abs m_abs (ua_cons (uv 0) ua_nil)) (ue_pow un_ un_)) (uw_and1 (ut_c k_gt (uv 3) un_))))
  (uss_cons (us_expr (ue_append (uv 2) (ua_cons (ue_mod (uv 3) un_) ua_nil)))
  (uss_one (us_set 3 sc_law_draws.nd (ue_divX (uv 3) un_))))
  (uss_one (us_expr (ue_append (uv 2) (ua_cons (ue_call C_law_mixed (ua_cons (uv 0) (ua_cons (uv 4) ua_nil))) ua_nil)))))))
  (uss_one (us_ret (uv 2)))))) ?_
  rintro us M Q ⟨c,m,rfl,hm,q⟩
  refine ⟨rfl,?_⟩
  dsimp! only [true_and]
  intro p hp
  refine for_by (S:=⟨none,rangeU 0 m⟩) (M1:=mup M p (.lst [])) (fun R r=>?_)
    (fun i τ Mi=>∃ (l:List Int) (lf:Int) (k:Option U),τ=[some (.int c),some (.int (m:Int)),some (.ref p),some (.int lf),k]∧Mi=mup M p (.lst (l.map .int))∧l.length=i∧(∀ x∈l,0≤x)∧0≤lf) ⟨[],_,none,rfl,rfl,rfl,(fun x h=>by cases h),abs_ge c⟩ nk ?_ ?_
  · dsimp! only [true_and]
    exact ⟨by omega,by omega,by rw [show ((m:Int)).toNat=m by omega];exact r⟩
  · rintro i x τ Mi e ⟨l,lf,k,rfl,rfl,hl,hx,hlf⟩
    obtain ⟨rfl,hi⟩:=rangeU_get e
    have add:∀ n:Int,0≤n→∀ y∈l++[n],0≤y:=fun n hn y hy=>by
      rcases List.mem_append.mp hy with hy | hy
      · exact hx y hy
      · cases List.mem_singleton.mp hy;exact hn
    dsimp! only [true_and]
    have pw:CPow 10 18:=⟨by decide,by decide,by decide⟩
    refine ⟨pw,ite2 (fun _=>ite2 (fun _=>?_) (fun _=>?_)) (fun _=>?_)⟩
    · refine ⟨isL_own,by decide,big (by simp;omega),⟨by decide,by decide⟩,l++[lf % 1000003],_,_,rfl,by simp,by simp;omega,add _ (Int.emod_nonneg _ (by decide)),Int.ediv_nonneg hlf (by decide)⟩
    all_goals
      refine ⟨isL_own,c,_,rfl,by omega,by omega,fun n hn=>?_⟩
      dsimp! only [true_and]
      exact ⟨big (by simp;omega),l++[n],_,_,rfl,by simp,by simp;omega,add n hn,hlf⟩
  · rintro τ Mi ⟨l,lf,k,rfl,rfl,hl,hx,hlf⟩
    have hl2:(Src.mk none (rangeU 0 m)).xs.length=m:=rangeU_len _ _
    rw [hl2] at hl
    dsimp! only [true_and]
    exact ⟨_,M,(Sub.refl M).mup hp,.inr ⟨p,_,rfl,mup_same,hp,rfl⟩,q l hl hx⟩
theorem strOk_app {x y:Str} (h:PyData.strOk x=true) (k:PyData.strOk y=true):PyData.strOk (x++y)=true:=by
  unfold PyData.strOk at *
  rw [← Array.all_toList] at *
  rw [app_toList,List.all_append,h,k];rfl
theorem strOk_rep {z:Str} (h:PyData.strOk z=true) (n:Int):PyData.strOk (repS z n)=true:=by
  unfold repS
  split
  · decide +kernel
  · split
    · exact h
    · have key:∀ (k:Nat) (acc:Array Nat),acc.all (· < 0x110000)=true→((List.replicate k z.cps).foldl (·++·) acc).all (· < 0x110000)=true:=by
        intro k
        induction k with
        | zero=>intro acc ha;simpa using ha
        | succ k ih =>
          intro acc ha
          rw [List.replicate_succ,List.foldl_cons]
          refine ih _ ?_
          have h':z.cps.all (· < 0x110000)=true:=h
          rw [← Array.all_toList] at *
          rw [Array.toList_append,List.all_append,ha,h'];rfl
      exact key _ _ (by simp)
theorem rep_len (z:Str) (n:Int):(repS z n).length≤z.length * n.toNat:=by
  unfold repS
  split
  · exact Nat.zero_le _
  · rename_i h1
    split
    · rename_i h
      have hn:1≤n.toNat:=by omega
      exact Nat.le_mul_of_pos_right _ hn
    · have hsz:∀ (k:Nat) (acc:Array Nat),((List.replicate k z.cps).foldl (·++·) acc).size=acc.size + k * z.cps.size:=by
        intro k
        induction k with
        | zero=>intro acc;simp
        | succ k ih=>intro acc;rw [List.replicate_succ,List.foldl_cons,ih,Array.size_append,Nat.succ_mul];omega
      show ((List.replicate n.toNat z.cps).foldl (·++·) #[]).size≤_
      rw [hsz]
      simp only [Array.size_empty,Nat.zero_add]
      rw [Nat.mul_comm];exact Nat.le_refl _
theorem ch_ok {z:Str} {i:Int} {c:Nat} (hz:PyData.strOk z=true) (h:atI z.cps.toList i=some c):PyData.strOk ⟨#[c]⟩=true:=by
  unfold PyData.strOk at *
  rw [← Array.all_toList,List.all_eq_true] at *
  intro x hx
  simp only [List.mem_cons,List.not_mem_nil,or_false] at hx
  subst hx
  exact hz _ (atI_mem h)
def spName:USp:=fun us M Q=>∃ c:Int,us=[.int c]∧∀ z:Str,PyData.strOk z=true→z.length≤8→Q (.str z) M
theorem ok_name (F:Fun K "_law_name" "_law_name" s_law_name f fd) (hm:mg "_law_name"=some (.ref f)):Callee P w K mg base 1 "_law_name" spName []:=by
  refine callee2 F hm sc_law_name (ar1 fun _ _ _ _ _ _ _=>rfl) (uss_cons (us_set 1 sc_law_name.nd us_)
  (uss_cons (us_if (ut_c k_eqX (ue_mod (uv 0) un_) un_)
  (uss_one (us_ret (ue_ix us_ (ue_mod (ue_divX (uv 0) un_) un_))))
  uss_nil)
  (uss_one (us_ret (ue_add (own:=false) (ue_ix (uv 1) (ue_mod (ue_divX (uv 0) un_) un_)) (ue_mulX (own:=false) (ue_ix (uv 1) (ue_mod (ue_divX (uv 0) un_) un_)) (ue_mod (ue_divX (uv 0) un_) un_))))))) ?_
  rintro us M Q ⟨c,rfl,q⟩
  refine ⟨rfl,?_⟩
  have hL:ABC.cps.toList.length=26:=by decide +kernel
  have hL2:(ABC.length≤sizeLine):=by decide +kernel
  have hA:PyData.strOk ABC=true:=by decide +kernel
  have hX:(Str.ofString "xyxz").cps.toList.length=4:=by decide +kernel
  have hX2:((Str.ofString "xyxz").length≤sizeLine):=by decide +kernel
  have hXA:PyData.strOk (Str.ofString "xyxz")=true:=by decide +kernel
  have lt:∀ m:Int,∃ c,atI ABC.cps.toList (m % 26)=some c:=fun m=>atI_ex ABC.cps.toList (m % 26) (Int.emod_nonneg _ (by decide)) (by rw [hL];exact Int.emod_lt_of_pos _ (by decide))
  dsimp! only [true_and]
  refine ⟨by decide,ite2 (fun _=>?_) (fun _=>?_)⟩
  · obtain ⟨x,hx⟩:=atI_ex (Str.ofString "xyxz").cps.toList (c / 3 % 4) (Int.emod_nonneg _ (by decide)) (by rw [hX];exact Int.emod_lt_of_pos _ (by decide))
    exact ⟨⟨by decide,by decide⟩,by decide,hX2,x,hx,rt_same (q _ (ch_ok hXA hx) (by show 1≤8;decide))⟩
  · obtain ⟨x,hx⟩:=lt (c / 3)
    obtain ⟨y,hy⟩:=lt (c / 78)
    have n0:=Int.emod_nonneg (c / 2028) (show (8:Int)≠0 by decide)
    have n1:=Int.emod_lt_of_pos (c / 2028) (show (0:Int) < 8 by decide)
    have l1:(⟨#[x]⟩:Str).length=1:=rfl
    have l2:(⟨#[y]⟩:Str).length=1:=rfl
    have l3:=rep_len ⟨#[y]⟩ (c / 2028 % 8)
    rw [l2] at l3
    refine ⟨⟨by decide,by decide⟩,by decide,hL2,x,hx,⟨by decide,by decide⟩,by decide,hL2,y,hy,⟨by decide,by decide⟩,by decide,by omega,by omega,by rw [l2];decide,by rw [l2];omega,small (by rw [l1];omega),rt_same (q _ (strOk_app (ch_ok hA hx) (strOk_rep (ch_ok hA hy) _)) ?_)⟩
    rw [len_app,l1];omega
def sortsU (l:List Str):U:=.tup (l.map .str)
def datP:Pt→PyData
  | .hole c=>.tuple [.str "at",.str c]
  | .any=>.tuple [.str "any"]
  | .fr l h=>.tuple [.str "from",.int l,.int h]
  | .turn a=>.tuple [.str "turn",datP a]
  | .two o a b=>.tuple [.str o.word,datP a,datP b]
theorem toD_P:∀ p:Pt,toD p.toU=some (datP p)
  | .hole c=>by simp [Pt.toU,toD,toDs,datP]
  | .any=>by simp [Pt.toU,toD,toDs,datP]
  | .fr l h=>by simp [Pt.toU,toD,toDs,datP]
  | .turn a=>by simp [Pt.toU,toD,toDs,datP,toD_P a]
  | .two o a b=>by simp [Pt.toU,toD,toDs,datP,toD_P a,toD_P b]
theorem layP:∀ p:Pt,p.ok→(datP p).canLay0=true
  | .hole c,h=>by
    have h':PyData.strOk c=true:=h
    simp only [datP,PyData.canLay0,PyData.canLayAll0,h'];decide +kernel
  | .any,_=>by decide +kernel
  | .fr l h,_=>by simp only [datP,PyData.canLay0,PyData.canLayAll0];decide +kernel
  | .turn a,h=>by simp only [datP,PyData.canLay0,PyData.canLayAll0,layP a h];decide +kernel
  | .two o a b,h=>by
    have:PyData.strOk o.word=true:=by cases o <;> decide +kernel
    simp only [datP,PyData.canLay0,PyData.canLayAll0,layP a h.1,layP b h.2,this];decide +kernel
def datT:Tr→PyData
  | .num n=>.tuple [.str "num",.int n]
  | .name x=>.tuple [.str "name",.str x]
  | .turn a=>.tuple [.str "turn",datT a]
  | .two o a b=>.tuple [.str o.word,datT a,datT b]
theorem toD_T:∀ p:Tr,toD p.toU=some (datT p)
  | .num c=>by simp [Tr.toU,toD,toDs,datT]
  | .name c=>by simp [Tr.toU,toD,toDs,datT]
  | .turn a=>by simp [Tr.toU,toD,toDs,datT,toD_T a]
  | .two o a b=>by simp [Tr.toU,toD,toDs,datT,toD_T a,toD_T b]
theorem layT:∀ p:Tr,p.ok→(datT p).canLay0=true
  | .num c,h=>by simp only [datT,PyData.canLay0,PyData.canLayAll0];decide +kernel
  | .name c,h=>by
    have h':PyData.strOk c=true:=h.1
    simp only [datT,PyData.canLay0,PyData.canLayAll0,h'];decide +kernel
  | .turn a,h=>by simp only [datT,PyData.canLay0,PyData.canLayAll0,layT a h];decide +kernel
  | .two o a b,h=>by
    have:PyData.strOk o.word=true:=by cases o <;> decide +kernel
    simp only [datT,PyData.canLay0,PyData.canLayAll0,layT a h.1,layT b h.2,this];decide +kernel
def entP (p:Pt):U:=.tup [p.toU,.int (p.dep:Nat)]
def sumH:List Pt→Nat
  | []=>0
  | p :: r=>p.holes + sumH r
theorem sumH_app:∀ l r:List Pt,sumH (l++r)=sumH l + sumH r
  | [],_=>by simp [sumH]
  | t :: l,r=>by simp [sumH,sumH_app l r];omega
def op3 (n:Int):Op:=if n % 3=0 then .sum else if n % 3=1 then .less else .by_
def placeU (p:List Nat):U:=.tup (p.map fun (n:Nat)=>.int (n:Int))
def entE (x:List Nat × Pt):U:=.tup [placeU x.1,x.2.toU]
def endsP:Pt→List Nat→List (List Nat × Pt)
  | .turn a,pl=>endsP a (pl++[0])
  | .two _ a b,pl=>endsP a (pl++[0])++endsP b (pl++[1])
  | p,pl=>[(pl,p)]
theorem endsP_ends:∀ (p:Pt) (pl:List Nat),(endsP p pl).map (·.2)=p.ends
  | .turn a,pl=>by simp only [endsP,Pt.ends,endsP_ends a]
  | .two _ a b,pl=>by simp only [endsP,Pt.ends,List.map_append,endsP_ends a,endsP_ends b]
  | .hole _,pl=>rfl
  | .any,pl=>rfl
  | .fr _ _,pl=>rfl
def bearF:Pt→Tr→List U
  | .any,.name x=>[.str x]
  | .fr _ _,.num n=>[.int n]
  | .turn p,.turn a=>bearF p a
  | .two _ p q,.two _ a b=>bearF p a++bearF q b
  | _,_=>[]
theorem uComp_all {o:Bool} {k:Nat} {ix:List Nat} {wi:UI} {g:UG} {te:UE} {τ:SU} {M M1:MHp} {Q:UK} {S:Src} (Pd:U→Prop) (hw:∀ R:Src→MHp→Prop,R S M1→wi τ M R) (hz:S.xs.length≤sizeLine) (hs:S.ok M1)
    (h:∀ (i:Nat) x,S.xs[i]?=some x→∀ M,Sub M1 M→∀ R:UK,(∀ y,Pd y→R y M)→g x (capt k ix τ) M fun τ2 M2=>te τ2 M2 R)
    (q:∀ zs,zs.length=S.xs.length→(∀ z∈zs,Pd z)→mkL o zs M1 Q):uComp o k ix wi g (fun _ M Q=>Q true M) te τ M Q:=by
  refine hw _ ⟨hz,fun D hD=>⟨fun i ys M=>ys.length=i∧(∀ y∈ys,Pd y)∧M=mup M1 D (.lst ys)∧i≤S.xs.length,⟨rfl,(fun y h=>by cases h),rfl,Nat.zero_le _⟩,?_,?_,?_⟩⟩
  · rintro i ys M ⟨rfl,hy,rfl,hi⟩
    refine ⟨fun a e=>?_,mup_same,?_⟩
    · have:=hs a e
      rw [mup_ne (fun z=>by subst z;rw [hD] at this;cases this)]
      exact this
    · omega
  · rintro i x ys M e ⟨rfl,hy,rfl,hi⟩
    have hlt:ys.length < S.xs.length:=(List.getElem?_eq_some_iff.mp e).1
    refine h ys.length x e (mup M1 D (.lst ys)) ((Sub.refl M1).mup hD) (fun y M4=>M4 D=some (.lst ys)∧((ys++[y]).length=ys.length + 1∧(∀ z∈ys++[y],Pd z)∧mup M4 D (.lst (ys++[y]))=mup M1 D (.lst (ys++[y]))∧ys.length + 1≤S.xs.length)) fun y py=>?_
    refine ⟨mup_same,by simp,fun z hz=>?_,mup_mup,hlt⟩
    rcases List.mem_append.mp hz with hz | hz
    · exact hy z hz
    · cases List.mem_singleton.mp hz;exact py
  · rintro ys M ⟨hl,hy,rfl,hi⟩
    have:=q ys hl hy
    cases o with
    | true=>exact this D hD
    | false=>exact ⟨M1,(Sub.refl M1).mup hD,hD,this⟩
theorem eqX_bl {neg:Bool} {i j:Bool} {M:MHp} {Q:UK}:uEqX neg (.bl i) (.bl j) M Q=Q (.bl (if neg then !decide (i=j) else decide (i=j))) M:=rfl
theorem at_draw (l:List Int) (k:Nat) (h:k < l.length):atI (l.map U.int) (k:Int)=some (.int l[k]):=atI_nat (by rw [List.getElem?_map,List.getElem?_eq_getElem h];rfl)
theorem eqX_nil_ints {ns:List Int} {M:MHp} {Q:UK} (q:Q (.bl ns.isEmpty) M):uEqX false (.lst (ns.map .int)) (.lst []) M Q:=by
  have hd:∀ l:List Int,toDs (l.map U.int)=some (l.map PyData.int)∧PyData.canLayAll0 (l.map PyData.int)=true:=by
    intro l
    induction l with
    | nil=>simp [toDs,PyData.canLayAll0]
    | cons a l ih=>simp [toDs,toD,ih,PyData.canLayAll0,PyData.canLay0]
  obtain ⟨h1,h2⟩:=hd ns
  have e1:topD M (.lst (ns.map .int))=some (.list (ns.map .int)):=by simp only [topD,toD,h1,Option.map_some]
  have e2:topD M (.lst [])=some (.list []):=by simp [topD,toD,toDs]
  show uEqD false _ _ M Q
  refine ⟨_,_,e1,e2,by simp only [PyData.canLay0];exact h2,by decide +kernel,by simp [PyData.depth,PyData.depthAll],?_⟩
  have e3:PyData.eqv (.list (ns.map .int)) (.list [])=ns.isEmpty:=by
    rw [PyData.eqv]
    cases ns with
    | nil=>rfl
    | cons a l=>rfl
  simp only [e3,Bool.false_eq_true,if_false]
  exact q
def uIsB:UR2:=fun x y M Q=>match x,y with
  | .bl i,.bl j=>Q (.bl (decide (i=j))) M
  | _,_=>False
def Pt.parts:Pt→List Pt
  | .turn a=>[a]
  | .two _ a b=>[a,b]
  | _=>[]
def subsP:Pt→List Nat→List (List Nat × Pt)
  | .turn a,pl=>(pl,.turn a) :: subsP a (pl++[0])
  | .two o a b,pl=>(pl,.two o a b) :: (subsP a (pl++[0])++subsP b (pl++[1]))
  | p,pl=>[(pl,p)]
def Pt.places:Pt→List (List Nat)
  | .turn a=>[] :: a.places.map (0 :: ·)
  | .two _ a b=>[] :: (a.places.map (0 :: ·)++b.places.map (1 :: ·))
  | _=>[[]]
theorem subs_places:∀ (p:Pt) (pl:List Nat),(subsP p pl).map (·.1)=p.places.map (pl++·)
  | .turn a,pl=>by simp [subsP,Pt.places,subs_places a]
  | .two o a b,pl=>by
    simp only [subsP,Pt.places,List.map_cons,List.map_append,subs_places a,subs_places b,List.map_map,List.append_nil]
    simp [Function.comp_def]
  | .hole _,pl=>by simp [subsP,Pt.places]
  | .any,pl=>by simp [subsP,Pt.places]
  | .fr _ _,pl=>by simp [subsP,Pt.places]
theorem places_len:∀ p:Pt,p.places.length < 2 ^ p.dep
  | .turn a=>by have:=places_len a;simp only [Pt.places,Pt.dep,List.length_cons,List.length_map,Nat.pow_succ];omega
  | .two _ a b=>by
    have h1:=places_len a
    have h2:=places_len b
    have h3:2 ^ a.dep≤2 ^ max a.dep b.dep:=Nat.pow_le_pow_right (by decide) (Nat.le_max_left _ _)
    have h4:2 ^ b.dep≤2 ^ max a.dep b.dep:=Nat.pow_le_pow_right (by decide) (Nat.le_max_right _ _)
    simp only [Pt.places,Pt.dep,Nat.pow_succ,List.length_cons,List.length_append,List.length_map];omega
  | .hole _=>by simp [Pt.places,Pt.dep]
  | .any=>by simp [Pt.places,Pt.dep]
  | .fr _ _=>by simp [Pt.places,Pt.dep]
theorem place_short:∀ (p:Pt) (pl:List Nat),pl∈p.places→pl.length < p.dep
  | .turn a,pl,h=>by
    simp only [Pt.places,List.mem_cons,List.mem_map] at h
    rcases h with rfl | ⟨q,hq,rfl⟩
    · simp [Pt.dep]
    · have:=place_short a q hq;simp only [Pt.dep,List.length_cons];omega
  | .two o a b,pl,h=>by
    simp only [Pt.places,List.mem_cons,List.mem_append,List.mem_map] at h
    rcases h with rfl | ⟨q,hq,rfl⟩ | ⟨q,hq,rfl⟩
    · simp [Pt.dep]
    · have:=place_short a q hq;simp only [Pt.dep,List.length_cons];omega
    · have:=place_short b q hq;simp only [Pt.dep,List.length_cons];omega
  | .hole _,pl,h=>by simp [Pt.places] at h;subst h;simp [Pt.dep]
  | .any,pl,h=>by simp [Pt.places] at h;subst h;simp [Pt.dep]
  | .fr _ _,pl,h=>by simp [Pt.places] at h;subst h;simp [Pt.dep]
def spPlaces (n:Nat):USp:=fun us M Q=>∃ p:Pt,us=[p.toU]∧p.dep≤n∧n≤10∧Q (.lst (p.places.map placeU)) M
theorem s_at:(tabGet SIGNS (Str.ofString "at")).isSome=false:=by decide +kernel
theorem s_any:(tabGet SIGNS (Str.ofString "any")).isSome=false:=by decide +kernel
theorem s_from:(tabGet SIGNS (Str.ofString "from")).isSome=false:=by decide +kernel
theorem head_sign (p:Pt):∃ z r,p.toU=.tup (.str z :: r)∧(tabGet SIGNS z).isSome=!p.leafy∧(p.leafy=false→r=p.parts.map Pt.toU)∧r.length≤3:=by
  cases p with
  | hole c=>exact ⟨_,_,rfl,s_at,(fun h=>by cases h),by simp⟩
  | any=>exact ⟨_,_,rfl,s_any,(fun h=>by cases h),by simp⟩
  | fr l h=>exact ⟨_,_,rfl,s_from,(fun h=>by cases h),by simp⟩
  | turn a=>exact ⟨_,_,rfl,sg_turn,fun _=>rfl,by simp⟩
  | two o a b=>exact ⟨_,_,rfl,sg_two o,fun _=>rfl,by simp⟩
theorem parts_leaf {p:Pt} (h:p.leafy=true):p.parts=[]:=by cases p <;> first | rfl | cases h
def innerP:Nat→List Pt→List (List Nat)
  | _,[]=>[]
  | k,a :: r=>a.places.map (k :: ·)++innerP (k + 1) r
theorem places_eq (p:Pt):p.places=[] :: innerP 0 p.parts:=by cases p <;> simp [Pt.places,Pt.parts,innerP]
theorem inner_snoc (l:List Pt) (a:Pt):∀ k,innerP k (l++[a])=innerP k l++a.places.map ((k + l.length) :: ·):=by
  induction l with
  | nil=>intro k;simp [innerP]
  | cons b l ih=>intro k;simp only [List.cons_append,innerP,ih,List.length_cons,List.append_assoc];rw [show k + 1 + l.length=k + (l.length + 1) by omega]
theorem inner_le (p:Pt) (i:Nat):(innerP 0 (p.parts.take i)).length + 1≤p.places.length:=by
  have:∀ (l:List Pt) (k j:Nat),(innerP k (l.take j)).length≤(innerP k l).length:=by
    intro l
    induction l with
    | nil=>intro k j;simp [innerP]
    | cons a l ih =>
      intro k j
      cases j with
      | zero=>simp [innerP]
      | succ j=>simp only [List.take_succ_cons,innerP,List.length_append];have:=ih (k + 1) j;omega
  have h1:=this p.parts 0 i
  rw [places_eq p,List.length_cons]
  omega
theorem part_dep {p a:Pt} {i:Nat} (h:p.parts[i]?=some a):a.dep < p.dep:=by
  have hm:=List.mem_of_getElem? h
  cases p with
  | turn b =>
    have:a=b:=by simpa [Pt.parts] using hm
    subst this;simp only [Pt.dep];omega
  | two o b c =>
    have:a=b∨a=c:=by simpa [Pt.parts] using hm
    simp only [Pt.dep]
    rcases this with rfl | rfl <;> omega
  | _=>cases hm
theorem ok_places_of {n:Nat} (F:Fun K "places_of" "places_of" s_places_of f fd) (hm:mg "places_of"=some (.ref f)) (m_enumerate:mg "enumerate"=none)
    (C_parts_of:Callee P w K mg base 1 "parts_of" spPartsG []) (C_places_of:Callee P w K mg base (n + 1) "places_of" (spPlaces n) []):Callee P w K mg base (n + 2) "places_of" (spPlaces (n + 1)) []:=by
  refine callee2 F hm sc_places_of (ar1 fun _ _ _ _ _ _ _=>rfl) (uss_cons (us_set 1 sc_places_of.nd (ue_lst (own:=true) (ua_cons (ue_tup ua_nil) ua_nil)))
  (uss_cons (us_for (ui_enumerate m_enumerate (ua_cons (ue_call C_parts_of (ua_cons (uv 0) ua_nil)) ua_nil)) (ug_tup (n:=2) (ugs_cons (ug_name (k:=1000) 2 sc_places_of.nd) (ugs_cons (ug_name (k:=1000) 3 sc_places_of.nd) ugs_nil)))
  (uss_one (us_expr (ue_extend (uv 1) (ua_cons (ue_comp false ["place","number"] 1 [2] (ui_seq (ue_call C_places_of (ua_cons (uv 3) ua_nil))) (ug_name (k:=1) 0 (by dsimp only [compD];decide +kernel)) uif_nil (ue_add (own:=false) (ue_tup (ua_cons (uv 1) ua_nil)) (uv 0))) ua_nil)))))
  (uss_one (us_ret (uv 1))))) ?_
  rintro us M Q ⟨t,rfl,hd,hz,q⟩
  refine ⟨rfl,?_⟩
  have hbig:∀ a:Pt,a.dep≤10→a.places.length≤1024:=fun a ha=>by
    have h1:=places_len a
    have h2:2 ^ a.dep≤2 ^ 10:=Nat.pow_le_pow_right (by decide) ha
    omega
  dsimp! only [uZipL,uIsB]
  refine fun p hp=>?_
  refine for_by (S:=⟨none,numbered (t.parts.map Pt.toU)⟩) (M1:=mup M p (.lst [.tup []])) (fun R r=>?_)
    (fun i τ Mi=>∃ b c,τ=[some t.toU,some (.ref p),b,c]∧Mi=mup M p (.lst (([] :: innerP 0 (t.parts.take i)).map placeU))) ⟨none,none,rfl,rfl⟩ nk ?_ ?_
  · obtain ⟨z,rr,e,e1,e2,e3⟩:=head_sign t
    refine ⟨z,rr,!t.leafy,by rw [← e];rfl,e1,by omega,?_⟩
    cases hl:t.leafy with
    | true=>simp only [hl,Bool.not_true,Bool.false_eq_true,if_false];rw [parts_leaf hl] at r;exact r
    | false=>simp only [hl,Bool.not_false,if_true];rw [e2 hl];exact r
  · rintro i x τ Mi e ⟨b,c,rfl,rfl⟩
    obtain ⟨u,hu,rfl⟩:=numbered_get e
    rw [List.getElem?_map] at hu
    cases hp':t.parts[i]? with
    | none=>rw [hp'] at hu;cases hu
    | some a =>
      rw [hp'] at hu
      cases hu
      have ha:=part_dep hp'
      have hin:innerP 0 (t.parts.take (i + 1))=innerP 0 (t.parts.take i)++a.places.map (i :: ·):=by
        have hlt:=(List.getElem?_eq_some_iff.mp hp').1
        rw [List.take_add_one,hp']
        have:=inner_snoc (t.parts.take i) a 0
        rw [List.length_take,Nat.min_eq_left (Nat.le_of_lt hlt),Nat.zero_add] at this
        exact this
      have hb1:=hbig a (by omega)
      dsimp! only [uZipL,uIsB]
      refine ⟨isL_own,uComp_list (S:=⟨none,a.places.map placeU⟩) (M1:=mup M p (MO.lst (placeU [] :: List.map placeU (innerP 0 (List.take i t.parts))))) (a.places.map fun pl=>placeU (i :: pl)) (fun R r'=>⟨a,rfl,by omega,by omega,r'⟩) (by simp) ?_ (fun a e=>by cases e) ?_ ?_⟩
      · show (a.places.map placeU).length≤sizeLine
        rw [List.length_map]
        exact small (by omega)
      · intro j x y hx hy M' _ R r'
        have hx':(a.places.map placeU)[j]?=some x:=hx
        rw [List.getElem?_map] at hx' hy
        cases hpl:a.places[j]? with
        | none=>rw [hpl] at hx';cases hx'
        | some pl =>
          rw [hpl] at hx' hy
          cases hx'
          cases hy
          have h1:=place_short a pl (List.mem_of_getElem? hpl)
          dsimp! only [placeU,uZipL,uIsB]
          refine ⟨small ?_,?_⟩
          · simp only [List.length_cons,List.length_nil,List.length_map];omega
          · simpa [placeU] using r'
      · have h1:=inner_le t i
        have h2:=hbig t (by omega)
        dsimp! only [uZipL,uIsB]
        refine ⟨small ?_,_,_,rfl,?_⟩
        · simp only [List.length_map];omega
        · rw [hin,List.map_append,List.map_map];rfl
  · rintro τ Mi ⟨b,c,rfl,rfl⟩
    rw [numbered_len,List.length_map,List.take_length,← places_eq]
    dsimp! only [uZipL,uIsB]
    exact ⟨_,M,(Sub.refl M).mup hp,.inr ⟨p,_,rfl,mup_same,hp,rfl⟩,q⟩
theorem places_all (F:Fun K "places_of" "places_of" s_places_of f fd) (hm:mg "places_of"=some (.ref f)) (m_enumerate:mg "enumerate"=none) (C_parts_of:Callee P w K mg base 1 "parts_of" spPartsG []):∀ n,Callee P w K mg base (n + 1) "places_of" (spPlaces n) []
  | 0=>by
    have no:∀ us M Q,¬ spPlaces 0 us M Q:=fun us M Q h=>by
      obtain ⟨p,_,h,_⟩:=h
      have:=pdep_pos p
      omega
    refine ⟨f,fd,["shape"],[],[],⟨fun vs H Q E h=>?_,fun A outer s H args us vs Q E _ _ _ _ h=>?_⟩,hm,F.kp,F.binds (ar1 fun _ _ _ _ _ _ _=>rfl),.nil,fun H M=>.nil⟩
    · obtain ⟨us,M,Q',_,_,h,_⟩:=h;exact absurd h (no us M Q')
    · obtain ⟨us,M,Q',_,_,h,_⟩:=h;exact absurd h (no us M Q')
  | n + 1=>ok_places_of F hm m_enumerate C_parts_of (places_all F hm m_enumerate C_parts_of n)
def stepU:U→Nat→Option U
  | .tup (.str z :: r),k=>if (tabGet SIGNS z).isSome then (if r.length≤1000 then r[k]? else none) else none
  | _,_=>none
def atU:U→List Nat→Option U
  | u,[]=>some u
  | u,k :: pl=>(stepU u k).bind fun v=>atU v pl
theorem step_inv {h w:U} {k:Nat} (e:stepU h k=some w):∃ z r,h=.tup (.str z :: r)∧(tabGet SIGNS z).isSome=true∧r.length≤1000∧r[k]?=some w:=by
  match h,e with
  | .tup (.str z :: r),e =>
    simp only [stepU] at e
    split at e
    · rename_i h1
      split at e
      · rename_i h2
        exact ⟨z,r,rfl,h1,h2,e⟩
      · cases e
    · cases e
  | .tup [],e=>cases e
  | .tup (.non :: _),e=>cases e
  | .tup (.bl _ :: _),e=>cases e
  | .tup (.int _ :: _),e=>cases e
  | .tup (.ty _ :: _),e=>cases e
  | .tup (.ref _ :: _),e=>cases e
  | .tup (.tup _ :: _),e=>cases e
  | .tup (.lst _ :: _),e=>cases e
  | .non,e=>cases e
  | .bl _,e=>cases e
  | .int _,e=>cases e
  | .str _,e=>cases e
  | .ty _,e=>cases e
  | .ref _,e=>cases e
  | .lst _,e=>cases e
theorem atU_snoc:∀ (l:List Nat) (u:U) (k:Nat),atU u (l++[k])=(atU u l).bind fun v=>stepU v k
  | [],u,k=>by simp only [List.nil_append,atU,Option.bind_some];cases stepU u k <;> rfl
  | j :: l,u,k=>by
    simp only [List.cons_append,atU]
    cases stepU u j with
    | none=>rfl
    | some v=>exact atU_snoc l v k
theorem atU_none:∀ (l r:List Nat) (u:U),atU u l=none→atU u (l++r)=none
  | [],r,u,z=>by cases z
  | j :: l,r,u,z=>by
    simp only [List.cons_append,atU] at z ⊢
    cases hj:stepU u j with
    | none=>rfl
    | some v=>rw [hj] at z;exact atU_none l r v z
def spAtU:USp:=fun us M Q=>∃ (u v:U) (pl:List Nat),us=[u,placeU pl]∧atU u pl=some v∧Q v M
theorem ok_shape_at (F:Fun K "shape_at" "shape_at" s_shape_at f fd) (hm:mg "shape_at"=some (.ref f)) (C_parts_of:Callee P w K mg base 1 "parts_of" spPartsG []):Callee P w K mg base 2 "shape_at" spAtU []:=by
  refine callee2 F hm sc_shape_at (ar2 fun _ _ _ _ _ _ _ _=>rfl) (uss_cons (us_set 2 sc_shape_at.nd (uv 0))
  (uss_cons (us_for (ui_seq (uv 1)) (ug_name (k:=1000) 3 sc_shape_at.nd)
  (uss_one (us_set 2 sc_shape_at.nd (ue_ix (ue_call C_parts_of (ua_cons (uv 2) ua_nil)) (uv 3)))))
  (uss_one (us_ret (uv 2))))) ?_
  rintro us M Q ⟨u,v,pl,rfl,hpl,q⟩
  refine ⟨rfl,?_⟩
  dsimp! only [uZipL,uIsB]
  refine for_by (S:=⟨none,pl.map fun (n:Nat)=>U.int (n:Int)⟩) (M1:=M) (fun R r=>r)
    (fun i τ Mi=>∃ (h:U) (c:Option U),τ=[some u,some (placeU pl),some h,c]∧Mi=M∧atU u (pl.take i)=some h) ⟨u,none,rfl,rfl,rfl⟩ nk ?_ ?_
  · rintro i x τ Mi e ⟨h,c,rfl,rfl,hh⟩
    have e':(pl.map fun (n:Nat)=>U.int (n:Int))[i]?=some x:=e
    rw [List.getElem?_map] at e'
    cases hk:pl[i]? with
    | none=>rw [hk] at e';cases e'
    | some k =>
      rw [hk] at e'
      cases e'
      have hnx:atU u (pl.take (i + 1))=stepU h k:=by
        rw [List.take_add_one,hk]
        show atU u (pl.take i++[k])=_
        rw [atU_snoc,hh];rfl
      cases hs:stepU h k with
      | none =>
        rw [hs] at hnx
        have:=atU_none (pl.take (i + 1)) (pl.drop (i + 1)) u hnx
        rw [List.take_append_drop,hpl] at this
        cases this
      | some w' =>
        rw [hs] at hnx
        obtain ⟨z,r,rfl,hz,hr,hs'⟩:=step_inv hs
        dsimp! only [uZipL,uIsB]
        refine ⟨z,r,true,rfl,hz,hr,?_⟩
        dsimp! only [uZipL,uIsB]
        exact ⟨w',atI_nat hs',w',_,rfl,hnx⟩
  · rintro τ Mi ⟨h,c,rfl,rfl,hh⟩
    simp only [List.length_map,List.take_length] at hh
    rw [hpl] at hh
    cases hh
    dsimp! only [uZipL,uIsB]
    exact rt_same q
theorem ok_tree_at (F:Fun K "tree_at" "tree_at" s_tree_at f fd) (hm:mg "tree_at"=some (.ref f)) (C_shape_at:Callee P w K mg base 2 "shape_at" spAtU []):Callee P w K mg base 3 "tree_at" spAtU []:=by
  refine callee2 F hm sc_tree_at (ar2 fun _ _ _ _ _ _ _ _=>rfl) (uss_one (us_ret (ue_call C_shape_at (ua_cons (uv 0) (ua_cons (uv 1) ua_nil))))) ?_
  rintro us M Q ⟨u,v,pl,rfl,hpl,q⟩
  refine ⟨rfl,?_⟩
  dsimp! only [uZipL,uIsB]
  exact ⟨u,v,pl,rfl,hpl,rt_same q⟩
theorem st_turn (a:U):stepU (.tup [.str (Str.ofString "turn"),a]) 0=some a:=by
  simp only [stepU];rw [if_pos sg_turn,if_pos (by simp)];rfl
theorem st_two0 (o:Op) (a b:U):stepU (.tup [.str o.word,a,b]) 0=some a:=by
  simp only [stepU];rw [if_pos (sg_two o),if_pos (by simp)];rfl
theorem st_two1 (o:Op) (a b:U):stepU (.tup [.str o.word,a,b]) 1=some b:=by
  simp only [stepU];rw [if_pos (sg_two o),if_pos (by simp)];rfl
theorem subs_at:∀ (p:Pt) (pre:List Nat) (e:List Nat × Pt),e∈subsP p pre→∃ s,e.1=pre++s∧atU p.toU s=some e.2.toU
  | .turn a,pre,e,h=>by
    simp only [subsP] at h
    rcases List.mem_cons.mp h with rfl | h
    · exact ⟨[],by simp,rfl⟩
    · obtain ⟨s,h1,h2⟩:=subs_at a _ e h
      refine ⟨0 :: s,by rw [h1];simp,?_⟩
      simp only [atU,Pt.toU,st_turn,Option.bind_some,h2]
  | .two o a b,pre,e,h=>by
    simp only [subsP] at h
    rcases List.mem_cons.mp h with rfl | h
    · exact ⟨[],by simp,rfl⟩
    · rcases List.mem_append.mp h with h | h
      · obtain ⟨s,h1,h2⟩:=subs_at a _ e h
        refine ⟨0 :: s,by rw [h1];simp,?_⟩
        simp only [atU,Pt.toU,st_two0,Option.bind_some,h2]
      · obtain ⟨s,h1,h2⟩:=subs_at b _ e h
        refine ⟨1 :: s,by rw [h1];simp,?_⟩
        simp only [atU,Pt.toU,st_two1,Option.bind_some,h2]
  | .hole _,pre,e,h=>by cases List.mem_singleton.mp h;exact ⟨[],by simp,rfl⟩
  | .any,pre,e,h=>by cases List.mem_singleton.mp h;exact ⟨[],by simp,rfl⟩
  | .fr _ _,pre,e,h=>by cases List.mem_singleton.mp h;exact ⟨[],by simp,rfl⟩
def noHole (e:List Nat × Pt):Bool:=decide (e.2.holes=0)
def fU:U→Option U
  | .tup [a,.tup (.str z :: r)]=>if (!decide (z=Str.ofString "at")) && !(tabGet SIGNS z).isSome then some (.tup [a,.tup (.str z :: r)]) else none
  | _=>none
theorem fU_ent (e:List Nat × Pt):fU (entE e)=if e.2.leafy && noHole e then some (entE e) else none:=by
  obtain ⟨pl,q⟩:=e
  have e1:decide (Str.ofString "at"=Str.ofString "at")=true:=by simp
  cases q with
  | hole c=>simp only [entE,Pt.toU,fU,e1,Pt.leafy,noHole,Pt.holes];rfl
  | any=>simp only [entE,Pt.toU,fU,wwa,wwb,wwc,wwd,wwe,wwf,wwg,s_any,Pt.leafy,noHole,Pt.holes];rfl
  | fr l h=>simp only [entE,Pt.toU,fU,wwa,wwb,wwc,wwd,wwe,wwf,wwg,s_from,Pt.leafy,noHole,Pt.holes];rfl
  | turn a=>simp only [entE,Pt.toU,fU,wwa,wwb,wwc,wwd,wwe,wwf,wwg,sg_turn,Pt.leafy];rfl
  | two o a b=>simp only [entE,Pt.toU,fU,wwa,wwb,wwc,wwd,wwe,wwf,wwg,sg_two,Pt.leafy];rfl
def hF (e:List Nat × Pt):Option (List Nat × Str):=match e.2 with
  | .hole c=>some (e.1,c)
  | _=>none
def entH (e:List Nat × Str):U:=.tup [placeU e.1,.str e.2]
def hls (p:Pt):List (List Nat × Str):=(subsP p []).filterMap hF
def hU:U→Option U
  | .tup [a,.tup (.str z :: r)]=>if decide (z=Str.ofString "at") then (r.head?).map fun c=>.tup [a,c] else none
  | _=>none
theorem hU_ent (e:List Nat × Pt):hU (entE e)=(hF e).map entH:=by
  obtain ⟨pl,q⟩:=e
  have e1:decide (Str.ofString "at"=Str.ofString "at")=true:=by simp
  cases q with
  | hole c=>simp only [entE,Pt.toU,hU,e1,hF,entH];rfl
  | any=>simp only [entE,Pt.toU,hU,wwa,wwb,wwc,wwd,wwe,wwf,wwg,hF];rfl
  | fr l h=>simp only [entE,Pt.toU,hU,wwa,wwb,wwc,wwd,wwe,wwf,wwg,hF];rfl
  | turn a=>simp only [entE,Pt.toU,hU,wwa,wwb,wwc,wwd,wwe,wwf,wwg,hF];rfl
  | two o a b=>simp only [entE,Pt.toU,hU,wwa,wwb,wwc,wwd,wwe,wwf,wwg,hF];rfl
theorem hU_map (l:List (List Nat × Pt)):(l.map entE).filterMap hU=(l.filterMap hF).map entH:=by
  induction l with
  | nil=>rfl
  | cons e l ih =>
    rw [List.map_cons,List.filterMap_cons,List.filterMap_cons,hU_ent,ih]
    cases hF e <;> rfl
def spHoles:USp:=fun us M Q=>∃ p:Pt,us=[p.toU]∧p.dep≤6∧Q (.lst ((hls p).map entH)) M
theorem ok_holes (F:Fun K "holes" "holes" s_holes f fd) (hm:mg "holes"=some (.ref f)) (C_places_of:Callee P w K mg base 7 "places_of" (spPlaces 6) []) (C_shape_at:Callee P w K mg base 2 "shape_at" spAtU []):Callee P w K mg base 8 "holes" spHoles []:=by
  refine callee2 F hm sc_holes (ar1 fun _ _ _ _ _ _ _=>rfl) (uss_cons (us_setC 1 sc_holes.nd false ["place","pattern"] 1 [0] (ui_seq (ue_call C_places_of (ua_cons (uv 0) ua_nil))) (ug_name (k:=1) 0 (by dsimp only [compD];decide +kernel)) uif_nil (ue_tup (ua_cons (uv 0) (ua_cons (ue_call C_shape_at (ua_cons (uv 1) (ua_cons (uv 0) ua_nil))) ua_nil))))
  (uss_one (us_ret (ue_comp false ["place","piece"] 2 [] (ui_seq (uv 1)) (ug_tup (n:=2) (ugs_cons (ug_name (k:=2) 0 (by dsimp only [compD];decide +kernel)) (ugs_cons (ug_name (k:=2) 1 (by dsimp only [compD];decide +kernel)) ugs_nil))) (uif_one (ut_c k_eqX (ue_ix (uv 1) un_) us_)) (ue_tup (ua_cons (uv 0) (ua_cons (ue_ix (uv 1) un_) ua_nil))))))) ?_
  rintro us M Q ⟨p,rfl,hd,q⟩
  refine ⟨rfl,?_⟩
  have hsp:(subsP p []).map (·.1)=p.places:=by rw [subs_places];simp
  have hpl:p.places.length≤64:=by
    have h1:=places_len p
    have h2:2 ^ p.dep≤2 ^ 6:=Nat.pow_le_pow_right (by decide) hd
    omega
  have hsl:(subsP p []).length=p.places.length:=by rw [← hsp,List.length_map]
  dsimp! only [uZipL,uIsB,uListRev,uRev,uSetFrom]
  refine uComp_list (S:=⟨none,p.places.map placeU⟩) (M1:=M) ((subsP p []).map entE) (fun R r=>⟨p,rfl,hd,by decide,r⟩) (by simp [hsl]) (small (by show (p.places.map placeU).length≤_;rw [List.length_map];omega)) (fun a e=>by cases e) ?_ ?_
  · intro j x y hx hy M' _ R r'
    have hx':(p.places.map placeU)[j]?=some x:=hx
    rw [← hsp,List.map_map,List.getElem?_map] at hx'
    rw [List.getElem?_map] at hy
    cases hj:(subsP p [])[j]? with
    | none=>rw [hj] at hy;cases hy
    | some e =>
      rw [hj] at hx' hy
      cases hx'
      cases hy
      obtain ⟨s,h1,h2⟩:=subs_at p [] e (List.mem_of_getElem? hj)
      rw [List.nil_append] at h1
      dsimp! only [uZipL,uIsB,uListRev,uRev,uSetFrom]
      refine ⟨p.toU,e.2.toU,e.1,rfl,by rw [h1];exact h2,?_⟩
      dsimp! only [uZipL,uIsB,uListRev,uRev,uSetFrom]
      exact r'
  · dsimp! only [uZipL,uIsB,uListRev,uRev,uSetFrom]
    refine uComp_pure (S:=⟨none,(subsP p []).map entE⟩) (M1:=M) hU (fun R r=>r) (small (by show ((subsP p []).map entE).length≤_;rw [List.length_map];omega)) (fun a e=>by cases e) ?_ ?_
    · intro x hx M' _ R r
      obtain ⟨e,he,rfl⟩:=List.mem_map.mp hx
      rw [hU_ent] at r
      obtain ⟨pl,pt⟩:=e
      cases pt with
      | hole c=>dsimp! only [entE,hF,entH,Pt.toU,wwa,wwb,wwc,wwd,wwe,wwf,wwg,Option.map_some,uZipL,uIsB,uListRev,uRev,uSetFrom] at r ⊢;exact r
      | any=>dsimp! only [entE,hF,entH,Pt.toU,wwa,wwb,wwc,wwd,wwe,wwf,wwg,Option.map_none,uZipL,uIsB,uListRev,uRev,uSetFrom] at r ⊢;exact r
      | fr l h=>dsimp! only [entE,hF,entH,Pt.toU,wwa,wwb,wwc,wwd,wwe,wwf,wwg,Option.map_none,uZipL,uIsB,uListRev,uRev,uSetFrom] at r ⊢;exact r
      | turn a=>dsimp! only [entE,hF,entH,Pt.toU,wwa,wwb,wwc,wwd,wwe,wwf,wwg,Option.map_none,uZipL,uIsB,uListRev,uRev,uSetFrom] at r ⊢;exact r
      | two o a b=>dsimp! only [entE,hF,entH,Pt.toU,wwa,wwb,wwc,wwd,wwe,wwf,wwg,Option.map_none,uZipL,uIsB,uListRev,uRev,uSetFrom] at r ⊢;exact r
    · rw [show (Src.mk none ((subsP p []).map entE)).xs=(subsP p []).map entE from rfl,hU_map]
      simp only [mkL]
      exact rt_same q
def holesT:Pt→Tr→List (Tr × Str)
  | .hole c,t=>[(t,c)]
  | .turn p,.turn a=>holesT p a
  | .two _ p q,.two _ a b=>holesT p a++holesT q b
  | _,_=>[]
theorem hole_at:∀ (p:Pt) (t:Tr) (pre:List Nat),lieF p t=true→((subsP p pre).filterMap hF).length=(holesT p t).length∧∀ (i:Nat) (e:List Nat × Str),((subsP p pre).filterMap hF)[i]?=some e→∃ s t',e.1=pre++s∧atU t.toU s=some t'.toU∧(holesT p t)[i]?=some (t',e.2)
  | .hole c,t,pre,_=>⟨by cases t <;> rfl,fun i e h=>by
      match i,h with
      | 0,h=>cases h;exact ⟨[],t,by simp,rfl,by cases t <;> rfl⟩
      | i + 1,h=>cases h⟩
  | .any,.name x,pre,_=>⟨rfl,fun i e h=>by cases h⟩
  | .fr l h,.num n,pre,_=>⟨rfl,fun i e h=>by cases h⟩
  | .turn p,.turn a,pre,hl=>by
    obtain ⟨h1,h2⟩:=hole_at p a (pre++[0]) hl
    refine ⟨by simp only [subsP,List.filterMap_cons,hF,holesT];exact h1,fun i e he=>?_⟩
    simp only [subsP,List.filterMap_cons,hF] at he
    obtain ⟨s,t',e1,e2,e3⟩:=h2 i e he
    refine ⟨0 :: s,t',by rw [e1];simp,?_,e3⟩
    simp only [atU,Tr.toU,st_turn,Option.bind_some,e2]
  | .two o p q,.two o' a b,pre,hl=>by
    simp only [lieF,Bool.and_eq_true] at hl
    obtain ⟨ho,hl1,hl2⟩:=hl
    obtain ⟨h1,h2⟩:=hole_at p a (pre++[0]) hl1
    obtain ⟨k1,k2⟩:=hole_at q b (pre++[1]) hl2
    simp only [subsP,List.filterMap_cons,hF,List.filterMap_append,holesT,List.length_append]
    refine ⟨by omega,fun i e he=>?_⟩
    rw [List.getElem?_append] at he
    split at he
    · rename_i hi
      obtain ⟨s,t',e1,e2,e3⟩:=h2 i e he
      refine ⟨0 :: s,t',by rw [e1];simp,?_,by rw [List.getElem?_append_left (by omega)];exact e3⟩
      simp only [atU,Tr.toU,st_two0,Option.bind_some,e2]
    · rename_i hi
      obtain ⟨s,t',e1,e2,e3⟩:=k2 _ e he
      refine ⟨1 :: s,t',by rw [e1];simp,?_,by rw [List.getElem?_append_right (by omega),← h1];exact e3⟩
      simp only [atU,Tr.toU,st_two1,Option.bind_some,e2]
  | .any,.num _,_,h=>by cases h
  | .any,.turn _,_,h=>by cases h
  | .any,.two _ _ _,_,h=>by cases h
  | .fr _ _,.name _,_,h=>by cases h
  | .fr _ _,.turn _,_,h=>by cases h
  | .fr _ _,.two _ _ _,_,h=>by cases h
  | .turn _,.num _,_,h=>by cases h
  | .turn _,.name _,_,h=>by cases h
  | .turn _,.two _ _ _,_,h=>by cases h
  | .two _ _ _,.num _,_,h=>by cases h
  | .two _ _ _,.name _,_,h=>by cases h
  | .two _ _ _,.turn _,_,h=>by cases h
structure Tl where
  name:Str
  cls:Str
  pt:Pt
  cost:Int
def Tl.toU (t:Tl):U:=.tup [.str t.name,.str t.cls,t.pt.toU,.int t.cost]
def Tl.pass (t:Tl):Bool:=match t.pt with
  | .hole _=>true
  | _=>false
structure Wt where
  t:Tr
  c:Str
  ps:List Str
def Wt.toU (w:Wt):U:=.tup [w.t.toU,.str w.c,.tup (w.ps.map .str)]
def passed (tl:Tl) (w:Wt):List Str:=if tl.pass then w.ps++[tl.cls] else []
def below (tl:Tl) (w:Wt):List Wt:=(holesT tl.pt w.t).map fun x=>⟨x.1,x.2,passed tl w⟩
def spPass:USp:=fun us M Q=>∃ tl:Tl,us=[tl.toU]∧Q (.bl tl.pass) M
theorem ok_is_pass (F:Fun K "is_pass" "is_pass" s_is_pass f fd) (hm:mg "is_pass"=some (.ref f)):Callee P w K mg base 1 "is_pass" spPass []:=by
  refine callee2 F hm sc_is_pass (ar1 fun _ _ _ _ _ _ _=>rfl) (uss_one (us_ret (ue_c k_eqX (ue_ix (ue_ix (uv 0) un_) un_) us_))) ?_
  rintro us M Q ⟨tl,rfl,q⟩
  refine ⟨rfl,?_⟩
  obtain ⟨nm,cl,pt,co⟩:=tl
  cases pt <;> (dsimp! only [Tl.toU,Tl.pass,Pt.toU,wwa,wwb,wwc,wwd,wwe,wwf,wwg,uZipL,uIsB,uListRev,uRev,uSetFrom] at q ⊢;exact rt_same q)
theorem hls_len (p:Pt) (h:p.dep≤6):(hls p).length≤64:=by
  have h1:=places_len p
  have h2:2 ^ p.dep≤2 ^ 6:=Nat.pow_le_pow_right (by decide) h
  have h3:(subsP p []).length=p.places.length:=by rw [← List.length_map (f:=(·.1)),subs_places];simp
  have h4:(hls p).length≤(subsP p []).length:=List.length_filterMap_le _ _
  omega
def spBelow:USp:=fun us M Q=>∃ (tl:Tl) (w:Wt),us=[tl.toU,w.toU]∧tl.pt.dep≤6∧w.ps.length≤2000∧lieF tl.pt w.t=true∧Q (.lst ((below tl w).map Wt.toU)) M
def stepW (tiles:List Tl) (n:Int):List Wt→Option (List Wt)
  | []=>none
  | w :: st=>if 0≤n∧n < tiles.length then
      match tiles[n.toNat]? with
      | some tl=>if tl.cls=w.c∧tl.cls ∉ w.ps∧lieF tl.pt w.t=true then some (below tl w++st) else none
      | none=>none
    else none
def runU (tiles:List Tl):List U→List Wt→Bool
  | [],st=>st.isEmpty
  | .int n :: r,st=>match stepW tiles n st with
    | some st'=>runU tiles r st'
    | none=>false
  | _ :: _,_=>false
def coverU (tiles:List Tl) (t:Tr) (c:Str):U→Bool
  | .lst us=>runU tiles us [⟨t,c,[]⟩]
  | _=>false
def plainW:U→Prop
  | .int _=>True
  | .bl _=>True
  | .lst _=>True
  | .str _=>True
  | .non=>True
  | .tup _=>True
  | _=>False
def spWholeU:USp:=fun us M Q=>∃ u:U,us=[u]∧plainW u∧Q (.bl (match u with | .int _=>true | _=>false)) M
theorem ok_below (F:Fun K "wanted_below" "wanted_below" s_wanted_below f fd) (hm:mg "wanted_below"=some (.ref f)) (C_is_pass:Callee P w K mg base 1 "is_pass" spPass []) (C_holes:Callee P w K mg base 8 "holes" spHoles []) (C_tree_at:Callee P w K mg base 3 "tree_at" spAtU []):Callee P w K mg base 9 "wanted_below" spBelow []:=by
  refine callee2 F hm sc_wanted_below (ar2 fun _ _ _ _ _ _ _ _=>rfl) (uss_cons (us_set 2 sc_wanted_below.nd (ue_if (ut_val (ue_call C_is_pass (ua_cons (uv 0) ua_nil))) (ue_add (own:=false) (ue_ix (uv 1) un_) (ue_tup (ua_cons (ue_ix (uv 0) un_) ua_nil))) (ue_tup ua_nil)))
  (uss_one (us_ret (ue_comp false ["place","cls","passed","wanted"] 2 [2,1] (ui_seq (ue_call C_holes (ua_cons (ue_ix (uv 0) un_) ua_nil))) (ug_tup (n:=2) (ugs_cons (ug_name (k:=2) 0 (by dsimp only [compD];decide +kernel)) (ugs_cons (ug_name (k:=2) 1 (by dsimp only [compD];decide +kernel)) ugs_nil))) uif_nil (ue_tup (ua_cons (ue_call C_tree_at (ua_cons (ue_ix (uv 3) un_) (ua_cons (uv 0) ua_nil))) (ua_cons (uv 1) (ua_cons (uv 2) ua_nil)))))))) ?_
  rintro us M Q ⟨tl,wt,rfl,hd,hps,hl,q⟩
  refine ⟨rfl,?_⟩
  obtain ⟨h1,h2⟩:=hole_at tl.pt wt.t [] hl
  have hlen:=hls_len tl.pt hd
  dsimp! only [Tl.toU,Wt.toU,uZipL,uIsB,uListRev,uRev,uSetFrom]
  refine ⟨tl,rfl,?_⟩
  cases hp:tl.pass with
  | true =>
    dsimp! only [uZipL,uIsB,uListRev,uRev,uSetFrom]
    refine ⟨small (by simp;omega),?_⟩
    refine uComp_list (S:=⟨none,(hls tl.pt).map entH⟩) (M1:=M) ((below tl wt).map Wt.toU) (fun R r=>⟨_,at2,tl.pt,rfl,hd,r⟩) ?_ (small (by show ((hls tl.pt).map entH).length≤_;rw [List.length_map];omega)) (fun a e=>by cases e) ?_ (rt_same q)
    · show ((below tl wt).map Wt.toU).length=((hls tl.pt).map entH).length
      rw [List.length_map,List.length_map,below,List.length_map];exact h1.symm
    · intro j x y hx hy M' _ R r'
      have hx':((hls tl.pt).map entH)[j]?=some x:=hx
      rw [List.getElem?_map] at hx'
      cases hj:(hls tl.pt)[j]? with
      | none=>rw [hj] at hx';cases hx'
      | some e =>
        rw [hj] at hx'
        cases hx'
        obtain ⟨sp,t',e1,e2,e3⟩:=h2 j e hj
        rw [List.nil_append] at e1
        rw [List.getElem?_map,below,List.getElem?_map,e3] at hy
        cases hy
        dsimp! only [entH,uZipL,uIsB,uListRev,uRev,uSetFrom]
        refine ⟨wt.t.toU,_,e.1,rfl,by rw [e1];exact e2,?_⟩
        dsimp! only [uZipL,uIsB,uListRev,uRev,uSetFrom]
        simpa [Wt.toU,passed,hp] using r'
  | false =>
    dsimp! only [uZipL,uIsB,uListRev,uRev,uSetFrom]
    refine uComp_list (S:=⟨none,(hls tl.pt).map entH⟩) (M1:=M) ((below tl wt).map Wt.toU) (fun R r=>⟨_,at2,tl.pt,rfl,hd,r⟩) ?_ (small (by show ((hls tl.pt).map entH).length≤_;rw [List.length_map];omega)) (fun a e=>by cases e) ?_ (rt_same q)
    · show ((below tl wt).map Wt.toU).length=((hls tl.pt).map entH).length
      rw [List.length_map,List.length_map,below,List.length_map];exact h1.symm
    · intro j x y hx hy M' _ R r'
      have hx':((hls tl.pt).map entH)[j]?=some x:=hx
      rw [List.getElem?_map] at hx'
      cases hj:(hls tl.pt)[j]? with
      | none=>rw [hj] at hx';cases hx'
      | some e =>
        rw [hj] at hx'
        cases hx'
        obtain ⟨sp,t',e1,e2,e3⟩:=h2 j e hj
        rw [List.nil_append] at e1
        rw [List.getElem?_map,below,List.getElem?_map,e3] at hy
        cases hy
        dsimp! only [entH,uZipL,uIsB,uListRev,uRev,uSetFrom]
        refine ⟨wt.t.toU,_,e.1,rfl,by rw [e1];exact e2,?_⟩
        dsimp! only [uZipL,uIsB,uListRev,uRev,uSetFrom]
        simpa [Wt.toU,passed,hp] using r'
theorem ok_is_whole (F:Fun K "is_whole" "is_whole" s_is_whole f fd) (hm:mg "is_whole"=some (.ref f)) (m_isinstance:mg "isinstance"=none) (m_int:mg "int"=none) (m_bool:mg "bool"=none):Callee P w K mg base 1 "is_whole" spWholeU []:=by
  refine callee2 F hm sc_is_whole (ar1 fun _ _ _ _ _ _ _=>rfl) (uss_one (us_ret (ue_and (ue_b b_isi m_isinstance (ua_cons (uv 0) (ua_cons (ug_ty (n:="int") m_int) ua_nil))) (ue_one (ue_not (ue_b b_isi m_isinstance (ua_cons (uv 0) (ua_cons (ug_ty (n:="bool") m_bool) ua_nil)))))))) ?_
  rintro us M Q ⟨u,rfl,hp,q⟩
  refine ⟨rfl,?_⟩
  cases u <;> first | exact hp.elim | (dsimp! only [uZipL,uIsB,uListRev,uRev,uSetFrom] at q ⊢;exact rt_same q)
theorem any_str (ss:List Str) (z:Str):((ss.map U.str).any fun u=>eqF u (.str z))=decide (z∈ss):=by
  induction ss with
  | nil=>rfl
  | cons a r ih =>
    rw [List.map_cons,List.any_cons,ih]
    have:eqF (.str a) (.str z)=decide (z=a):=by
      show (a == z)=_
      by_cases h:z=a
      · subst h;simp
      · have k:¬ a=z:=fun k=>h k.symm
        simp [h,k]
    rw [this]
    by_cases h:z=a
    · subst h;simp
    · simp [h]
theorem flat_strs (ss:List Str):(ss.map U.str).all flatU=true:=by
  induction ss with
  | nil=>rfl
  | cons a r ih=>rw [List.map_cons,List.all_cons,ih];rfl
theorem below_len (tl:Tl) (w:Wt) (h:tl.pt.dep≤6) (hl:lieF tl.pt w.t=true):(below tl w).length≤64:=by
  have:=hls_len tl.pt h
  have h1:=(hole_at tl.pt w.t [] hl).1
  rw [below,List.length_map,← h1];exact this
theorem vw_wt {M:MHp} {w:Wt}:view M w.toU=.tup [w.t.toU,.str w.c,.tup (w.ps.map .str)]:=rfl
theorem vw_tl {M:MHp} {t:Tl}:view M t.toU=.tup [.str t.name,.str t.cls,t.pt.toU,.int t.cost]:=rfl
def tabU (cs:List Str) (tiles:List Tl):U:=.tup [sortsU cs,.tup (tiles.map Tl.toU)]
theorem vw_tab {M:MHp} {cs:List Str} {tiles:List Tl}:view M (tabU cs tiles)=.tup [sortsU cs,.tup (tiles.map Tl.toU)]:=rfl
def spCover:USp:=fun us M Q=>∃ (cs:List Str) (tiles:List Tl) (t:Tr) (c:Str) (th:U),us=[tabU cs tiles,t.toU,.str c,th]∧(∀ tl∈tiles,tl.pt.dep≤6)∧plainW th∧(∀ ws,th=.lst ws→ws.length≤1300∧∀ u∈ws,plainW u)∧Q (.bl (coverU tiles t c th)) M
theorem ok_is_cover (F:Fun K "is_cover" "is_cover" s_is_cover f fd) (hm:mg "is_cover"=some (.ref f)) (m_isinstance:mg "isinstance"=none) (m_list:mg "list"=none) (m_len:mg "len"=none) (m_reversed:mg "reversed"=none) (C_is_whole:Callee P w K mg base 1 "is_whole" spWholeU []) (C_lies:Callee P w K mg base 9 "lies" (spLies 6) []) (C_wanted_below:Callee P w K mg base 9 "wanted_below" spBelow []):Callee P w K mg base 10 "is_cover" spCover []:=by
  refine callee2 F hm sc_is_cover (ar4 fun _ _ _ _ _ _ _ _ _ _=>rfl) (uss_cons (us_if (ut_not (ut_val (ue_b b_isi m_isinstance (ua_cons (uv 3) (ua_cons (ug_ty (n:="list") m_list) ua_nil)))))
  (uss_one (us_ret ub_))
  uss_nil)
  (uss_cons (us_set 4 sc_is_cover.nd (ue_lst (own:=true) (ua_cons (ue_tup (ua_cons (uv 1) (ua_cons (uv 2) (ua_cons (ue_tup ua_nil) ua_nil)))) ua_nil)))
  (uss_cons (us_for (ui_seq (uv 3)) (ug_name (k:=1000) 5 sc_is_cover.nd)
  (uss_cons (us_if (PWU.pt (uw_or (ut_not (ut_val (uv 4))) (uw_or (ut_not (ut_val (ue_call C_is_whole (ua_cons (uv 5) ua_nil)))) (uw_or1 (ut_not (ut_ch k_le k_ltX un_ (uv 5) (ue_b b_len m_len (ua_cons (ue_ix (uv 0) un_) ua_nil))))))))
  (uss_one (us_ret ub_))
  uss_nil)
  (uss_cons (us_set 6 sc_is_cover.nd (ue_pop (uv 4)))
  (uss_cons (us_set 7 sc_is_cover.nd (ue_ix (ue_ix (uv 0) un_) (uv 5)))
  (uss_cons (us_if (PWU.pt (uw_or (ut_c k_neX (ue_ix (uv 7) un_) (ue_ix (uv 6) un_)) (uw_or (ut_c k_in (ue_ix (uv 7) un_) (ue_ix (uv 6) un_)) (uw_or1 (ut_not (ut_val (ue_call C_lies (ua_cons (ue_ix (uv 7) un_) (ua_cons (ue_ix (uv 6) un_) ua_nil)))))))))
  (uss_one (us_ret ub_))
  uss_nil)
  (uss_one (us_expr (ue_extend (uv 4) (ua_cons (ue_listRev (own:=false) m_list m_reversed (ua_cons (ue_call C_wanted_below (ua_cons (uv 7) (ua_cons (uv 6) ua_nil))) ua_nil)) ua_nil)))))))))
  (uss_one (us_ret (ue_notT (uv 4))))))) ?_
  rintro us M Q ⟨cs,tiles,t,c,th,rfl,htl,hth,hall,q⟩
  refine ⟨rfl,?_⟩
  cases th with
  | lst ws =>
    obtain ⟨hwl,hwp⟩:=hall ws rfl
    dsimp! only [uZipL,uIsB,uListRev,uRev,uSetFrom]
    intro p hp
    refine for_by (S:=⟨none,ws⟩) (M1:=mup M p (.lst [.tup [t.toU,.str c,.tup []]])) (fun R r=>r)
      (fun i τ Mi=>∃ (st:List Wt) (a b d:Option U),τ=[some (tabU cs tiles),some t.toU,some (.str c),some (.lst ws),some (.ref p),a,b,d]∧Mi=mup M p (.lst (st.reverse.map Wt.toU))∧st.length≤1 + 64 * i∧(∀ w∈st,w.ps.length≤i)∧runU tiles (ws.drop i) st=runU tiles ws [⟨t,c,[]⟩])
      ⟨[⟨t,c,[]⟩],none,none,none,rfl,rfl,by simp,(fun w hw=>by cases List.mem_singleton.mp hw;simp),by simp⟩ nk ?_ ?_
    · rintro i x τ Mi e ⟨st,a,b,d,rfl,rfl,hl,hps,hrun⟩
      have e':ws[i]?=some x:=e
      have hi:i < ws.length:=(List.getElem?_eq_some_iff.mp e').1
      have hdrop:ws.drop i=x :: ws.drop (i + 1):=by
        rw [List.drop_eq_getElem_cons hi]
        rw [List.getElem?_eq_getElem hi] at e'
        rw [Option.some.inj e']
      rw [hdrop] at hrun
      have hxp:=hwp x (List.mem_of_getElem? e')
      have no:runU tiles ws [⟨t,c,[]⟩]=false→rtU Q (.bl false) (mup M p (.lst (st.reverse.map Wt.toU))):=fun hf=>by
        have q':Q (.bl (runU tiles ws [⟨t,c,[]⟩])) M:=q
        rw [hf] at q'
        exact ⟨_,M,(Sub.refl M).mup hp,.inl rfl,q'⟩
      cases st with
      | nil =>
        have hf:runU tiles ws [⟨t,c,[]⟩]=false:=by rw [← hrun];cases x <;> rfl
        have:=no hf
        dsimp! only [List.reverse_nil,List.isEmpty_nil,uZipL,uIsB,uListRev,uRev,uSetFrom] at this ⊢
        exact this
      | cons w' rest =>
        have hie:(rest.reverse.map Wt.toU++[w'.toU]).isEmpty=false:=by simp
        simp_all! only [uSeq,uIfS,hName,List.reverse_cons,List.map_append,uZipL,uIsB,uListRev,uRev,uSetFrom]
        simp_all! only [hie,uZipL,uIsB,uListRev,uRev,uSetFrom]
        refine ⟨x,rfl,hxp,?_⟩
        have no2:=no
        simp only [List.reverse_cons,List.map_append,List.map_cons,List.map_nil] at no2
        cases x with
        | int n =>
          have hrun':(match stepW tiles n (w' :: rest) with | some st'=>runU tiles (ws.drop (i + 1)) st' | none=>false)=runU tiles ws [⟨t,c,[]⟩]:=hrun
          have stop:stepW tiles n (w' :: rest)=none→rtU Q (.bl false) (mup M p (.lst (rest.reverse.map Wt.toU++[w'.toU]))):=fun z=>no2 (by rw [← hrun',z])
          by_cases h0:0≤n
          · by_cases h1:n < (tiles.length:Int)
            · have hlt:n.toNat < tiles.length:=by omega
              obtain ⟨tl,htle⟩:∃ tl,tiles[n.toNat]?=some tl:=⟨_,List.getElem?_eq_getElem hlt⟩
              have hdp:=htl tl (List.mem_of_getElem? htle)
              have hat:atI (tiles.map Tl.toU) n=some tl.toU:=by
                have:=atI_nat (xs:=tiles.map Tl.toU) (j:=n.toNat) (v:=tl.toU) (by rw [List.getElem?_map,htle];rfl)
                rw [Int.toNat_of_nonneg h0] at this
                exact this
              have d0:decide (0≤n)=true:=decide_eq_true h0
              have d1:decide (n < (tiles.length:Int))=true:=decide_eq_true h1
              have hst:stepW tiles n (w' :: rest)=if tl.cls=w'.c∧tl.cls ∉ w'.ps∧lieF tl.pt w'.t=true then some (below tl w'++rest) else none:=by
                simp only [stepW,h0,h1,htle,and_self,if_true]
              have stop2:¬ (tl.cls=w'.c∧tl.cls ∉ w'.ps∧lieF tl.pt w'.t=true)→rtU Q (.bl false) (mup M p (.lst (rest.reverse.map Wt.toU))):=fun z=>by
                have hf:runU tiles ws [⟨t,c,[]⟩]=false:=by rw [← hrun',hst,if_neg z]
                have q':Q (.bl (runU tiles ws [⟨t,c,[]⟩])) M:=q
                rw [hf] at q'
                exact ⟨_,M,(Sub.refl M).mup hp,.inl rfl,q'⟩
              have fl:∀ z:Str,flatU (.str z)=true:=fun _=>rfl
              simp_all! only [vw_tab,List.length_map,d0,d1,uZipL,uIsB,uListRev,uRev,uSetFrom]
              simp_all! only [uNext,uSeq,uAsg,hName,vw_tab,List.length_map,hat,gl_1,dl_1,uZipL,uIsB,uListRev,uRev,uSetFrom]
              refine ⟨isL_own,?_⟩
              simp_all! only [uIfS,vw_tl,vw_wt,uZipL,uIsB,uListRev,uRev,uSetFrom]
              by_cases g1:tl.cls=w'.c
              · simp_all! only [g1,fl,flat_strs,any_str,vw_tl,vw_wt,uZipL,uIsB,uListRev,uRev,uSetFrom]
                by_cases g2:w'.c∈w'.ps
                · rw [if_pos (decide_eq_true g2)]
                  simp only [uRet,uC]
                  exact stop2 fun z=>z.2.1 (by rw [g1];exact g2)
                · rw [if_neg (by simpa using g2)]
                  refine ⟨tl.pt,w'.t,rfl,hdp,?_⟩
                  cases g3:lieF tl.pt w'.t with
                  | false =>
                    simp_all! only [uRet,uZipL,uIsB,uListRev,uRev,uSetFrom]
                    exact stop2 fun z=>by rw [g3] at z;cases z.2.2
                  | true =>
                    simp_all! only [uNext,uDrop,uZipL,uIsB,uListRev,uRev,uSetFrom]
                    refine ⟨isL_own,tl,w',rfl,hdp,by have:=hps w' List.mem_cons_self;omega,g3,?_⟩
                    simp_all! only [uZipL,uIsB,uListRev,uRev,uSetFrom]
                    have hbl:=below_len tl w' hdp g3
                    refine ⟨small (by simp at hl ⊢;omega),below tl w'++rest,_,_,_,rfl,by simp [List.map_reverse],by simp only [List.length_append,List.length_cons] at hl ⊢;omega,?_,?_⟩
                    · intro w hw
                      rcases List.mem_append.mp hw with hw | hw
                      · obtain ⟨y,_,rfl⟩:=List.mem_map.mp hw
                        have h5:=hps w' List.mem_cons_self
                        show (passed tl w').length≤i + 1
                        unfold passed
                        split
                        · simp only [List.length_append,List.length_cons,List.length_nil];omega
                        · simp
                      · have:=hps w (List.mem_cons_of_mem _ hw);omega
                    · rw [← hrun',hst,if_pos ⟨g1,by rw [g1];exact g2,g3⟩]
              · simp_all! only [g1,uRet,uZipL,uIsB,uListRev,uRev,uSetFrom]
                exact stop2 fun z=>g1 z.1
            · have d0:decide (0≤n)=true:=decide_eq_true h0
              have d1:decide (n < (tiles.length:Int))=false:=decide_eq_false h1
              simp_all! only [vw_tab,List.length_map,d0,d1,uRet,uZipL,uIsB,uListRev,uRev,uSetFrom]
              exact stop (by simp only [stepW];rw [if_neg (fun z=>h1 z.2)])
          · have d0:decide (0≤n)=false:=decide_eq_false h0
            simp_all! only [d0,uRet,uZipL,uIsB,uListRev,uRev,uSetFrom]
            exact stop (by simp only [stepW];rw [if_neg (fun z=>h0 z.1)])
        | ref _=>exact hxp.elim
        | ty _=>exact hxp.elim
        | _ =>
          simp_all! only [uRet,uZipL,uIsB,uListRev,uRev,uSetFrom]
          exact no2 (by rw [← hrun];rfl)
    · rintro τ Mi ⟨st,a,b,d,rfl,rfl,hl,hps,hrun⟩
      have hl2:(Src.mk none ws).xs.length=ws.length:=rfl
      rw [hl2,List.drop_length] at hrun
      have q':Q (.bl (runU tiles ws [⟨t,c,[]⟩])) M:=q
      rw [← hrun] at q'
      dsimp! only [uNotT,uZipL,uIsB,uListRev,uRev,uSetFrom]
      have hemp:(!(!(st.reverse.map Wt.toU).isEmpty))=runU tiles [] st:=by cases st <;> simp [runU]
      rw [hemp]
      exact ⟨_,M,(Sub.refl M).mup hp,.inl rfl,q'⟩
  | _ =>
    dsimp! only [coverU,uZipL,uIsB,uListRev,uRev,uSetFrom] at q ⊢
    first | exact rt_same q | exact hth.elim
theorem intsOf_map (ns:List Int):intsOf (ns.map U.int)=some ns:=by
  induction ns with
  | nil=>rfl
  | cons a r ih=>simp only [List.map_cons,intsOf,ih,Option.map_some]
def spWord:USp:=fun us M Q=>∃ k c:Int,us=[.int k,.int c]∧0≤k∧k < 26∧∀ z:Str,PyData.strOk z=true→z.length≤8→Q (.str z) M
theorem ok_word (F:Fun K "_law_word" "_law_word" s_law_word f fd) (hm:mg "_law_word"=some (.ref f)):Callee P w K mg base 1 "_law_word" spWord []:=by
  refine callee2 F hm sc_law_word (ar2 fun _ _ _ _ _ _ _ _=>rfl) (uss_cons (us_set 2 sc_law_word.nd us_)
  (uss_one (us_ret (ue_add (own:=false) (ue_add (own:=false) (ue_ix (uv 2) (ue_divX (uv 0) un_)) (ue_ix (uv 2) (ue_mod (uv 0) un_))) (ue_mulX (own:=false) (ue_ix (uv 2) (ue_mod (uv 1) un_)) (ue_mod (ue_divX (uv 1) un_) un_)))))) ?_
  rintro us M Q ⟨k,c,rfl,hk0,hk1,q⟩
  refine ⟨rfl,?_⟩
  have hL:ABC.cps.toList.length=26:=by decide +kernel
  have hL2:(ABC.length≤sizeLine):=by decide +kernel
  have hA:PyData.strOk ABC=true:=by decide +kernel
  have lt:∀ m:Int,∃ c,atI ABC.cps.toList (m % 26)=some c:=fun m=>atI_ex ABC.cps.toList (m % 26) (Int.emod_nonneg _ (by decide)) (by rw [hL];exact Int.emod_lt_of_pos _ (by decide))
  dsimp! only [uZipL,uIsB,uListRev,uRev,uSetFrom,uZipLL,uNotB,uIsB2]
  obtain ⟨x,hx⟩:=atI_ex ABC.cps.toList (k / 26) (by omega) (by rw [hL];omega)
  obtain ⟨y,hy⟩:=lt k
  obtain ⟨u,hu⟩:=lt c
  have n0:=Int.emod_nonneg (c / 26) (show (6:Int)≠0 by decide)
  have n1:=Int.emod_lt_of_pos (c / 26) (show (0:Int) < 6 by decide)
  have l1:(⟨#[x]⟩:Str).length=1:=rfl
  have l2:(⟨#[y]⟩:Str).length=1:=rfl
  have l0:(⟨#[u]⟩:Str).length=1:=rfl
  have l3:=rep_len ⟨#[u]⟩ (c / 26 % 6)
  rw [l0] at l3
  have l4:((⟨#[x]⟩:Str)++(⟨#[y]⟩:Str)).length=2:=by rw [len_app,l1,l2]
  refine ⟨⟨by decide,by decide⟩,hL2,x,hx,by decide,hL2,y,hy,small (by rw [l1,l2];decide),by decide,hL2,u,hu,⟨by decide,by decide⟩,by decide,by omega,by omega,by rw [l0];decide,by rw [l0];omega,small (by rw [l4];omega),rt_same (q _ (strOk_app (strOk_app (ch_ok hA hx) (ch_ok hA hy)) (strOk_rep (ch_ok hA hu) _)) ?_)⟩
  rw [len_app,l4];omega
def hT (p:Pt) (t:Tr):List Tr:=(holesT p t).map (·.1)
theorem hT_two {o o':Op} {a d:Pt} {r r':Tr}:hT (.two o a d) (.two o' r r')=hT a r++hT d r':=by simp [hT,holesT]
def holeC:Pt→Option Str
  | .hole c=>some c
  | _=>none
def asksP (p:Pt):List Str:=p.ends.filterMap holeC
theorem holes_cls:∀ (p:Pt) (t:Tr),lieF p t=true→(holesT p t).map (·.2)=asksP p
  | .hole c,t,_=>by cases t <;> rfl
  | .any,.name x,_=>rfl
  | .fr l h,.num n,_=>rfl
  | .turn p,.turn a,h=>holes_cls p a h
  | .two o p q,.two o' a b,h=>by
    simp only [lieF,Bool.and_eq_true] at h
    have h1:=holes_cls p a h.2.1
    have h2:=holes_cls q b h.2.2
    simp only [asksP] at h1 h2
    simp only [holesT,asksP,Pt.ends,List.map_append,List.filterMap_append,h1,h2]
  | .any,.num _,h=>by cases h
  | .any,.turn _,h=>by cases h
  | .any,.two _ _ _,h=>by cases h
  | .fr _ _,.name _,h=>by cases h
  | .fr _ _,.turn _,h=>by cases h
  | .fr _ _,.two _ _ _,h=>by cases h
  | .turn _,.num _,h=>by cases h
  | .turn _,.name _,h=>by cases h
  | .turn _,.two _ _ _,h=>by cases h
  | .two _ _ _,.num _,h=>by cases h
  | .two _ _ _,.name _,h=>by cases h
  | .two _ _ _,.turn _,h=>by cases h
def plA (z:Str):List Tl:=[⟨"pa",z,.two .sum (.hole z) (.hole z),1⟩,⟨"pb",z,.two .less (.hole z) (.hole z),2⟩]
def plB (z:Str):List Tl:=[⟨"pc",z,.two .by_ (.hole z) (.hole z),3⟩,⟨"pd",z,.turn (.hole z),1⟩]
def plC (z:Str):List Tl:=[⟨"pe",z,.any,2⟩,⟨"pf",z,.fr 0 (10 ^ Int.toNat 18),2⟩]
def plainT (z:Str):List Tl:=plA z++plB z++plC z
def spCellAt:USp:=fun us M Q=>∃ (ns:List Int) (k:Int),us=[.lst (ns.map .int),.int k]∧0≤k∧k≤1000∧∀ n:Int,Q (.int n) M
theorem ok_cell_at (F:Fun K "_law_cell_at" "_law_cell_at" s_law_cell_at f fd) (hm:mg "_law_cell_at"=some (.ref f)) (m_len:mg "len"=none):Callee P w K mg base 1 "_law_cell_at" spCellAt []:=by
  refine callee2 F hm sc_law_cell_at (ar2 fun _ _ _ _ _ _ _ _=>rfl) (uss_cons (us_if (ut_c k_ltX (uv 1) (ue_b b_len m_len (ua_cons (uv 0) ua_nil)))
  (uss_one (us_ret (ue_ix (uv 0) (uv 1))))
  uss_nil)
  (uss_one (us_ret (ue_add (own:=false) (ue_add (own:=false) (ue_mulX (own:=false) un_ (uv 1)) un_) (ue_b b_len m_len (ua_cons (uv 0) ua_nil)))))) ?_
  rintro us M Q ⟨ns,k,rfl,h0,h1,q⟩
  refine ⟨rfl,?_⟩
  dsimp! only [List.length_map,uZipL,uIsB,uListRev,uRev,uSetFrom,uZipLL,uNotB,uIsB2]
  refine ite2 (fun h=>?_) (fun h=>?_)
  · have h':k < (ns.length:Int):=by simpa using h
    obtain ⟨c,hc⟩:=atI_ex ns k h0 h'
    have hc2:atI (ns.map U.int) k=some (.int c):=by
      have e:((k.toNat:Nat):Int)=k:=by omega
      have a1:=at_draw ns k.toNat (by omega)
      rw [e] at a1
      have b1:=atI_nat (xs:=ns) (j:=k.toNat) (v:=ns[k.toNat]'(by omega)) (by simp)
      rw [e,hc] at b1
      rw [a1,Option.some.inj b1]
    dsimp! only [hc2,uZipL,uIsB,uListRev,uRev,uSetFrom,uZipLL,uNotB,uIsB2]
    exact rt_same (q _)
  · exact ⟨mulL (by decide) (by decide),rt_same (q _)⟩
theorem strs_of:∀ zs:List U,(∀ z∈zs,∃ t:Str,z=.str t∧PyData.strOk t=true)→∃ ts:List Str,zs=ts.map U.str∧∀ t∈ts,PyData.strOk t=true
  | [],_=>⟨[],rfl,fun t h=>by cases h⟩
  | z :: zs,h=>by
    obtain ⟨t,rfl,h1⟩:=h z List.mem_cons_self
    obtain ⟨ts,rfl,h2⟩:=strs_of zs fun x hx=>h x (List.mem_cons_of_mem _ hx)
    exact ⟨t :: ts,rfl,fun x hx=>by rcases List.mem_cons.mp hx with rfl | hx;exact h1;exact h2 x hx⟩
def datTl (t:Tl):PyData:=.tuple [.str t.name,.str t.cls,datP t.pt,.int t.cost]
theorem cut_map {α β:Type} (g:α→β) (l:List α) (a b:Option Int):cutU (l.map g) a b=(cutU l a b).map g:=by
  unfold cutU
  rw [List.length_map,List.map_take,List.map_drop]
theorem cut_len {α:Type} (l:List α) (a b:Option Int):(cutU l a b).length≤l.length:=by
  unfold cutU
  rw [List.length_take,List.length_drop];omega
def Tr.leafy:Tr→Bool
  | .num _=>true
  | .name _=>true
  | _=>false
def Tr.parts:Tr→List Tr
  | .turn a=>[a]
  | .two _ a b=>[a,b]
  | _=>[]
def Tr.places:Tr→List (List Nat)
  | .turn a=>[] :: a.places.map (0 :: ·)
  | .two _ a b=>[] :: (a.places.map (0 :: ·)++b.places.map (1 :: ·))
  | _=>[[]]
def Tr.size:Tr→Nat
  | .turn a=>a.size + 1
  | .two _ a b=>a.size + b.size + 1
  | _=>1
theorem places_size:∀ t:Tr,t.places.length=t.size
  | .turn a=>by simp only [Tr.places,Tr.size,List.length_cons,List.length_map,places_size a]
  | .two _ a b=>by simp only [Tr.places,Tr.size,List.length_cons,List.length_append,List.length_map,places_size a,places_size b]
  | .num _=>rfl
  | .name _=>rfl
theorem place_shortT:∀ (p:Tr) (pl:List Nat),pl∈p.places→pl.length < p.size
  | .turn a,pl,h=>by
    simp only [Tr.places,List.mem_cons,List.mem_map] at h
    rcases h with rfl | ⟨q,hq,rfl⟩
    · simp [Tr.size]
    · have:=place_shortT a q hq;simp only [Tr.size,List.length_cons];omega
  | .two o a b,pl,h=>by
    simp only [Tr.places,List.mem_cons,List.mem_append,List.mem_map] at h
    rcases h with rfl | ⟨q,hq,rfl⟩ | ⟨q,hq,rfl⟩
    · simp [Tr.size]
    · have:=place_shortT a q hq;simp only [Tr.size,List.length_cons];omega
    · have:=place_shortT b q hq;simp only [Tr.size,List.length_cons];omega
  | .num _,pl,h=>by simp [Tr.places] at h;subst h;simp [Tr.size]
  | .name _,pl,h=>by simp [Tr.places] at h;subst h;simp [Tr.size]
def spPlacesT (n:Nat):USp:=fun us M Q=>∃ p:Tr,us=[p.toU]∧p.dep≤n∧p.size≤1000∧Q (.lst (p.places.map placeU)) M
theorem s_num:(tabGet SIGNS (Str.ofString "num")).isSome=false:=by decide +kernel
theorem s_name:(tabGet SIGNS (Str.ofString "name")).isSome=false:=by decide +kernel
theorem head_signT (p:Tr):∃ z r,p.toU=.tup (.str z :: r)∧(tabGet SIGNS z).isSome=!p.leafy∧(p.leafy=false→r=p.parts.map Tr.toU)∧r.length≤3:=by
  cases p with
  | num c=>exact ⟨_,_,rfl,s_num,(fun h=>by cases h),by simp⟩
  | name c=>exact ⟨_,_,rfl,s_name,(fun h=>by cases h),by simp⟩
  | turn a=>exact ⟨_,_,rfl,sg_turn,fun _=>rfl,by simp⟩
  | two o a b=>exact ⟨_,_,rfl,sg_two o,fun _=>rfl,by simp⟩
theorem parts_leafT {p:Tr} (h:p.leafy=true):p.parts=[]:=by cases p <;> first | rfl | cases h
def innerT:Nat→List Tr→List (List Nat)
  | _,[]=>[]
  | k,a :: r=>a.places.map (k :: ·)++innerT (k + 1) r
theorem placesT_eq (p:Tr):p.places=[] :: innerT 0 p.parts:=by cases p <;> simp [Tr.places,Tr.parts,innerT]
theorem innerT_snoc (l:List Tr) (a:Tr):∀ k,innerT k (l++[a])=innerT k l++a.places.map ((k + l.length) :: ·):=by
  induction l with
  | nil=>intro k;simp [innerT]
  | cons b l ih=>intro k;simp only [List.cons_append,innerT,ih,List.length_cons,List.append_assoc];rw [show k + 1 + l.length=k + (l.length + 1) by omega]
theorem innerT_le (p:Tr) (i:Nat):(innerT 0 (p.parts.take i)).length + 1≤p.places.length:=by
  have:∀ (l:List Tr) (k j:Nat),(innerT k (l.take j)).length≤(innerT k l).length:=by
    intro l
    induction l with
    | nil=>intro k j;simp [innerT]
    | cons a l ih =>
      intro k j
      cases j with
      | zero=>simp [innerT]
      | succ j=>simp only [List.take_succ_cons,innerT,List.length_append];have:=ih (k + 1) j;omega
  have h1:=this p.parts 0 i
  rw [placesT_eq p,List.length_cons]
  omega
theorem part_depT {p a:Tr} {i:Nat} (h:p.parts[i]?=some a):a.dep < p.dep:=by
  have hm:=List.mem_of_getElem? h
  cases p with
  | turn b =>
    have:a=b:=by simpa [Tr.parts] using hm
    subst this;simp only [Tr.dep];omega
  | two o b c =>
    have:a=b∨a=c:=by simpa [Tr.parts] using hm
    simp only [Tr.dep]
    rcases this with rfl | rfl <;> omega
  | _=>cases hm
theorem part_sizeT {p a:Tr} {i:Nat} (h:p.parts[i]?=some a):a.size < p.size:=by
  have hm:=List.mem_of_getElem? h
  cases p with
  | turn b =>
    have:a=b:=by simpa [Tr.parts] using hm
    subst this;simp only [Tr.size];omega
  | two o b c =>
    have:a=b∨a=c:=by simpa [Tr.parts] using hm
    simp only [Tr.size]
    rcases this with rfl | rfl <;> omega
  | _=>cases hm
theorem ok_places_ofT {n:Nat} (F:Fun K "places_of" "places_of" s_places_of f fd) (hm:mg "places_of"=some (.ref f)) (m_enumerate:mg "enumerate"=none)
    (C_parts_of:Callee P w K mg base 1 "parts_of" spPartsG []) (C_places_of:Callee P w K mg base (n + 1) "places_of" (spPlacesT n) []):Callee P w K mg base (n + 2) "places_of" (spPlacesT (n + 1)) []:=by
  refine callee2 F hm sc_places_of (ar1 fun _ _ _ _ _ _ _=>rfl) (uss_cons (us_set 1 sc_places_of.nd (ue_lst (own:=true) (ua_cons (ue_tup ua_nil) ua_nil)))
  (uss_cons (us_for (ui_enumerate m_enumerate (ua_cons (ue_call C_parts_of (ua_cons (uv 0) ua_nil)) ua_nil)) (ug_tup (n:=2) (ugs_cons (ug_name (k:=1000) 2 sc_places_of.nd) (ugs_cons (ug_name (k:=1000) 3 sc_places_of.nd) ugs_nil)))
  (uss_one (us_expr (ue_extend (uv 1) (ua_cons (ue_comp false ["place","number"] 1 [2] (ui_seq (ue_call C_places_of (ua_cons (uv 3) ua_nil))) (ug_name (k:=1) 0 (by dsimp only [compD];decide +kernel)) uif_nil (ue_add (own:=false) (ue_tup (ua_cons (uv 1) ua_nil)) (uv 0))) ua_nil)))))
  (uss_one (us_ret (uv 1))))) ?_
  rintro us M Q ⟨t,rfl,hd,hz,q⟩
  refine ⟨rfl,?_⟩
  have hbig:∀ a:Tr,a.size≤1000→a.places.length≤1000:=fun a ha=>by rw [places_size];exact ha
  dsimp! only [uZipL,uIsB]
  refine fun p hp=>?_
  refine for_by (S:=⟨none,numbered (t.parts.map Tr.toU)⟩) (M1:=mup M p (.lst [.tup []])) (fun R r=>?_)
    (fun i τ Mi=>∃ b c,τ=[some t.toU,some (.ref p),b,c]∧Mi=mup M p (.lst (([] :: innerT 0 (t.parts.take i)).map placeU))) ⟨none,none,rfl,rfl⟩ nk ?_ ?_
  · obtain ⟨z,rr,e,e1,e2,e3⟩:=head_signT t
    refine ⟨z,rr,!t.leafy,by rw [← e];rfl,e1,by omega,?_⟩
    cases hl:t.leafy with
    | true=>simp only [hl,Bool.not_true,Bool.false_eq_true,if_false];rw [parts_leafT hl] at r;exact r
    | false=>simp only [hl,Bool.not_false,if_true];rw [e2 hl];exact r
  · rintro i x τ Mi e ⟨b,c,rfl,rfl⟩
    obtain ⟨u,hu,rfl⟩:=numbered_get e
    rw [List.getElem?_map] at hu
    cases hp':t.parts[i]? with
    | none=>rw [hp'] at hu;cases hu
    | some a =>
      rw [hp'] at hu
      cases hu
      have ha:=part_depT hp'
      have hin:innerT 0 (t.parts.take (i + 1))=innerT 0 (t.parts.take i)++a.places.map (i :: ·):=by
        have hlt:=(List.getElem?_eq_some_iff.mp hp').1
        rw [List.take_add_one,hp']
        have:=innerT_snoc (t.parts.take i) a 0
        rw [List.length_take,Nat.min_eq_left (Nat.le_of_lt hlt),Nat.zero_add] at this
        exact this
      have hsz:=part_sizeT hp'
      have hb1:=hbig a (by omega)
      dsimp! only [uZipL,uIsB]
      refine ⟨isL_own,uComp_list (S:=⟨none,a.places.map placeU⟩) (M1:=mup M p (MO.lst (placeU [] :: List.map placeU (innerT 0 (List.take i t.parts))))) (a.places.map fun pl=>placeU (i :: pl)) (fun R r'=>⟨a,rfl,by omega,by omega,r'⟩) (by simp) ?_ (fun a e=>by cases e) ?_ ?_⟩
      · show (a.places.map placeU).length≤sizeLine
        rw [List.length_map]
        exact small (by omega)
      · intro j x y hx hy M' _ R r'
        have hx':(a.places.map placeU)[j]?=some x:=hx
        rw [List.getElem?_map] at hx' hy
        cases hpl:a.places[j]? with
        | none=>rw [hpl] at hx';cases hx'
        | some pl =>
          rw [hpl] at hx' hy
          cases hx'
          cases hy
          have h1:=place_shortT a pl (List.mem_of_getElem? hpl)
          dsimp! only [placeU,uZipL,uIsB]
          refine ⟨small ?_,?_⟩
          · simp only [List.length_cons,List.length_nil,List.length_map];omega
          · simpa [placeU] using r'
      · have h1:=innerT_le t i
        have h2:=hbig t (by omega)
        dsimp! only [uZipL,uIsB]
        refine ⟨small ?_,_,_,rfl,?_⟩
        · simp only [List.length_map];omega
        · rw [hin,List.map_append,List.map_map];rfl
  · rintro τ Mi ⟨b,c,rfl,rfl⟩
    rw [numbered_len,List.length_map,List.take_length,← placesT_eq]
    dsimp! only [uZipL,uIsB]
    exact ⟨_,M,(Sub.refl M).mup hp,.inr ⟨p,_,rfl,mup_same,hp,rfl⟩,q⟩
theorem placesT_all (F:Fun K "places_of" "places_of" s_places_of f fd) (hm:mg "places_of"=some (.ref f)) (m_enumerate:mg "enumerate"=none) (C_parts_of:Callee P w K mg base 1 "parts_of" spPartsG []):∀ n,Callee P w K mg base (n + 1) "places_of" (spPlacesT n) []
  | 0=>by
    have no:∀ us M Q,¬ spPlacesT 0 us M Q:=fun us M Q h=>by
      obtain ⟨p,_,h,_⟩:=h
      have:=tdep_pos p
      omega
    refine ⟨f,fd,["shape"],[],[],⟨fun vs H Q E h=>?_,fun A outer s H args us vs Q E _ _ _ _ h=>?_⟩,hm,F.kp,F.binds (ar1 fun _ _ _ _ _ _ _=>rfl),.nil,fun H M=>.nil⟩
    · obtain ⟨us,M,Q',_,_,h,_⟩:=h;exact absurd h (no us M Q')
    · obtain ⟨us,M,Q',_,_,h,_⟩:=h;exact absurd h (no us M Q')
  | n + 1=>ok_places_ofT F hm m_enumerate C_parts_of (placesT_all F hm m_enumerate C_parts_of n)
theorem ok_places (F:Fun K "places" "places" s_places f fd) (hm:mg "places"=some (.ref f)) (C_places_of:Callee P w K mg base 41 "places_of" (spPlacesT 40) []):Callee P w K mg base 42 "places" (spPlacesT 40) []:=by
  refine callee2 F hm sc_places (ar1 fun _ _ _ _ _ _ _=>rfl) (uss_one (us_ret (ue_call C_places_of (ua_cons (uv 0) ua_nil)))) ?_
  rintro us M Q ⟨p,rfl,hd,hs,q⟩
  refine ⟨rfl,?_⟩
  simp_all! only [uRet,uZipL,uIsB,uListRev,uRev,uSetFrom,uZipLL,uNotB,uIsB2]
  exact ⟨p,rfl,hd,hs,rt_same q⟩
theorem dep_size:∀ t:Tr,t.dep≤t.size
  | .turn a=>by have:=dep_size a;simp only [Tr.dep,Tr.size];omega
  | .two _ a b=>by have:=dep_size a;have:=dep_size b;simp only [Tr.dep,Tr.size];omega
  | .num _=>by simp [Tr.dep,Tr.size]
  | .name _=>by simp [Tr.dep,Tr.size]
theorem size_posT:∀ t:Tr,1≤t.size
  | .turn a=>by simp only [Tr.size];omega
  | .two _ a b=>by simp only [Tr.size];omega
  | .num _=>by simp [Tr.size]
  | .name _=>by simp [Tr.size]
structure Ld where
  n:Nat
  cls:Str
  price:Int
  spots:List (List Nat × Str)
def Ld.toU (l:Ld):U:=.tup [.int l.n,.str l.cls,.int l.price,.lst (l.spots.map entH)]
def laidF (t:Tr) (p:List Nat):Nat→List Tl→List Ld
  | _,[]=>[]
  | k,tl :: r=>(if lieF tl.pt t then [⟨k,tl.cls,tl.cost,(hls tl.pt).map fun e=>(p++e.1,e.2)⟩] else [])++laidF t p (k + 1) r
theorem laid_snoc (t:Tr) (p:List Nat) (tl:Tl):∀ (l:List Tl) (k:Nat),laidF t p k (l++[tl])=laidF t p k l++(if lieF tl.pt t then [⟨k + l.length,tl.cls,tl.cost,(hls tl.pt).map fun e=>(p++e.1,e.2)⟩] else [])
  | [],k=>by simp [laidF]
  | a :: l,k=>by
    rw [List.cons_append]
    simp only [laidF]
    rw [laid_snoc t p tl l (k + 1),List.append_assoc,List.length_cons,show k + 1 + l.length=k + (l.length + 1) by omega]
theorem laid_len (t:Tr) (p:List Nat):∀ (l:List Tl) (k:Nat),(laidF t p k l).length≤l.length
  | [],k=>by simp [laidF]
  | a :: l,k=>by
    have:=laid_len t p l (k + 1)
    simp only [laidF,List.length_append,List.length_cons]
    split <;> simp <;> omega
def spTilesAt:USp:=fun us M Q=>∃ (cs:List Str) (tls:List Tl) (t t':Tr) (p:List Nat),us=[tabU cs tls,t.toU,placeU p]∧atU t.toU p=some t'.toU∧(∀ tl∈tls,tl.pt.dep≤6)∧tls.length≤39∧p.length≤1000∧Q (.lst ((laidF t' p 0 tls).map Ld.toU)) M
theorem ok_tiles_at (F:Fun K "tiles_at" "tiles_at" s_tiles_at f fd) (hm:mg "tiles_at"=some (.ref f)) (m_enumerate:mg "enumerate"=none) (C_tree_at:Callee P w K mg base 3 "tree_at" spAtU []) (C_lies:Callee P w K mg base 9 "lies" (spLies 6) []) (C_holes:Callee P w K mg base 8 "holes" spHoles []):Callee P w K mg base 10 "tiles_at" spTilesAt []:=by
  refine callee2 F hm sc_tiles_at (ar3 fun _ _ _ _ _ _ _ _ _=>rfl) (uss_cons (us_set 3 sc_tiles_at.nd (ue_call C_tree_at (ua_cons (uv 1) (ua_cons (uv 2) ua_nil))))
  (uss_cons (us_set 4 sc_tiles_at.nd (ue_lst (own:=true) ua_nil))
  (uss_cons (us_for (ui_enumerate m_enumerate (ua_cons (ue_ix (uv 0) un_) ua_nil)) (ug_tup (n:=2) (ugs_cons (ug_name (k:=1000) 5 sc_tiles_at.nd) (ugs_cons (ug_name (k:=1000) 6 sc_tiles_at.nd) ugs_nil)))
  (uss_one (us_if (ut_val (ue_call C_lies (ua_cons (ue_ix (uv 6) un_) (ua_cons (uv 3) ua_nil))))
  (uss_cons (us_setC 7 sc_tiles_at.nd false ["below","cls","place"] 2 [2] (ui_seq (ue_call C_holes (ua_cons (ue_ix (uv 6) un_) ua_nil))) (ug_tup (n:=2) (ugs_cons (ug_name (k:=2) 0 (by dsimp only [compD];decide +kernel)) (ugs_cons (ug_name (k:=2) 1 (by dsimp only [compD];decide +kernel)) ugs_nil))) uif_nil (ue_tup (ua_cons (ue_add (own:=false) (uv 2) (uv 0)) (ua_cons (uv 1) ua_nil))))
  (uss_one (us_expr (ue_append (uv 4) (ua_cons (ue_tup (ua_cons (uv 5) (ua_cons (ue_ix (uv 6) un_) (ua_cons (ue_ix (uv 6) un_) (ua_cons (uv 7) ua_nil))))) ua_nil)))))
  uss_nil)))
  (uss_one (us_ret (uv 4)))))) ?_
  rintro us M Q ⟨cs,tls,t,t',p,rfl,hat,hdep,hlen,hpl,q⟩
  refine ⟨rfl,?_⟩
  refine seq_gen fun V hV=>?_
  simp_all! only [uAsg,hName,uZipL,uIsB,uListRev,uRev,uSetFrom,uZipLL,uNotB,uIsB2]
  refine ⟨t.toU,t'.toU,p,rfl,hat,?_⟩
  subst hV
  refine seq_gen fun V hV=>?_
  simp_all! only [uAsg,hName,uZipL,uIsB,uListRev,uRev,uSetFrom,uZipLL,uNotB,uIsB2]
  intro r hr
  subst hV
  refine seq_gen fun V hV=>?_
  refine for_by (S:=⟨none,numbered (tls.map Tl.toU)⟩) (M1:=mup M r (.lst [])) (fun R r'=>by simp_all! only [vw_tab,uZipL,uIsB,uListRev,uRev,uSetFrom,uZipLL,uNotB,uIsB2];exact r')
    (fun i τ Mi=>∃ z5 z6 z7:Option U,τ=[some (tabU cs tls),some t.toU,some (placeU p),some t'.toU,some (.ref r),z5,z6,z7]∧Mi=mup M r (.lst ((laidF t' p 0 (tls.take i)).map Ld.toU))) ⟨none,none,none,rfl,rfl⟩ nk ?_ ?_
  · rintro i x τ Mi e ⟨z5,z6,z7,rfl,rfl⟩
    obtain ⟨u,hu,rfl⟩:=numbered_get e
    rw [List.getElem?_map] at hu
    cases hj:tls[i]? with
    | none=>rw [hj] at hu;cases hu
    | some tl =>
      rw [hj] at hu
      cases hu
      have hi:=(List.getElem?_eq_some_iff.mp hj).1
      have hd:=hdep tl (List.mem_of_getElem? hj)
      have hh:=hls_len tl.pt hd
      have hnext:laidF t' p 0 (tls.take (i + 1))=laidF t' p 0 (tls.take i)++(if lieF tl.pt t' then [⟨i,tl.cls,tl.cost,(hls tl.pt).map fun e=>(p++e.1,e.2)⟩] else []):=by
        rw [List.take_add_one,hj]
        have:=laid_snoc t' p tl (tls.take i) 0
        rw [List.length_take,Nat.min_eq_left (Nat.le_of_lt hi),Nat.zero_add] at this
        exact this
      refine ⟨rfl,?_⟩
      simp_all! only [hTup,hCons,hNil,hName,uZipL,uIsB,uListRev,uRev,uSetFrom,uZipLL,uNotB,uIsB2]
      refine if_gen fun A B hA hB=>?_
      simp_all! only [vw_tl,uZipL,uIsB,uListRev,uRev,uSetFrom,uZipLL,uNotB,uIsB2]
      refine ⟨tl.pt,t',rfl,hd,?_⟩
      cases hl:lieF tl.pt t' with
      | false =>
        rw [hl] at hnext
        simp only [Bool.false_eq_true,if_false,List.append_nil] at hnext
        simp only [vw_bl,Bool.false_eq_true,if_false]
        subst hB
        simp only [uNext]
        exact ⟨_,_,_,rfl,by rw [hnext]⟩
      | true =>
        rw [hl] at hnext
        simp only [if_true] at hnext
        simp only [vw_bl,if_true]
        subst hA
        refine seq_gen fun V1 hV1=>?_
        refine uComp_list (S:=⟨none,(hls tl.pt).map entH⟩) (M1:=mup M r (.lst ((laidF t' p 0 (tls.take i)).map Ld.toU))) (((hls tl.pt).map fun e=>(p++e.1,e.2)).map entH) (fun R r'=>by simp_all! only [vw_tl,uZipL,uIsB,uListRev,uRev,uSetFrom,uZipLL,uNotB,uIsB2];exact ⟨tl.pt,rfl,hd,r'⟩) (by simp) (small (by show ((hls tl.pt).map entH).length≤_;rw [List.length_map];omega)) (fun a e=>by cases e) ?_ ?_
        · intro j x y hx hy M' hS R r'
          have hx':((hls tl.pt).map entH)[j]?=some x:=hx
          rw [List.getElem?_map] at hx' hy
          rw [List.getElem?_map] at hy
          cases hj':(hls tl.pt)[j]? with
          | none=>rw [hj'] at hx';cases hx'
          | some e' =>
            rw [hj'] at hx' hy
            cases hx';cases hy
            have hsh:e'.1.length≤1000:=by
              have h1:=(List.mem_of_getElem? hj')
              have h2:e'.1∈tl.pt.places:=by
                obtain ⟨y,hy1,hy2⟩:=List.mem_filterMap.mp h1
                have h3:y.1∈(subsP tl.pt []).map (·.1):=List.mem_map.mpr ⟨y,hy1,rfl⟩
                rw [subs_places] at h3
                have h4:y.1=e'.1:=by
                  obtain ⟨y1,y2⟩:=y
                  cases y2 <;> simp [hF] at hy2
                  rw [← hy2]
                rw [h4] at h3
                simpa using h3
              have:=place_short tl.pt e'.1 h2
              omega
            simp_all! only [entH,placeU,hTup,hCons,hNil,hName,uZipL,uIsB,uListRev,uRev,uSetFrom,uZipLL,uNotB,uIsB2]
            refine ⟨small (by rw [List.length_map,List.length_map];omega),?_⟩
            rw [← List.map_append]
            exact r'
        · simp_all! only [hName,uZipL,uIsB,uListRev,uRev,uSetFrom,uZipLL,uNotB,uIsB2]
          subst hV1
          simp_all! only [uDrop,vw_tl,uZipL,uIsB,uListRev,uRev,uSetFrom,uZipLL,uNotB,uIsB2]
          have hll:=laid_len t' p (tls.take i) 0
          rw [List.length_take] at hll
          refine ⟨isL_own,big (by rw [List.length_map];omega),_,_,_,rfl,?_⟩
          rw [hnext,List.map_append]
          rfl
  · rintro τ Mi ⟨z5,z6,z7,rfl,rfl⟩
    rw [numbered_len,List.length_map,List.take_length]
    subst hV
    simp_all! only [uRet,uZipL,uIsB,uListRev,uRev,uSetFrom,uZipLL,uNotB,uIsB2]
    exact ⟨_,M,(Sub.refl M).mup hr,.inr ⟨r,_,rfl,mup_same,hr,rfl⟩,q⟩
def Tr.at:Tr→List Nat→Option Tr
  | t,[]=>some t
  | .turn a,0 :: r=>a.at r
  | .two _ a _,0 :: r=>a.at r
  | .two _ _ b,1 :: r=>b.at r
  | _,_=>none
theorem at_nil (t:Tr):t.at []=some t:=by cases t <;> rfl
theorem at_place:∀ (t:Tr) (p:List Nat),p∈t.places→∃ t',t.at p=some t'
  | .turn a,p,h=>by
    simp only [Tr.places,List.mem_cons,List.mem_map] at h
    rcases h with rfl | ⟨q,hq,rfl⟩
    · exact ⟨_,rfl⟩
    · exact at_place a q hq
  | .two o a b,p,h=>by
    simp only [Tr.places,List.mem_cons,List.mem_append,List.mem_map] at h
    rcases h with rfl | ⟨q,hq,rfl⟩ | ⟨q,hq,rfl⟩
    · exact ⟨_,rfl⟩
    · exact at_place a q hq
    · exact at_place b q hq
  | .num _,p,h=>by simp [Tr.places] at h;subst h;exact ⟨_,rfl⟩
  | .name _,p,h=>by simp [Tr.places] at h;subst h;exact ⟨_,rfl⟩
theorem place_at:∀ (t:Tr) (p:List Nat) (t':Tr),t.at p=some t'→p∈t.places
  | .turn a,[],_,_=>by simp [Tr.places]
  | .two _ a b,[],_,_=>by simp [Tr.places]
  | .num _,[],_,_=>by simp [Tr.places]
  | .name _,[],_,_=>by simp [Tr.places]
  | .turn a,0 :: r,t',h=>by
    have:=place_at a r t' h
    simp only [Tr.places,List.mem_cons,List.mem_map]
    exact .inr ⟨r,this,rfl⟩
  | .two _ a b,0 :: r,t',h=>by
    have:=place_at a r t' h
    simp only [Tr.places,List.mem_cons,List.mem_append,List.mem_map]
    exact .inr (.inl ⟨r,this,rfl⟩)
  | .two _ a b,1 :: r,t',h=>by
    have:=place_at b r t' h
    simp only [Tr.places,List.mem_cons,List.mem_append,List.mem_map]
    exact .inr (.inr ⟨r,this,rfl⟩)
  | .turn _,(n + 1) :: r,_,h=>by simp [Tr.at] at h
  | .two _ _ _,(n + 2) :: r,_,h=>by simp [Tr.at] at h
  | .num _,n :: r,_,h=>by simp [Tr.at] at h
  | .name _,n :: r,_,h=>by simp [Tr.at] at h
theorem atU_at:∀ (t:Tr) (p:List Nat) (t':Tr),t.at p=some t'→atU t.toU p=some t'.toU
  | t,[],t',h=>by rw [at_nil] at h;cases h;rfl
  | .turn a,0 :: r,t',h=>by simp only [atU,Tr.toU,st_turn,Option.bind_some];exact atU_at a r t' h
  | .two _ a b,0 :: r,t',h=>by simp only [atU,Tr.toU,st_two0,Option.bind_some];exact atU_at a r t' h
  | .two _ a b,1 :: r,t',h=>by simp only [atU,Tr.toU,st_two1,Option.bind_some];exact atU_at b r t' h
  | .turn _,(n + 1) :: r,_,h=>by simp [Tr.at] at h
  | .two _ _ _,(n + 2) :: r,_,h=>by simp [Tr.at] at h
  | .num _,n :: r,_,h=>by simp [Tr.at] at h
  | .name _,n :: r,_,h=>by simp [Tr.at] at h
theorem at_app:∀ (t:Tr) (p e:List Nat) (t':Tr),t.at p=some t'→t.at (p++e)=t'.at e
  | t,[],e,t',h=>by rw [at_nil] at h;cases h;rfl
  | .turn a,0 :: r,e,t',h=>at_app a r e t' h
  | .two _ a b,0 :: r,e,t',h=>at_app a r e t' h
  | .two _ a b,1 :: r,e,t',h=>at_app b r e t' h
  | .turn _,(n + 1) :: r,_,_,h=>by simp [Tr.at] at h
  | .two _ _ _,(n + 2) :: r,_,_,h=>by simp [Tr.at] at h
  | .num _,n :: r,_,_,h=>by simp [Tr.at] at h
  | .name _,n :: r,_,_,h=>by simp [Tr.at] at h
theorem at_size:∀ (t:Tr) (p:List Nat) (t':Tr),t.at p=some t'→t'.size≤t.size
  | t,[],t',h=>by rw [at_nil] at h;cases h;omega
  | .turn a,0 :: r,t',h=>by have:=at_size a r t' h;simp only [Tr.size];omega
  | .two _ a b,0 :: r,t',h=>by have:=at_size a r t' h;simp only [Tr.size];omega
  | .two _ a b,1 :: r,t',h=>by have:=at_size b r t' h;simp only [Tr.size];omega
  | .turn _,(n + 1) :: r,_,h=>by simp [Tr.at] at h
  | .two _ _ _,(n + 2) :: r,_,h=>by simp [Tr.at] at h
  | .num _,n :: r,_,h=>by simp [Tr.at] at h
  | .name _,n :: r,_,h=>by simp [Tr.at] at h
theorem places_pre:∀ t:Tr,t.places.Pairwise fun x y=>¬ y <+: x
  | .turn a=>by
    simp only [Tr.places]
    refine List.pairwise_cons.mpr ⟨fun y hy=>?_,?_⟩
    · obtain ⟨q,_,rfl⟩:=List.mem_map.mp hy;simp
    · rw [List.pairwise_map]
      refine (places_pre a).imp fun {x y} h h2=>h ?_
      simpa using h2
  | .two o a b=>by
    simp only [Tr.places]
    refine List.pairwise_cons.mpr ⟨fun y hy=>?_,?_⟩
    · rcases List.mem_append.mp hy with hy | hy
      · obtain ⟨q,_,rfl⟩:=List.mem_map.mp hy;simp
      · obtain ⟨q,_,rfl⟩:=List.mem_map.mp hy;simp
    · refine List.pairwise_append.mpr ⟨?_,?_,fun x hx y hy=>?_⟩
      · rw [List.pairwise_map]
        refine (places_pre a).imp fun {x y} h h2=>h ?_
        simpa using h2
      · rw [List.pairwise_map]
        refine (places_pre b).imp fun {x y} h h2=>h ?_
        simpa using h2
      · obtain ⟨q,_,rfl⟩:=List.mem_map.mp hx
        obtain ⟨q',_,rfl⟩:=List.mem_map.mp hy
        simp
  | .num _=>by simp [Tr.places]
  | .name _=>by simp [Tr.places]
def bulkP:Pt→Nat
  | .hole _=>0
  | .any=>1
  | .fr _ _=>1
  | .turn a=>1 + bulkP a
  | .two _ a b=>1 + (bulkP a + bulkP b)
theorem holes_at:∀ (pt:Pt) (t:Tr) (pre:List Nat),lieF pt t=true→∃ bs:List Nat,bs.length=((subsP pt pre).filterMap hF).length∧bs.sum + bulkP pt=t.size∧∀ (i:Nat) (e:List Nat × Str) (b:Nat),((subsP pt pre).filterMap hF)[i]?=some e→bs[i]?=some b→∃ s t',e.1=pre++s∧t.at s=some t'∧t'.size=b∧(s=[]→∃ c,pt=.hole c)∧(holesT pt t)[i]?=some (t',e.2)
  | .hole c,t,pre,_=>⟨[t.size],rfl,by simp [bulkP],fun i e b h1 h2=>by
      match i,h1,h2 with
      | 0,h1,h2=>cases h1;cases h2;exact ⟨[],t,by simp,at_nil t,rfl,fun _=>⟨c,rfl⟩,by cases t <;> rfl⟩
      | i + 1,h1,h2=>cases h1⟩
  | .any,.name x,pre,_=>⟨[],rfl,rfl,fun i e b h1 h2=>by cases h1⟩
  | .fr l h,.num n,pre,_=>⟨[],rfl,rfl,fun i e b h1 h2=>by cases h1⟩
  | .turn p,.turn a,pre,hl=>by
    obtain ⟨bs,h1,h2,h3⟩:=holes_at p a (pre++[0]) hl
    refine ⟨bs,by simp only [subsP,List.filterMap_cons,hF];exact h1,by simp only [bulkP,Tr.size];omega,fun i e b he hb=>?_⟩
    simp only [subsP,List.filterMap_cons,hF] at he
    obtain ⟨s,t',e1,e2,e3,_,e5⟩:=h3 i e b he hb
    exact ⟨0 :: s,t',by rw [e1];simp,e2,e3,(fun z=>by cases z),e5⟩
  | .two o p q,.two o' a b,pre,hl=>by
    simp only [lieF,Bool.and_eq_true] at hl
    obtain ⟨ho,hl1,hl2⟩:=hl
    obtain ⟨bs,h1,h2,h3⟩:=holes_at p a (pre++[0]) hl1
    obtain ⟨cs,k1,k2,k3⟩:=holes_at q b (pre++[1]) hl2
    refine ⟨bs++cs,by simp only [subsP,List.filterMap_cons,hF,List.filterMap_append,List.length_append,h1,k1],by simp only [List.sum_append,bulkP,Tr.size];omega,fun i e bb he hb=>?_⟩
    simp only [subsP,List.filterMap_cons,hF,List.filterMap_append] at he
    rw [List.getElem?_append] at he hb
    split at he
    · rename_i hi
      rw [if_pos (by omega)] at hb
      obtain ⟨s,t',e1,e2,e3,_,e5⟩:=h3 i e bb he hb
      have hl1':=(hole_at p a (pre++[0]) hl1).1
      exact ⟨0 :: s,t',by rw [e1];simp,e2,e3,(fun z=>by cases z),by simp only [holesT];rw [List.getElem?_append_left (by omega)];exact e5⟩
    · rename_i hi
      rw [if_neg (by omega),h1] at hb
      obtain ⟨s,t',e1,e2,e3,_,e5⟩:=k3 _ e bb he hb
      have hl1':=(hole_at p a (pre++[0]) hl1).1
      exact ⟨1 :: s,t',by rw [e1];simp,e2,e3,(fun z=>by cases z),by simp only [holesT];rw [List.getElem?_append_right (by omega),← hl1'];exact e5⟩
  | .any,.num _,_,h=>by cases h
  | .any,.turn _,_,h=>by cases h
  | .any,.two _ _ _,_,h=>by cases h
  | .fr _ _,.name _,_,h=>by cases h
  | .fr _ _,.turn _,_,h=>by cases h
  | .fr _ _,.two _ _ _,_,h=>by cases h
  | .turn _,.num _,_,h=>by cases h
  | .turn _,.name _,_,h=>by cases h
  | .turn _,.two _ _ _,_,h=>by cases h
  | .two _ _ _,.num _,_,h=>by cases h
  | .two _ _ _,.name _,_,h=>by cases h
  | .two _ _ _,.turn _,_,h=>by cases h
theorem mup_self {M:MHp} {p:Addr} {o:MO} (h:M p=some o):mup M p o=M:=by
  funext x
  by_cases e:x=p
  · subst e;rw [mup_same,h]
  · rw [mup_ne e]
theorem nodup_len:∀ (l m:List Str),l.Nodup→(∀ s∈l,s∈m)→l.length≤m.length
  | [],m,_,_=>by simp
  | a :: l,m,hn,hs=>by
    obtain ⟨h1,h2⟩:=List.nodup_cons.mp hn
    have ha:=hs a List.mem_cons_self
    have:=nodup_len l (m.erase a) h2 fun s hsl=>by
      refine (List.mem_erase_of_ne fun z=>?_).mpr (hs s (List.mem_cons_of_mem _ hsl))
      subst z;exact h1 hsl
    rw [List.length_erase_of_mem ha] at this
    have hp:0 < m.length:=List.length_pos_of_mem ha
    simp only [List.length_cons];omega
def Pt.bulk:Pt→Nat
  | .hole _=>0
  | .any=>1
  | .fr _ _=>1
  | .turn a=>1 + a.bulk
  | .two _ a b=>1 + (a.bulk + b.bulk)
theorem bulk_pos {tl:Tl} (h:tl.pass=false):1≤tl.pt.bulk:=by
  obtain ⟨nm,cl,pt,co⟩:=tl
  cases pt with
  | hole c=>exact absurd h (by simp [Tl.pass])
  | _=>simp [Pt.bulk]
theorem size_laid:∀ (p:Pt) (t:Tr),lieF p t=true→t.size=p.bulk + ((hT p t).map Tr.size).sum
  | .hole c,t,_=>by cases t <;> simp [hT,holesT,Pt.bulk]
  | .any,.name x,_=>by simp [hT,holesT,Pt.bulk,Tr.size]
  | .fr l h,.num n,_=>by simp [hT,holesT,Pt.bulk,Tr.size]
  | .turn p,.turn a,hl=>by
    have:=size_laid p a hl
    simp only [Tr.size,Pt.bulk,hT,holesT] at this ⊢
    omega
  | .two o p q,.two o' a b,hl=>by
    simp only [lieF,Bool.and_eq_true] at hl
    have h1:=size_laid p a hl.2.1
    have h2:=size_laid q b hl.2.2
    rw [hT_two,List.map_append,List.sum_append]
    simp only [Tr.size,Pt.bulk]
    omega
  | .any,.num _,h=>by cases h
  | .any,.turn _,h=>by cases h
  | .any,.two _ _ _,h=>by cases h
  | .fr _ _,.name _,h=>by cases h
  | .fr _ _,.turn _,h=>by cases h
  | .fr _ _,.two _ _ _,h=>by cases h
  | .turn _,.num _,h=>by cases h
  | .turn _,.name _,h=>by cases h
  | .turn _,.two _ _ _,h=>by cases h
  | .two _ _ _,.num _,h=>by cases h
  | .two _ _ _,.name _,h=>by cases h
  | .two _ _ _,.turn _,h=>by cases h
def passOf (tl:Tl):Option (Str × Str):=match tl.pt with
  | .hole h=>some (tl.cls,h)
  | _=>none
def passesF (tls:List Tl):List (Str × Str):=tls.filterMap passOf
def wayN (ps:List (Str × Str)) (f:Str→Int):Nat→List Str→Str→Int
  | 0,_,c=>f c
  | n + 1,seen,c=>f c + (ps.map fun p=>if p.1=c∧p.2 ∉ seen then wayN ps f n (seen++[p.2]) p.2 else 0).sum
theorem sum_congr {α:Type} {g h:α→Int}:∀ (l:List α),(∀ x∈l,g x=h x)→(l.map g).sum=(l.map h).sum
  | [],_=>rfl
  | a :: l,e=>by
    rw [List.map_cons,List.map_cons,List.sum_cons,List.sum_cons,e a List.mem_cons_self,sum_congr l fun x hx=>e x (List.mem_cons_of_mem _ hx)]
theorem sum_le {α:Type} {g h:α→Int}:∀ (l:List α),(∀ x∈l,g x≤h x)→(l.map g).sum≤(l.map h).sum
  | [],_=>by simp
  | a :: l,e=>by
    have h1:=e a List.mem_cons_self
    have h2:=sum_le l fun x hx=>e x (List.mem_cons_of_mem _ hx)
    rw [List.map_cons,List.map_cons,List.sum_cons,List.sum_cons];omega
theorem sum_const {α:Type} (c:Int):∀ (l:List α),(l.map fun _=>c).sum=l.length * c
  | []=>by simp
  | a :: l=>by
    rw [List.map_cons,List.sum_cons,sum_const c l,List.length_cons]
    push_cast
    rw [Int.add_mul];omega
theorem sum_mul {α:Type} (c:Int) {g:α→Int}:∀ (l:List α),(l.map fun x=>c * g x).sum=c * (l.map g).sum
  | []=>by simp
  | a :: l=>by rw [List.map_cons,List.map_cons,List.sum_cons,List.sum_cons,sum_mul c l,Int.mul_add]
structure Seen (cs seen:List Str):Prop where
  nd:seen.Nodup
  sub:∀ s∈seen,s∈cs
theorem Seen.len {cs seen:List Str} (h:Seen cs seen):seen.length≤cs.length:=nodup_len seen cs h.nd h.sub
theorem Seen.add {cs seen:List Str} {h:Str} (s:Seen cs seen) (hn:h ∉ seen) (hc:h∈cs):Seen cs (seen++[h]):=⟨by
  refine List.nodup_append.mpr ⟨s.nd,by simp,fun a ha b hb=>?_⟩
  cases List.mem_singleton.mp hb
  exact fun z=>hn (z ▸ ha),fun x hx=>by
  rcases List.mem_append.mp hx with hx | hx
  · exact s.sub x hx
  · cases List.mem_singleton.mp hx;exact hc⟩
theorem way_more {cs:List Str} {ps:List (Str × Str)} (hp:∀ p∈ps,p.2∈cs) (f:Str→Int):∀ (n:Nat) (seen:List Str) (c:Str),Seen cs seen→cs.length≤n + seen.length→wayN ps f n seen c=wayN ps f (n + 1) seen c
  | 0,seen,c,hs,hl=>by
    have full:∀ p∈ps,¬ (p.1=c∧p.2 ∉ seen):=fun p h z=>by
      have h2:=(hs.add z.2 (hp p h)).len
      rw [List.length_append] at h2
      simp at h2;omega
    simp only [wayN]
    have:(ps.map fun p=>if p.1=c∧p.2 ∉ seen then f p.2 else 0).sum=(ps.map fun _=>(0:Int)).sum:=sum_congr ps fun p h=>if_neg (full p h)
    rw [this,sum_const];omega
  | n + 1,seen,c,hs,hl=>by
    rw [wayN]
    conv=>rhs;rw [wayN]
    congr 1
    refine sum_congr ps fun p h=>?_
    by_cases hc:p.1=c∧p.2 ∉ seen
    · rw [if_pos hc,if_pos hc]
      exact way_more hp f n _ _ (hs.add hc.2 (hp p h)) (by rw [List.length_append];simp;omega)
    · rw [if_neg hc,if_neg hc]
def W (tls:List Tl) (f:Str→Int) (seen:List Str) (c:Str):Int:=wayN (passesF tls) f 6 seen c
structure TabOk (cs:List Str) (tls:List Tl):Prop where
  len:cs.length≤6
  many:tls.length≤16
  few:(passesF tls).length≤14
  cls:∀ tl∈tls,tl.cls∈cs
  hole:∀ tl∈tls,∀ s∈asksP tl.pt,s∈cs
  dep:∀ tl∈tls,tl.pt.dep≤5
theorem TabOk.pass {cs:List Str} {tls:List Tl} (h:TabOk cs tls):∀ p∈passesF tls,p.1∈cs∧p.2∈cs:=fun p hp=>by
  obtain ⟨tl,h1,h2⟩:=List.mem_filterMap.mp hp
  have hc:=h.cls tl h1
  have hh:=h.hole tl h1
  unfold passOf at h2
  obtain ⟨nm,cl,pt,co⟩:=tl
  cases pt with
  | hole s=>cases h2;exact ⟨hc,hh s (by simp [asksP,Pt.ends,holeC])⟩
  | _=>cases h2
theorem TabOk.passes {cs:List Str} {tls:List Tl} (h:TabOk cs tls):(passesF tls).length≤14:=h.few
theorem W_step {cs:List Str} {tls:List Tl} (h:TabOk cs tls) (f:Str→Int) {seen:List Str} (c:Str) (hs:Seen cs seen):W tls f seen c=f c + ((passesF tls).map fun p=>if p.1=c∧p.2 ∉ seen then W tls f (seen++[p.2]) p.2 else 0).sum:=by
  have hl:=h.len
  have e:W tls f seen c=wayN (passesF tls) f 7 seen c:=way_more (fun p hp=>(h.pass p hp).2) f 6 seen c hs (by omega)
  rw [e,wayN];rfl
theorem way_nonneg {ps:List (Str × Str)} {f:Str→Int} (hf:∀ c,0≤f c):∀ (n:Nat) (seen:List Str) (c:Str),0≤wayN ps f n seen c
  | 0,_,c=>hf c
  | n + 1,seen,c=>by
    have h1:=hf c
    have h2:(ps.map fun _=>(0:Int)).sum≤(ps.map fun p=>if p.1=c∧p.2 ∉ seen then wayN ps f n (seen++[p.2]) p.2 else 0).sum:=sum_le ps fun p _=>by
      split
      · exact way_nonneg hf n _ _
      · exact Int.le_refl _
    rw [sum_const] at h2
    rw [wayN];omega
theorem way_bound {ps:List (Str × Str)} {f:Str→Int} {F:Int} (hp:ps.length≤14) (h0:0≤F) (hf:∀ c,f c≤F):∀ (n:Nat) (seen:List Str) (c:Str),wayN ps f n seen c≤15 ^ n * F
  | 0,_,c=>by rw [wayN];simpa using hf c
  | n + 1,seen,c=>by
    have hP:(0:Int)≤15 ^ n * F:=Int.mul_nonneg (Int.le_of_lt (Int.pow_pos (by decide))) h0
    have h1:=hf c
    have h2:(ps.map fun p=>if p.1=c∧p.2 ∉ seen then wayN ps f n (seen++[p.2]) p.2 else 0).sum≤(ps.map fun _=>15 ^ n * F).sum:=sum_le ps fun p _=>by
      split
      · exact way_bound hp h0 hf n _ _
      · exact hP
    rw [sum_const] at h2
    have h3:(ps.length:Int) * (15 ^ n * F)≤14 * (15 ^ n * F):=Int.mul_le_mul_of_nonneg_right (by omega) hP
    have h4:F≤15 ^ n * F:=by
      have:(1:Int)≤15 ^ n:=Int.pow_pos (by decide)
      calc F=1 * F:=by omega
        _≤15 ^ n * F:=Int.mul_le_mul_of_nonneg_right this h0
    have h5:(15:Int) ^ (n + 1) * F=15 * (15 ^ n * F):=by rw [Int.pow_succ,Int.mul_comm (15 ^ n) 15,Int.mul_assoc]
    rw [wayN,h5];omega
theorem W_nonneg {tls:List Tl} {f:Str→Int} (hf:∀ c,0≤f c) (seen:List Str) (c:Str):0≤W tls f seen c:=way_nonneg hf 6 seen c
theorem W_bound {cs:List Str} {tls:List Tl} (h:TabOk cs tls) {f:Str→Int} {F:Int} (h0:0≤F) (hf:∀ c,f c≤F) (seen:List Str) (c:Str):W tls f seen c≤11390625 * F:=by
  have:=way_bound h.passes h0 hf 6 seen c
  have e:(15:Int) ^ 6=11390625:=by decide
  rw [e] at this;exact this
theorem way_one {ps:List (Str × Str)}:∀ (n:Nat) (seen:List Str) (c:Str),1≤wayN ps (fun _=>1) n seen c
  | 0,_,_=>by rw [wayN];exact Int.le_refl _
  | n + 1,seen,c=>by
    have h2:(ps.map fun _=>(0:Int)).sum≤(ps.map fun p=>if p.1=c∧p.2 ∉ seen then wayN ps (fun _=>1) n (seen++[p.2]) p.2 else 0).sum:=sum_le ps fun p _=>by
      split
      · have:=way_one (ps:=ps) n (seen++[p.2]) p.2;omega
      · exact Int.le_refl _
    rw [sum_const] at h2
    rw [wayN];omega
def prodG (g:Tr→Str→Int):List (Tr × Str)→Int
  | []=>1
  | x :: r=>g x.1 x.2 * prodG g r
def topO (g:Tr→Str→Int) (t:Tr) (c:Str):List Tl→Int
  | []=>0
  | tl :: r=>(if tl.pass=false∧lieF tl.pt t=true∧tl.cls=c then prodG g (holesT tl.pt t) else 0) + topO g t c r
def cntN (tls:List Tl):Nat→Tr→Str→Int
  | 0,_,_=>0
  | n + 1,t,c=>W tls (fun e=>topO (cntN tls n) t e tls) [c] c
theorem prod_congr {g h:Tr→Str→Int}:∀ (l:List (Tr × Str)),(∀ x∈l,g x.1 x.2=h x.1 x.2)→prodG g l=prodG h l
  | [],_=>rfl
  | a :: l,e=>by rw [prodG,prodG,e a List.mem_cons_self,prod_congr l fun x hx=>e x (List.mem_cons_of_mem _ hx)]
theorem top_congr {g h:Tr→Str→Int} {t:Tr} {c:Str}:∀ (l:List Tl),(∀ tl∈l,tl.pass=false→lieF tl.pt t=true→∀ x∈holesT tl.pt t,g x.1 x.2=h x.1 x.2)→topO g t c l=topO h t c l
  | [],_=>rfl
  | a :: l,e=>by
    rw [topO,topO,top_congr l fun x hx=>e x (List.mem_cons_of_mem _ hx)]
    congr 1
    by_cases hc:a.pass=false∧lieF a.pt t=true∧a.cls=c
    · rw [if_pos hc,if_pos hc];exact prod_congr _ fun x hx=>e a List.mem_cons_self hc.1 hc.2.1 x hx
    · rw [if_neg hc,if_neg hc]
theorem mem_sum {l:List Nat} {a:Nat} (h:a∈l):a≤l.sum:=by
  induction l with
  | nil=>cases h
  | cons b r ih =>
    rw [List.sum_cons]
    rcases List.mem_cons.mp h with rfl | h
    · omega
    · have:=ih h;omega
theorem hole_small {tl:Tl} {t:Tr} (hp:tl.pass=false) (hl:lieF tl.pt t=true):∀ x∈holesT tl.pt t,x.1.size < t.size:=fun x hx=>by
  have h1:=size_laid tl.pt t hl
  have h2:=bulk_pos hp
  have h3:x.1.size∈(hT tl.pt t).map Tr.size:=List.mem_map.mpr ⟨x.1,List.mem_map.mpr ⟨x,hx,rfl⟩,rfl⟩
  have:=mem_sum h3
  omega
theorem cnt_more {tls:List Tl}:∀ (n:Nat) (t:Tr) (c:Str),t.size≤n→cntN tls n t c=cntN tls (n + 1) t c
  | 0,t,c,h=>by have:=size_posT t;omega
  | n + 1,t,c,h=>by
    rw [cntN]
    conv=>rhs;rw [cntN]
    have:(fun e=>topO (cntN tls n) t e tls)=fun e=>topO (cntN tls (n + 1)) t e tls:=by
      funext e
      refine top_congr tls fun tl _ hp hl x hx=>cnt_more n x.1 x.2 ?_
      have:=hole_small hp hl x hx
      omega
    rw [this]
theorem cnt_le {tls:List Tl} (t:Tr) (c:Str):∀ (k n:Nat),t.size≤n→cntN tls n t c=cntN tls (n + k) t c
  | 0,n,_=>rfl
  | k + 1,n,h=>by rw [cnt_le t c k n h,← Nat.add_assoc];exact cnt_more (n + k) t c (by omega)
def cnt (tls:List Tl) (t:Tr) (c:Str):Int:=cntN tls t.size t c
def topC (tls:List Tl) (t:Tr) (c:Str):Int:=topO (cnt tls) t c tls
theorem cnt_eq (tls:List Tl) (t:Tr) (c:Str):cnt tls t c=W tls (topC tls t) [c] c:=by
  have hp:=size_posT t
  obtain ⟨n,hn⟩:∃ n,t.size=n + 1:=⟨t.size - 1,by omega⟩
  have e0:cnt tls t c=cntN tls (n + 1) t c:=by unfold cnt;rw [hn]
  rw [e0,cntN]
  have:(fun e=>topO (cntN tls n) t e tls)=topC tls t:=by
    funext e
    refine top_congr tls fun tl _ hpp hl x hx=>?_
    have h1:=hole_small hpp hl x hx
    have h2:=cnt_le (tls:=tls) x.1 x.2 (n - x.1.size) x.1.size (Nat.le_refl _)
    rw [show x.1.size + (n - x.1.size)=n by omega] at h2
    exact h2.symm
  rw [this]
theorem pow2_le {m n:Nat} (h:m≤n):(2:Int) ^ m≤2 ^ n:=by
  have:=Nat.pow_le_pow_right (n:=2) (by decide) h
  exact_mod_cast this
theorem bits_of {v:Int} {n:Nat} (h0:0≤v) (h:v≤2 ^ (64 * n)):Builtin.Int.intBits v≤64 * n + 1:=by
  refine PySem.intBits_le_iff.mpr ?_
  have e:(2:Int) ^ (64 * n + 1)=2 * 2 ^ (64 * n):=by rw [Int.pow_succ];omega
  have hp:(0:Int) < 2 ^ (64 * n):=Int.pow_pos (by decide)
  have e2:((2 ^ (64 * n + 1):Nat):Int)=2 ^ (64 * n + 1):=by push_cast;rfl
  have e3:(v.natAbs:Int)=v:=Int.natAbs_of_nonneg h0
  omega
theorem prod_bound {g:Tr→Str→Int}:∀ (l:List (Tr × Str)),(∀ x∈l,0≤g x.1 x.2∧g x.1 x.2≤2 ^ (64 * x.1.size))→0≤prodG g l∧prodG g l≤2 ^ (64 * ((l.map (·.1)).map Tr.size).sum)
  | [],_=>by simp [prodG]
  | a :: l,h=>by
    obtain ⟨h1,h2⟩:=h a List.mem_cons_self
    obtain ⟨h3,h4⟩:=prod_bound l fun x hx=>h x (List.mem_cons_of_mem _ hx)
    rw [prodG]
    refine ⟨Int.mul_nonneg h1 h3,?_⟩
    have e:(2:Int) ^ (64 * (((a :: l).map (·.1)).map Tr.size).sum)=2 ^ (64 * a.1.size) * 2 ^ (64 * ((l.map (·.1)).map Tr.size).sum):=by
      rw [← Int.pow_add,← Nat.mul_add];rfl
    rw [e]
    exact Int.mul_le_mul h2 h4 h3 (Int.le_of_lt (Int.pow_pos (by decide)))
theorem top_bound {g:Tr→Str→Int} {t:Tr} {c:Str} {B:Int} (hB:0≤B):∀ (l:List Tl),(∀ tl∈l,tl.pass=false→lieF tl.pt t=true→0≤prodG g (holesT tl.pt t)∧prodG g (holesT tl.pt t)≤B)→0≤topO g t c l∧topO g t c l≤l.length * B
  | [],_=>by simp [topO]
  | a :: l,h=>by
    obtain ⟨h3,h4⟩:=top_bound (c:=c) hB l fun x hx=>h x (List.mem_cons_of_mem _ hx)
    rw [topO]
    have:((a :: l).length:Int) * B=l.length * B + B:=by rw [List.length_cons];push_cast;rw [Int.add_mul];omega
    rw [this]
    split
    · rename_i hc
      have:=h a List.mem_cons_self hc.1 hc.2.1
      omega
    · omega
theorem cnt_bound {cs:List Str} {tls:List Tl} (hT:TabOk cs tls):∀ (n:Nat) (t:Tr),t.size≤n→∀ c,0≤cnt tls t c∧cnt tls t c≤2 ^ (64 * t.size)
  | 0,t,h=>by have:=size_posT t;omega
  | n + 1,t,h=>fun c=>by
    have hm:=hT.many
    have hB:(0:Int)≤2 ^ (64 * (t.size - 1)):=Int.le_of_lt (Int.pow_pos (by decide))
    have pr:∀ tl∈tls,tl.pass=false→lieF tl.pt t=true→0≤prodG (cnt tls) (holesT tl.pt t)∧prodG (cnt tls) (holesT tl.pt t)≤2 ^ (64 * (t.size - 1)):=fun tl _ hp hl=>by
      have hs:=size_laid tl.pt t hl
      have hb:=bulk_pos hp
      obtain ⟨h1,h2⟩:=prod_bound (g:=cnt tls) (holesT tl.pt t) fun x hx=>cnt_bound hT n x.1 (by have:=hole_small hp hl x hx;omega) x.2
      refine ⟨h1,Int.le_trans h2 ?_⟩
      have:((holesT tl.pt t).map (·.1)).map Tr.size=(K24.hT tl.pt t).map Tr.size:=rfl
      rw [this]
      exact pow2_le (Nat.mul_le_mul_left _ (by omega))
    have tp:∀ e,0≤topC tls t e∧topC tls t e≤16 * 2 ^ (64 * (t.size - 1)):=fun e=>by
      obtain ⟨h1,h2⟩:=top_bound (g:=cnt tls) (t:=t) (c:=e) hB tls pr
      refine ⟨h1,Int.le_trans h2 (Int.mul_le_mul_of_nonneg_right (by omega) hB)⟩
    rw [cnt_eq]
    refine ⟨W_nonneg (fun e=>(tp e).1) _ _,?_⟩
    have h1:=W_bound hT (F:=16 * 2 ^ (64 * (t.size - 1))) (by omega) (fun e=>(tp e).2) [c] c
    refine Int.le_trans h1 ?_
    have hp:=size_posT t
    have e:(2:Int) ^ (64 * t.size)=2 ^ 64 * 2 ^ (64 * (t.size - 1)):=by rw [← Int.pow_add];congr 1;omega
    rw [e]
    have:(2:Int) ^ 64=18446744073709551616:=by decide
    rw [this];omega
def pk (p:List Nat):List Key:=p.map fun (n:Nat)=>Sum.inl (n:Int)
theorem pk_inj {p q:List Nat} (h:pk p=pk q):p=q:=by
  induction p generalizing q with
  | nil=>cases q with
    | nil=>rfl
    | cons a r=>cases h
  | cons a r ih=>cases q with
    | nil=>cases h
    | cons b s =>
      simp only [pk,List.map_cons,List.cons.injEq,Sum.inl.injEq] at h
      have h1:a=b:=by omega
      rw [h1,ih h.2]
theorem keys_pk (p:List Nat):keysU (p.map fun (n:Nat)=>U.int (n:Int))=some (pk p):=by
  induction p with
  | nil=>rfl
  | cons a r ih=>simp only [List.map_cons,keysU,keyU,ih];rfl
theorem key_pk (p:List Nat):keyOf true (pk p)=placeU p:=by
  unfold keyOf
  simp only [if_true,placeU,pk,List.map_map]
  rfl
theorem look_T {M:MHp} {x:U} {kvs:List (List Key × U)} (p:List Nat) (h:dvw M x=some (.dT kvs)):dLook true M x (placeU p)=some (valU kvs (pk p)):=by
  simp only [dLook,h,placeU,keys_pk,Option.map_some]
theorem look_K {M:MHp} {x:U} {kvs:List (Key × U)} (c:Str) (h:dvw M x=some (.dK kvs)):dLook false M x (.str c)=some (valU kvs (.inr c)):=by
  simp only [dLook,h,keyU]
theorem isD_K {M:MHp} {x:U} {kvs:List (Key × U)} (h:dvw M x=some (.dK kvs)):isDb M x=true:=by simp only [isDb,h]
theorem valU_snoc {κ:Type} [DecidableEq κ] {kvs:List (κ × U)} {k j:κ} {u:U} (h:valU kvs k=none):valU (kvs++[(k,u)]) j=if j=k then some u else valU kvs j:=by
  induction kvs with
  | nil =>
    by_cases e:j=k
    · subst e;rw [if_pos rfl];exact valU_pos rfl
    · rw [if_neg e];exact valU_neg (fun z=>e z.symm)
  | cons a r ih =>
    have ha:¬ a.1=k:=fun z=>by rw [valU_pos z] at h;cases h
    rw [valU_neg ha] at h
    rw [List.cons_append]
    by_cases e:a.1=j
    · rw [valU_pos e,valU_pos e,if_neg (fun z=>ha (e.trans z))]
    · rw [valU_neg e,valU_neg e];exact ih h
theorem valU_repl {κ:Type} [DecidableEq κ] {k j:κ} {u:U}:∀ {kvs:List (κ × U)},(valU kvs k).isSome=true→valU (kvs.map fun kv=>if kv.1=k then (kv.1,u) else kv) j=if j=k then some u else valU kvs j
  | [],h=>by cases h
  | a :: r,h=>by
    rw [List.map_cons]
    by_cases ha:a.1=k
    · rw [if_pos ha]
      by_cases e:a.1=j
      · rw [valU_pos (p:=(a.1,u)) e,if_pos (e.symm.trans ha)]
      · rw [valU_neg (p:=(a.1,u)) e,valU_neg e,if_neg (fun z=>e (ha.trans z.symm))]
        clear h
        induction r with
        | nil=>rfl
        | cons b r ih =>
          rw [List.map_cons]
          by_cases hb:b.1=k
          · rw [if_pos hb,valU_neg (p:=(b.1,u)) (fun z=>e (ha.trans (hb.symm.trans z))),valU_neg (fun z=>e (ha.trans (hb.symm.trans z)))];exact ih
          · rw [if_neg hb]
            by_cases hj:b.1=j
            · rw [valU_pos hj,valU_pos hj]
            · rw [valU_neg hj,valU_neg hj];exact ih
    · rw [if_neg ha]
      rw [valU_neg ha] at h
      by_cases e:a.1=j
      · rw [valU_pos e,valU_pos e,if_neg (fun z=>ha (e.trans z))]
      · rw [valU_neg e,valU_neg e];exact valU_repl h
theorem valU_put {κ:Type} [DecidableEq κ] (kvs:List (κ × U)) (k j:κ) (u:U):valU (putU kvs k u) j=if j=k then some u else valU kvs j:=by
  cases h:valU kvs k with
  | none=>rw [putU_new h];exact valU_snoc h
  | some w=>rw [putU_old h];exact valU_repl (by rw [h];rfl)
theorem putU_keys {κ:Type} [DecidableEq κ] (kvs:List (κ × U)) (k:κ) (u:U):∀ e∈putU kvs k u,e.1=k∨e.1∈kvs.map (·.1):=fun e he=>by
  cases h:valU kvs k with
  | none =>
    rw [putU_new h] at he
    rcases List.mem_append.mp he with he | he
    · exact .inr (List.mem_map.mpr ⟨e,he,rfl⟩)
    · cases List.mem_singleton.mp he;exact .inl rfl
  | some w =>
    rw [putU_old h] at he
    obtain ⟨x,hx,rfl⟩:=List.mem_map.mp he
    split
    · exact .inr (List.mem_map.mpr ⟨x,hx,rfl⟩)
    · exact .inr (List.mem_map.mpr ⟨x,hx,rfl⟩)
theorem valU_none {κ:Type} [DecidableEq κ] {kvs:List (κ × U)} {k:κ} (h:k ∉ kvs.map (·.1)):valU kvs k=none:=by
  induction kvs with
  | nil=>rfl
  | cons a r ih =>
    rw [List.map_cons,List.mem_cons,not_or] at h
    rw [valU_neg (fun z=>h.1 z.symm)];exact ih h.2
theorem uComp_opt {o:Bool} {k:Nat} {ix:List Nat} {wi:UI} {g:UG} {tc:UT} {te:UE} {τ:SU} {M M1:MHp} {Q:UK} {S:Src} (zs:List (Option U)) (hw:∀ R:Src→MHp→Prop,R S M1→wi τ M R) (hl:zs.length=S.xs.length) (hz:S.xs.length≤sizeLine) (hs:S.ok M1)
    (h:∀ (i:Nat) x z,S.xs[i]?=some x→zs[i]?=some z→∀ M,Sub M1 M→∀ R:Option U→MHp→Prop,R z M→g x (capt k ix τ) M fun τ2 M2=>tc τ2 M2 fun ok M3=>if ok=true then te τ2 M3 fun y M4=>R (some y) M4 else R none M3)
    (q:mkL o (zs.filterMap id) M1 Q):uComp o k ix wi g tc te τ M Q:=by
  refine hw _ ⟨hz,fun D hD=>⟨fun i ys M=>ys=(zs.take i).filterMap id∧M=mup M1 D (.lst ys)∧i≤S.xs.length,⟨by simp,rfl,Nat.zero_le _⟩,?_,?_,?_⟩⟩
  · rintro i ys M ⟨rfl,rfl,hi⟩
    refine ⟨fun a e=>?_,mup_same,?_⟩
    · have:=hs a e
      rw [mup_ne (fun z=>by subst z;rw [hD] at this;cases this)]
      exact this
    · refine Nat.le_trans (List.length_filterMap_le _ _) ?_
      rw [List.length_take];omega
  · rintro i x ys M e ⟨rfl,rfl,hi⟩
    have hlt:i < S.xs.length:=(List.getElem?_eq_some_iff.mp e).1
    have hy:zs[i]?=some zs[i]:=by simp [show i < zs.length by omega]
    have tk:zs.take (i + 1)=zs.take i++[zs[i]]:=by rw [List.take_add_one,hy];rfl
    generalize hzi:zs[i]=z at hy tk
    refine h i x z e hy (mup M1 D (.lst ((zs.take i).filterMap id))) ((Sub.refl M1).mup hD) (fun r M4=>match r with
      | some y=>M4 D=some (.lst ((zs.take i).filterMap id))∧((zs.take i).filterMap id++[y]=(zs.take (i + 1)).filterMap id∧mup M4 D (.lst ((zs.take i).filterMap id++[y]))=mup M1 D (.lst ((zs.take i).filterMap id++[y]))∧i + 1≤S.xs.length)
      | none=>(zs.take i).filterMap id=(zs.take (i + 1)).filterMap id∧M4=mup M1 D (.lst ((zs.take i).filterMap id))∧i + 1≤S.xs.length) ?_
    cases z with
    | some y=>exact ⟨mup_same,by rw [tk,List.filterMap_append];rfl,mup_mup,hlt⟩
    | none=>exact ⟨by rw [tk,List.filterMap_append];simp,rfl,hlt⟩
  · rintro ys M ⟨rfl,rfl,hi⟩
    rw [show zs.take S.xs.length=zs by rw [← hl];exact List.take_length]
    cases o with
    | true=>exact q D hD
    | false=>exact ⟨M1,(Sub.refl M1).mup hD,hD,q⟩
def isP (tls:List Tl) (l:Ld):Bool:=match tls[l.n]? with
  | some tl=>tl.pass
  | none=>false
def laidN (tls:List Tl) (t:Tr) (p:List Nat):List Ld:=match t.at p with
  | some t'=>(laidF t' p 0 tls).filter fun l=>!isP tls l
  | none=>[]
def laidU (tls:List Tl) (t:Tr) (p:List Nat):U:=.lst ((laidN tls t p).map Ld.toU)
def laidKV (tls:List Tl) (t:Tr) (ps:List (List Nat)):List (List Key × U):=ps.map fun p=>(pk p,laidU tls t p)
theorem laid_n (t:Tr) (p:List Nat):∀ (l:List Tl) (k:Nat),∀ x∈laidF t p k l,k≤x.n∧∃ tl,l[x.n - k]?=some tl∧x.cls=tl.cls∧x.price=tl.cost∧lieF tl.pt t=true∧x.spots=(hls tl.pt).map fun e=>(p++e.1,e.2)
  | [],k,x,h=>by cases h
  | a :: l,k,x,h=>by
    simp only [laidF] at h
    rcases List.mem_append.mp h with h | h
    · split at h
      · rename_i hl
        cases List.mem_singleton.mp h
        exact ⟨Nat.le_refl _,a,by simp,rfl,rfl,hl,rfl⟩
      · cases h
    · obtain ⟨h1,tl,h2,h3⟩:=laid_n t p l (k + 1) x h
      refine ⟨by omega,tl,?_,h3⟩
      rw [show x.n - k=(x.n - (k + 1)) + 1 by omega]
      simpa using h2
theorem laidKV_none {tls:List Tl} {t:Tr} {ps:List (List Nat)} {p:List Nat} (h:p ∉ ps):valU (laidKV tls t ps) (pk p)=none:=by
  refine valU_none fun z=>h ?_
  obtain ⟨x,hx,e⟩:=List.mem_map.mp z
  obtain ⟨q,hq,rfl⟩:=List.mem_map.mp hx
  exact pk_inj e ▸ hq
theorem laidKV_some {tls:List Tl} {t:Tr}:∀ {ps:List (List Nat)} {p:List Nat},p∈ps→valU (laidKV tls t ps) (pk p)=some (laidU tls t p)
  | q :: ps,p,h=>by
    by_cases e:q=p
    · subst e;exact valU_pos rfl
    · have:valU (laidKV tls t (q :: ps)) (pk p)=valU (laidKV tls t ps) (pk p):=valU_neg (fun z=>e (pk_inj z))
      rw [this]
      exact laidKV_some ((List.mem_cons.mp h).resolve_left fun z=>e z.symm)
  | [],_,h=>by cases h
def spLaid0:USp:=fun us M Q=>∃ (cs:List Str) (tls:List Tl) (t:Tr),us=[tabU cs tls,t.toU]∧TabOk cs tls∧t.size≤40∧∀ d,M d=none→Q (.ref d) (mup M d (.dT (laidKV tls t t.places)))
def spLaidT:USp:=fun us M Q=>∃ (cs:List Str) (tls:List Tl) (t:Tr),us=[tabU cs tls,t.toU]∧TabOk cs tls∧t.size≤40∧Q (setT (laidKV tls t t.places)) M
theorem places_nd (t:Tr):t.places.Nodup:=(places_pre t).imp fun {x y} h z=>h (by rw [z];exact List.prefix_refl _)
local macro_rules | `(tactic| simp! only [$xs,*] $[$l]?) => `(tactic| simp only [$xs,*, Bool.false_eq_true, Bool.not_false, Bool.not_true, List.append_nil, List.cons_append, List.getElem?_cons_succ, List.getElem?_cons_zero, List.length_cons, List.length_nil, List.map_cons, List.map_nil, List.nil_append, List.replicate, List.set_cons_succ, List.set_cons_zero, Nat.add_sub_cancel, Nat.reduceAdd, Nat.reduceLeDiff, Nat.reduceSub, Nat.sub_self, Option.getD_some, Option.some.injEq, and_true, at0, at1, at2, at3, bAll, bInt, bInt1, bInt2, bIsi2, bLen, bList, bListD, bMax, bSum, bTuple, cGe, cGt, cLe, cLt, capt, decide_false, decide_true, eqX_int, eqX_str, exists_eq_left', if_false, if_true, inSt, inTab, isNon, isi_NoneType_bool, isi_NoneType_dict, isi_NoneType_int, isi_NoneType_list, isi_NoneType_str, isi_NoneType_tuple, isi_bool_bool, isi_bool_dict, isi_bool_int, isi_bool_list, isi_bool_str, isi_bool_tuple, isi_dict_bool, isi_dict_dict, isi_dict_int, isi_dict_list, isi_dict_str, isi_dict_tuple, isi_int_bool, isi_int_dict, isi_int_int, isi_int_list, isi_int_str, isi_int_tuple, isi_list_bool, isi_list_dict, isi_list_int, isi_list_list, isi_list_str, isi_list_tuple, isi_str_bool, isi_str_dict, isi_str_int, isi_str_list, isi_str_str, isi_str_tuple, isi_tuple_bool, isi_tuple_dict, isi_tuple_int, isi_tuple_list, isi_tuple_str, isi_tuple_tuple, items, ixTab, mAppend, mClear, mExtend, mPop, mPopAt, mkL, mup_mup, mup_same, reduceCtorEq, startU, szl, true_and, typU, uAdd, uAddL, uAnd, uAndV, uBM, uBM0, uBack1, uBack2, uC, uCB, uCall, uCallV, uChain, uCons, uDGet, uDGet1, uDGet2, uDIn, uDNew, uEnum, uEnumL, uEqS, uI, uI0, uIf, uIn, uIsB, uIsB2, uIsN, uIter, uIx, uKeys, uListRev, uLst, uLtX, uMul, uNeS, uNil, uNoPart, uNot, uNotB, uNotN, uNotV, uOp, uOr, uOrV, uPairs, uPart, uRev, uRng1, uRng2, uSetFrom, uSetI, uSlX, uTest, uTru, uTup, uUn, uVar, uZip, uZipL, uZipLL, vw_bl, vw_int, vw_lst, vw_non, vw_own, vw_str, vw_tup] $[$l]?)
theorem ok_laid0 (F:Fun K "laid_tiles" "laid_tiles" s_laid_tiles f fd) (hm:mg "laid_tiles"=some (.ref f)) (C_places:Callee P w K mg base 42 "places" (spPlacesT 40) []) (C_tiles_at:Callee P w K mg base 10 "tiles_at" spTilesAt []) (C_is_pass:Callee P w K mg base 1 "is_pass" spPass []):Callee P w K mg base 43 "laid_tiles" spLaid0 []:=by
  refine callee2 F hm sc_laid_tiles (ar2 fun _ _ _ _ _ _ _ _=>rfl) (uss_cons (us_set 2 sc_laid_tiles.nd (ue_dnew true))
  (uss_cons (us_for (ui_seq (ue_call C_places (ua_cons (uv 1) ua_nil))) (ug_name (k:=1000) 3 sc_laid_tiles.nd)
  (uss_one (us_dput true (fun _=>True.intro) (ue_comp false ["tile","table"] 1 [0] (ui_seq (ue_call C_tiles_at (ua_cons (uv 0) (ua_cons (uv 1) (ua_cons (uv 3) ua_nil))))) (ug_name (k:=1) 0 (by dsimp only [compD];decide +kernel)) (uif_one (ut_not (ut_val (ue_call C_is_pass (ua_cons (ue_ix (ue_ix (uv 1) un_) (ue_ix (uv 0) un_)) ua_nil))))) (uv 0)) (uv 2) (uv 3))))
  (uss_one (us_ret (uv 2))))) ?_
  rintro us M Q ⟨cs,tls,t,rfl,hT,hs,q⟩
  refine ⟨rfl,?_⟩
  have hpl:=places_size t
  have hnd:=places_nd t
  refine seq_gen fun V hV=>?_
  simp! only [uAsg,hName]
  intro d hd
  subst hV
  refine seq_gen fun V hV=>?_
  refine for_by (S:=⟨none,t.places.map placeU⟩) (M1:=mup M d (.dT (laidKV tls t []))) (fun R r=>by
      simp! only [true_and]
      exact ⟨t,rfl,by have:=dep_size t;omega,by omega,r⟩)
    (fun i τ Mi=>∃ z:Option U,τ=[some (tabU cs tls),some t.toU,some (.ref d),z]∧Mi=mup M d (.dT (laidKV tls t (t.places.take i)))) ⟨none,rfl,rfl⟩ nk ?_ ?_
  · rintro i x τ Mi e ⟨z,rfl,rfl⟩
    have e':(t.places.map placeU)[i]?=some x:=e
    rw [List.getElem?_map] at e'
    cases hj:t.places[i]? with
    | none=>rw [hj] at e';cases e'
    | some p =>
      rw [hj] at e'
      cases e'
      have hi:=(List.getElem?_eq_some_iff.mp hj).1
      have hmem:=List.mem_of_getElem? hj
      obtain ⟨t',ht⟩:=at_place t p hmem
      have hps:=place_shortT t p hmem
      have hnew:p ∉ t.places.take i:=fun z=>by
        obtain ⟨k,hk,e⟩:=List.getElem_of_mem z
        rw [List.getElem_take] at e
        rw [List.length_take] at hk
        have:=(List.getElem_inj hnd).mp (e.trans (List.getElem?_eq_some_iff.mp hj).2.symm)
        omega
      have hll:=laid_len t' p tls 0
      have htl:=hT.many
      simp! only [hName,uDPut]
      refine uComp_opt (S:=⟨none,(laidF t' p 0 tls).map Ld.toU⟩) (M1:=mup M d (.dT (laidKV tls t (t.places.take i)))) ((laidF t' p 0 tls).map fun l=>if isP tls l then none else some l.toU) (fun R r=>by
          simp! only [true_and]
          exact ⟨cs,tls,t,t',p,rfl,atU_at t p t' ht,fun tl h=>by have:=hT.dep tl h;omega,by omega,by omega,r⟩) (by simp) (small (by show ((laidF t' p 0 tls).map Ld.toU).length≤_;rw [List.length_map];omega)) (fun a e=>by cases e) ?_ ?_
      · intro k x z' hx hz M' hS R r'
        have hx':((laidF t' p 0 tls).map Ld.toU)[k]?=some x:=hx
        rw [List.getElem?_map] at hx' hz
        cases hk:(laidF t' p 0 tls)[k]? with
        | none=>rw [hk] at hx';cases hx'
        | some l =>
          rw [hk] at hx' hz
          cases hx';cases hz
          obtain ⟨_,tl,h2,_⟩:=laid_n t' p tls 0 l (List.mem_of_getElem? hk)
          rw [Nat.sub_zero] at h2
          have hat:atI (tls.map Tl.toU) (l.n:Int)=some tl.toU:=by
            have:(tls.map Tl.toU)[l.n]?=some tl.toU:=by rw [List.getElem?_map,h2];rfl
            exact atI_nat this
          have hp:isP tls l=tl.pass:=by unfold isP;rw [h2]
          have r':R (if isP tls l=true then none else some l.toU) M':=r'
          rw [hp] at r'
          simp! only [hName,Ld.toU,vw_tab,hat]
          refine ⟨tl,rfl,?_⟩
          cases htp:tl.pass with
          | true=>rw [htp] at r';simp only [vw_bl,Bool.not_true,Bool.false_eq_true,if_false];exact r'
          | false=>rw [htp] at r';simp! only [true_and];exact r'
      · have ef:((laidF t' p 0 tls).map fun l=>if isP tls l then none else some l.toU).filterMap id=((laidF t' p 0 tls).filter fun l=>!isP tls l).map Ld.toU:=by
          generalize laidF t' p 0 tls=L
          induction L with
          | nil=>rfl
          | cons a r ih =>
            rw [List.map_cons,List.filterMap_cons,List.filter_cons]
            cases isP tls a with
            | true=>exact ih
            | false=>simpa using ih
        have elu:U.lst (((laidF t' p 0 tls).filter fun l=>!isP tls l).map Ld.toU)=laidU tls t p:=by unfold laidU laidN;rw [ht]
        simp! only [ef,elu,placeU,keys_pk]
        refine ⟨big (by simp only [laidKV,List.length_map,List.length_take];omega),_,rfl,?_⟩
        rw [putU_new (laidKV_none hnew),List.take_add_one,hj]
        simp [laidKV]
  · rintro τ Mi ⟨z,rfl,rfl⟩
    have hlen:(Src.mk none (t.places.map placeU)).xs.length=t.places.length:=by show (t.places.map placeU).length=_;simp
    rw [hlen,List.take_length]
    subst hV
    simp! only [uRet]
    exact rt_same (q d hd)
theorem ok_laid_tiles (C:Callee P w K mg base 43 "laid_tiles" spLaid0 []):Callee P w K mg base 43 "laid_tiles" spLaidT []:=by
  refine U2.Callee.conv C fun us M Q h=>?_
  obtain ⟨cs,tls,t,rfl,hT,hs,q⟩:=h
  exact ⟨cs,tls,t,rfl,hT,hs,fun d hd=>cv_outT ((Sub.refl M).mup hd) mup_same hd q⟩
def passI (tls:List Tl):List (Nat × Str × Str):=tls.zipIdx.filterMap fun p=>(passOf p.1).map fun q=>(p.2,q)
def passE (p:Nat × Str × Str):U:=.tup [.int p.1,.str p.2.1,.str p.2.2]
theorem passI_snd (tls:List Tl):(passI tls).map (·.2)=passesF tls:=by
  have:∀ (l:List Tl) (n:Nat),((l.zipIdx n).filterMap fun p=>(passOf p.1).map fun q=>(p.2,q)).map (·.2)=l.filterMap passOf:=by
    intro l
    induction l with
    | nil=>intro n;rfl
    | cons a r ih =>
      intro n
      rw [List.zipIdx_cons,List.filterMap_cons,List.filterMap_cons]
      cases h:passOf a with
      | none=>simpa [h] using ih (n + 1)
      | some q=>simpa [h] using ih (n + 1)
  exact this tls 0
def stU (x:List Int × List Str):U:=.tup [.lst (x.1.map U.int),.lst (x.2.map U.str)]
def lastC (x:List Int × List Str) (c:Str):Str:=x.2.getLast?.getD c
def flen (M:MHp) (d:Addr):Nat:=match M d with
  | some (.dK kvs)=>(kvs.map fun e=>match e.2 with | .ref r=>(match M r with | some (.lst us)=>us.length | _=>0) | _=>0).sum
  | _=>0
structure Pst (M:MHp) (cs:List Str) (tls:List Tl) (c:Str) (d w:Addr) (l:List (Str × Addr × List U)) (st:List (List Int × List Str)) (Mi:MHp):Prop where
  sub:Sub M Mi
  hd:Mi d=some (.dK (l.map fun e=>(Sum.inr e.1,.ref e.2.1)))
  hw:Mi w=some (.lst (st.map stU))
  hl:∀ e∈l,Mi e.2.1=some (.lst e.2.2)∧M e.2.1=none∧e.2.1≠d∧e.2.1≠w
  nd:(l.map (·.2.1)).Nodup
  nk:(l.map (·.1)).Nodup
  kc:∀ e∈l,e.1∈cs
  dn:M d=none
  wn:M w=none
  dw:d≠w
  ok:∀ x∈st,Seen cs x.2∧x.2≠[]∧x.1.length≤x.2.length
  cnt:∀ f,(l.map fun e=>(e.2.2.length:Int) * f e.1).sum + (st.map fun x=>W tls f x.2 (lastC x c)).sum=W tls f [c] c
theorem Pst.keys {M:MHp} {cs:List Str} {tls:List Tl} {c:Str} {d w:Addr} {l:List (Str × Addr × List U)} {st:List (List Int × List Str)} {Mi:MHp} (p:Pst M cs tls c d w l st Mi):l.length≤cs.length:=by
  have:=nodup_len _ cs p.nk fun s hs=>by obtain ⟨e,he,rfl⟩:=List.mem_map.mp hs;exact p.kc e he
  rwa [List.length_map] at this
theorem Pst.flen {M:MHp} {cs:List Str} {tls:List Tl} {c:Str} {d w:Addr} {l:List (Str × Addr × List U)} {st:List (List Int × List Str)} {Mi:MHp} (p:Pst M cs tls c d w l st Mi):flen Mi d=(l.map fun e=>e.2.2.length).sum:=by
  unfold K24.flen
  rw [p.hd]
  simp only [List.map_map]
  congr 1
  refine List.map_congr_left fun e he=>?_
  simp only [Function.comp]
  rw [(p.hl e he).1]
theorem Pst.all {M:MHp} {cs:List Str} {tls:List Tl} {c:Str} {d w:Addr} {l:List (Str × Addr × List U)} {st:List (List Int × List Str)} {Mi:MHp} (hT:TabOk cs tls) (p:Pst M cs tls c d w l st Mi):(((l.map fun e=>e.2.2.length).sum:Nat):Int) + st.length≤W tls (fun _=>1) [c] c∧W tls (fun _=>1) [c] c≤11390625:=by
  have h:=p.cnt fun _=>1
  have h1:(l.map fun e=>(e.2.2.length:Int) * 1).sum=(((l.map fun e=>e.2.2.length).sum:Nat):Int):=by
    generalize l=L
    induction L with
    | nil=>rfl
    | cons a r ih=>rw [List.map_cons,List.map_cons,List.sum_cons,List.sum_cons,ih];push_cast;omega
  have h2:(st.map fun _=>(1:Int)).sum≤(st.map fun x=>W tls (fun _=>1) x.2 (lastC x c)).sum:=sum_le st fun x _=>way_one 6 x.2 _
  rw [sum_const] at h2
  have h3:=W_bound hT (f:=fun _=>1) (F:=1) (by decide) (fun _=>Int.le_refl _) [c] c
  omega
theorem len_sum {l:List (Str × Addr × List U)} {e:Str × Addr × List U} (h:e∈l):e.2.2.length≤(l.map fun e=>e.2.2.length).sum:=mem_sum (List.mem_map.mpr ⟨e,h,rfl⟩)
theorem own_find {c:Str} {u:U}:∀ {l:List (Str × Addr × List U)},valU (l.map fun e=>((Sum.inr e.1:Key),U.ref e.2.1)) (Sum.inr c)=some u→∃ l1 e l2,l=l1++e :: l2∧e.1=c∧u=.ref e.2.1
  | [],h=>by cases h
  | a :: r,h=>by
    rw [List.map_cons] at h
    by_cases e:a.1=c
    · rw [valU_pos (p:=((Sum.inr a.1:Key),U.ref a.2.1)) (by show (Sum.inr a.1:Key)=_;rw [e])] at h
      cases h
      exact ⟨[],a,r,rfl,e,rfl⟩
    · rw [valU_neg (p:=((Sum.inr a.1:Key),U.ref a.2.1)) (fun z=>e (Sum.inr.inj z))] at h
      obtain ⟨l1,x,l2,rfl,h2,h3⟩:=own_find h
      exact ⟨a :: l1,x,l2,rfl,h2,h3⟩
theorem own_not {c:Str} {l:List (Str × Addr × List U)} (h:valU (l.map fun e=>((Sum.inr e.1:Key),U.ref e.2.1)) (Sum.inr c)=none):c ∉ l.map (·.1):=by
  intro z
  obtain ⟨e,he,rfl⟩:=List.mem_map.mp z
  induction l with
  | nil=>cases he
  | cons a r ih =>
    rw [List.map_cons] at h
    by_cases q:a.1=e.1
    · rw [valU_pos (p:=((Sum.inr a.1:Key),U.ref a.2.1)) (by show (Sum.inr a.1:Key)=_;rw [q])] at h;cases h
    · rw [valU_neg (p:=((Sum.inr a.1:Key),U.ref a.2.1)) (fun z=>q (Sum.inr.inj z))] at h
      rcases List.mem_cons.mp he with rfl | he
      · exact q rfl
      · exact ih he h (List.mem_map.mpr ⟨e,he,rfl⟩)
theorem mup_comm {M:MHp} {a b:Addr} {x y:MO} (h:a≠b):mup (mup M a x) b y=mup (mup M b y) a x:=by
  funext z
  by_cases e1:z=b
  · subst e1;rw [mup_same,mup_ne (Ne.symm h),mup_same]
  · rw [mup_ne e1]
    by_cases e2:z=a
    · subst e2;rw [mup_same,mup_same]
    · rw [mup_ne e2,mup_ne e2,mup_ne e1]
theorem Pst.stray {M:MHp} {cs:List Str} {tls:List Tl} {c:Str} {d w r:Addr} {o:MO} {l:List (Str × Addr × List U)} {st:List (List Int × List Str)} {Mi:MHp} (p:Pst M cs tls c d w l st Mi) (h:Mi r=none):Pst M cs tls c d w l st (mup Mi r o):=by
  have mr:M r=none:=by
    cases e:M r with
    | none=>rfl
    | some mo=>rw [p.sub r mo e] at h;cases h
  refine ⟨p.sub.mup mr,?_,?_,fun e he=>?_,p.nd,p.nk,p.kc,p.dn,p.wn,p.dw,p.ok,p.cnt⟩
  · rw [mup_ne (fun z=>by rw [← z,p.hd] at h;cases h)];exact p.hd
  · rw [mup_ne (fun z=>by rw [← z,p.hw] at h;cases h)];exact p.hw
  · obtain ⟨k1,k2⟩:=p.hl e he
    exact ⟨by rw [mup_ne (fun z=>by rw [← z,k1] at h;cases h)];exact k1,k2⟩
theorem pst_old {M:MHp} {cs:List Str} {tls:List Tl} {c:Str} {d w:Addr} {l1 l2:List (Str × Addr × List U)} {e:Str × Addr × List U} {u:U} {st:List (List Int × List Str)} {x:List Int × List Str} {Mi:MHp} (p:Pst M cs tls c d w (l1++e :: l2) (st++[x]) Mi) (he:e.1=lastC x c) {st':List (List Int × List Str)}
    (hok:∀ y∈st',Seen cs y.2∧y.2≠[]∧y.1.length≤y.2.length) (hW:∀ f,W tls f x.2 (lastC x c)=f (lastC x c) + (st'.map fun y=>W tls f y.2 (lastC y c)).sum) :
    Pst M cs tls c d w (l1++(e.1,e.2.1,e.2.2++[u]) :: l2) (st++st') (mup (mup (mup Mi w (.lst (st.map stU))) e.2.1 (.lst (e.2.2++[u]))) w (.lst ((st++st').map stU))):=by
  obtain ⟨g1,g2,g3,g4⟩:=p.hl e (by simp)
  have nd:=p.nd
  have ne:∀ y,(y∈l1∨y∈l2)→y.2.1≠e.2.1:=fun y hy=>by
    rw [List.map_append,List.map_cons,List.nodup_append] at nd
    obtain ⟨n1,n2,n3⟩:=nd
    rw [List.nodup_cons] at n2
    rcases hy with hy | hy
    · exact n3 _ (List.mem_map.mpr ⟨y,hy,rfl⟩) _ List.mem_cons_self
    · exact fun z=>n2.1 (z ▸ List.mem_map.mpr ⟨y,hy,rfl⟩)
  refine ⟨?_,?_,mup_same,fun y hy=>?_,?_,?_,fun y hy=>?_,p.dn,p.wn,p.dw,fun y hy=>?_,fun f=>?_⟩
  · exact (((p.sub.mup p.wn).mup g2).mup p.wn)
  · rw [mup_ne p.dw,mup_ne (Ne.symm g3),mup_ne p.dw,p.hd];simp
  · have hy':y=(e.1,e.2.1,e.2.2++[u])∨(y∈l1∨y∈l2):=by
      rcases List.mem_append.mp hy with h | h
      · exact .inr (.inl h)
      · rcases List.mem_cons.mp h with h | h
        · exact .inl h
        · exact .inr (.inr h)
    rcases hy' with rfl | h
    · exact ⟨by rw [mup_ne g4,mup_same],g2,g3,g4⟩
    · obtain ⟨k1,k2,k3,k4⟩:=p.hl y (by rcases h with h | h <;> simp [h])
      exact ⟨by rw [mup_ne k4,mup_ne (ne y h),mup_ne k4];exact k1,k2,k3,k4⟩
  · have:=p.nd;simpa using this
  · have:=p.nk;simpa using this
  · have hk:=p.kc
    rcases List.mem_append.mp hy with h | h
    · exact hk y (by simp [h])
    · rcases List.mem_cons.mp h with rfl | h
      · exact hk e (by simp)
      · exact hk y (by simp [h])
  · rcases List.mem_append.mp hy with h | h
    · exact p.ok y (by simp [h])
    · exact hok y h
  · have h:=p.cnt f
    simp only [List.map_append,List.map_cons,List.map_nil,List.sum_append,List.sum_cons,List.sum_nil,List.length_append,List.length_cons,List.length_nil] at h ⊢
    rw [hW f] at h
    have:(((e.2.2.length + (0 + 1):Nat)):Int) * f e.1=e.2.2.length * f e.1 + f (lastC x c):=by rw [he];push_cast;rw [Int.add_mul];omega
    rw [this];omega
theorem pst_new {M:MHp} {cs:List Str} {tls:List Tl} {c:Str} {d w r:Addr} {l:List (Str × Addr × List U)} {u:U} {st:List (List Int × List Str)} {x:List Int × List Str} {Mi:MHp} (p:Pst M cs tls c d w l (st++[x]) Mi) (hr:mup Mi w (.lst (st.map stU)) r=none) (hc:lastC x c∈cs) (hn:lastC x c ∉ l.map (·.1)) {st':List (List Int × List Str)}
    (hok:∀ y∈st',Seen cs y.2∧y.2≠[]∧y.1.length≤y.2.length) (hW:∀ f,W tls f x.2 (lastC x c)=f (lastC x c) + (st'.map fun y=>W tls f y.2 (lastC y c)).sum) :
    Pst M cs tls c d w (l++[(lastC x c,r,[u])]) (st++st') (mup (mup (mup (mup Mi w (.lst (st.map stU))) d (.dK ((l.map fun e=>((Sum.inr e.1:Key),U.ref e.2.1))++[(Sum.inr (lastC x c),.ref r)]))) r (.lst [u])) w (.lst ((st++st').map stU))):=by
  have rw':r≠w:=fun z=>by rw [z,mup_same] at hr;cases hr
  rw [mup_ne rw'] at hr
  have rd:r≠d:=fun z=>by rw [z,p.hd] at hr;cases hr
  have mr:M r=none:=by
    cases h:M r with
    | none=>rfl
    | some mo=>rw [p.sub r mo h] at hr;cases hr
  have rl:∀ e∈l,e.2.1≠r:=fun e he z=>by rw [← z,(p.hl e he).1] at hr;cases hr
  refine ⟨?_,?_,mup_same,fun y hy=>?_,?_,?_,fun y hy=>?_,p.dn,p.wn,p.dw,fun y hy=>?_,fun f=>?_⟩
  · exact ((((p.sub.mup p.wn).mup p.dn).mup mr).mup p.wn)
  · rw [mup_ne p.dw,mup_ne (Ne.symm rd),mup_same];simp
  · rcases List.mem_append.mp hy with h | h
    · obtain ⟨k1,k2,k3,k4⟩:=p.hl y h
      exact ⟨by rw [mup_ne k4,mup_ne (rl y h),mup_ne k3,mup_ne k4];exact k1,k2,k3,k4⟩
    · cases List.mem_singleton.mp h
      exact ⟨by rw [mup_ne rw',mup_same],mr,rd,rw'⟩
  · rw [List.map_append]
    refine List.nodup_append.mpr ⟨p.nd,by simp,fun a ha b hb=>?_⟩
    obtain ⟨e,he,rfl⟩:=List.mem_map.mp ha
    simp only [List.map_cons,List.map_nil,List.mem_singleton] at hb
    rw [hb];exact rl e he
  · rw [List.map_append]
    refine List.nodup_append.mpr ⟨p.nk,by simp,fun a ha b hb=>?_⟩
    simp only [List.map_cons,List.map_nil,List.mem_singleton] at hb
    rw [hb];exact fun z=>hn (z ▸ ha)
  · rcases List.mem_append.mp hy with h | h
    · exact p.kc y h
    · cases List.mem_singleton.mp h;exact hc
  · rcases List.mem_append.mp hy with h | h
    · exact p.ok y (by simp [h])
    · exact hok y h
  · have h:=p.cnt f
    simp only [List.map_append,List.map_cons,List.map_nil,List.sum_append,List.sum_cons,List.sum_nil,List.length_cons,List.length_nil] at h ⊢
    rw [hW f] at h
    push_cast
    omega
def goOn (x:List Int × List Str) (c:Str) (ps:List (Nat × Str × Str)):List (List Int × List Str):=ps.filterMap fun p=>if p.2.1=lastC x c∧p.2.2 ∉ x.2 then some (x.1++[(p.1:Int)],x.2++[p.2.2]) else none
theorem goOn_sum (tls:List Tl) (x:List Int × List Str) (c:Str) (f:Str→Int):∀ ps:List (Nat × Str × Str),((goOn x c ps).map fun y=>W tls f y.2 (lastC y c)).sum=((ps.map (·.2)).map fun p=>if p.1=lastC x c∧p.2 ∉ x.2 then W tls f (x.2++[p.2]) p.2 else 0).sum
  | []=>rfl
  | p :: ps=>by
    have ih:=goOn_sum tls x c f ps
    unfold goOn at ih ⊢
    rw [List.filterMap_cons,List.map_cons,List.map_cons,List.sum_cons,← ih]
    by_cases h:p.2.1=lastC x c∧p.2.2 ∉ x.2
    · rw [if_pos h,if_pos h]
      simp [lastC]
    · rw [if_neg h,if_neg h]
      simp
theorem goOn_W {cs:List Str} {tls:List Tl} (hT:TabOk cs tls) {x:List Int × List Str} {c:Str} (hs:Seen cs x.2) (f:Str→Int):W tls f x.2 (lastC x c)=f (lastC x c) + ((goOn x c (passI tls)).map fun y=>W tls f y.2 (lastC y c)).sum:=by
  rw [W_step hT f _ hs,goOn_sum,passI_snd]
theorem goOn_ok {cs:List Str} {tls:List Tl} (hT:TabOk cs tls) {x:List Int × List Str} {c:Str} (hs:Seen cs x.2) (hl:x.1.length≤x.2.length):∀ y∈goOn x c (passI tls),Seen cs y.2∧y.2≠[]∧y.1.length≤y.2.length:=fun y hy=>by
  obtain ⟨p,hp,e⟩:=List.mem_filterMap.mp hy
  split at e
  · rename_i h
    cases e
    have:p.2∈passesF tls:=by rw [← passI_snd];exact List.mem_map.mpr ⟨p,hp,rfl⟩
    exact ⟨hs.add h.2 (hT.pass _ this).2,by simp,by simp;exact hl⟩
  · cases e
def chainKV (l:List (Str × List U)):List (Key × U):=l.map fun e=>(Sum.inr e.1,.lst e.2)
structure ChOk (tls:List Tl) (c:Str) (l:List (Str × List U)):Prop where
  cnt:∀ f:Str→Int,(l.map fun e=>(e.2.length:Int) * f e.1).sum=W tls f [c] c
  few:l.length≤6
def spChain0:USp:=fun us M Q=>∃ (cs:List Str) (tls:List Tl) (c:Str),us=[tabU cs tls,.str c]∧TabOk cs tls∧c∈cs∧∀ (d w:Addr) (l:List (Str × Addr × List U)) (Mi:MHp),Pst M cs tls c d w l [] Mi→Q (.ref d) Mi
def spChain:USp:=fun us M Q=>∃ (cs:List Str) (tls:List Tl) (c:Str),us=[tabU cs tls,.str c]∧TabOk cs tls∧c∈cs∧∀ l:List (Str × List U),ChOk tls c l→Q (setK (chainKV l)) M
theorem ok_chain0 (F:Fun K "pass_chains" "pass_chains" s_pass_chains f fd) (hm:mg "pass_chains"=some (.ref f)) (m_enumerate:mg "enumerate"=none) (C_is_pass:Callee P w K mg base 1 "is_pass" spPass []):Callee P w K mg base 2 "pass_chains" spChain0 []:=by
  refine callee2 F hm sc_pass_chains (ar2 fun _ _ _ _ _ _ _ _=>rfl) (uss_cons (us_setC 2 sc_pass_chains.nd false ["number","tile"] 2 [] (ui_enumerate m_enumerate (ua_cons (ue_ix (uv 0) un_) ua_nil)) (ug_tup (n:=2) (ugs_cons (ug_name (k:=2) 0 (by dsimp only [compD];decide +kernel)) (ugs_cons (ug_name (k:=2) 1 (by dsimp only [compD];decide +kernel)) ugs_nil))) (uif_one (ut_val (ue_call C_is_pass (ua_cons (uv 1) ua_nil)))) (ue_tup (ua_cons (uv 0) (ua_cons (ue_ix (uv 1) un_) (ua_cons (ue_ix (ue_ix (uv 1) un_) un_) ua_nil)))))
  (uss_cons (us_set 3 sc_pass_chains.nd (ue_dnew false))
  (uss_cons (us_set 4 sc_pass_chains.nd (ue_lst (own:=true) (ua_cons (ue_tup (ua_cons (ue_lst (own:=false) ua_nil) (ua_cons (ue_lst (own:=false) (ua_cons (uv 1) ua_nil)) ua_nil))) ua_nil)))
  (uss_cons (us_while (ut_val (uv 4))
  (uss_cons (us_set 5 sc_pass_chains.nd (ue_pop (uv 4)))
  (uss_cons (us_set 6 sc_pass_chains.nd (ue_ix (uv 5) un_))
  (uss_cons (us_set 7 sc_pass_chains.nd (ue_ix (uv 5) un_))
  (uss_cons (us_expr (ue_append (ue_setdefault (uv 3) (ue_ix (uv 7) (ue_neg un_)) (ue_lst (own:=true) ua_nil)) (ua_cons (uv 6) ua_nil)))
  (uss_one (us_for (ui_seq (uv 2)) (ug_tup (n:=3) (ugs_cons (ug_name (k:=1000) 8 sc_pass_chains.nd) (ugs_cons (ug_name (k:=1000) 9 sc_pass_chains.nd) (ugs_cons (ug_name (k:=1000) 10 sc_pass_chains.nd) ugs_nil))))
  (uss_one (us_if (PWU.pt (uw_and (ut_c k_eqX (uv 9) (ue_ix (uv 7) (ue_neg un_))) (uw_and1 (ut_c k_notIn (uv 10) (uv 7)))))
  (uss_one (us_expr (ue_append (uv 4) (ua_cons (ue_tup (ua_cons (ue_add (own:=false) (uv 6) (ue_lst (own:=false) (ua_cons (uv 8) ua_nil))) (ua_cons (ue_add (own:=false) (uv 7) (ue_lst (own:=false) (ua_cons (uv 10) ua_nil))) ua_nil))) ua_nil))))
  uss_nil)))))))))
  (uss_one (us_ret (uv 3))))))) ?_
  rintro us M Q ⟨cs,tls,c,rfl,hT,hc,q⟩
  refine ⟨rfl,?_⟩
  have htl:=hT.many
  refine seq_gen fun V hV=>?_
  refine uComp_opt (S:=⟨none,numbered (tls.map Tl.toU)⟩) (M1:=M) (tls.zipIdx.map fun p=>(passOf p.1).map fun q=>passE (p.2,q)) (fun R r=>by simp! only [vw_tab];exact r) (by simp [U2.numbered]) (small (by show (numbered (tls.map Tl.toU)).length≤_;rw [numbered_len,List.length_map];omega)) (fun a e=>by cases e) ?_ ?_
  · intro k x z hx hz M' hS R r'
    obtain ⟨u,hu,rfl⟩:=numbered_get hx
    rw [List.getElem?_map] at hu hz
    rw [List.getElem?_zipIdx] at hz
    cases hk:tls[k]? with
    | none=>rw [hk] at hu;cases hu
    | some tl =>
      rw [hk] at hu hz
      cases hu
      simp only [Option.map_some,Option.some.injEq,Nat.zero_add] at hz
      subst hz
      refine ⟨rfl,?_⟩
      simp! only [hTup,hCons,hNil,hName]
      refine ⟨tl,rfl,?_⟩
      obtain ⟨nm,cl,pt,co⟩:=tl
      cases pt with
      | hole s =>
        have e1:Tl.pass ⟨nm,cl,.hole s,co⟩=true:=rfl
        simp! only [e1,vw_tl,Pt.toU]
        exact r'
      | _ =>
        simp only [Tl.pass,vw_bl,Bool.false_eq_true,if_false]
        exact r'
  · have ef:(tls.zipIdx.map fun p=>(passOf p.1).map fun q=>passE (p.2,q)).filterMap id=(passI tls).map passE:=by
      unfold passI
      generalize tls.zipIdx=L
      induction L with
      | nil=>rfl
      | cons a r ih =>
        rw [List.map_cons,List.filterMap_cons,List.filterMap_cons]
        cases passOf a.1 with
        | none=>exact ih
        | some q=>simpa using ih
    simp! only [ef,hName]
    have hpl:(passI tls).length≤14:=by
      have h1:=congrArg List.length (passI_snd tls)
      have h2:=hT.passes
      rw [List.length_map] at h1;omega
    subst hV
    refine seq_gen fun V hV=>?_
    simp! only [uAsg,hName]
    intro d hd
    subst hV
    refine seq_gen fun V hV=>?_
    simp! only [uAsg,hName]
    intro wt hwt
    have hdw:d≠wt:=fun z=>by subst z;rw [mup_same] at hwt;cases hwt
    rw [mup_ne (Ne.symm hdw)] at hwt
    subst hV
    have p0:Pst M cs tls c d wt [] [([],[c])] (mup (mup M d (mD0 false)) wt (.lst [stU ([],[c])])):=by
      refine ⟨((Sub.refl M).mup hd).mup hwt,by rw [mup_ne hdw,mup_same];rfl,mup_same,(fun e he=>by cases he),by simp,by simp,(fun e he=>by cases he),hd,hwt,hdw,fun x hx=>?_,fun f=>?_⟩
      · cases List.mem_singleton.mp hx
        exact ⟨⟨by simp,fun s hs=>by cases List.mem_singleton.mp hs;exact hc⟩,by simp,by simp⟩
      · simp [lastC]
    refine seq_gen fun V hV=>?_
    refine while_by (fun τ Mi=>∃ (l:List (Str × Addr × List U)) (st:List (List Int × List Str)) (z5 z6 z7 z8 z9 z10:Option U),τ=[some (tabU cs tls),some (.str c),some (.lst ((passI tls).map passE)),some (.ref d),some (.ref wt),z5,z6,z7,z8,z9,z10]∧Pst M cs tls c d wt l st Mi) (fun τ Mi=>(W tls (fun _=>1) [c] c).toNat - flen Mi d) ⟨[],[([],[c])],none,none,none,none,none,none,rfl,p0⟩ ?_
    rintro τ Mi ⟨l,st,z5,z6,z7,z8,z9,z10,rfl,p⟩
    have hall:=p.all hT
    have hv:view Mi (.ref wt)=.lst (st.map stU):=by simp only [view,p.hw]
    simp! only [hv]
    rcases List.eq_nil_or_concat st with rfl | ⟨st,x,rfl⟩
    · simp only [List.map_nil,List.isEmpty_nil,Bool.not_true,Bool.false_eq_true,if_false]
      show V _ _
      subst hV
      simp! only [uRet]
      exact rt_same (q d wt l Mi p)
    · rw [List.concat_eq_append] at *
      have hne:(List.map stU (st++[x])).isEmpty=false:=by simp
      obtain ⟨hS,hxn,hxl⟩:=p.ok x (by simp)
      have hsl:=hS.len
      have hcs:=hT.len
      obtain ⟨cl,e0,hce⟩:∃ cl e0,x.2=cl++[e0]:=⟨x.2.dropLast,x.2.getLast hxn,(List.dropLast_concat_getLast hxn).symm⟩
      have hlast:lastC x c=e0:=by unfold lastC;rw [hce];simp
      have hcc:lastC x c∈cs:=hS.sub _ (by rw [hlast,hce];simp)
      simp only [hne,Bool.not_false,if_true]
      refine seq_gen fun V1 hV1=>?_
      have hm1:(st++[x]).map stU=st.map stU++[stU x]:=by simp
      simp! only [uAsg,hName,p.hw,hm1,gl_1,dl_1]
      refine ⟨⟨_,hv⟩,?_⟩
      subst hV1
      refine seq_gen fun V1 hV1=>?_
      simp! only [uAsg,hName,stU]
      subst hV1
      refine seq_gen fun V1 hV1=>?_
      simp! only [uAsg,hName,stU]
      subst hV1
      refine seq_gen fun V1 hV1=>?_
      have hat:atI (x.2.map U.str) (-1)=some (.str e0):=by rw [hce];simp only [List.map_append,List.map_cons,List.map_nil,atI_m1]
      simp! only [uDrop,uDSet,hat]
      have dokl:(l.map fun e=>((Sum.inr e.1:Key),U.ref e.2.1)).length < sizeLine:=big (by have:=p.keys;rw [List.length_map];omega)
      have fin:∀ (M2:MHp) (l':List (Str × Addr × List U)),M2 wt=some (.lst (st.map stU))→Pst M cs tls c d wt l' (st++goOn x c (passI tls)) (mup M2 wt (.lst ((st++goOn x c (passI tls)).map stU)))→(l'.map fun e=>e.2.2.length).sum=(l.map fun e=>e.2.2.length).sum + 1 →
          V1 [some (tabU cs tls),some (U.str c),some (U.lst (List.map passE (passI tls))),some (U.ref d),some (U.ref wt),some (U.tup [U.lst (List.map U.int x.fst),U.lst (List.map U.str x.snd)]),some (U.lst (List.map U.int x.fst)),some (U.lst (List.map U.str x.snd)),z8,z9,z10] M2:=by
        intro M2 l' hw2 p2 hsum
        subst hV1
        refine for_by (S:=⟨none,(passI tls).map passE⟩) (M1:=M2) (fun R r=>by simp! only [true_and];exact r)
          (fun i τ Mj=>∃ (y8 y9 y10:Option U),τ=[some (tabU cs tls),some (U.str c),some (U.lst (List.map passE (passI tls))),some (U.ref d),some (U.ref wt),some (U.tup [U.lst (List.map U.int x.fst),U.lst (List.map U.str x.snd)]),some (U.lst (List.map U.int x.fst)),some (U.lst (List.map U.str x.snd)),y8,y9,y10]∧Mj=mup M2 wt (.lst ((st++goOn x c ((passI tls).take i)).map stU))) ⟨z8,z9,z10,rfl,by simp [goOn,mup_self hw2]⟩ nk ?_ ?_
        · rintro i u τ Mj e ⟨y8,y9,y10,rfl,rfl⟩
          have e':((passI tls).map passE)[i]?=some u:=e
          rw [List.getElem?_map] at e'
          cases hj:(passI tls)[i]? with
          | none=>rw [hj] at e';cases e'
          | some pp =>
            rw [hj] at e'
            cases e'
            have hi:=(List.getElem?_eq_some_iff.mp hj).1
            have hnext:goOn x c ((passI tls).take (i + 1))=goOn x c ((passI tls).take i)++(if pp.2.1=lastC x c∧pp.2.2 ∉ x.2 then [(x.1++[(pp.1:Int)],x.2++[pp.2.2])] else []):=by
              rw [List.take_add_one,hj]
              unfold goOn
              rw [List.filterMap_append]
              congr 1
              by_cases h:pp.2.1=lastC x c∧pp.2.2 ∉ x.2
              · rw [if_pos h];simp [h]
              · rw [if_neg h];simp [h]
            have hgl:(goOn x c ((passI tls).take i)).length≤14:=by
              unfold goOn
              refine Nat.le_trans (List.length_filterMap_le _ _) ?_
              rw [List.length_take];omega
            refine ⟨rfl,?_⟩
            simp! only [passE,hTup,hCons,hNil,hName]
            refine if_gen fun A B hA hB=>?_
            have hno:(¬ (pp.2.1=lastC x c∧pp.2.2 ∉ x.2))→B (mup M2 wt (.lst ((st++goOn x c ((passI tls).take i)).map stU))):=fun h=>by
              rw [if_neg h,List.append_nil] at hnext
              subst hB
              simp only [uNext]
              exact ⟨_,_,_,rfl,by rw [hnext]⟩
            have hyes:(pp.2.1=lastC x c∧pp.2.2 ∉ x.2)→A (mup M2 wt (.lst ((st++goOn x c ((passI tls).take i)).map stU))):=fun h=>by
              rw [if_pos h] at hnext
              subst hA
              have hlen1:(x.1.map U.int).length + 1≤sizeLine:=small (by rw [List.length_map];omega)
              have hlen2:(x.2.map U.str).length + 1≤sizeLine:=small (by rw [List.length_map];omega)
              simp! only [uDrop]
              refine ⟨isL_own,hlen1,hlen2,?_,_,_,_,rfl,?_⟩
              · rw [List.length_map,List.length_append,PySem.sizeLine_eq]
                have h9:=hall
                rw [List.length_append] at h9
                simp at h9
                omega
              · rw [hnext];simp [stU]
            simp! only [hat]
            rw [← hlast]
            refine ite2 (fun h1=>⟨rfl,flat_strs _,?_⟩) (fun h1=>hno fun z=>h1 (decide_eq_true z.1))
            rw [any_str]
            refine ite2 (fun h2=>hyes ⟨of_decide_eq_true h1,?_⟩) (fun h2=>hno fun z=>?_)
            · simpa using h2
            · simp at h2;exact z.2 h2
        · rintro τ Mj ⟨y8,y9,y10,rfl,rfl⟩
          have hl3:(Src.mk none ((passI tls).map passE)).xs.length=(passI tls).length:=by show ((passI tls).map passE).length=_;simp
          rw [hl3,List.take_length]
          refine ⟨⟨l',_,_,_,_,_,_,_,rfl,p2⟩,?_⟩
          rw [p2.flen,p.flen,hsum]
          rw [List.length_append] at hall
          simp at hall
          omega
      refine ⟨by simp only [isDb,dvw,mup_ne p.dw,p.hd],fun r0 hr0=>?_⟩
      have hr0w:r0≠wt:=fun z=>by rw [z,mup_same] at hr0;cases hr0
      have hr0i:Mi r0=none:=by rw [mup_ne hr0w] at hr0;exact hr0
      have hr0d:r0≠d:=fun z=>by rw [z,p.hd] at hr0i;cases hr0i
      rw [mup_ne (Ne.symm hr0d),mup_ne p.dw,p.hd]
      simp only [keyU]
      refine ⟨dokl,?_⟩
      rw [← hlast]
      cases hvu:valU (l.map fun e=>((Sum.inr e.1:Key),U.ref e.2.1)) (Sum.inr (lastC x c)) with
      | some u =>
        obtain ⟨l1,e,l2,rfl,he,rfl⟩:=own_find hvu
        have ps:=p.stray (o:=.lst []) hr0i
        obtain ⟨k1,k2,k3,k4⟩:=p.hl e (by simp)
        have her:e.2.1≠r0:=fun z=>by rw [← z,k1] at hr0i;cases hr0i
        have hm2:mup (mup Mi wt (.lst (st.map stU))) r0 (.lst []) e.2.1=some (.lst e.2.2):=by rw [mup_ne her,mup_ne k4];exact k1
        dsimp only
        rw [hm2]
        refine ⟨⟨_,view_ref hm2⟩,(by have:=len_sum (l:=l1++e :: l2) (e:=e) (by simp);rw [PySem.sizeLine_eq];omega),?_⟩
        have pn:=pst_old (u:=U.lst (x.1.map U.int)) ps he (goOn_ok hT hS hxl) fun f=>goOn_W hT hS f
        rw [mup_comm (M:=Mi) hr0w] at pn
        refine fin _ _ ?_ pn (by simp;omega)
        rw [mup_ne (Ne.symm k4),mup_ne (Ne.symm hr0w),mup_same]
      | none =>
        have pn:=pst_new (u:=U.lst (x.1.map U.int)) p hr0 hcc (own_not hvu) (goOn_ok hT hS hxl) fun f=>goOn_W hT hS f
        have hm2:mup (mup (mup Mi wt (.lst (st.map stU))) r0 (.lst [])) d (.dK (putU (l.map fun e=>((Sum.inr e.1:Key),U.ref e.2.1)) (Sum.inr (lastC x c)) (.ref r0))) r0=some (.lst []):=by rw [mup_ne hr0d,mup_same]
        dsimp only
        rw [hm2]
        refine ⟨⟨_,view_ref hm2⟩,by decide,?_⟩
        rw [putU_new hvu,mup_comm hr0d,mup_mup]
        refine fin _ _ ?_ pn (by simp)
        rw [mup_ne (Ne.symm hr0w),mup_ne (Ne.symm p.dw),mup_same]
theorem ok_pass_chains (C:Callee P w K mg base 2 "pass_chains" spChain0 []):Callee P w K mg base 2 "pass_chains" spChain []:=by
  refine U2.Callee.conv C fun us M Q h=>?_
  obtain ⟨cs,tls,c,rfl,hT,hc,q⟩:=h
  refine ⟨cs,tls,c,rfl,hT,hc,fun d w l Mi p=>?_⟩
  have hk:=p.keys
  have hl:=hT.len
  have e:(l.map fun e=>((Sum.inr e.1:Key),U.lst e.2.2))=chainKV (l.map fun e=>(e.1,e.2.2)):=by simp [chainKV]
  have hd:=p.hd
  refine cv_outL (l:=l.map fun e=>((Sum.inr e.1:Key),e.2.1,e.2.2)) p.sub (by rw [hd];simp) (fun e he=>?_) p.dn ?_
  · obtain ⟨x,hx,rfl⟩:=List.mem_map.mp he
    exact ⟨(p.hl x hx).1,(p.hl x hx).2.1⟩
  · have e2:((l.map fun e=>((Sum.inr e.1:Key),e.2.1,e.2.2)).map fun e=>(e.1,U.lst e.2.2))=chainKV (l.map fun e=>(e.1,e.2.2)):=by rw [List.map_map];exact e
    rw [e2]
    refine q _ ⟨fun f=>?_,by rw [List.length_map];omega⟩
    have:=p.cnt f
    simp only [List.map_nil,List.sum_nil,Int.add_zero] at this
    rw [List.map_map];exact this
def AllCh (tls:List Tl) (cs:List Str) (kvs:List (Key × U)):Prop:=(∀ e∈kvs,∃ c,e.1=Sum.inr c∧c∈cs)∧(∀ c∈cs,∃ l,ChOk tls c l∧valU kvs (Sum.inr c)=some (setK (chainKV l)))∧kvs.length≤1000
def spAllCh:USp:=fun us M Q=>∃ (cs:List Str) (tls:List Tl),us=[tabU cs tls]∧TabOk cs tls∧∀ kvs:List (Key × U),AllCh tls cs kvs→Q (setK kvs) M
def spAllCh0:USp:=fun us M Q=>∃ (cs:List Str) (tls:List Tl),us=[tabU cs tls]∧TabOk cs tls∧∀ (kvs:List (Key × U)) (d:Addr),M d=none→AllCh tls cs kvs→Q (.ref d) (mup M d (.dK kvs))
theorem ok_allch0 (F:Fun K "all_chains" "all_chains" s_all_chains f fd) (hm:mg "all_chains"=some (.ref f)) (C_pass_chains:Callee P w K mg base 2 "pass_chains" spChain []):Callee P w K mg base 3 "all_chains" spAllCh0 []:=by
  refine callee2 F hm sc_all_chains (ar1 fun _ _ _ _ _ _ _=>rfl) (uss_cons (us_set 1 sc_all_chains.nd (ue_dnew false))
  (uss_cons (us_for (ui_seq (ue_ix (uv 0) un_)) (ug_name (k:=1000) 2 sc_all_chains.nd)
  (uss_one (us_dput false nokF (ue_call C_pass_chains (ua_cons (uv 0) (ua_cons (uv 2) ua_nil))) (uv 1) (uv 2))))
  (uss_one (us_ret (uv 1))))) ?_
  rintro us M Q ⟨cs,tls,rfl,hT,q⟩
  refine ⟨rfl,?_⟩
  have hcs:=hT.len
  refine seq_gen fun V hV=>?_
  simp! only [uAsg,hName,bSumG]
  intro d hd
  subst hV
  refine seq_gen fun V hV=>?_
  refine for_by (S:=⟨none,cs.map U.str⟩) (M1:=mup M d (.dK [])) (fun R r=>by simp! only [vw_tab,sortsU,bSumG];exact r)
    (fun i τ Mi=>∃ (kvs:List (Key × U)) (z:Option U),τ=[some (tabU cs tls),some (.ref d),z]∧Mi=mup M d (.dK kvs)∧kvs.length≤i∧(∀ e∈kvs,∃ c,e.1=Sum.inr c∧c∈cs)∧∀ c∈cs.take i,∃ l,ChOk tls c l∧valU kvs (Sum.inr c)=some (setK (chainKV l))) ⟨[],none,rfl,rfl,by simp,by simp,by simp⟩ nk ?_ ?_
  · rintro i x τ Mi e ⟨kvs,z,rfl,rfl,hl,hk,hv⟩
    have e':(cs.map U.str)[i]?=some x:=e
    rw [List.getElem?_map] at e'
    cases hj:cs[i]? with
    | none=>rw [hj] at e';cases e'
    | some c =>
      rw [hj] at e'
      cases e'
      have hi:=(List.getElem?_eq_some_iff.mp hj).1
      have hc:=List.mem_of_getElem? hj
      simp! only [hName,uDPut,bSumG]
      refine ⟨cs,tls,c,rfl,hT,hc,fun l hch=>?_⟩
      simp! only [keyU,bSumG]
      refine ⟨big (by omega),_,_,rfl,rfl,?_,fun e he=>?_,fun c' hc'=>?_⟩
      · have:=putU_len kvs (Sum.inr c) (setK (chainKV l));omega
      · rcases putU_keys kvs _ _ e he with h | h
        · exact ⟨c,h,hc⟩
        · obtain ⟨x,hx,h2⟩:=List.mem_map.mp h
          rw [← h2];exact hk x hx
      · rw [valU_put]
        by_cases h:(Sum.inr c':Key)=Sum.inr c
        · cases h
          exact ⟨l,hch,if_pos rfl⟩
        · rw [if_neg h]
          rw [List.take_add_one,hj] at hc'
          rcases List.mem_append.mp hc' with h2 | h2
          · exact hv c' h2
          · simp at h2;exact absurd (by rw [h2]) h
  · rintro τ Mi ⟨kvs,z,rfl,rfl,hl,hk,hv⟩
    have hl3:(Src.mk none (cs.map U.str)).xs.length=cs.length:=by show (cs.map U.str).length=_;simp
    rw [hl3] at hl hv
    rw [List.take_length] at hv
    subst hV
    simp! only [uRet,bSumG]
    exact rt_same (q kvs d hd ⟨hk,hv,by omega⟩)
theorem ok_all_chains (C:Callee P w K mg base 3 "all_chains" spAllCh0 []):Callee P w K mg base 3 "all_chains" spAllCh []:=by
  refine U2.Callee.conv C fun us M Q h=>?_
  obtain ⟨cs,tls,rfl,hT,q⟩:=h
  exact ⟨cs,tls,rfl,hT,fun kvs d hd hA=>cv_out ((Sub.refl M).mup hd) mup_same hd (q kvs hA)⟩
def CntAt (tls:List Tl) (cs:List Str) (t:Tr) (ps:List (List Nat)) (kvs:List (List Key × U)):Prop:=kvs.map (·.1)=ps.map pk∧∀ p∈ps,∃ t' kv2,t.at p=some t'∧valU kvs (pk p)=some (setK kv2)∧∀ c∈cs,valU kv2 (Sum.inr c)=some (.int (cnt tls t' c))
theorem mul_ok {a b:Int} {n:Nat} (hn:n≤1000) (h1:0≤a) (h2:a≤2 ^ (64 * n)) (h3:0≤b) (h4:b≤2 ^ (64 * n)):CMulB a b:=.inr ⟨by have:=bits_of h1 h2;omega,by have:=bits_of h3 h4;omega⟩
def prodI (l:List Int):Int:=l.foldl (· * ·) 1
theorem foldl_mul (l:List Int):∀ a:Int,l.foldl (· * ·) a=a * prodI l:=by
  induction l with
  | nil=>intro a;simp [prodI]
  | cons x r ih =>
    intro a
    have h1:=ih (a * x)
    have h2:=ih (1 * x)
    unfold prodI at *
    rw [List.foldl_cons,List.foldl_cons,h1,h2]
    rw [Int.one_mul,Int.mul_assoc]
theorem prodI_snoc (l:List Int) (x:Int):prodI (l++[x])=prodI l * x:=by unfold prodI;rw [List.foldl_append];rfl
theorem prodG_prodI (g:Tr→Str→Int):∀ l:List (Tr × Str),prodG g l=prodI (l.map fun x=>g x.1 x.2)
  | []=>rfl
  | x :: r=>by
    rw [prodG,prodG_prodI g r,List.map_cons]
    show _=(List.map (fun x=>g x.1 x.2) r).foldl (· * ·) (1 * g x.1 x.2)
    rw [foldl_mul,Int.one_mul]
theorem prod_take_bound {cs:List Str} {tls:List Tl} (hT:TabOk cs tls) {tl:Tl} {t:Tr} (hl:lieF tl.pt t=true) (i:Nat):0≤prodI (((holesT tl.pt t).take i).map fun x=>cnt tls x.1 x.2)∧prodI (((holesT tl.pt t).take i).map fun x=>cnt tls x.1 x.2)≤2 ^ (64 * t.size):=by
  have hs:=size_laid tl.pt t hl
  obtain ⟨h1,h2⟩:=prod_bound (g:=cnt tls) ((holesT tl.pt t).take i) fun x _=>cnt_bound hT _ x.1 (Nat.le_refl _) x.2
  rw [prodG_prodI] at h1 h2
  refine ⟨h1,Int.le_trans h2 (pow2_le (Nat.mul_le_mul_left _ ?_))⟩
  have e:((holesT tl.pt t).map (·.1)).map Tr.size=(K24.hT tl.pt t).map Tr.size:=rfl
  have:((((holesT tl.pt t).take i).map (·.1)).map Tr.size).sum≤(((holesT tl.pt t).map (·.1)).map Tr.size).sum:=by
    rw [List.map_take,List.map_take]
    have h3:=List.take_append_drop i (((holesT tl.pt t).map (·.1)).map Tr.size)
    have h4:=congrArg List.sum h3
    rw [List.sum_append] at h4
    omega
  rw [e] at this
  omega
def sumLd (g:Ld→Int) (ls:List Ld) (c:Str):Int:=(ls.map fun l=>if l.cls=c then g l else 0).sum
def FirstOk (top:Str→Int) (kvs:List (Key × U)):Prop:=(∀ c:Str,(valU kvs (Sum.inr c)=some (.int (top c)))∨(valU kvs (Sum.inr c)=none∧top c=0))∧kvs.length≤1000
structure LdAt (tls:List Tl) (cs:List Str) (t:Tr) (kvs:List (List Key × U)) (l:Ld) (ns:List Int) (B:Nat):Prop where
  len:ns.length=l.spots.length
  small:l.spots.length≤64
  at':∀ (i:Nat) s,l.spots[i]?=some s→∃ kv2 v,valU kvs (pk s.1)=some (setK kv2)∧valU kv2 (Sum.inr s.2)=some (.int v)∧ns[i]?=some v
  lo:∀ n∈ns,0≤n∧n≤2 ^ (64 * B)
  pre:∀ i,0≤prodI (ns.take i)∧prodI (ns.take i)≤2 ^ (64 * B)
def spFirst0:USp:=fun us M Q=>∃ (tls:List Tl) (cs:List Str) (t:Tr) (ls:List Ld) (ct:U) (kvs:List (List Key × U)) (g:Ld→Int) (B:Nat),us=[.lst (ls.map Ld.toU),ct]∧dvw M ct=some (.dT kvs)∧B≤1000∧ls.length≤100∧(∀ l∈ls,∃ ns,LdAt tls cs t kvs l ns B∧g l=prodI ns)∧∀ (kv:List (Key × U)) (d:Addr),M d=none→FirstOk (sumLd g ls) kv→Q (.ref d) (mup M d (.dK kv))
def spFirst:USp:=fun us M Q=>∃ (tls:List Tl) (cs:List Str) (t:Tr) (ls:List Ld) (ct:U) (kvs:List (List Key × U)) (g:Ld→Int) (B:Nat),us=[.lst (ls.map Ld.toU),ct]∧dvw M ct=some (.dT kvs)∧B≤1000∧ls.length≤100∧(∀ l∈ls,∃ ns,LdAt tls cs t kvs l ns B∧g l=prodI ns)∧∀ (kv:List (Key × U)),FirstOk (sumLd g ls) kv→Q (setK kv) M
theorem dvw_mup {M:MHp} {x:U} {d:Addr} {o:MO} {mo:MO} (hd:M d=none) (h:dvw M x=some mo):dvw (mup M d o) x=some mo:=by
  cases x with
  | ref a=>exact (mup_ne (fun z=>by subst z;rw [show dvw M (.ref a)=M a from rfl,hd] at h;cases h)).trans h
  | dic ks tk us=>cases tk <;> exact h
  | _=>cases h
theorem ok_first0 (F:Fun K "first_counts" "first_counts" s_first_counts f fd) (hm:mg "first_counts"=some (.ref f)):Callee P w K mg base 1 "first_counts" spFirst0 []:=by
  refine callee2 F hm sc_first_counts (ar2 fun _ _ _ _ _ _ _ _=>rfl) (uss_cons (us_set 2 sc_first_counts.nd (ue_dnew false))
  (uss_cons (us_for (ui_seq (uv 0)) (ug_tup (n:=4) (ugs_cons (ug_name (k:=1000) 3 sc_first_counts.nd) (ugs_cons (ug_name (k:=1000) 4 sc_first_counts.nd) (ugs_cons (ug_name (k:=1000) 5 sc_first_counts.nd) (ugs_cons (ug_name (k:=1000) 6 sc_first_counts.nd) ugs_nil)))))
  (uss_cons (us_set 7 sc_first_counts.nd un_)
  (uss_cons (us_for (ui_seq (uv 6)) (ug_tup (n:=2) (ugs_cons (ug_name (k:=1000) 8 sc_first_counts.nd) (ugs_cons (ug_name (k:=1000) 9 sc_first_counts.nd) ugs_nil)))
  (uss_one (us_set 7 sc_first_counts.nd (ue_mulX (own:=false) (uv 7) (ue_dget false nokF (ue_dget true (fun _=>True.intro) (uv 1) (uv 8)) (uv 9))))))
  (uss_one (us_dput false nokF (ue_add (own:=false) (ue_dget2 false nokF (uv 2) (uv 4) un_) (uv 7)) (uv 2) (uv 4))))))
  (uss_one (us_ret (uv 2))))) ?_
  rintro us M Q ⟨tls,cs,t,ls,ct,kvs,g,B,rfl,hct,hB,hll,hls,q⟩
  refine ⟨rfl,?_⟩
  refine seq_gen fun V hV=>?_
  simp! only [uAsg,hName,bSumG]
  intro d hd
  subst hV
  refine seq_gen fun V hV=>?_
  refine for_by (S:=⟨none,ls.map Ld.toU⟩) (M1:=mup M d (.dK [])) (fun R r=>by simp! only [bSumG];exact r)
    (fun i τ Mi=>∃ (kv:List (Key × U)) (z3 z4 z5 z6 z7 z8 z9:Option U),τ=[some (.lst (ls.map Ld.toU)),some ct,some (.ref d),z3,z4,z5,z6,z7,z8,z9]∧Mi=mup M d (.dK kv)∧FirstOk (sumLd g (ls.take i)) kv∧kv.length≤i) ⟨[],none,none,none,none,none,none,none,rfl,rfl,⟨fun c=>.inr ⟨rfl,by simp [sumLd]⟩,by simp⟩,by simp⟩ nk ?_ ?_
  · rintro i x τ Mi e ⟨kv,z3,z4,z5,z6,z7,z8,z9,rfl,rfl,hf,hkl⟩
    have e':(ls.map Ld.toU)[i]?=some x:=e
    rw [List.getElem?_map] at e'
    cases hj:ls[i]? with
    | none=>rw [hj] at e';cases e'
    | some l =>
      rw [hj] at e'
      cases e'
      have hi:=(List.getElem?_eq_some_iff.mp hj).1
      obtain ⟨ns,hL,hg⟩:=hls l (List.mem_of_getElem? hj)
      have hct2:dvw (mup M d (.dK kv)) ct=some (.dT kvs):=dvw_mup hd hct
      refine ⟨rfl,?_⟩
      simp! only [Ld.toU,hTup,hCons,hNil,hName,bSumG]
      refine seq_gen fun V1 hV1=>?_
      simp! only [uAsg,hName,bSumG]
      subst hV1
      refine seq_gen fun V1 hV1=>?_
      refine for_by (S:=⟨none,l.spots.map entH⟩) (M1:=mup M d (.dK kv)) (fun R r=>by simp! only [bSumG];exact r)
        (fun k τ Mi=>∃ (y8 y9:Option U),τ=[some (.lst (ls.map Ld.toU)),some ct,some (.ref d),some (.int l.n),some (.str l.cls),some (.int l.price),some (.lst (l.spots.map entH)),some (.int (prodI (ns.take k))),y8,y9]∧Mi=mup M d (.dK kv)) ⟨z8,z9,by simp [prodI],rfl⟩ nk ?_ ?_
      · rintro k y τ Mi ek ⟨y8,y9,rfl,rfl⟩
        have ek':(l.spots.map entH)[k]?=some y:=ek
        rw [List.getElem?_map] at ek'
        cases hk:l.spots[k]? with
        | none=>rw [hk] at ek';cases ek'
        | some s =>
          rw [hk] at ek'
          cases ek'
          obtain ⟨kv2,v,h1,h2,h3⟩:=hL.at' k s hk
          obtain ⟨hv0,hv1⟩:=hL.lo v (List.mem_of_getElem? h3)
          obtain ⟨hp0,hp1⟩:=hL.pre k
          refine ⟨rfl,?_⟩
          have lk1:=look_T s.1 hct2
          have lk2:=look_K (M:=mup M d (.dK kv)) s.2 (setK_dvw _ kv2)
          rw [h1] at lk1
          rw [h2] at lk2
          simp! only [uAsg,entH,hTup,hCons,hNil,hName,lk1,lk2,bSumG]
          have hpn:prodI (ns.take (k + 1))=prodI (ns.take k) * v:=by rw [List.take_add_one,h3,show (some v).toList=[v] from rfl,prodI_snoc]
          exact ⟨mul_ok hB hp0 hp1 hv0 hv1,some (placeU s.1),some (.str s.2),by rw [hpn]⟩
      · rintro τ Mi ⟨y8,y9,rfl,rfl⟩
        have hl3:(Src.mk none (l.spots.map entH)).xs.length=ns.length:=by show (l.spots.map entH).length=_;rw [List.length_map,hL.len]
        rw [hl3,List.take_length,← hg]
        subst hV1
        have lk3:=look_K (M:=mup M d (.dK kv)) (x:=.ref d) l.cls mup_same
        simp! only [uDPut,isD_K (M:=mup M d (.dK kv)) (x:=.ref d) mup_same,lk3,bSumG]
        have hsum:∀ c:Str,sumLd g (ls.take (i + 1)) c=sumLd g (ls.take i) c + (if l.cls=c then g l else 0):=fun c=>by
          unfold sumLd
          rw [List.take_add_one,hj,List.map_append,List.sum_append]
          simp
        have hput:∀ v:Int,v=sumLd g (ls.take i) l.cls + g l→FirstOk (sumLd g (ls.take (i + 1))) (putU kv (Sum.inr l.cls) (.int v))∧(putU kv (Sum.inr l.cls) (.int v)).length≤i + 1:=fun v hv=>by
          have hpl:=putU_len kv (Sum.inr l.cls) (.int v)
          refine ⟨⟨fun c=>?_,by omega⟩,by omega⟩
          rw [valU_put,hsum]
          by_cases hc:(Sum.inr c:Key)=Sum.inr l.cls
          · cases hc
            rw [if_pos rfl,if_pos rfl,hv];exact .inl rfl
          · rw [if_neg hc,if_neg (fun z=>hc (by rw [z]))]
            have:=hf.1 c
            simpa using this
        rcases hf.1 l.cls with h | ⟨h,h0⟩
        · rw [h]
          simp! only [keyU,bSumG]
          obtain ⟨g1,g2⟩:=hput _ rfl
          exact ⟨big (by omega),_,_,_,_,_,_,_,_,rfl,rfl,g1,g2⟩
        · rw [h]
          simp! only [Option.getD_none,keyU,bSumG]
          obtain ⟨g1,g2⟩:=hput (0 + g l) (by rw [h0])
          exact ⟨big (by omega),_,_,_,_,_,_,_,_,rfl,rfl,g1,g2⟩
  · rintro τ Mi ⟨kv,z3,z4,z5,z6,z7,z8,z9,rfl,rfl,hf,hkl⟩
    have hl3:(Src.mk none (ls.map Ld.toU)).xs.length=ls.length:=by show (ls.map Ld.toU).length=_;simp
    rw [hl3,List.take_length] at hf
    subst hV
    simp! only [uRet,bSumG]
    exact rt_same (q kv d hd hf)
theorem ok_first_counts (C:Callee P w K mg base 1 "first_counts" spFirst0 []):Callee P w K mg base 1 "first_counts" spFirst []:=by
  refine U2.Callee.conv C fun us M Q h=>?_
  obtain ⟨tls,cs,t,ls,ct,kvs,g,B,rfl,hct,hB,hll,hls,q⟩:=h
  exact ⟨tls,cs,t,ls,ct,kvs,g,B,rfl,hct,hB,hll,hls,fun kv d hd hf=>cv_out ((Sub.refl M).mup hd) mup_same hd (q kv hf)⟩
theorem done_mem {t:Tr} {A B:List (List Nat)} {p q:List Nat} (hs:t.places=A++p :: B) (hq:q∈t.places) (hp:p <+: q) (hn:q≠p):q∈B:=by
  have h:=places_pre t
  rw [hs] at h hq
  rcases List.mem_append.mp hq with h1 | h1
  · exact absurd hp ((List.pairwise_append.mp h).2.2 q h1 p List.mem_cons_self)
  · rcases List.mem_cons.mp h1 with h2 | h2
    · exact absurd h2 hn
    · exact h2
def cntS (tls:List Tl) (t:Tr) (s:List Nat × Str):Int:=match t.at s.1 with
  | some t'=>cnt tls t' s.2
  | none=>0
def gLd (tls:List Tl) (t:Tr) (l:Ld):Int:=prodI (l.spots.map (cntS tls t))
theorem spots_cnt {tls:List Tl} {t t':Tr} {p:List Nat} {pt:Pt} (ht:t.at p=some t') (hl:lieF pt t'=true):((hls pt).map fun e=>(p++e.1,e.2)).map (cntS tls t)=(holesT pt t').map fun x=>cnt tls x.1 x.2:=by
  obtain ⟨bs,h1,_,h3⟩:=holes_at pt t' [] hl
  have h0:=(hole_at pt t' [] hl).1
  refine List.ext_getElem? fun i=>?_
  rw [List.map_map,List.getElem?_map,List.getElem?_map]
  cases hi:(hls pt)[i]? with
  | none =>
    have:(holesT pt t')[i]?=none:=by
      rw [List.getElem?_eq_none_iff] at hi ⊢
      have e:(hls pt).length=(holesT pt t').length:=h0
      omega
    rw [this];rfl
  | some e =>
    have hb:i < bs.length:=by
      have:=(List.getElem?_eq_some_iff.mp hi).1
      have e2:(hls pt).length=bs.length:=h1.symm
      omega
    obtain ⟨s,t'',e1,e2,_,_,e5⟩:=h3 i e bs[i] hi (List.getElem?_eq_getElem hb)
    rw [e5]
    simp only [Option.map_some,Function.comp,cntS]
    rw [List.nil_append] at e1
    rw [e1,at_app t p s t' ht,e2]
theorem sum_top {tls:List Tl} {t t':Tr} {p:List Nat} (ht:t.at p=some t') (c:Str):∀ (l:List Tl) (k:Nat),(∀ j,tls[k + j]?=l[j]?)→sumLd (gLd tls t) ((laidF t' p k l).filter fun l=>!isP tls l) c=topO (cnt tls) t' c l
  | [],k,_=>by simp [laidF,sumLd,topO]
  | a :: l,k,h=>by
    have h0:tls[k]?=some a:=by simpa using h 0
    have ih:=sum_top ht c l (k + 1) fun j=>by
      have:=h (j + 1)
      rw [show k + 1 + j=k + (j + 1) by omega,this];simp
    simp only [laidF,topO]
    rw [List.filter_append]
    unfold sumLd at ih ⊢
    rw [List.map_append,List.sum_append,ih]
    congr 1
    by_cases hl:lieF a.pt t'=true
    · rw [if_pos hl]
      have hp:isP tls ⟨k,a.cls,a.cost,(hls a.pt).map fun e=>(p++e.1,e.2)⟩=a.pass:=by unfold isP;simp only [h0]
      rw [List.filter_cons,hp]
      cases hpp:a.pass with
      | true=>simp
      | false =>
        simp only [Bool.not_false,if_true,List.filter_nil,List.map_cons,List.map_nil,List.sum_cons,List.sum_nil,Int.add_zero,hl,true_and]
        by_cases hc:a.cls=c
        · rw [if_pos hc,if_pos hc,prodG_prodI]
          unfold gLd
          rw [spots_cnt ht hl]
        · rw [if_neg hc,if_neg hc]
    · rw [if_neg hl,if_neg (fun z=>hl z.2.1)];simp
theorem sum_laidN {tls:List Tl} {t t':Tr} {p:List Nat} (ht:t.at p=some t') (c:Str):sumLd (gLd tls t) (laidN tls t p) c=topC tls t' c:=by
  unfold laidN
  rw [ht]
  exact sum_top ht c tls 0 fun j=>by rw [Nat.zero_add]
theorem ld_at0 {cs:List Str} {tls:List Tl} {t t':Tr} {p:List Nat} {A B:List (List Nat)} {kvs:List (List Key × U)} (hT:TabOk cs tls) (hs:t.places=A++p :: B) (ht:t.at p=some t') (hc:CntAt tls cs t B.reverse kvs):∀ l∈laidN tls t p,LdAt tls cs t kvs l (l.spots.map (cntS tls t)) t.size:=fun l hl=>by
  unfold laidN at hl
  rw [ht] at hl
  obtain ⟨hl1,hl2⟩:=List.mem_filter.mp hl
  obtain ⟨_,tl,h2,_,_,hlie,hsp⟩:=laid_n t' p tls 0 l hl1
  rw [Nat.sub_zero] at h2
  have htl:=List.mem_of_getElem? h2
  have hps:tl.pass=false:=by
    unfold isP at hl2
    rw [h2] at hl2
    simpa using hl2
  have hdep:=hT.dep tl htl
  have hsz:=at_size t p t' ht
  refine ⟨by simp,?_,fun i s hi=>?_,fun n hn=>?_,fun i=>?_⟩
  · rw [hsp,List.length_map];exact hls_len tl.pt (by omega)
  · have hi':=hi
    rw [hsp,List.getElem?_map] at hi
    cases he:(hls tl.pt)[i]? with
    | none=>rw [he] at hi;cases hi
    | some e =>
      rw [he] at hi
      cases hi
      obtain ⟨bs,h1,_,h3⟩:=holes_at tl.pt t' [] hlie
      have hb:i < bs.length:=by
        have:=(List.getElem?_eq_some_iff.mp he).1
        have e2:(hls tl.pt).length=bs.length:=h1.symm
        omega
      obtain ⟨s,t'',e1,e2,_,e4,e5⟩:=h3 i e bs[i] he (List.getElem?_eq_getElem hb)
      rw [List.nil_append] at e1
      have hne:e.1≠[]:=fun z=>by
        obtain ⟨c,hh⟩:=e4 (by rw [← e1];exact z)
        obtain ⟨nm,cl,pt,co⟩:=tl
        simp only at hh;subst hh
        cases hps
      have hat:t.at (p++e.1)=some t'':=by rw [e1,at_app t p s t' ht];exact e2
      have hmem:=done_mem hs (place_at t _ _ hat) (List.prefix_append p e.1) (fun z=>hne (by simpa using z))
      obtain ⟨t3,kv2,g1,g2,g3⟩:=hc.2 (p++e.1) (List.mem_reverse.mpr hmem)
      rw [hat] at g1;cases g1
      have hcl:e.2∈cs:=by
        refine hT.hole tl htl e.2 ?_
        rw [← holes_cls tl.pt t' hlie]
        exact List.mem_map.mpr ⟨(t'',e.2),List.mem_of_getElem? e5,rfl⟩
      refine ⟨kv2,cnt tls t'' e.2,g2,g3 _ hcl,?_⟩
      rw [List.getElem?_map,hi']
      simp only [Option.map_some,cntS,hat]
  · obtain ⟨s,_,rfl⟩:=List.mem_map.mp hn
    unfold cntS
    split
    · rename_i t3 h3
      have:=at_size t s.1 t3 h3
      obtain ⟨g1,g2⟩:=cnt_bound hT _ t3 (Nat.le_refl _) s.2
      exact ⟨g1,Int.le_trans g2 (pow2_le (Nat.mul_le_mul_left _ this))⟩
    · exact ⟨Int.le_refl _,Int.le_of_lt (Int.pow_pos (by decide))⟩
  · rw [hsp,spots_cnt ht hlie,← List.map_take]
    obtain ⟨g1,g2⟩:=prod_take_bound hT (tl:=tl) hlie i
    exact ⟨g1,Int.le_trans g2 (pow2_le (Nat.mul_le_mul_left _ hsz))⟩
theorem ld_at {cs:List Str} {tls:List Tl} {t t':Tr} {p:List Nat} {A B:List (List Nat)} {kvs:List (List Key × U)} (hT:TabOk cs tls) (hs:t.places=A++p :: B) (ht:t.at p=some t') (hc:CntAt tls cs t B.reverse kvs):∀ l∈laidN tls t p,∃ ns,LdAt tls cs t kvs l ns t.size∧gLd tls t l=prodI ns:=fun l hl=>⟨_,ld_at0 hT hs ht hc l hl,rfl⟩
theorem keys_laid (tls:List Tl) (t:Tr) (ps:List (List Nat)):keyUs true ((laidKV tls t ps).map (·.1))=ps.map placeU:=by
  unfold keyUs laidKV
  rw [List.map_map,List.map_map]
  exact List.map_congr_left fun p _=>key_pk p
theorem cnt_add {tls:List Tl} {cs:List Str} {t t':Tr} {ps:List (List Nat)} {p:List Nat} {kvs:List (List Key × U)} {kv2:List (Key × U)} (h:CntAt tls cs t ps kvs) (hn:p ∉ ps) (ht:t.at p=some t') (hc:∀ c∈cs,valU kv2 (Sum.inr c)=some (.int (cnt tls t' c))):CntAt tls cs t (ps++[p]) (kvs++[(pk p,setK kv2)]):=by
  have hno:valU kvs (pk p)=none:=valU_none fun z=>by
    rw [h.1] at z
    obtain ⟨q,hq,e⟩:=List.mem_map.mp z
    exact hn (pk_inj e ▸ hq)
  refine ⟨by simp [h.1],fun q hq=>?_⟩
  by_cases e:q=p
  · subst e
    exact ⟨t',kv2,ht,by rw [valU_snoc hno,if_pos rfl],hc⟩
  · rcases List.mem_append.mp hq with h2 | h2
    · obtain ⟨t3,kv3,g1,g2,g3⟩:=h.2 q h2
      exact ⟨t3,kv3,g1,by rw [valU_snoc hno,if_neg (fun z=>e (pk_inj z))];exact g2,g3⟩
    · exact absurd (List.mem_singleton.mp h2) e
theorem pairs_chain (l:List (Str × List U)):pairUs false ((chainKV l).map fun e=>[e.1]) ((chainKV l).map (·.2))=l.map fun e=>.tup [.str e.1,.lst e.2]:=by
  unfold pairUs chainKV
  induction l with
  | nil=>rfl
  | cons a r ih=>simp only [List.map_cons,List.zip_cons_cons,List.cons.injEq];exact ⟨rfl,ih⟩
theorem ch_len {cs:List Str} {tls:List Tl} {c:Str} {l:List (Str × List U)} (hT:TabOk cs tls) (h:ChOk tls c l):∀ e∈l,e.2.length≤11390625:=fun e he=>by
  have h1:=h.cnt fun _=>1
  have h2:=W_bound hT (f:=fun _=>1) (F:=1) (by decide) (fun _=>Int.le_refl _) [c] c
  have h3:(l.map fun e=>(e.2.length:Int) * 1).sum=(((l.map fun e=>e.2.length).sum:Nat):Int):=by
    clear h1 he h
    induction l with
    | nil=>rfl
    | cons a r ih=>rw [List.map_cons,List.map_cons,List.sum_cons,List.sum_cons,ih];push_cast;omega
  have h4:e.2.length≤(l.map fun e=>e.2.length).sum:=mem_sum (List.mem_map.mpr ⟨e,he,rfl⟩)
  omega
theorem valU_mem {κ:Type} [DecidableEq κ] {kvs:List (κ × U)} {k:κ} {u:U} (h:valU kvs k=some u):∃ e∈kvs,e.1=k:=by
  induction kvs with
  | nil=>cases h
  | cons a r ih =>
    by_cases e:a.1=k
    · exact ⟨a,List.mem_cons_self,e⟩
    · rw [valU_neg e] at h
      obtain ⟨x,hx,h2⟩:=ih h
      exact ⟨x,List.mem_cons_of_mem _ hx,h2⟩
def spCount0:USp:=fun us M Q=>∃ (cs:List Str) (tls:List Tl) (t:Tr) (chs:List (Key × U)),us=[setT (laidKV tls t t.places),setK chs]∧TabOk cs tls∧t.size≤40∧AllCh tls cs chs∧∀ (kvs:List (List Key × U)) (d:Addr) (Mi:MHp),Sub M Mi→Mi d=some (.dT kvs)→M d=none→CntAt tls cs t t.places.reverse kvs→Q (.ref d) Mi
def spCount:USp:=fun us M Q=>∃ (cs:List Str) (tls:List Tl) (t:Tr) (chs:List (Key × U)),us=[setT (laidKV tls t t.places),setK chs]∧TabOk cs tls∧t.size≤40∧AllCh tls cs chs∧∀ (kvs:List (List Key × U)),CntAt tls cs t t.places.reverse kvs→Q (setT kvs) M
theorem ok_count0 (F:Fun K "count_covers" "count_covers" s_count_covers f fd) (hm:mg "count_covers"=some (.ref f)) (m_reversed:mg "reversed"=none) (m_list:mg "list"=none) (m_sum:mg "sum"=none) (m_len:mg "len"=none) (C_first_counts:Callee P w K mg base 1 "first_counts" spFirst []):Callee P w K mg base 2 "count_covers" spCount0 []:=by
  refine callee2 F hm sc_count_covers (ar2 fun _ _ _ _ _ _ _ _=>rfl) (uss_cons (us_set 2 sc_count_covers.nd (ue_dnew true))
  (uss_cons (us_for (ui_reversed m_reversed (ua_cons (ue_t (b_listD (own:=false)) m_list (ua_cons (uv 0) ua_nil)) ua_nil)) (ug_name (k:=1000) 3 sc_count_covers.nd)
  (uss_cons (us_set 4 sc_count_covers.nd (ue_call C_first_counts (ua_cons (ue_dget true (fun _=>True.intro) (uv 0) (uv 3)) (ua_cons (uv 2) ua_nil))))
  (uss_cons (us_set 5 sc_count_covers.nd (ue_dnew false))
  (uss_cons (us_for (ui_keys (uv 1)) (ug_name (k:=1000) 6 sc_count_covers.nd)
  (uss_one (us_dput false nokF (ue_b b_sumG m_sum (ua_cons (ue_comp false ["end","numbers","first"] 2 [4] (ui_items (ue_dget false nokF (uv 1) (uv 6))) (ug_tup (n:=2) (ugs_cons (ug_name (k:=2) 0 (by dsimp only [compD];decide +kernel)) (ugs_cons (ug_name (k:=2) 1 (by dsimp only [compD];decide +kernel)) ugs_nil))) uif_nil (ue_mulX (own:=false) (ue_b b_len m_len (ua_cons (uv 1) ua_nil)) (ue_dget2 false nokF (uv 2) (uv 0) un_))) ua_nil)) (uv 5) (uv 6))))
  (uss_one (us_cv (us_dput true (fun _=>True.intro) (uv 5) (uv 2) (uv 3))))))))
  (uss_one (us_ret (uv 2))))) ?_
  rintro us M Q ⟨cs,tls,t,chs,rfl,hT,hs,hA,q⟩
  refine ⟨rfl,?_⟩
  have hpl:=places_size t
  have hnd:=places_nd t
  have htl:=hT.many
  have hcs:=hT.len
  refine seq_gen fun V hV=>?_
  simp! only [uAsg,hName,bSumG]
  intro d hd
  subst hV
  refine seq_gen fun V hV=>?_
  refine for_by (S:=⟨none,(t.places.map placeU).reverse⟩) (M1:=mup M d (.dT [])) (fun R r=>by
      simp! only [setT,bSumG]
      rw [keys_laid];exact r)
    (fun i τ Mi=>∃ (kvs:List (List Key × U)) (z3 z4 z5 z6:Option U),τ=[some (setT (laidKV tls t t.places)),some (setK chs),some (.ref d),z3,z4,z5,z6]∧Mi d=some (.dT kvs)∧Sub M Mi∧CntAt tls cs t (t.places.reverse.take i) kvs) ⟨[],none,none,none,none,rfl,mup_same,(Sub.refl M).mup hd,rfl,by simp⟩ nk ?_ ?_
  · rintro i x τ Mi e ⟨kvs,z3,z4,z5,z6,rfl,hMd,hsub,hC⟩
    have e':(t.places.map placeU).reverse[i]?=some x:=e
    rw [← List.map_reverse,List.getElem?_map] at e'
    cases hj:t.places.reverse[i]? with
    | none=>rw [hj] at e';cases e'
    | some p =>
      rw [hj] at e'
      cases e'
      have hi:=(List.getElem?_eq_some_iff.mp hj).1
      have hsplit:t.places.reverse=t.places.reverse.take i++p :: t.places.reverse.drop (i + 1):=by
        have:=List.getElem_cons_drop hi
        rw [(List.getElem?_eq_some_iff.mp hj).2] at this
        rw [this,List.take_append_drop]
      have hpl2:t.places=(t.places.reverse.drop (i + 1)).reverse++p :: (t.places.reverse.take i).reverse:=by
        have:=congrArg List.reverse hsplit
        rw [List.reverse_reverse,List.reverse_append,List.reverse_cons,List.append_assoc] at this
        exact this
      have hmem:p∈t.places:=List.mem_reverse.mp (List.mem_of_getElem? hj)
      obtain ⟨t',ht⟩:=at_place t p hmem
      have hnew:p ∉ t.places.reverse.take i:=by
        have h2:t.places.reverse.Nodup:=List.pairwise_reverse.mpr (hnd.imp fun {a b} h=>Ne.symm h)
        rw [hsplit] at h2
        exact fun z=>(List.nodup_append.mp h2).2.2 p z p List.mem_cons_self rfl
      have hld:=ld_at hT hpl2 ht (by rw [List.reverse_reverse];exact hC)
      have hkl:kvs.length≤40:=by
        have:=congrArg List.length hC.1
        rw [List.length_map,List.length_map,List.length_take,List.length_reverse] at this
        omega
      have hll:(laidN tls t p).length≤100:=by
        unfold laidN;rw [ht]
        refine Nat.le_trans (List.length_filter_le _ _) ?_
        have:=laid_len t' p tls 0;omega
      have lk1:=look_T (M:=Mi) p (setT_dvw Mi (laidKV tls t t.places))
      rw [laidKV_some hmem] at lk1
      simp! only [hName,bSumG]
      refine seq_gen fun V1 hV1=>?_
      simp! only [uAsg,hName,lk1,bSumG]
      refine ⟨tls,cs,t,laidN tls t p,.ref d,kvs,gLd tls t,t.size,rfl,hMd,by omega,hll,hld,fun kv hf=>?_⟩
      subst hV1
      refine seq_gen fun V1 hV1=>?_
      simp! only [uAsg,hName,bSumG]
      intro r hr
      have hrd:r≠d:=fun z=>by rw [z,hMd] at hr;cases hr
      have hMr:M r=none:=by
        cases h:M r with
        | none=>rfl
        | some mo=>rw [hsub r mo h] at hr;cases hr
      subst hV1
      refine seq_gen fun V1 hV1=>?_
      refine for_by (S:=⟨none,keyUs false (chs.map fun e=>[e.1])⟩) (M1:=mup Mi r (.dK [])) (fun R r=>by simp! only [setK,bSumG];exact r)
        (fun k τ Mj=>∃ (kv2:List (Key × U)) (y6:Option U),τ=[some (setT (laidKV tls t t.places)),some (setK chs),some (.ref d),some (placeU p),some (setK kv),some (.ref r),y6]∧Mj=mup Mi r (.dK kv2)∧kv2.length≤k∧∀ e∈chs.take k,∀ c,e.1=Sum.inr c→valU kv2 (Sum.inr c)=some (.int (cnt tls t' c))) ⟨[],z6,rfl,rfl,by simp,by simp⟩ nk ?_ ?_
      · rintro k y τ Mj ek ⟨kv2,y6,rfl,rfl,hk2,hv2⟩
        have ek':(keyUs false (chs.map fun e=>[e.1]))[k]?=some y:=ek
        simp only [keyUs,List.getElem?_map] at ek'
        cases hk:chs[k]? with
        | none=>rw [hk] at ek';cases ek'
        | some e0 =>
          rw [hk] at ek'
          obtain ⟨c,hec,hc⟩:=hA.1 e0 (List.mem_of_getElem? hk)
          have hy:y=.str c:=by
            simp only [Option.map_some,Option.some.injEq,keyOf,hd1,Bool.false_eq_true,if_false,hec] at ek'
            exact ek'.symm
          subst hy
          have hki:=(List.getElem?_eq_some_iff.mp hk).1
          have hch6:=hA.2.2
          obtain ⟨l,hch,hvc⟩:=hA.2.1 c hc
          have lkc:=look_K (M:=mup Mi r (.dK kv2)) c (setK_dvw _ chs)
          rw [hvc] at lkc
          have hfew:=hch.few
          simp! only [hName,uDPut,bSumG]
          refine uComp_list (S:=⟨none,l.map fun e=>.tup [.str e.1,.lst e.2]⟩) (M1:=mup Mi r (.dK kv2)) (l.map fun e=>.int ((e.2.length:Int) * topC tls t' e.1)) (fun R r'=>by
              simp! only [lkc,bSumG]
              unfold setK
              dsimp only
              rw [pairs_chain];exact r') (by simp) (small (by show (l.map _).length≤_;rw [List.length_map];omega)) (fun a e=>by cases e) ?_ ?_
          · intro m x z hx hz M' hS R r'
            have hx':(l.map fun e=>U.tup [.str e.1,.lst e.2])[m]?=some x:=hx
            rw [List.getElem?_map] at hx' hz
            cases hm':l[m]? with
            | none=>rw [hm'] at hx';cases hx'
            | some e1 =>
              rw [hm'] at hx' hz
              cases hx';cases hz
              have hlen:=ch_len hT hch e1 (List.mem_of_getElem? hm')
              have hst:=sum_laidN (tls:=tls) ht e1.1
              have lkf:=look_K (M:=M') e1.1 (setK_dvw M' kv)
              have hR:R (.int ((e1.2.length:Int) * topC tls t' e1.1)) M':=r'
              have hcm:CMulB (e1.2.length:Int) (topC tls t' e1.1):=.inl (.inl ⟨by omega,by omega⟩)
              refine ⟨rfl,?_⟩
              rcases hf.1 e1.1 with h | ⟨h,h0⟩
              · rw [h,hst] at lkf
                simp! only [hTup,hCons,hNil,hName,isD_K (setK_dvw M' kv),lkf,bSumG]
                exact ⟨hcm,hR⟩
              · rw [h] at lkf
                rw [hst] at h0
                rw [h0] at hR hcm
                simp! only [hTup,hCons,hNil,hName,isD_K (setK_dvw M' kv),lkf,Option.getD_none,bSumG]
                exact ⟨hcm,hR⟩
          · have hsum:(l.map fun e=>(e.2.length:Int) * topC tls t' e.1).sum=cnt tls t' c:=by rw [hch.cnt,cnt_eq]
            have hints:intsOf (l.map fun e=>U.int ((e.2.length:Int) * topC tls t' e.1))=some (l.map fun e=>(e.2.length:Int) * topC tls t' e.1):=by
              have:=intsOf_map (l.map fun e=>(e.2.length:Int) * topC tls t' e.1)
              rw [List.map_map] at this;exact this
            simp! only [bSumG]
            refine ⟨_,hints,?_⟩
            rw [hsum]
            simp! only [keyU,bSumG]
            refine ⟨big (by omega),_,_,rfl,rfl,?_,fun e he c' hc'=>?_⟩
            · have:=putU_len kv2 (Sum.inr c) (.int (cnt tls t' c));omega
            · rw [valU_put]
              by_cases h:(Sum.inr c':Key)=Sum.inr c
              · cases h;exact if_pos rfl
              · rw [if_neg h]
                rw [List.take_add_one,hk] at he
                rcases List.mem_append.mp he with h2 | h2
                · exact hv2 e h2 c' hc'
                · simp at h2;subst h2
                  exact absurd (hc'.symm.trans hec) h
      · rintro τ Mj ⟨kv2,y6,rfl,rfl,hk2,hv2⟩
        have hl3:(Src.mk none (keyUs false (chs.map fun e=>[e.1]))).xs.length=chs.length:=by show (keyUs false (chs.map fun e=>[e.1])).length=_;rw [keyUs_len,List.length_map]
        rw [hl3,List.take_length] at hv2
        subst hV1
        have hMd2:mup Mi r (.dK kv2) d=some (.dT kvs):=by rw [mup_ne (Ne.symm hrd)];exact hMd
        have hno:valU kvs (pk p)=none:=valU_none fun z=>by
          rw [hC.1] at z
          obtain ⟨q',hq',e⟩:=List.mem_map.mp z
          exact hnew (pk_inj e ▸ hq')
        dsimp only
        simp! only [uCv,uDPut,hMd2,placeU,keys_pk,bSumG]
        refine ⟨big (by omega),[some (setT (laidKV tls t t.places)),some (setK chs),some (.ref d),some (placeU p),some (setK kv),some (.ref r),y6],mup Mi d (.dT (kvs++[(pk p,setK kv2)])),?_,kvs++[(pk p,setK kv2)],_,_,_,_,rfl,mup_same,?_,?_⟩
        · rw [putU_new hno,mup_comm hrd]
          exact cv_last hr (Ne.symm hrd)
        · exact hsub.mup hd
        · rw [List.take_add_one,hj]
          refine cnt_add hC hnew ht fun c hc=>?_
          obtain ⟨l,_,hvc⟩:=hA.2.1 c hc
          obtain ⟨e,he,h1⟩:=valU_mem hvc
          exact hv2 e he c h1
  · rintro τ Mi ⟨kvs,z3,z4,z5,z6,rfl,hMd,hsub,hC⟩
    have hlen:(Src.mk none (t.places.map placeU).reverse).xs.length=t.places.reverse.length:=by show ((t.places.map placeU).reverse).length=_;simp
    rw [hlen,List.take_length] at hC
    subst hV
    simp! only [uRet,bSumG]
    exact rt_same (q kvs d Mi hsub hMd hd hC)
theorem ok_count_covers (C:Callee P w K mg base 2 "count_covers" spCount0 []):Callee P w K mg base 2 "count_covers" spCount []:=by
  refine U2.Callee.conv C fun us M Q h=>?_
  obtain ⟨cs,tls,t,chs,rfl,hT,hs,hA,q⟩:=h
  exact ⟨cs,tls,t,chs,rfl,hT,hs,hA,fun kvs d Mi hsub hMd hd hC=>cv_outT hsub hMd hd (q kvs hC)⟩
def spHowMany:USp:=fun us M Q=>∃ (cs:List Str) (tls:List Tl) (t:Tr) (c:Str),us=[tabU cs tls,t.toU,.str c]∧TabOk cs tls∧t.size≤40∧c∈cs∧Q (.int (cnt tls t c)) M
theorem ok_how_many (F:Fun K "how_many" "how_many" s_how_many f fd) (hm:mg "how_many"=some (.ref f)) (C_laid_tiles:Callee P w K mg base 43 "laid_tiles" spLaidT []) (C_all_chains:Callee P w K mg base 3 "all_chains" spAllCh []) (C_count_covers:Callee P w K mg base 2 "count_covers" spCount []):Callee P w K mg base 44 "how_many" spHowMany []:=by
  refine callee2 F hm sc_how_many (ar3 fun _ _ _ _ _ _ _ _ _=>rfl) (uss_one (us_ret (ue_dget false nokF (ue_dget true (fun _=>True.intro) (ue_call C_count_covers (ua_cons (ue_call C_laid_tiles (ua_cons (uv 0) (ua_cons (uv 1) ua_nil))) (ua_cons (ue_call C_all_chains (ua_cons (uv 0) ua_nil)) ua_nil))) (ue_tup ua_nil)) (uv 2)))) ?_
  rintro us M Q ⟨cs,tls,t,c,rfl,hT,hs,hc,q⟩
  refine ⟨rfl,?_⟩
  simp! only [uRet,bSumG]
  refine ⟨cs,tls,t,rfl,hT,hs,cs,tls,rfl,hT,fun chs hA=>⟨cs,tls,t,chs,rfl,hT,hs,hA,fun kvs hC=>?_⟩⟩
  obtain ⟨t',kv2,h1,h2,h3⟩:=hC.2 [] (List.mem_reverse.mpr (place_at t [] t (at_nil t)))
  rw [at_nil] at h1;cases h1
  have lk1:dLook true M (setT kvs) (.tup [])=some (valU kvs (pk [])):=look_T [] (setT_dvw M kvs)
  have lk2:=look_K (M:=M) c (setK_dvw M kv2)
  rw [h2] at lk1
  rw [h3 c hc] at lk2
  simp! only [lk1,lk2,bSumG]
  exact rt_same q
end
end K24
namespace K24
open PySem L2 U2
def natU (k:Nat):U:=.int (k:Int)
def wayL (ps:List (Str × Str)) (last:Str):Nat→List Str→Str→Int
  | 0,_,_=>0
  | n + 1,seen,c=>if c=last then 1 else (ps.map fun p=>if p.1=c∧p.2 ∉ seen then wayL ps last n (seen++[p.2]) p.2 else 0).sum
section
variable {P:Program} {w:World} {K:PySem.W.Frag} {mg:Str→Option Value} {base:Heap} {f d d2 fl:Addr} {fd:FuncData}
structure Tb (ss:List Str) (tls:List Tl) (last:Str):Prop where
  many:tls.length≤16
  few:(passesF tls).length≤14
  lst:last∈ss
  cls:∀ tl∈tls,tl.cls∈ss
  kind:∀ tl∈tls,(∃ c,tl.pt=.hole c∧c∈ss)∨(tl.pt=.any∧tl.cls=last)
structure Wk (tls:List Tl) (s:Str) (word:List Nat) (pre:List Str) (cur:Str):Prop where
  run:∀ (x:Str) (r:List U),runU tls (word.map natU++r) [⟨.name x,s,[]⟩]=(decide pre.Nodup && runU tls r [⟨.name x,cur,pre⟩])
theorem wk0 (tls:List Tl) (s:Str):Wk tls s [] [] s:=⟨fun x r=>by simp⟩
theorem wk_step {tls:List Tl} {s cur:Str} {word:List Nat} {pre:List Str} (h:Wk tls s word pre cur) {k:Nat} {tl:Tl} (hk:tls[k]?=some tl) (hc:tl.cls=cur) (x:Str) (r:List U) (hl:lieF tl.pt (.name x)=true) :
    runU tls ((word++[k]).map natU++r) [⟨.name x,s,[]⟩]=(decide (pre++[cur]).Nodup && runU tls r (below tl ⟨.name x,cur,pre⟩)):=by
  have hlt:=(List.getElem?_eq_some_iff.mp hk).1
  rw [List.map_append,List.append_assoc,h.run]
  have e1:runU tls (List.map natU [k]++r) [⟨.name x,cur,pre⟩]=(decide (cur ∉ pre) && runU tls r (below tl ⟨.name x,cur,pre⟩)):=by
    show runU tls (U.int (k:Int) :: r) _=_
    rw [runU,stepW,if_pos ⟨by omega,by omega⟩,Int.toNat_natCast,hk]
    simp only [hc,hl,true_and,and_true]
    by_cases hp:cur∈pre
    · simp [hp]
    · simp [hp]
  rw [e1]
  have hn:(pre++[cur]).Nodup ↔ pre.Nodup∧cur ∉ pre:=by
    rw [List.nodup_append]
    constructor
    · rintro ⟨a,_,b⟩;exact ⟨a,fun h=>b cur h cur (by simp) rfl⟩
    · rintro ⟨a,b⟩;exact ⟨a,by simp,fun x hx y hy e=>b (by simp at hy;subst hy;subst e;exact hx)⟩
  by_cases h1:pre.Nodup <;> by_cases h2:cur∈pre <;> simp [hn,h1,h2]
theorem wk_pass {tls:List Tl} {s cur:Str} {word:List Nat} {pre:List Str} (h:Wk tls s word pre cur) {k:Nat} {tl:Tl} (hk:tls[k]?=some tl) (hc:tl.cls=cur) {c:Str} (hp:tl.pt=.hole c):Wk tls s (word++[k]) (pre++[cur]) c:=⟨fun x r=>by
  rw [wk_step h hk hc x r (by rw [hp];rfl)]
  have:below tl ⟨.name x,cur,pre⟩=[⟨.name x,c,pre++[cur]⟩]:=by
    unfold below passed Tl.pass;rw [hp];simp [holesT,hc]
  rw [this]⟩
theorem wk_open {tls:List Tl} {s cur:Str} {word:List Nat} {pre:List Str} (h:Wk tls s word pre cur) (x:Str):coverU tls (.name x) s (.lst (word.map natU))=false:=by
  have:=h.run x []
  rw [List.append_nil] at this
  show runU tls _ _=_
  rw [this];simp [runU]
theorem wk_end {tls:List Tl} {s cur:Str} {word:List Nat} {pre:List Str} (h:Wk tls s word pre cur) {k:Nat} {tl:Tl} (hk:tls[k]?=some tl) (hc:tl.cls=cur) (hp:tl.pt=.any) (x:Str):coverU tls (.name x) s (.lst ((word++[k]).map natU))=decide (pre++[cur]).Nodup:=by
  have:=wk_step h hk hc x [] (by rw [hp];rfl)
  rw [List.append_nil] at this
  show runU tls _ _=_
  rw [this]
  have:below tl ⟨.name x,cur,pre⟩=[]:=by unfold below;rw [hp];rfl
  rw [this];simp [runU]
def spWayL (n:Nat):USp:=fun us M Q=>∃ (ss:List Str) (tls:List Tl) (sn:List Str) (c last:Str),us=[.tup (tls.map Tl.toU),.tup ((sn++[c]).map U.str),.str last]∧Tb ss tls last∧Seen ss (sn++[c])∧ss.length < n + (sn++[c]).length∧ss.length≤6∧Q (.int (wayL (passesF tls) last n (sn++[c]) c)) M
def wl1 (ps:List (Str × Str)) (last:Str) (n:Nat) (sn:List Str) (c:Str) (tl:Tl):Int:=match passOf tl with
  | some p=>if p.1=c∧p.2 ∉ sn then wayL ps last n (sn++[p.2]) p.2 else 0
  | none=>0
theorem wl_sum (ps:List (Str × Str)) (last:Str) (n:Nat) (sn:List Str) (c:Str):∀ l:List Tl,((passesF l).map fun p=>if p.1=c∧p.2 ∉ sn then wayL ps last n (sn++[p.2]) p.2 else 0).sum=(l.map (wl1 ps last n sn c)).sum
  | []=>rfl
  | a :: l=>by
    have ih:=wl_sum ps last n sn c l
    unfold passesF at ih ⊢
    rw [List.filterMap_cons,List.map_cons,List.sum_cons,← ih]
    unfold wl1
    cases passOf a with
    | none=>simp
    | some p=>simp
local macro_rules | `(tactic| simp! only [$xs,*] $[$l]?) => `(tactic| simp only [$xs,*, Bool.false_eq_true, Bool.not_false, Bool.not_true, List.append_nil, List.cons_append, List.getElem?_cons_succ, List.getElem?_cons_zero, List.length_cons, List.length_nil, List.map_cons, List.map_nil, List.nil_append, List.replicate, List.set_cons_succ, List.set_cons_zero, Nat.add_sub_cancel, Nat.reduceAdd, Nat.reduceLeDiff, Nat.reduceSub, Nat.sub_self, Option.getD_some, Option.some.injEq, and_true, at0, at1, at2, at3, bAll, bInt, bInt1, bInt2, bIsi2, bLen, bList, bListD, bMax, bSum, bTuple, cGe, cGt, cLe, cLt, capt, decide_false, decide_true, eqX_int, eqX_str, exists_eq_left', if_false, if_true, inSt, inTab, isNon, isi_NoneType_bool, isi_NoneType_dict, isi_NoneType_int, isi_NoneType_list, isi_NoneType_str, isi_NoneType_tuple, isi_bool_bool, isi_bool_dict, isi_bool_int, isi_bool_list, isi_bool_str, isi_bool_tuple, isi_dict_bool, isi_dict_dict, isi_dict_int, isi_dict_list, isi_dict_str, isi_dict_tuple, isi_int_bool, isi_int_dict, isi_int_int, isi_int_list, isi_int_str, isi_int_tuple, isi_list_bool, isi_list_dict, isi_list_int, isi_list_list, isi_list_str, isi_list_tuple, isi_str_bool, isi_str_dict, isi_str_int, isi_str_list, isi_str_str, isi_str_tuple, isi_tuple_bool, isi_tuple_dict, isi_tuple_int, isi_tuple_list, isi_tuple_str, isi_tuple_tuple, items, ixTab, mAppend, mClear, mExtend, mPop, mPopAt, mkL, mup_mup, mup_same, reduceCtorEq, startU, szl, true_and, typU, uAdd, uAddL, uAnd, uAndV, uBM, uBM0, uBack1, uBack2, uC, uCB, uCall, uCallV, uChain, uCons, uDGet, uDGet1, uDGet2, uDIn, uDNew, uEnum, uEnumL, uEqS, uI, uI0, uIf, uIn, uIsB, uIsB2, uIsN, uIter, uIx, uKeys, uListRev, uLst, uLtX, uMul, uNeS, uNil, uNoPart, uNot, uNotB, uNotN, uNotV, uOp, uOr, uOrV, uPairs, uPart, uRev, uRng1, uRng2, uSetFrom, uSetI, uSlX, uTest, uTru, uTup, uUn, uVar, uZip, uZipL, uZipLL, vw_bl, vw_int, vw_lst, vw_non, vw_own, vw_str, vw_tup] $[$l]?)
theorem ok_wayL {n:Nat} (F:Fun K "_law_ways" "_law_ways" s_law_ways f fd) (hm:mg "_law_ways"=some (.ref f)) (C_law_ways:Callee P w K mg base (n + 1) "_law_ways" (spWayL n) []):Callee P w K mg base (n + 2) "_law_ways" (spWayL (n + 1)) []:=by
  refine callee2 F hm sc_law_ways (ar3 fun _ _ _ _ _ _ _ _ _=>rfl) (uss_cons (us_if (ut_c k_eqX (ue_ix (uv 1) (ue_neg un_)) (uv 2))
  (uss_one (us_ret un_))
  uss_nil)
  (uss_cons (us_set 3 sc_law_ways.nd un_)
  (uss_cons (us_for (ui_seq (uv 0)) (ug_name (k:=1000) 4 sc_law_ways.nd)
  (uss_one (us_if (PWU.pt (uw_and (ut_c k_eqX (ue_ix (ue_ix (uv 4) un_) un_) us_) (uw_and (ut_c k_eqX (ue_ix (uv 4) un_) (ue_ix (uv 1) (ue_neg un_))) (uw_and1 (ut_c k_notIn (ue_ix (ue_ix (uv 4) un_) un_) (uv 1))))))
  (uss_one (us_set 3 sc_law_ways.nd (ue_add (own:=false) (uv 3) (ue_call C_law_ways (ua_cons (uv 0) (ua_cons (ue_add (own:=false) (uv 1) (ue_tup (ua_cons (ue_ix (ue_ix (uv 4) un_) un_) ua_nil))) (ua_cons (uv 2) ua_nil)))))))
  uss_nil)))
  (uss_one (us_ret (uv 3)))))) ?_
  rintro us M Q ⟨ss,tls,sn,c,last,rfl,hT,hS,hn,h6,q⟩
  refine ⟨rfl,?_⟩
  have hat:atI ((sn++[c]).map U.str) (-1)=some (.str c):=by simp only [List.map_append,List.map_cons,List.map_nil,atI_m1]
  have hsl:=hS.len
  refine seq_gen fun V hV=>?_
  have go:c≠last→V [some (.tup (tls.map Tl.toU)),some (.tup ((sn++[c]).map U.str)),some (.str last),none,none] M:=fun hcl=>by
    have hstep:wayL (passesF tls) last (n + 1) (sn++[c]) c=(tls.map (wl1 (passesF tls) last n (sn++[c]) c)).sum:=by rw [wayL,if_neg hcl,wl_sum]
    subst hV
    refine seq_gen fun V hV=>?_
    simp! only [uAsg,hName,bSumG,uLenSet]
    subst hV
    refine seq_gen fun V hV=>?_
    refine for_by (S:=⟨none,tls.map Tl.toU⟩) (M1:=M) (fun R r=>by simp! only [bSumG,uLenSet];exact r)
      (fun i τ Mi=>∃ z4:Option U,τ=[some (.tup (tls.map Tl.toU)),some (.tup ((sn++[c]).map U.str)),some (.str last),some (.int ((tls.take i).map (wl1 (passesF tls) last n (sn++[c]) c)).sum),z4]∧Mi=M) ⟨none,by simp,rfl⟩ nk ?_ ?_
    · rintro i x τ Mi e ⟨z4,rfl,rfl⟩
      have e':(tls.map Tl.toU)[i]?=some x:=e
      rw [List.getElem?_map] at e'
      cases hj:tls[i]? with
      | none=>rw [hj] at e';cases e'
      | some tl =>
        rw [hj] at e'
        cases e'
        have htl:=List.mem_of_getElem? hj
        have hsum:((tls.take (i + 1)).map (wl1 (passesF tls) last n (sn++[c]) c)).sum=((tls.take i).map (wl1 (passesF tls) last n (sn++[c]) c)).sum + wl1 (passesF tls) last n (sn++[c]) c tl:=by
          rw [List.take_add_one,hj,List.map_append,List.sum_append];simp
        simp! only [hName,bSumG,uLenSet]
        refine if_gen fun A B hA hB=>?_
        have hno:wl1 (passesF tls) last n (sn++[c]) c tl=0→B Mi:=fun h0=>by
          subst hB
          simp only [uNext]
          exact ⟨_,by rw [hsum,h0,Int.add_zero],trivial⟩
        obtain ⟨nm,cl,pt,co⟩:=tl
        rcases hT.kind _ htl with ⟨s,hs,hh⟩ | ⟨hs,_⟩
        · dsimp only at hs
          subst hs
          have hw:wl1 (passesF tls) last n (sn++[c]) c ⟨nm,cl,.hole s,co⟩=if cl=c∧s ∉ sn++[c] then wayL (passesF tls) last n (sn++[c]++[s]) s else 0:=rfl
          have hyes:(cl=c∧s ∉ sn++[c])→A Mi:=fun h=>by
            rw [if_pos h] at hw
            subst hA
            simp! only [uAsg,hName,vw_tl,Pt.toU,bSumG,uLenSet]
            refine ⟨small (by rw [List.length_map];omega),ss,tls,sn++[c],s,last,by simp,hT,hS.add h.2 hh,by rw [List.length_append];simp at hn ⊢;omega,h6,?_⟩
            simp! only [bSumG,uLenSet]
            exact ⟨some (Tl.toU ⟨nm,cl,.hole s,co⟩),by rw [hsum,hw]⟩
          simp! only [vw_tl,Pt.toU,hat,bSumG,uLenSet]
          refine ite2 (fun h1=>⟨rfl,flat_strs _,?_⟩) (fun h1=>hno (by rw [hw,if_neg (fun z=>h1 (decide_eq_true z.1))]))
          rw [any_str]
          refine ite2 (fun h2=>hyes ⟨of_decide_eq_true h1,by simpa using h2⟩) (fun h2=>hno (by
            rw [hw]
            refine if_neg fun z=>h2 ?_
            have:=z.2
            simpa using this))
        · dsimp only at hs
          subst hs
          have hw:=hno rfl
          simp! only [vw_tl,Pt.toU,w_any_at,bSumG,uLenSet]
          exact hw
    · rintro τ Mi ⟨z4,rfl,rfl⟩
      have hl3:(Src.mk none (tls.map Tl.toU)).xs.length=tls.length:=by show (tls.map Tl.toU).length=_;simp
      rw [hl3,List.take_length,← hstep]
      subst hV
      simp! only [uRet,bSumG,uLenSet]
      exact rt_same q
  refine if_gen fun A B hA hB=>?_
  simp! only [hat,bSumG,uLenSet]
  by_cases hc:c=last
  · subst hA
    rw [if_pos (decide_eq_true hc)]
    simp! only [uRet,bSumG,uLenSet]
    rw [wayL,if_pos hc] at q
    exact rt_same q
  · rw [if_neg (by simpa using hc)]
    subst hB
    simp only [uNext]
    exact go hc
theorem wayL_all (F:Fun K "_law_ways" "_law_ways" s_law_ways f fd) (hm:mg "_law_ways"=some (.ref f)):∀ n,Callee P w K mg base (n + 1) "_law_ways" (spWayL n) []
  | 0=>by
    have no:∀ us M Q,¬ spWayL 0 us M Q:=fun us M Q h=>by
      obtain ⟨_,_,_,_,_,_,_,hS,h,_⟩:=h
      have:=hS.len
      omega
    refine ⟨f,fd,["tiles","seen","last"],[],[],⟨fun vs H Q E h=>?_,fun A outer s H args us vs Q E _ _ _ _ h=>?_⟩,hm,F.kp,F.binds (ar3 fun _ _ _ _ _ _ _ _ _=>rfl),.nil,fun H M=>.nil⟩
    · obtain ⟨us,M,Q',_,_,h,_⟩:=h;exact absurd h (no us M Q')
    · obtain ⟨us,M,Q',_,_,h,_⟩:=h;exact absurd h (no us M Q')
  | n + 1=>ok_wayL F hm (wayL_all F hm n)
def hereN (tls:List Tl) (cur:Str):List Nat:=tls.zipIdx.filterMap fun p=>if p.1.cls=cur then some p.2 else none
theorem here_mem {tls:List Tl} {cur:Str} {k:Nat} (h:k∈hereN tls cur):∃ tl,tls[k]?=some tl∧tl.cls=cur:=by
  unfold hereN at h
  obtain ⟨p,hp,e⟩:=List.mem_filterMap.mp h
  by_cases hc:p.1.cls=cur
  · rw [if_pos hc] at e;cases e
    exact ⟨p.1,List.mem_zipIdx_iff_getElem?.mp hp,hc⟩
  · rw [if_neg hc] at e;cases e
def spWalk:USp:=fun us M Q=>∃ (ss:List Str) (tls:List Tl) (last:Str) (os:List Int) (s:Str),us=[.tup (tls.map Tl.toU),.lst (os.map .int),.lst [.str s]]∧Tb ss tls last∧os.length≤9 ∧
  ∀ (p:Addr) (word:List Nat) (pre:List Str) (cur:Str) (b:Bool),M p=none→word.length≤9→pre.length≤9→(∀ x:Str,coverU tls (.name x) s (.lst (word.map natU))=(b && decide (pre++[cur]).Nodup))→Q (.tup [.ref p,.lst ((pre++[cur]).map U.str),.bl b]) (mup M p (.lst (word.map natU)))
theorem ok_walk (F:Fun K "_law_walk" "_law_walk" s_law_walk f fd) (hm:mg "_law_walk"=some (.ref f)) (m_enumerate:mg "enumerate"=none) (m_len:mg "len"=none):Callee P w K mg base 1 "_law_walk" spWalk []:=by
  refine callee2 F hm sc_law_walk (ar3 fun _ _ _ _ _ _ _ _ _=>rfl) (uss_cons (us_set 3 sc_law_walk.nd (ue_lst (own:=true) ua_nil))
  (uss_cons (us_for (ui_seq (uv 1)) (ug_name (k:=1000) 4 sc_law_walk.nd)
  (uss_cons (us_setC 5 sc_law_walk.nd false ["k","tile","seen"] 2 [2] (ui_enumerate m_enumerate (ua_cons (uv 0) ua_nil)) (ug_tup (n:=2) (ugs_cons (ug_name (k:=2) 0 (by dsimp only [compD];decide +kernel)) (ugs_cons (ug_name (k:=2) 1 (by dsimp only [compD];decide +kernel)) ugs_nil))) (uif_one (ut_c k_eqX (ue_ix (uv 1) un_) (ue_ix (uv 2) (ue_neg un_)))) (uv 0))
  (uss_cons (us_if (ut_c k_eqX (uv 5) (ue_lst (own:=false) ua_nil))
  (uss_one (us_ret (ue_tup (ua_cons (uv 3) (ua_cons (uv 2) (ua_cons ub_ ua_nil))))))
  uss_nil)
  (uss_cons (us_set 6 sc_law_walk.nd (ue_ix (uv 5) (ue_mod (uv 4) (ue_b b_len m_len (ua_cons (uv 5) ua_nil)))))
  (uss_cons (us_expr (ue_append (uv 3) (ua_cons (uv 6) ua_nil)))
  (uss_cons (us_if (ut_c k_neX (ue_ix (ue_ix (ue_ix (uv 0) (uv 6)) un_) un_) us_)
  (uss_one (us_ret (ue_tup (ua_cons (uv 3) (ua_cons (uv 2) (ua_cons ub_ ua_nil))))))
  uss_nil)
  (uss_one (us_set 2 sc_law_walk.nd (ue_add (own:=false) (uv 2) (ue_lst (own:=false) (ua_cons (ue_ix (ue_ix (ue_ix (uv 0) (uv 6)) un_) un_) ua_nil)))))))))))
  (uss_one (us_ret (ue_tup (ua_cons (uv 3) (ua_cons (uv 2) (ua_cons ub_ ua_nil)))))))) ?_
  rintro us M Q ⟨ss,tls,last,os,s,rfl,hT,ho,q⟩
  refine ⟨rfl,?_⟩
  have hmany:=hT.many
  refine seq_gen fun V hV=>?_
  simp! only [uAsg,hName,bSumG,uLenSet]
  intro p hp
  subst hV
  refine seq_gen fun V hV=>?_
  refine for_by (S:=⟨none,os.map .int⟩) (M1:=mup M p (.lst [])) (fun R r=>by simp! only [bSumG,uLenSet];exact r)
    (fun i τ Mi=>∃ (word:List Nat) (pre:List Str) (cur:Str) (a b c:Option U),τ=[some (.tup (tls.map Tl.toU)),some (.lst (os.map .int)),some (.lst ((pre++[cur]).map U.str)),some (.ref p),a,b,c]∧Mi=mup M p (.lst (word.map natU))∧Wk tls s word pre cur∧word.length≤i∧pre.length≤i) ⟨[],[],s,none,none,none,rfl,rfl,wk0 tls s,by simp,by simp⟩ nk ?_ ?_
  · rintro i x τ Mi e ⟨word,pre,cur,a,b,c,rfl,rfl,hw,hwl,hpl⟩
    have e':(os.map U.int)[i]?=some x:=e
    rw [List.getElem?_map] at e'
    cases hv:os[i]? with
    | none=>rw [hv] at e';cases e'
    | some v =>
      rw [hv] at e'
      cases e'
      have hi:=(List.getElem?_eq_some_iff.mp hv).1
      have hat:atI ((pre++[cur]).map U.str) (-1)=some (.str cur):=by simp only [List.map_append,List.map_cons,List.map_nil,atI_m1]
      simp! only [hName,bSumG,uLenSet]
      refine seq_gen fun V1 hV1=>?_
      refine uComp_opt (S:=⟨none,numbered (tls.map Tl.toU)⟩) (M1:=mup M p (.lst (word.map natU))) (tls.zipIdx.map fun q=>if q.1.cls=cur then some (natU q.2) else none) (fun R r=>by simp! only [bSumG,uLenSet];exact r) (by simp [U2.numbered]) (small (by show (numbered (tls.map Tl.toU)).length≤_;rw [numbered_len,List.length_map];omega)) (fun a e=>by cases e) ?_ ?_
      · intro k x z hx hz M' hS R r'
        obtain ⟨u,hu,rfl⟩:=numbered_get hx
        rw [List.getElem?_map] at hu hz
        rw [List.getElem?_zipIdx] at hz
        cases hk:tls[k]? with
        | none=>rw [hk] at hu;cases hu
        | some tl =>
          rw [hk] at hu hz
          cases hu
          simp only [Option.map_some,Option.some.injEq,Nat.zero_add] at hz
          subst hz
          refine ⟨rfl,?_⟩
          simp! only [hTup,hCons,hNil,hName,vw_tl,hat,bSumG,uLenSet]
          by_cases hc:tl.cls=cur
          · rw [if_pos hc] at r'
            rw [if_pos (decide_eq_true hc)];exact r'
          · rw [if_neg hc] at r'
            rw [if_neg (by simpa using hc)];exact r'
      · have ef:(tls.zipIdx.map fun q=>if q.1.cls=cur then some (natU q.2) else none).filterMap id=(hereN tls cur).map natU:=by
          unfold hereN
          generalize tls.zipIdx=L
          induction L with
          | nil=>rfl
          | cons a r ih =>
            rw [List.map_cons,List.filterMap_cons,List.filterMap_cons]
            by_cases hc:a.1.cls=cur
            · simpa [hc] using ih
            · simpa [hc] using ih
        simp! only [ef,hName,bSumG,uLenSet]
        subst hV1
        refine seq_gen fun V1 hV1=>?_
        refine if_gen fun A B hA hB=>?_
        have hyes:hereN tls cur≠[]→B (mup M p (.lst (word.map natU))):=fun hne=>by
          subst hB
          simp only [uNext]
          subst hV1
          have hpos:0 < ((hereN tls cur).length:Int):=by have:=List.length_pos_iff.mpr hne;omega
          obtain ⟨k,hk,hka⟩:∃ k,k∈hereN tls cur∧atI ((hereN tls cur).map natU) (v % ((hereN tls cur).length:Int))=some (natU k):=by
            have h0:=Int.emod_nonneg v (show ((hereN tls cur).length:Int)≠0 by omega)
            have h1:=Int.emod_lt_of_pos v hpos
            have hlt:(v % ((hereN tls cur).length:Int)).toNat < (hereN tls cur).length:=by omega
            refine ⟨_,List.getElem_mem hlt,?_⟩
            unfold atI ixN
            rw [List.length_map,if_pos h0,if_pos h1]
            simp [hlt]
          obtain ⟨tl,htl,hcl⟩:=here_mem hk
          have hta:atI (tls.map Tl.toU) (k:Int)=some tl.toU:=atI_nat (by rw [List.getElem?_map,htl];rfl)
          refine seq_gen fun V1 hV1=>?_
          simp! only [uAsg,hName,List.length_map,hka,bSumG,uLenSet]
          refine ⟨hpos,?_⟩
          subst hV1
          refine seq_gen fun V1 hV1=>?_
          simp! only [uDrop,natU,bSumG,uLenSet]
          refine ⟨isL_own,big (by rw [List.length_map];omega),?_⟩
          have em:(word.map natU++[U.int (k:Int)])=(word++[k]).map natU:=by simp [natU]
          rw [em]
          subst hV1
          refine seq_gen fun V1 hV1=>?_
          refine if_gen fun A B hA hB=>?_
          obtain ⟨nm,cl,pt,co⟩:=tl
          rcases hT.kind _ (List.mem_of_getElem? htl) with ⟨c',hs,hh⟩ | ⟨hs,_⟩
          · dsimp only at hs
            subst hs
            simp! only [hta,vw_tl,Pt.toU,bSumG,uLenSet]
            subst hB
            simp only [uNext]
            subst hV1
            simp! only [uAsg,hName,hta,vw_tl,Pt.toU,bSumG,uLenSet]
            refine ⟨small (by simp;omega),word++[k],pre++[cur],c',some (.int v),some (.lst ((hereN tls cur).map natU)),some (.int (k:Int)),?_,rfl,wk_pass hw htl hcl rfl,by simp;omega,by simp;omega⟩
            simp
          · dsimp only at hs
            subst hs
            simp! only [hta,vw_tl,Pt.toU,w_any_at,bSumG,uLenSet]
            subst hA
            simp! only [uRet,bSumG,uLenSet]
            exact rt_same (q p (word++[k]) pre cur true hp (by simp;omega) (by omega) (fun x=>by rw [wk_end hw htl hcl rfl x];rfl))
        simp! only [bSumG,uLenSet]
        rw [show (hereN tls cur).map natU=((hereN tls cur).map (fun k:Nat=>(k:Int))).map U.int by rw [List.map_map];rfl]
        refine eqX_nil_ints ?_
        cases hE:hereN tls cur with
        | nil =>
          simp only [List.map_nil,List.isEmpty_nil,vw_bl,if_true]
          subst hA
          simp! only [uRet,bSumG,uLenSet]
          exact rt_same (q p word pre cur false hp (by omega) (by omega) (fun x=>by rw [wk_open hw x];rfl))
        | cons k0 r =>
          simp only [List.map_cons,List.isEmpty_cons,vw_bl,Bool.false_eq_true,if_false]
          exact hyes (by rw [hE];exact List.cons_ne_nil _ _)
  · rintro τ Mi ⟨word,pre,cur,a,b,c,rfl,rfl,hw,hwl,hpl⟩
    have hl3:(Src.mk none (os.map U.int)).xs.length=os.length:=by show (os.map U.int).length=_;simp
    rw [hl3] at hwl hpl
    subst hV
    simp! only [uRet,bSumG,uLenSet]
    exact rt_same (q p word pre cur false hp (by omega) (by omega) (fun x=>by rw [wk_open hw x];rfl))
def spTilesL:USp:=fun us M Q=>∃ (cells ds:List Int) (ss:List Str),us=[.lst (cells.map .int),sortsU ss,.lst (ds.map .int)]∧ds.length=12∧2≤ss.length∧ss.length≤6∧cells.length≤70∧∀ (tls:List Tl) (last:Str),Tb ss tls last→Q (.tup [.tup (tls.map Tl.toU),.str last]) M
theorem cut_14 (l:List Int):(cutU l (some 1) (some 15)).length≤14:=by
  unfold cutU
  rw [List.length_take,List.length_drop]
  simp only [HT.sIx]
  rw [if_neg (by omega),if_neg (by omega)]
  omega
theorem sort_at {ss:List Str} (i:Int) (h:ss≠[]):∃ s,s∈ss∧atI (ss.map U.str) (i % (ss.length:Int))=some (.str s):=by
  have hp:0 < (ss.length:Int):=by have:=List.length_pos_iff.mpr h;omega
  have h0:=Int.emod_nonneg i (show (ss.length:Int)≠0 by omega)
  have h1:=Int.emod_lt_of_pos i hp
  have hlt:(i % (ss.length:Int)).toNat < ss.length:=by omega
  refine ⟨_,List.getElem_mem hlt,?_⟩
  unfold atI ixN
  rw [List.length_map,if_pos h0,if_pos h1]
  simp [hlt]
theorem cut_to {α:Type} (l:List α) (n:Nat):cutU l none (some (n:Int))=l.take n:=by
  unfold cutU
  simp only [HT.sIx]
  rw [if_neg (by omega)]
  simp
theorem cut_on {α:Type} (l:List α) (n:Nat) (h:n≤l.length):cutU l (some (n:Int)) none=l.drop n:=by
  unfold cutU
  simp only [HT.sIx]
  rw [if_neg (by omega)]
  rw [List.take_of_length_le (by rw [List.length_drop];omega)]
  congr 1;omega
theorem ok_tiles (F:Fun K "_law_tiles" "_law_tiles" s_law_tiles f fd) (hm:mg "_law_tiles"=some (.ref f)) (m_enumerate:mg "enumerate"=none) (m_len:mg "len"=none) (m_tuple:mg "tuple"=none) (C_law_draws:Callee P w K mg base 2 "_law_draws" spDraws []) (C_law_word:Callee P w K mg base 1 "_law_word" spWord []):Callee P w K mg base 3 "_law_tiles" spTilesL []:=by
  refine callee2 F hm sc_law_tiles (ar3 fun _ _ _ _ _ _ _ _ _=>rfl) (uss_cons (us_set 3 sc_law_tiles.nd (ue_lst (own:=true) ua_nil))
  (uss_cons (us_for (ui_enumerateL m_enumerate (ua_cons (ue_slX (own:=false) (uv 0) (uo_some un_) (uo_some un_)) ua_nil)) (ug_tup (n:=2) (ugs_cons (ug_name (k:=1000) 4 sc_law_tiles.nd) (ugs_cons (ug_name (k:=1000) 5 sc_law_tiles.nd) ugs_nil)))
  (uss_cons (us_set 6 sc_law_tiles.nd (ue_call C_law_draws (ua_cons (uv 5) (ua_cons un_ ua_nil))))
  (uss_cons (us_set 7 sc_law_tiles.nd (ue_mod (ue_ix (uv 6) un_) (ue_b b_len m_len (ua_cons (uv 1) ua_nil))))
  (uss_cons (us_set 8 sc_law_tiles.nd (ue_mod (ue_add (own:=false) (ue_add (own:=false) (uv 7) un_) (ue_mod (ue_ix (uv 6) un_) (ue_sub (ue_b b_len m_len (ua_cons (uv 1) ua_nil)) un_))) (ue_b b_len m_len (ua_cons (uv 1) ua_nil))))
  (uss_one (us_expr (ue_append (uv 3) (ua_cons (ue_tup (ua_cons (ue_call C_law_word (ua_cons (uv 4) (ua_cons (ue_ix (uv 6) un_) ua_nil))) (ua_cons (ue_ix (uv 1) (uv 7)) (ua_cons (ue_tup (ua_cons us_ (ua_cons (ue_ix (uv 1) (uv 8)) ua_nil))) (ua_cons (ue_mod (ue_ix (uv 6) un_) un_) ua_nil))))) ua_nil))))))))
  (uss_cons (us_set 7 sc_law_tiles.nd (ue_mod (ue_ix (uv 2) un_) (ue_add (own:=false) (ue_b b_len m_len (ua_cons (uv 3) ua_nil)) un_)))
  (uss_cons (us_set 9 sc_law_tiles.nd (ue_ix (uv 1) (ue_mod (ue_ix (uv 2) un_) (ue_b b_len m_len (ua_cons (uv 1) ua_nil)))))
  (uss_cons (us_set 10 sc_law_tiles.nd (ue_add (own:=true) (ue_add (own:=false) (ue_slX (own:=false) (uv 3) uo_none (uo_some (uv 7))) (ue_lst (own:=false) (ua_cons (ue_tup (ua_cons us_ (ua_cons (uv 9) (ua_cons (ue_tup (ua_cons us_ ua_nil)) (ua_cons (ue_mod (ue_ix (uv 2) un_) un_) ua_nil))))) ua_nil))) (ue_slX (own:=false) (uv 3) (uo_some (uv 7)) uo_none)))
  (uss_cons (us_if (ut_c k_eqX (ue_mod (ue_divX (ue_ix (uv 2) un_) un_) un_) un_)
  (uss_one (us_expr (ue_append (uv 10) (ua_cons (ue_tup (ua_cons us_ (ua_cons (uv 9) (ua_cons (ue_tup (ua_cons us_ ua_nil)) (ua_cons (ue_mod (ue_ix (uv 2) un_) un_) ua_nil))))) ua_nil))))
  uss_nil)
  (uss_one (us_ret (ue_tup (ua_cons (ue_t b_tuple m_tuple (ua_cons (uv 10) ua_nil)) (ua_cons (uv 9) ua_nil))))))))))) ?_
  rintro us M Q ⟨cells,ds,ss,rfl,hd,hs2,hs6,hcl,q⟩
  refine ⟨rfl,?_⟩
  have hne:ss≠[]:=fun z=>by subst z;simp at hs2
  have hpos:0 < (ss.length:Int):=by omega
  have d1:atI (ds.map U.int) 1=some (.int ds[1]):=at_draw ds 1 (by omega)
  have d2:atI (ds.map U.int) 2=some (.int ds[2]):=at_draw ds 2 (by omega)
  have d3:atI (ds.map U.int) 3=some (.int ds[3]):=at_draw ds 3 (by omega)
  generalize ds[1]=e1 at d1
  generalize ds[2]=e2 at d2
  generalize ds[3]=e3 at d3
  have hcut:=cut_14 cells
  refine seq_gen fun V hV=>?_
  simp! only [uAsg,hName,bSumG,uLenSet]
  intro p hp
  subst hV
  refine seq_gen fun V hV=>?_
  refine for_by (S:=⟨none,numbered ((cutU cells (some 1) (some 15)).map U.int)⟩) (M1:=mup M p (.lst [])) (fun R r=>by simp! only [cut_map,bSumG,uLenSet];exact r)
    (fun i τ Mi=>∃ (ps:List Tl) (a b c d e:Option U),τ=[some (.lst (cells.map .int)),some (sortsU ss),some (.lst (ds.map .int)),some (.ref p),a,b,c,d,e,none,none]∧Mi=mup M p (.lst (ps.map Tl.toU))∧ps.length=i∧∀ tl∈ps,tl.cls∈ss∧∃ c,tl.pt=.hole c∧c∈ss) ⟨[],none,none,none,none,none,rfl,rfl,rfl,by simp⟩ nk ?_ ?_
  · rintro i x τ Mi e ⟨ps,a,b,c,d,ee,rfl,rfl,hpl,hps⟩
    obtain ⟨u,hu,rfl⟩:=numbered_get e
    rw [List.getElem?_map] at hu
    cases hv:(cutU cells (some 1) (some 15))[i]? with
    | none=>rw [hv] at hu;cases hu
    | some v =>
      rw [hv] at hu
      cases hu
      have hi:=(List.getElem?_eq_some_iff.mp hv).1
      simp! only [hTup,hCons,hNil,hName,bSumG,uLenSet]
      refine seq_gen fun V1 hV1=>?_
      simp! only [uAsg,hName,bSumG,uLenSet]
      refine ⟨v,4,rfl,by decide,fun l hl4 hl0=>?_⟩
      have a0:atI (l.map U.int) 0=some (.int l[0]):=at_draw l 0 (by omega)
      have a1:atI (l.map U.int) 1=some (.int l[1]):=at_draw l 1 (by omega)
      have a2:atI (l.map U.int) 2=some (.int l[2]):=at_draw l 2 (by omega)
      have a3:atI (l.map U.int) 3=some (.int l[3]):=at_draw l 3 (by omega)
      generalize l[0]=v0 at a0
      generalize l[1]=v1 at a1
      generalize l[2]=v2 at a2
      generalize l[3]=v3 at a3
      subst hV1
      refine seq_gen fun V1 hV1=>?_
      simp! only [uAsg,hName,a0,sortsU,List.length_map,bSumG,uLenSet]
      refine ⟨hpos,?_⟩
      subst hV1
      refine seq_gen fun V1 hV1=>?_
      simp! only [uAsg,hName,a1,sortsU,List.length_map,bSumG,uLenSet]
      refine ⟨by omega,hpos,?_⟩
      subst hV1
      obtain ⟨s1,hs1,hsa⟩:=sort_at v0 hne
      obtain ⟨s2,hs2',hsb⟩:=sort_at (v0 % (ss.length:Int) + 1 + v1 % ((ss.length:Int) - 1)) hne
      simp! only [uDrop,a2,a3,sortsU,hsa,hsb,bSumG,uLenSet]
      refine ⟨isL_own,(i:Int),v3,rfl,by omega,by omega,fun z _ _=>⟨by decide,?_⟩⟩
      simp only [mup_same]
      refine ⟨big (by rw [List.length_map];omega),ps++[⟨z,s1,.hole s2,v2 % 1001⟩],_,_,_,_,_,rfl,?_,by simp [hpl],?_⟩
      · rw [mup_mup];simp [Tl.toU,Pt.toU]
      · intro tl ht
        rcases List.mem_append.mp ht with ht | ht
        · exact hps tl ht
        · obtain rfl:=List.mem_singleton.mp ht
          exact ⟨hs1,s2,rfl,hs2'⟩
  · rintro τ Mi ⟨ps,a,b,c,d,ee,rfl,rfl,hpl,hps⟩
    have hl3:(Src.mk none (numbered ((cutU cells (some 1) (some 15)).map U.int))).xs.length=(cutU cells (some 1) (some 15)).length:=by show (U2.numbered _).length=_;rw [numbered_len,List.length_map]
    rw [hl3] at hpl
    have hp14:ps.length≤14:=by omega
    show V _ _
    subst hV
    refine seq_gen fun V hV=>?_
    simp! only [uAsg,hName,d1,List.length_map,bSumG,uLenSet]
    refine ⟨by omega,?_⟩
    subst hV
    obtain ⟨last,hla,hlb⟩:=sort_at e2 hne
    refine seq_gen fun V hV=>?_
    simp! only [uAsg,hName,d2,sortsU,List.length_map,hlb,bSumG,uLenSet]
    refine ⟨hpos,?_⟩
    subst hV
    have hm0:=Int.emod_nonneg e1 (show ((ps.length:Int) + 1)≠0 by omega)
    have hm1:=Int.emod_lt_of_pos e1 (show 0 < ((ps.length:Int) + 1) by omega)
    obtain ⟨k,hk,hkl⟩:∃ k:Nat,e1 % ((ps.length:Int) + 1)=k∧k≤ps.length:=⟨(e1 % ((ps.length:Int) + 1)).toNat,by omega,by omega⟩
    refine seq_gen fun V hV=>?_
    simp! only [uAsg,hName,d3,hk,bSumG,uLenSet]
    have l1:(ps.map Tl.toU).length=ps.length:=List.length_map _
    rw [cut_to,cut_on _ _ (by rw [l1];exact hkl)]
    have lt:((ps.map Tl.toU).take k).length=k:=by rw [List.length_take,l1];omega
    have ld:((ps.map Tl.toU).drop k).length=ps.length - k:=by rw [List.length_drop,l1]
    refine ⟨by decide,by rw [lt,PySem.sizeLine_eq];omega,by simp only [List.length_append,List.length_cons,List.length_nil,lt,ld,PySem.sizeLine_eq];omega,fun p2 hp2=>?_⟩
    have et:((ps.map Tl.toU).take k++[U.tup [U.str (Str.ofString "zz"),U.str last,U.tup [U.str (Str.ofString "any")],U.int (e3 % 9)]]++(ps.map Tl.toU).drop k)=(ps.take k++[(⟨Str.ofString "zz",last,.any,e3 % 9⟩:Tl)]++ps.drop k).map Tl.toU:=by
      simp [Tl.toU,Pt.toU,List.map_take,List.map_drop]
    rw [et]
    have hTb:∀ ex:List Tl,ex.length≤1→(∀ tl∈ex,tl.pt=.any∧tl.cls=last)→Tb ss (ps.take k++[(⟨Str.ofString "zz",last,.any,e3 % 9⟩:Tl)]++ps.drop k++ex) last:=fun ex hx1 hx=>by
      have all:∀ tl∈ps.take k++[(⟨Str.ofString "zz",last,.any,e3 % 9⟩:Tl)]++ps.drop k++ex,tl∈ps∨(tl.pt=.any∧tl.cls=last):=fun tl ht=>by
        rcases List.mem_append.mp ht with ht | ht
        · rcases List.mem_append.mp ht with ht | ht
          · rcases List.mem_append.mp ht with ht | ht
            · exact .inl (List.mem_of_mem_take ht)
            · obtain rfl:=List.mem_singleton.mp ht;exact .inr ⟨rfl,rfl⟩
          · exact .inl (List.mem_of_mem_drop ht)
        · exact .inr (hx tl ht)
      have e0:passesF ex=[]:=List.filterMap_eq_nil_iff.mpr fun tl ht=>by unfold passOf;rw [(hx tl ht).1]
      refine ⟨?_,?_,hla,fun tl ht=>?_,fun tl ht=>?_⟩
      · simp only [List.length_append,List.length_take,List.length_drop,List.length_cons,List.length_nil];omega
      · have h1:(passesF (ps.take k)).length≤(ps.take k).length:=List.length_filterMap_le _ _
        have h2:(passesF (ps.drop k)).length≤(ps.drop k).length:=List.length_filterMap_le _ _
        rw [List.length_take] at h1
        rw [List.length_drop] at h2
        unfold passesF at e0 h1 h2 ⊢
        rw [List.filterMap_append,List.filterMap_append,List.filterMap_append,e0]
        simp only [List.length_append,List.filterMap_cons,passOf,List.filterMap_nil,List.length_nil]
        omega
      · rcases all tl ht with h | ⟨_,h⟩
        · exact (hps tl h).1
        · rw [h];exact hla
      · rcases all tl ht with h | h
        · exact .inl (hps tl h).2
        · exact .inr h
    have hp2':M p2=none:=by
      have n:p2≠p:=fun z=>by subst z;rw [mup_same] at hp2;cases hp2
      rw [mup_ne n] at hp2;exact hp2
    subst hV
    refine seq_gen fun V hV=>?_
    have fin:∀ tls:List Tl,Tb ss tls last→V [some (.lst (cells.map .int)),some (.tup (ss.map U.str)),some (.lst (ds.map .int)),some (.ref p),a,b,c,some (.int (k:Int)),ee,some (.str last),some (.ref p2)] (mup (mup M p (.lst (ps.map Tl.toU))) p2 (.lst (tls.map Tl.toU))):=fun tls hT=>by
      subst hV
      simp! only [uRet,bSumG,uLenSet]
      exact ⟨_,M,((Sub.refl M).mup hp).mup hp2',.inl rfl,q tls last hT⟩
    refine if_gen fun A B hA hB=>?_
    simp! only [d2,bSumG,uLenSet]
    refine ⟨⟨by decide,by decide⟩,by decide,ite2 (fun _=>?_) (fun _=>?_)⟩
    · subst hA
      simp! only [uDrop,d3,bSumG,uLenSet]
      have hz:=fin _ (hTb [(⟨Str.ofString "zy",last,.any,e3 % 7⟩:Tl)] (by simp) (fun tl ht=>by obtain rfl:=List.mem_singleton.mp ht;exact ⟨rfl,rfl⟩))
      refine ⟨isL_own,by decide,big (by simp;omega),?_⟩
      rw [List.map_append] at hz
      exact hz
    · subst hB
      simp only [uNext]
      have:=fin _ (hTb [] (by simp) (by simp))
      rw [List.append_nil] at this
      exact this
def isAny (tl:Tl):Bool:=match tl.pt with
  | .any=>true
  | _=>false
def twins (tls:List Tl):Nat:=(tls.filter isAny).length
theorem top_name {last:Str} {g:Tr→Str→Int} {x e:Str}:∀ l:List Tl,(∀ tl∈l,(∃ c,tl.pt=.hole c)∨(tl.pt=.any∧tl.cls=last))→topO g (.name x) e l=if e=last then (twins l:Int) else 0
  | [],_=>by simp [topO,twins]
  | a :: l,h=>by
    have ih:=top_name (g:=g) (x:=x) (e:=e) l fun tl ht=>h tl (List.mem_cons_of_mem _ ht)
    obtain ⟨nm,cl,pt,co⟩:=a
    rcases h _ List.mem_cons_self with ⟨c,hp⟩ | ⟨hp,hc⟩
    · dsimp only at hp;subst hp
      simp [topO,Tl.pass,twins,isAny] at ih ⊢
      exact ih
    · dsimp only at hp hc;subst hp
      rw [topO,ih]
      have ht:twins (⟨nm,cl,.any,co⟩ :: l)=twins l + 1:=by unfold twins;rw [List.filter_cons_of_pos rfl,List.length_cons]
      rw [ht]
      by_cases he:e=last
      · rw [if_pos he,if_pos he,if_pos ⟨rfl,rfl,by show cl=e;rw [hc,he]⟩]
        show (1:Int) + _=_
        push_cast;omega
      · rw [if_neg he,if_neg he,if_neg (fun z=>he (by have h3:cl=e:=z.2.2;rw [← h3,hc]))];rfl
theorem way_zero {ps:List (Str × Str)} {last:Str} {m:Int}:∀ (n:Nat) (seen:List Str) (c:Str),last∈seen→c≠last→wayN ps (fun e=>if e=last then m else 0) n seen c=0
  | 0,_,c,_,hc=>by rw [wayN,if_neg hc]
  | n + 1,seen,c,hs,hc=>by
    rw [wayN,if_neg hc,Int.zero_add]
    have:(ps.map fun p=>if p.1=c∧p.2 ∉ seen then wayN ps (fun e=>if e=last then m else 0) n (seen++[p.2]) p.2 else 0).sum=(ps.map fun _=>(0:Int)).sum:=sum_congr ps fun p _=>by
      by_cases h:p.1=c∧p.2 ∉ seen
      · rw [if_pos h]
        exact way_zero n _ _ (List.mem_append_left _ hs) fun z=>h.2 (z ▸ hs)
      · rw [if_neg h]
    rw [this,sum_const];simp
theorem way_mul {ps:List (Str × Str)} {last:Str} {m:Int}:∀ (n:Nat) (seen:List Str) (c:Str),c∈seen→(last∈seen→c=last)→wayN ps (fun e=>if e=last then m else 0) n seen c=m * wayL ps last (n + 1) seen c
  | 0,seen,c,hc,hl=>by
    rw [wayN,wayL]
    by_cases h:c=last
    · simp [h]
    · rw [if_neg h,if_neg h]
      have:(ps.map fun p=>if p.1=c∧p.2 ∉ seen then wayL ps last 0 (seen++[p.2]) p.2 else 0).sum=(ps.map fun _=>(0:Int)).sum:=sum_congr ps fun p _=>by split <;> rfl
      rw [this,sum_const];simp
  | n + 1,seen,c,hc,hl=>by
    rw [wayN,wayL]
    by_cases h:c=last
    · rw [if_pos h,if_pos h]
      have:(ps.map fun p=>if p.1=c∧p.2 ∉ seen then wayN ps (fun e=>if e=last then m else 0) n (seen++[p.2]) p.2 else 0).sum=(ps.map fun _=>(0:Int)).sum:=sum_congr ps fun p _=>by
        by_cases hp:p.1=c∧p.2 ∉ seen
        · rw [if_pos hp]
          exact way_zero n _ _ (List.mem_append_left _ (h ▸ hc)) fun z=>hp.2 (z ▸ h ▸ hc)
        · rw [if_neg hp]
      rw [this,sum_const];simp
    · rw [if_neg h,if_neg h,Int.zero_add,← sum_mul]
      refine sum_congr ps fun p _=>?_
      by_cases hp:p.1=c∧p.2 ∉ seen
      · rw [if_pos hp,if_pos hp]
        refine way_mul n _ _ (by simp) fun hz=>?_
        rcases List.mem_append.mp hz with hz | hz
        · exact absurd (hl hz) h
        · exact (List.mem_singleton.mp hz).symm
      · rw [if_neg hp,if_neg hp];simp
theorem cnt_name {ss:List Str} {tls:List Tl} {last:Str} (hT:Tb ss tls last) (x c:Str):cnt tls (.name x) c=(twins tls:Int) * wayL (passesF tls) last 7 [c] c:=by
  have ht:topC tls (.name x)=fun e=>if e=last then (twins tls:Int) else 0:=by
    funext e
    exact top_name tls fun tl ht=>by
      rcases hT.kind tl ht with ⟨c,h,_⟩ | h
      · exact .inl ⟨c,h⟩
      · exact .inr h
  rw [cnt_eq,ht]
  exact way_mul 6 [c] c (by simp) fun h=>(List.mem_singleton.mp h).symm
theorem Tb.tab {ss:List Str} {tls:List Tl} {last:Str} (h:Tb ss tls last) (hs:ss.length≤6):TabOk ss tls :=
  ⟨hs,h.many,h.few,h.cls,fun tl ht s hs'=>by
    rcases h.kind tl ht with ⟨c,e,hc⟩ | ⟨e,_⟩
    · rw [e] at hs';simp [asksP,Pt.ends,holeC] at hs';subst hs';exact hc
    · rw [e] at hs';simp [asksP,Pt.ends,holeC] at hs',fun tl ht=>by
    rcases h.kind tl ht with ⟨c,e,hc⟩ | ⟨e,_⟩ <;> rw [e] <;> simp [Pt.dep]⟩
def lnM:Option MO→Nat
  | some (.lst us)=>us.length
  | _=>0
theorem cv_slot {τ:SU} {M:MHp} {p:Addr} {us:List U} {j:Nat} (hp:M p=none) (hj:τ[j]?=some (some (.ref p))):Cv τ (mup M p (.lst us)) (τ.set j (some (.lst us))) M:=by
  intro K H σ rm rs
  have hs:Sub M (mup M p (.lst us)):=(Sub.refl M).mup hp
  have st:Stp H (mup M p (.lst us)) H M:=hs.less
  refine ⟨st,rm.sub hs,?_⟩
  have rs2:=rs.stp st
  refine ⟨by rw [List.length_set];exact rs2.1,fun i u e=>?_⟩
  rw [List.getElem?_set] at e
  by_cases hij:j=i
  · subst hij
    have hlt:j < τ.length:=(List.getElem?_eq_some_iff.mp hj).1
    simp only [if_true,hlt,Option.some.injEq] at e
    subst e
    obtain ⟨v,h1,h2⟩:=rs.2 j _ hj
    refine ⟨v,h1,?_⟩
    rw [h2.ref];exact lst_rel rm mup_same hp st
  · rw [if_neg hij] at e;exact rs2.2 i u e
def spLaw:USp:=fun us M Q=>∃ ns:List Int,us=[.lst (ns.map .int)]∧ns.length≤63∧Q (.bl true) M
theorem ok_law (F:Fun K "law" "law" s_law f fd) (m_list:mg "list"=none) (m_len:mg "len"=none) (m_tuple:mg "tuple"=none) (m_range:mg "range"=none) (m_set:mg "set"=none) (m_isinstance:mg "isinstance"=none) (m_bool:mg "bool"=none) (m_int:mg "int"=none) (C_law_cell_at:Callee P w K mg base 1 "_law_cell_at" spCellAt []) (C_law_draws:Callee P w K mg base 2 "_law_draws" spDraws []) (C_law_word:Callee P w K mg base 1 "_law_word" spWord []) (C_law_tiles:Callee P w K mg base 3 "_law_tiles" spTilesL []) (C_law_name:Callee P w K mg base 1 "_law_name" spName []) (C_law_walk:Callee P w K mg base 1 "_law_walk" spWalk []) (C_is_cover:Callee P w K mg base 10 "is_cover" spCover []) (C_how_many:Callee P w K mg base 44 "how_many" spHowMany []) (C_law_ways:Callee P w K mg base 8 "_law_ways" (spWayL 7) []):FnOk P w K mg base CX0 45 f fd ["script"] (liftSp K spLaw):=by
  refine fnok_of F sc_law (fun us M Q h=>by obtain ⟨x,rfl,_⟩:=h;rfl) (uss_cons (us_set 1 sc_law.nd (ue_t (b_list (own:=true)) m_list (ua_cons (uv 0) ua_nil)))
  (uss_cons (us_cv (us_while (ut_c k_ltX (ue_b b_len m_len (ua_cons (uv 1) ua_nil)) un_)
  (uss_one (us_expr (ue_append (uv 1) (ua_cons (ue_call C_law_cell_at (ua_cons (uv 0) (ua_cons (ue_b b_len m_len (ua_cons (uv 1) ua_nil)) ua_nil))) ua_nil))))))
  (uss_cons (us_set 2 sc_law.nd (ue_call C_law_draws (ua_cons (ue_ix (uv 1) un_) (ua_cons un_ ua_nil))))
  (uss_cons (us_set 3 sc_law.nd (ue_t b_tuple m_tuple (ua_cons (ue_comp false ["k","some"] 1 [2] (ui_rng1 m_range (ua_cons (ue_add (own:=false) un_ (ue_mod (ue_ix (uv 2) un_) un_)) ua_nil)) (ug_name (k:=1) 0 (by dsimp only [compD];decide +kernel)) uif_nil (ue_call C_law_word (ua_cons (uv 0) (ua_cons (ue_ix (uv 1) (ue_add (own:=false) un_ (uv 0))) ua_nil)))) ua_nil)))
  (uss_cons (us_asg (ue_call C_law_tiles (ua_cons (uv 1) (ua_cons (uv 3) (ua_cons (uv 2) ua_nil)))) (ug_tup (n:=2) (ugs_cons (ug_name (k:=1000) 4 sc_law.nd) (ugs_cons (ug_name (k:=1000) 5 sc_law.nd) ugs_nil))))
  (uss_cons (us_set 6 sc_law.nd (ue_tup (ua_cons (uv 3) (ua_cons (uv 4) ua_nil))))
  (uss_cons (us_set 7 sc_law.nd (ue_tup (ua_cons us_ (ua_cons (ue_call C_law_name (ua_cons (ue_ix (uv 2) un_) ua_nil)) ua_nil))))
  (uss_cons (us_for (ui_seq (uv 1)) (ug_name (k:=1000) 8 sc_law.nd)
  (uss_cons (us_set 9 sc_law.nd (ue_call C_law_draws (ua_cons (uv 8) (ua_cons un_ ua_nil))))
  (uss_cons (us_set 10 sc_law.nd (ue_ix (uv 3) (ue_mod (ue_ix (uv 9) un_) (ue_b b_len m_len (ua_cons (uv 3) ua_nil)))))
  (uss_cons (us_asg (ue_call C_law_walk (ua_cons (uv 4) (ua_cons (ue_slX (own:=false) (uv 9) (uo_some un_) uo_none) (ua_cons (ue_lst (own:=false) (ua_cons (uv 10) ua_nil)) ua_nil)))) (ug_tup (n:=3) (ugs_cons (ug_name (k:=1000) 11 sc_law.nd) (ugs_cons (ug_name (k:=1000) 12 sc_law.nd) (ugs_cons (ug_name (k:=1000) 13 sc_law.nd) ugs_nil)))))
  (uss_cons (us_set 14 sc_law.nd (ue_and (uv 13) (ue_one (ue_c k_eqX (ue_lenSet m_len m_set (ua_cons (uv 12) ua_nil)) (ue_b b_len m_len (ua_cons (uv 12) ua_nil))))))
  (uss_cons (us_set 15 sc_law.nd (ue_call C_is_cover (ua_cons (uv 6) (ua_cons (uv 7) (ua_cons (uv 10) (ua_cons (ue_t (b_list (own:=false)) m_list (ua_cons (uv 11) ua_nil)) ua_nil))))))
  (uss_one (us_if (PWU.pt (uw_or (ut_not (ut_val (ue_b b_isi m_isinstance (ua_cons (uv 15) (ua_cons (ug_ty (n:="bool") m_bool) ua_nil))))) (uw_or1 (ut_c k_neX (uv 15) (uv 14)))))
  (uss_one (us_ret ub_))
  uss_nil))))))))
  (uss_cons (us_set 16 sc_law.nd (ue_b b_len m_len (ua_cons (ue_comp false ["tile"] 1 [] (ui_seq (uv 4)) (ug_name (k:=1) 0 (by dsimp only [compD];decide +kernel)) (uif_one (ut_c k_eqX (ue_ix (ue_ix (uv 0) un_) un_) us_)) (uv 0)) ua_nil)))
  (uss_cons (us_for (ui_seq (uv 3)) (ug_name (k:=1000) 10 sc_law.nd)
  (uss_cons (us_set 15 sc_law.nd (ue_call C_how_many (ua_cons (uv 6) (ua_cons (uv 7) (ua_cons (uv 10) ua_nil)))))
  (uss_cons (us_if (PWU.pt (uw_or (ut_val (ue_b b_isi m_isinstance (ua_cons (uv 15) (ua_cons (ug_ty (n:="bool") m_bool) ua_nil)))) (uw_or1 (ut_not (ut_val (ue_b b_isi m_isinstance (ua_cons (uv 15) (ua_cons (ug_ty (n:="int") m_int) ua_nil))))))))
  (uss_one (us_ret ub_))
  uss_nil)
  (uss_one (us_if (ut_c k_neX (uv 15) (ue_mulX (own:=false) (uv 16) (ue_call C_law_ways (ua_cons (uv 4) (ua_cons (ue_tup (ua_cons (uv 10) ua_nil)) (ua_cons (uv 5) ua_nil))))))
  (uss_one (us_ret ub_))
  uss_nil)))))
  (uss_one (us_ret ub_)))))))))))) ?_
  rintro us M Q ⟨ns,rfl,hl,q⟩
  refine seq_gen fun V hV=>?_
  simp! only [uAsg,hName,bSumG,uLenSet]
  intro p hp
  subst hV
  refine seq_gen fun V hV=>?_
  refine while_by (fun τ Mi=>∃ cells:List Int,τ=[some (.lst (ns.map .int)),some (.ref p),none,none,none,none,none,none,none,none,none,none,none,none,none,none,none]∧Mi=mup M p (.lst (cells.map .int))∧cells.length≤67) (fun τ Mi=>4 - lnM (Mi p)) ⟨ns,rfl,rfl,by omega⟩ ?_
  rintro τ Mi ⟨cells,rfl,rfl,hc⟩
  simp! only [bSumG,uLenSet,List.length_map]
  refine ite2 (fun h=>?_) (fun h=>?_)
  · have h4:(cells.length:Int) < 4:=of_decide_eq_true h
    simp! only [uDrop,List.length_map,bSumG,uLenSet]
    refine ⟨isL_own,ns,_,rfl,by omega,by omega,fun n=>?_⟩
    simp! only [bSumG,uLenSet]
    refine ⟨big (by rw [List.length_map];omega),⟨cells++[n],by simp,by simp;omega⟩,?_⟩
    simp only [lnM,List.length_append,List.length_map,List.length_cons,List.length_nil]
    omega
  · have h4:4≤cells.length:=by
      have:¬ (cells.length:Int) < 4:=by simpa using h
      omega
    refine ⟨_,M,cv_slot (j:=1) hp rfl,?_⟩
    subst hV
    have c0:atI (cells.map U.int) 0=some (.int cells[0]):=at_draw cells 0 (by omega)
    generalize cells[0]=v0 at c0
    refine seq_gen fun V hV=>?_
    simp! only [uAsg,hName,c0,bSumG,uLenSet]
    refine ⟨v0,12,rfl,by decide,fun ds hds hd0=>?_⟩
    have d0:atI (ds.map U.int) 0=some (.int ds[0]):=at_draw ds 0 (by omega)
    have d4:atI (ds.map U.int) 4=some (.int ds[4]):=at_draw ds 4 (by omega)
    generalize ds[0]=w0 at d0
    generalize ds[4]=w4 at d4
    have r0:=Int.emod_nonneg w0 (show (5:Int)≠0 by decide)
    have r1:=Int.emod_lt_of_pos w0 (show (0:Int) < 5 by decide)
    obtain ⟨m,hmm,hm6⟩:∃ m:Nat,2 + w0 % 5=m∧m≤6:=⟨(2 + w0 % 5).toNat,by omega,by omega⟩
    subst hV
    refine seq_gen fun V hV=>?_
    simp! only [uAsg,hName,bSumG,uLenSet]
    refine uComp_all (S:=⟨none,rangeU 0 m⟩) (M1:=M) (fun u=>∃ t:Str,u=.str t∧PyData.strOk t=true) (fun R r=>by
      simp! only [d0,hmm,bSumG,uLenSet]
      exact ⟨by decide,by omega,by omega,by rw [Int.toNat_natCast];exact r⟩) (small (by show (rangeU 0 m).length≤_;rw [rangeU_len];omega)) (fun a e=>by cases e) ?_ ?_
    · intro i x hx M' _ R hR
      obtain ⟨rfl,hi⟩:=rangeU_get hx
      have ai:atI (ds.map U.int) (5 + (0 + (i:Int)))=some (.int ds[5 + i]):=by
        rw [show (5:Int) + (0 + (i:Int))=((5 + i:Nat):Int) by omega]
        exact at_draw ds (5 + i) (by omega)
      simp! only [hName,ai,bSumG,uLenSet]
      exact ⟨_,_,rfl,by omega,by omega,fun z hz1 hz2=>hR _ ⟨z,rfl,hz1⟩⟩
    · intro zs hzl hzs
      obtain ⟨ss,rfl,hso⟩:=strs_of zs hzs
      have hsl:ss.length=m:=by
        have:(ss.map U.str).length=(rangeU 0 m).length:=hzl
        rw [List.length_map,rangeU_len] at this;exact this
      have hsne:ss≠[]:=fun z=>by subst z;simp at hsl;omega
      simp! only [bSumG,uLenSet]
      subst hV
      refine seq_gen fun V hV=>?_
      simp! only [uAsg,hTup,hCons,hNil,hName,bSumG,uLenSet]
      refine ⟨cells,ds,ss,rfl,hds,by omega,by omega,by omega,fun tls last hT=>?_⟩
      try simp! only [uAsg,hTup,hCons,hNil,hName,bSumG,uLenSet]
      subst hV
      refine seq_gen fun V hV=>?_
      simp! only [uAsg,hName,bSumG,uLenSet]
      subst hV
      refine seq_gen fun V hV=>?_
      simp! only [uAsg,hName,d4,bSumG,uLenSet]
      refine ⟨w4,rfl,fun x hx1 hx2=>?_⟩
      simp! only [bSumG,uLenSet]
      subst hV
      refine seq_gen fun V hV=>?_
      have hpos:0 < (ss.length:Int):=by omega
      refine for_by (S:=⟨none,cells.map U.int⟩) (M1:=M) (fun R r=>by simp! only [bSumG,uLenSet];exact r)
        (fun i τ Mi=>∃ a b c d e g h k:Option U,τ=[some (.lst (ns.map .int)),some (.lst (cells.map .int)),some (.lst (ds.map .int)),some (.tup (ss.map U.str)),some (.tup (tls.map Tl.toU)),some (.str last),some (.tup [.tup (ss.map U.str),.tup (tls.map Tl.toU)]),some (.tup [.str (Str.ofString "name"),.str x]),a,b,c,d,e,g,h,k,none]∧Sub M Mi) ⟨none,none,none,none,none,none,none,none,rfl,Sub.refl M⟩ nk ?_ ?_
      · rintro i y τ Mi e ⟨a,b,c,d,ee,g,h,k,rfl,hsub⟩
        obtain ⟨v,hv⟩:∃ v,y=U.int v:=by
          obtain ⟨z,_,e⟩:=List.mem_map.mp (List.mem_of_getElem? e)
          exact ⟨z,e.symm⟩
        subst hv
        simp! only [hName,bSumG,uLenSet]
        refine seq_gen fun V1 hV1=>?_
        simp! only [uAsg,hName,bSumG,uLenSet]
        refine ⟨v,9,rfl,by decide,fun l hl9 hl0=>?_⟩
        have a0:atI (l.map U.int) 0=some (.int l[0]):=at_draw l 0 (by omega)
        generalize l[0]=u0 at a0
        obtain ⟨s,hs,hsa⟩:=sort_at u0 hsne
        subst hV1
        refine seq_gen fun V1 hV1=>?_
        simp! only [uAsg,hName,a0,List.length_map,hsa,bSumG,uLenSet]
        refine ⟨hpos,?_⟩
        subst hV1
        refine seq_gen fun V1 hV1=>?_
        simp! only [uAsg,hTup,hCons,hNil,hName,cut_map,bSumG,uLenSet]
        refine ⟨ss,tls,last,cutU l (some 1) none,s,rfl,hT,by have:=cut_len l (some 1) none;omega,fun p word pre cur bb hp2 hwl hpl hcov=>?_⟩
        try simp! only [hTup,hCons,hNil,hName,bSumG,uLenSet]
        have hcv:=hcov x
        subst hV1
        refine seq_gen fun V1 hV1=>?_
        have go:∀ due:U,due=.bl (bb && decide (pre++[cur]).Nodup)→V1 [some (.lst (ns.map .int)),some (.lst (cells.map .int)),some (.lst (ds.map .int)),some (.tup (ss.map U.str)),some (.tup (tls.map Tl.toU)),some (.str last),some (.tup [.tup (ss.map U.str),.tup (tls.map Tl.toU)]),some (.tup [.str (Str.ofString "name"),.str x]),some (.int v),some (.lst (l.map .int)),some (.str s),some (.ref p),some (.lst ((pre++[cur]).map U.str)),some (.bl bb),some due,k,none] (mup Mi p (.lst (word.map natU))):=by
          rintro due rfl
          subst hV1
          refine seq_gen fun V1 hV1=>?_
          simp! only [uAsg,hName,bSumG,uLenSet]
          refine ⟨ss,tls,.name x,s,.lst (word.map natU),rfl,fun tl ht=>Nat.le_succ_of_le ((hT.tab (by omega)).dep tl ht),trivial,fun ws e=>?_,?_⟩
          · cases e
            exact ⟨by simp;omega,fun u hu=>by obtain ⟨k,_,rfl⟩:=List.mem_map.mp hu;trivial⟩
          rw [hcv]
          subst hV1
          generalize (bb && decide (pre++[cur]).Nodup)=tt
          simp! only [uIfS,eqX_bl,bSumG,uLenSet]
          have hpn:M p=none:=by
            cases hM:M p with
            | none=>rfl
            | some o=>rw [hsub p o hM] at hp2;cases hp2
          exact ⟨_,_,_,_,_,_,_,_,rfl,hsub.mup hpn⟩
        cases bb with
        | false =>
          simp! only [uAsg,hName,bSumG,uLenSet]
          exact go _ rfl
        | true =>
          simp! only [uAsg,hName,bSumG,uLenSet]
          refine ⟨pre++[cur],rfl,by simp;omega,?_⟩
          refine go _ ?_
          have hd:=ddS_nodup (pre++[cur])
          have e:decide (((ddS (pre++[cur])).length:Int)=((pre++[cur]).length:Int))=decide (pre++[cur]).Nodup:=by
            rw [decide_eq_decide]
            exact ⟨fun h=>hd.mp (by omega),fun h=>by have:=hd.mpr h;omega⟩
          rw [Bool.true_and,← e]
          simp
      · rintro τ Mi ⟨a,b,c,d,ee,g,h,k,rfl,hsub⟩
        show V _ _
        subst hV
        refine seq_gen fun V hV=>?_
        simp! only [uAsg,hName,bSumG,uLenSet]
        refine uComp_opt (S:=⟨none,tls.map Tl.toU⟩) (M1:=Mi) (tls.map fun tl=>if isAny tl then some tl.toU else none) (fun R r=>by simp! only [bSumG,uLenSet];exact r) (by simp) (small (by show (tls.map Tl.toU).length≤_;rw [List.length_map];have:=hT.many;omega)) (fun a e=>by cases e) ?_ ?_
        · intro k x z hx hz M' hS R r'
          have hx':(tls.map Tl.toU)[k]?=some x:=hx
          rw [List.getElem?_map] at hx' hz
          cases hk:tls[k]? with
          | none=>rw [hk] at hx';cases hx'
          | some tl =>
            rw [hk] at hx' hz
            cases hx'
            simp only [Option.map_some,Option.some.injEq] at hz
            subst hz
            obtain ⟨nm,cl,pt,co⟩:=tl
            rcases hT.kind _ (List.mem_of_getElem? hk) with ⟨c,hp,_⟩ | ⟨hp,_⟩
            · dsimp only at hp;subst hp
              simp! only [hName,vw_tl,Pt.toU,w_at_any,bSumG,uLenSet]
              exact r'
            · dsimp only at hp;subst hp
              simp! only [hName,vw_tl,Pt.toU,bSumG,uLenSet]
              exact r'
        have ef:((tls.map fun tl=>if isAny tl then some tl.toU else none).filterMap id)=(tls.filter isAny).map Tl.toU:=by
          generalize tls=L
          induction L with
          | nil=>rfl
          | cons a r ih =>
            rw [List.map_cons,List.filterMap_cons]
            by_cases ha:isAny a=true
            · rw [if_pos ha,List.filter_cons_of_pos ha,List.map_cons];exact congrArg _ ih
            · rw [if_neg ha,List.filter_cons_of_neg ha];exact ih
        simp! only [ef,bSumG,uLenSet,List.length_map]
        have htw:(tls.filter isAny).length=twins tls:=rfl
        rw [htw]
        have htl:twins tls≤16:=Nat.le_trans (List.length_filter_le _ _) hT.many
        subst hV
        refine seq_gen fun V hV=>?_
        refine for_by (S:=⟨none,ss.map U.str⟩) (M1:=Mi) (fun R r=>by simp! only [bSumG,uLenSet];exact r)
          (fun i τ M'=>∃ a b c d e g h k:Option U,τ=[some (.lst (ns.map .int)),some (.lst (cells.map .int)),some (.lst (ds.map .int)),some (.tup (ss.map U.str)),some (.tup (tls.map Tl.toU)),some (.str last),some (.tup [.tup (ss.map U.str),.tup (tls.map Tl.toU)]),some (.tup [.str (Str.ofString "name"),.str x]),a,b,c,d,e,g,h,k,some (.int (twins tls:Int))]∧M'=Mi) ⟨_,_,_,_,_,_,_,_,rfl,rfl⟩ nk ?_ ?_
        · rintro i y τ M' e ⟨a,b,c,d,ee,g,h,k,rfl,rfl⟩
          obtain ⟨s,hs,rfl⟩:∃ s,s∈ss∧y=U.str s:=by
            obtain ⟨z,hz,e⟩:=List.mem_map.mp (List.mem_of_getElem? e)
            exact ⟨z,hz,e.symm⟩
          simp! only [hName,bSumG,uLenSet]
          refine seq_gen fun V1 hV1=>?_
          simp! only [uAsg,hName,bSumG,uLenSet]
          refine ⟨ss,tls,.name x,s,rfl,hT.tab (by omega),show (1:Nat)≤40 by decide,hs,?_⟩
          rw [cnt_name hT]
          subst hV1
          refine seq_gen fun V1 hV1=>?_
          simp! only [uIfS,bSumG,uLenSet]
          simp only [uNext]
          subst hV1
          simp! only [uIfS,bSumG,uLenSet]
          refine ⟨ss,tls,[],s,last,rfl,hT,⟨by simp,by simpa using hs⟩,by simp;omega,by omega,?_⟩
          show CMulB _ _∧_
          refine ⟨.inl (by unfold CMul;omega),?_⟩
          rw [List.nil_append,if_neg (by simp)]
          exact ⟨_,_,_,_,_,_,_,_,rfl,rfl⟩
        · rintro τ M' ⟨a,b,c,d,ee,g,h,k,rfl,rfl⟩
          show V _ _
          subst hV
          simp only [uRet,uC]
          exact ⟨_,M,hsub,.inl rfl,q⟩
end
theorem ints_rel {K:PySem.W.Frag} {H:Hp} {M:MHp}:∀ ns:List Int,RelUs K H M (ns.map U.int) (ns.map V.int)
  | []=>.nil
  | _ :: r=>.cons relU_int (ints_rel r)
theorem law_entry {K:PySem.W.Frag} {H:Hp} {a:Addr} {ns:List Int} {E:XK} (hl:ns.length≤63) (hS:SqL K H a (ns.map V.int)):liftSp K spLaw [.ref a] H (fun v _=>v=.bl true) E:=by
  refine ⟨[.lst (ns.map .int)],fun _=>none,fun u _=>u=.bl true,(fun a mo e=>by cases e),.cons ?_ .nil,⟨ns,rfl,hl,rfl⟩,fun u v M1 H1 _ _ ru q=>by subst q;exact ru.bl⟩
  simp only [RelU]
  refine ⟨a,_,rfl,?_,ints_rel ns⟩
  rcases hS with h | h
  · exact .inl ⟨trivial,h⟩
  · exact .inr h
def DefAt (K:PySem.W.Frag) (n:Str) (st:Stmt) (f:Addr):Prop:=∃ fd,PySem.W.nsIn K mainGlobals n=some (some (.ref f))∧Fun K n n st f fd
theorem dmk {K:PySem.W.Frag} {n:Str} {st:Stmt} {f:Addr} {oc:Value} {od an:Option Addr} {osl:Array (Option Value)} {kV doc pm cdv ct:Value} (a:PySem.W.nsIn K mainGlobals n=some (some (.ref f))) (l:K.lookup f=some ⟨oc,od,.func (PySem.W.fnOf n n (defArgs st) (defBody st) (defScope st) .none kV doc pm an cdv ct),osl⟩) (c:PySem.W.codeIn K cdv n=true) (k:PySem.W.keepIn K (.ref f)=true):DefAt K n st f:=⟨_,a,fun_mk l c k⟩
open PyProof.Rows in
theorem all_mk {l:PySem.W.OpenLaw} {w:World} {K:PySem.W.Frag} {h:Heap} {mg:Str→Option Value} {fa f0 f1 f2 f3 f4 f5 f6 f7 f8 f9 f10 f11 f12 f13 f14 f15 f16 f17 f18 f19 f20 f21 f22 f23 f24 f25 f26 f27 f28:Addr} (X:K.In h) (G:h.Ns mainGlobals mg) (hfa:mg "law"=some (.ref fa))
    (a0:DefAt K "is_whole" s_is_whole f0) (a1:DefAt K "parts_of" s_parts_of f1) (a2:DefAt K "places_of" s_places_of f2) (a3:DefAt K "shape_at" s_shape_at f3) (a4:DefAt K "lies_on_leaf" s_lies_on_leaf f4) (a5:DefAt K "is_pass" s_is_pass f5) (a6:DefAt K "parts" s_parts f6) (a7:DefAt K "places" s_places f7) (a8:DefAt K "tree_at" s_tree_at f8) (a9:DefAt K "holes" s_holes f9) (a10:DefAt K "lies" s_lies f10) (a11:DefAt K "is_cover" s_is_cover f11) (a12:DefAt K "wanted_below" s_wanted_below f12) (a13:DefAt K "tiles_at" s_tiles_at f13) (a14:DefAt K "laid_tiles" s_laid_tiles f14) (a15:DefAt K "pass_chains" s_pass_chains f15) (a16:DefAt K "all_chains" s_all_chains f16) (a17:DefAt K "first_counts" s_first_counts f17) (a18:DefAt K "count_covers" s_count_covers f18) (a19:DefAt K "how_many" s_how_many f19) (a20:DefAt K "_law_mixed" s_law_mixed f20) (a21:DefAt K "_law_draws" s_law_draws f21) (a22:DefAt K "_law_cell_at" s_law_cell_at f22) (a23:DefAt K "_law_name" s_law_name f23) (a24:DefAt K "_law_word" s_law_word f24) (a25:DefAt K "_law_tiles" s_law_tiles f25) (a26:DefAt K "_law_ways" s_law_ways f26) (a27:DefAt K "_law_walk" s_law_walk f27)
    {od an:Option Addr} {sl:Array (Option Value)} {oc kV dc pm cd ct:Value} (aL:PySem.W.nsIn K mainGlobals "law"=some (some (.ref f28))) (lL:K.lookup f28=some ⟨oc,od,.func (PySem.W.fnOf "law" "law" (defArgs s_law) (defBody s_law) (defScope s_law) .none kV dc pm an cd ct),sl⟩) (cL:PySem.W.codeIn K cd "law"=true) (kL:PySem.W.keepIn K (.ref f28)=true)
    {dt0:Addr} (ta0:PySem.W.nsIn K mainGlobals "SIGNS"=some (some (.ref dt0))) (tb0:KTD.tabLook KTD.flatLooks (fun b=>K.lookup b) dt0 (tabP SIGNS)=true) (tc0:KTD.hashesOf (fun b=>K.lookup b) dt0=(tabP SIGNS).map fun p=>(PySem.strKind l.prog w).hash p.1)
    (z0:PySem.W.nsIn K mainGlobals "len"=some none) (z1:PySem.W.nsIn K mainGlobals "isinstance"=some none) (z2:PySem.W.nsIn K mainGlobals "range"=some none) (z3:PySem.W.nsIn K mainGlobals "abs"=some none) (z4:PySem.W.nsIn K mainGlobals "tuple"=some none) (z5:PySem.W.nsIn K mainGlobals "list"=some none) (z6:PySem.W.nsIn K mainGlobals "int"=some none) (z7:PySem.W.nsIn K mainGlobals "bool"=some none) (z8:PySem.W.nsIn K mainGlobals "all"=some none) (z9:PySem.W.nsIn K mainGlobals "zip"=some none) (z10:PySem.W.nsIn K mainGlobals "enumerate"=some none) (z11:PySem.W.nsIn K mainGlobals "sum"=some none) (z12:PySem.W.nsIn K mainGlobals "reversed"=some none) (z13:PySem.W.nsIn K mainGlobals "set"=some none)
    : ∃ fd:FuncData,(∀ (s:Shared) (v:Value),BindsTo s fd ⟨[v],[]⟩ [("script",v)])∧∀ base:Heap,K.In base→base.Ns mainGlobals mg→FnOk l.prog w K mg base CX0 45 fa fd ["script"] (liftSp K spLaw):=by
  have V:∀ {x:Str} {f:Addr},PySem.W.nsIn K mainGlobals x=some (some (.ref f))→mg x=some (.ref f):=PySem.W.mg_of X G
  have N:∀ {x:Str},PySem.W.nsIn K mainGlobals x=some none→mg x=none:=PySem.W.mg_none_of X G
  have e:=hfa.symm.trans (V aL)
  cases e
  have F_law:=fun_mk (st:=s_law) lL cL kL
  obtain ⟨_,v_is_whole,F_is_whole⟩:=a0;have v_is_whole:=V v_is_whole
  obtain ⟨_,v_parts_of,F_parts_of⟩:=a1;have v_parts_of:=V v_parts_of
  obtain ⟨_,v_places_of,F_places_of⟩:=a2;have v_places_of:=V v_places_of
  obtain ⟨_,v_shape_at,F_shape_at⟩:=a3;have v_shape_at:=V v_shape_at
  obtain ⟨_,v_lies_on_leaf,F_lies_on_leaf⟩:=a4;have v_lies_on_leaf:=V v_lies_on_leaf
  obtain ⟨_,v_is_pass,F_is_pass⟩:=a5;have v_is_pass:=V v_is_pass
  obtain ⟨_,v_parts,F_parts⟩:=a6;have v_parts:=V v_parts
  obtain ⟨_,v_places,F_places⟩:=a7;have v_places:=V v_places
  obtain ⟨_,v_tree_at,F_tree_at⟩:=a8;have v_tree_at:=V v_tree_at
  obtain ⟨_,v_holes,F_holes⟩:=a9;have v_holes:=V v_holes
  obtain ⟨_,v_lies,F_lies⟩:=a10;have v_lies:=V v_lies
  obtain ⟨_,v_is_cover,F_is_cover⟩:=a11;have v_is_cover:=V v_is_cover
  obtain ⟨_,v_wanted_below,F_wanted_below⟩:=a12;have v_wanted_below:=V v_wanted_below
  obtain ⟨_,v_tiles_at,F_tiles_at⟩:=a13;have v_tiles_at:=V v_tiles_at
  obtain ⟨_,v_laid_tiles,F_laid_tiles⟩:=a14;have v_laid_tiles:=V v_laid_tiles
  obtain ⟨_,v_pass_chains,F_pass_chains⟩:=a15;have v_pass_chains:=V v_pass_chains
  obtain ⟨_,v_all_chains,F_all_chains⟩:=a16;have v_all_chains:=V v_all_chains
  obtain ⟨_,v_first_counts,F_first_counts⟩:=a17;have v_first_counts:=V v_first_counts
  obtain ⟨_,v_count_covers,F_count_covers⟩:=a18;have v_count_covers:=V v_count_covers
  obtain ⟨_,v_how_many,F_how_many⟩:=a19;have v_how_many:=V v_how_many
  obtain ⟨_,v_law_mixed,F_law_mixed⟩:=a20;have v_law_mixed:=V v_law_mixed
  obtain ⟨_,v_law_draws,F_law_draws⟩:=a21;have v_law_draws:=V v_law_draws
  obtain ⟨_,v_law_cell_at,F_law_cell_at⟩:=a22;have v_law_cell_at:=V v_law_cell_at
  obtain ⟨_,v_law_name,F_law_name⟩:=a23;have v_law_name:=V v_law_name
  obtain ⟨_,v_law_word,F_law_word⟩:=a24;have v_law_word:=V v_law_word
  obtain ⟨_,v_law_tiles,F_law_tiles⟩:=a25;have v_law_tiles:=V v_law_tiles
  obtain ⟨_,v_law_ways,F_law_ways⟩:=a26;have v_law_ways:=V v_law_ways
  obtain ⟨_,v_law_walk,F_law_walk⟩:=a27;have v_law_walk:=V v_law_walk
  have g_SIGNS:=V ta0
  have T_SIGNS:IsTab l.prog w K dt0 SIGNS:=tab_of (by decide +kernel) tb0 tc0
  have m_len:=N z0
  have m_isinstance:=N z1
  have m_range:=N z2
  have m_abs:=N z3
  have m_tuple:=N z4
  have m_list:=N z5
  have m_int:=N z6
  have m_bool:=N z7
  have m_all:=N z8
  have m_zip:=N z9
  have m_enumerate:=N z10
  have m_sum:=N z11
  have m_reversed:=N z12
  have m_set:=N z13
  refine ⟨PySem.W.fnOf "law" "law" (defArgs s_law) (defBody s_law) (defScope s_law) .none kV dc pm an cd ct,fun s v=>.of_eq rfl,fun base _ _=>?_⟩
  have c0:=ok_parts_of (P:=l.prog) (w:=w) (base:=base) F_parts_of v_parts_of T_SIGNS g_SIGNS
  have c1:=ok_parts F_parts v_parts c0
  have c2:=ok_lies_on_leaf (P:=l.prog) (w:=w) (base:=base) F_lies_on_leaf v_lies_on_leaf
  have c3:=lies_all F_lies v_lies m_all m_zip c2 c0 c1 6
  have b0:=places_all F_places_of v_places_of m_enumerate c0 6
  have b9:=placesT_all F_places_of v_places_of m_enumerate c0 40
  have bp:=ok_places F_places v_places b9
  have b1:=ok_shape_at F_shape_at v_shape_at c0
  have b2:=ok_tree_at F_tree_at v_tree_at b1
  have b3:=ok_holes F_holes v_holes b0 b1
  have b4:=ok_is_pass (P:=l.prog) (w:=w) (base:=base) F_is_pass v_is_pass
  have b5:=ok_below F_wanted_below v_wanted_below b4 b3 b2
  have b6:=ok_is_whole (P:=l.prog) (w:=w) (base:=base) F_is_whole v_is_whole m_isinstance m_int m_bool
  have b7:=ok_is_cover F_is_cover v_is_cover m_isinstance m_list m_len m_reversed b6 c3 b5
  have h0:=ok_tiles_at F_tiles_at v_tiles_at m_enumerate b2 c3 b3
  have h1:=ok_laid_tiles (ok_laid0 F_laid_tiles v_laid_tiles bp h0 b4)
  have h2:=ok_pass_chains (ok_chain0 F_pass_chains v_pass_chains m_enumerate b4)
  have h3:=ok_all_chains (ok_allch0 F_all_chains v_all_chains h2)
  have h4:=ok_first_counts (ok_first0 (P:=l.prog) (w:=w) (base:=base) F_first_counts v_first_counts)
  have h5:=ok_count_covers (ok_count0 F_count_covers v_count_covers m_reversed m_list m_sum m_len h4)
  have h6:=ok_how_many F_how_many v_how_many h1 h3 h5
  have d0:=ok_mixed (P:=l.prog) (w:=w) (base:=base) F_law_mixed v_law_mixed
  have d1:=ok_draws F_law_draws v_law_draws m_abs m_range d0
  have d3:=ok_name (P:=l.prog) (w:=w) (base:=base) F_law_name v_law_name
  have e0:=ok_word (P:=l.prog) (w:=w) (base:=base) F_law_word v_law_word
  have e3:=ok_cell_at (P:=l.prog) (w:=w) (base:=base) F_law_cell_at v_law_cell_at m_len
  have t0:=ok_tiles F_law_tiles v_law_tiles m_enumerate m_len m_tuple d1 e0
  have w0:=ok_walk (P:=l.prog) (w:=w) (base:=base) F_law_walk v_law_walk m_enumerate m_len
  have y0:=wayL_all (P:=l.prog) (w:=w) (base:=base) F_law_ways v_law_ways 7
  exact ok_law F_law m_list m_len m_tuple m_range m_set m_isinstance m_bool m_int e3 d1 e0 t0 d3 w0 b7 h6 y0
theorem walk {l:PySem.W.OpenLaw} {q:Program} {loose:List Str} {XP:(Str→Option Value)→Heap→Prop} {YP:World→Heap→Prop} {d:DefRec} {K:Params→PySem.W.Frag} (hn:l.most=some 63) (hdf:d.params.defaults=[])
    (hY:∀ (w:World) (h:Heap),YP w h→(K w.params).In h)
    (F:∀ (w:World) (mg:Str→Option Value) (fa:Addr) (h:Heap),(K w.params).In h→h.Ns mainGlobals mg→mg d.name=some (.ref fa) →
      ∃ fd:FuncData,(∀ (s:Shared) (u:Value),BindsTo s fd ⟨[u],[]⟩ [("script",u)])∧∀ base:Heap,(K w.params).In base→base.Ns mainGlobals mg→FnOk l.prog w (K w.params) mg base CX0 45 fa fd ["script"] (liftSp (K w.params) spLaw)) :
    PySem.W.WalkO q loose XP YP l.row.toRowW d [] (fun f vs=>PySem.call f vs) :=
  L2.walk_of (n:=63) (k:=45) (x:="script") (CX:=fun _=>CX0) (sp:=fun w=>liftSp (K w.params) spLaw) hn (by decide) hdf ⟨rfl,by decide,by decide⟩ hY F (fun _ _ a ns hl _ hS=>law_entry hl hS) fun _ _ _ _ _ z=>z
end K24
namespace PySem.W.Fast
def tw10033588736516059013:=0
def tw10050197885404705965:=0
def tw10064850029457359661:=0
def tw10096241723571915430:=0
def tw10096577821958021035:=0
def tw10181469869984994712:=0
def tw10206670659044712218:=0
def tw10314201416202161514:=0
def tw10477329792829097687:=0
def tw10519284786589156346:=0
def tw10635558009972513942:=0
def tw10682060608364945824:=0
def tw10718537828493568529:=0
def tw10741548383467436773:=0
def tw10950179331488514171:=0
def tw11019131772086631804:=0
def tw11052322838820009688:=0
def tw1110917615978838029:=0
def tw1113823915820333523:=0
def tw11290951951012935448:=0
def tw11345624033063952497:=0
def tw11500178360973552307:=0
def tw1160653102646931537:=0
def tw11681423256843567299:=0
def tw11734302108667484013:=0
def tw11805484632679435541:=0
def tw1186399598538525405:=0
def tw11876855013930044070:=0
def tw12049402311866087851:=0
def tw12237222584894403861:=0
def tw12260080894411270106:=0
def tw12381830976690275589:=0
def tw12396190243577909613:=0
def tw12415688750128886936:=0
def tw12493243141023155996:=0
def tw12511253859107823853:=0
def tw12914348488723633324:=0
def tw12919480160221414438:=0
def tw13011825690288464147:=0
def tw13353542031252931872:=0
def tw13530138662858591494:=0
def tw13561040804441985632:=0
def tw13598873208261872102:=0
def tw13619444054159204639:=0
def tw13635960340336922118:=0
def tw13670162109080196955:=0
def tw13738669705346062790:=0
def tw13818062008030276820:=0
def tw14019970412090431446:=0
def tw14036369079164008333:=0
def tw14037839394719596134:=0
def tw14077301800075404680:=0
def tw14170056663840687927:=0
def tw14198126883796965086:=0
def tw14269191606745563867:=0
def tw14506804291810360692:=0
def tw14506947317704567486:=0
def tw14715674322758646159:=0
def tw14845872675706030914:=0
def tw14933846364955590387:=0
def tw14956487497674588896:=0
def tw14958969473937368523:=0
def tw15370101849220170632:=0
def tw15410318706807103884:=0
def tw15416486116362379203:=0
def tw15419591355442698882:=0
def tw15453450649322070026:=0
def tw15460465989438671802:=0
def tw1548766904964954756:=0
def tw15521134911973535820:=0
def tw15600606745100558367:=0
def tw15649710304609532887:=0
def tw15843686948613767703:=0
def tw15928108586689340795:=0
def tw15977947901470896333:=0
def tw16026904348569839845:=0
def tw16053654919778610225:=0
def tw16073214670314891961:=0
def tw16108916992283237454:=0
def tw16112173134781772508:=0
def tw16220139252207792081:=0
def tw16456219182535953447:=0
def tw16511280269919688563:=0
def tw16597796369920455409:=0
def tw16610568384656536736:=0
def tw16777688725865558920:=0
def tw16880850469076025351:=0
def tw16902025588686773422:=0
def tw17098498045143958469:=0
def tw17159339276940290263:=0
def tw17264185436253952420:=0
def tw17295253228740676728:=0
def tw17387147142136278543:=0
def tw17419320717387570131:=0
def tw17501866888575431899:=0
def tw17546047618696107427:=0
def tw17616303146564829628:=0
def tw17727174350556137385:=0
def tw17839601013537970192:=0
def tw17904243504917220954:=0
def tw18102833067589657354:=0
def tw1820673442056230606:=0
def tw18227077029942139737:=0
def tw18367150342221510821:=0
def tw18379738398391203850:=0
def tw1842926217328362746:=0
def tw1867514546221689632:=0
def tw2013059121148661985:=0
def tw2072828263605980146:=0
def tw2094866545751903228:=0
def tw2231917884693258991:=0
def tw2351583576062484501:=0
def tw2500920092694821417:=0
def tw2572278266580167221:=0
def tw2634192759813955890:=0
def tw2711941535268144818:=0
def tw2750991538402950379:=0
def tw3062892333818844724:=0
def tw3122967326340933668:=0
def tw3761118290803602899:=0
def tw3802163954400664010:=0
def tw3859166590865527239:=0
def tw388373613832176773:=0
def tw4395129473071569589:=0
def tw4516497808924919708:=0
def tw455237536940563120:=0
def tw4559871731534924758:=0
def tw4582868854525940072:=0
def tw4781339472523204508:=0
def tw5102121298940654599:=0
def tw5275468419716347081:=0
def tw5383252763139635849:=0
def tw5566076108625362364:=0
def tw5639511377558645059:=0
def tw5734589135881831470:=0
def tw5768658304543312337:=0
def tw589074551344071723:=0
def tw5972648599423119943:=0
def tw5977584844979514994:=0
def tw6191610525071633739:=0
def tw6201504162459751310:=0
def tw6218752105086779138:=0
def tw6232640524323031307:=0
def tw628254627651815102:=0
def tw6287132731637395267:=0
def tw636337858852607697:=0
def tw6377788160689352523:=0
def tw6395466064724627376:=0
def tw6438971356540082087:=0
def tw6439498423349322640:=0
def tw6633893857934298317:=0
def tw6965456143620056830:=0
def tw7005150016542011758:=0
def tw7090048511726980246:=0
def tw7236765531122885264:=0
def tw7461447758945384424:=0
def tw7753467469034283137:=0
def tw7790547161103912025:=0
def tw7843235884942276960:=0
def tw7863681509046418307:=0
def tw7874106150189468119:=0
def tw7874770977447331318:=0
def tw7928638150146186880:=0
def tw8016099334920505204:=0
def tw8322717184918117210:=0
def tw8448542385372325505:=0
def tw8566953221486480406:=0
def tw8667437090381622289:=0
def tw8682525506351455862:=0
def tw878537592057824838:=0
def tw8872030385721869268:=0
def tw9025233516203819781:=0
def tw9168680714958141961:=0
def tw9278322466051190135:=0
def tw9322006492189348634:=0
def tw9332229557724907877:=0
def tw9612683313615652432:=0
def tw970470987136592805:=0
def tw9801833975324452853:=0
def tw9903729704858401886:=0
def tw9935998358884471009:=0
end PySem.W.Fast
open PySem PySem.W PyProof.Rows
set_option maxRecDepth 100000 in
set_option maxHeartbeats 0 in
theorem PySem.Challenge.cw_rowsmith_k24_passes_never_ring_holds : PySem.Challenge.rw_rowsmith_k24_passes_never_ring.Holds := by
  w_on;o_law;k_head;(case hw=>w_witness2)
  k_fill
  refine K24.walk (l:=PySem.Challenge.rw_rowsmith_k24_passes_never_ring) rfl rfl (fun w h Y=>PySem.W.kIn_of Y) ?F
  case F =>
    intro w mg fa h KX G hmg
    refine' K24.all_mk KX G hmg ?a0 ?a1 ?a2 ?a3 ?a4 ?a5 ?a6 ?a7 ?a8 ?a9 ?a10 ?a11 ?a12 ?a13 ?a14 ?a15 ?a16 ?a17 ?a18 ?a19 ?a20 ?a21 ?a22 ?a23 ?a24 ?a25 ?a26 ?a27 ?aL ?lL ?cL ?kL ?ta0 ?tb0 ?tc0 ?z0 ?z1 ?z2 ?z3 ?z4 ?z5 ?z6 ?z7 ?z8 ?z9 ?z10 ?z11 ?z12 ?z13
    all_goals first | (refine' K24.dmk ?a ?l ?c ?k;(case a=>k_is);(case l=>k_is);(case c=>k_is);(case k=>k_is)) | skip
    (case aL=>k_is)
    (case lL=>k_is)
    (case cL=>k_is)
    (case kL=>k_is)
    (case ta0=>k_is)
    (case tb0=>kernel_rfl)
    (case tc0=>kernel_rfl)
    (case z0=>k_is)
    (case z1=>k_is)
    (case z2=>k_is)
    (case z3=>k_is)
    (case z4=>k_is)
    (case z5=>k_is)
    (case z6=>k_is)
    (case z7=>k_is)
    (case z8=>k_is)
    (case z9=>k_is)
    (case z10=>k_is)
    (case z11=>k_is)
    (case z12=>k_is)
    (case z13=>k_is)
#print axioms PySem.Challenge.cw_rowsmith_k24_passes_never_ring_holds