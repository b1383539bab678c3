import PyProof.Rows.All
import Wide.All
import OpenK.AllK
import Wide.FinOn
import Lean
import PyProof.EqAt
import PyProof.EqKinds
import PyProof.TupleCall
import PySem.Challenge.RW_rowsmith_k35_whole_a_tile_more_costs_no
import KE.KRevIter
import PyProof.ListRange
import PyProof.CollectIter
import PyProof.Rows.SortWalk
import PyProof.ListMulRoad
import PyProof.AutoListH
import PyProof.TupleOfGen
import PyProof.EnumMake
set_option Elab.async false
set_option linter.all false
set_option maxRecDepth 100000
namespace L2
open PySem PySem.Spec PyProof.Rows
abbrev Key:=Sum Int Str
def keyIs:Key→Value→Bool
  | .inl k,v=>Value.isInt k v
  | .inr x,v=>Value.isStrOf x v
def keyH (w:World):Key→Int
  | .inl k=>hashInt k
  | .inr x=>hashStr w x
theorem keyIs_shape:∀ {k:Key} {v:Value},keyIs k v=true→(∃ i t,k=Sum.inl i∧v=Value.int i t)∨(∃ x t,k=Sum.inr x∧v=Value.str x t)
  | .inl i,v,h=>by
    obtain ⟨t,e⟩:=Value.isInt_shape (k:=i) (v:=v) h
    exact .inl ⟨i,t,rfl,e⟩
  | .inr x,v,h=>by
    obtain ⟨t,e⟩:=Value.isStrOf_shape (x:=x) (v:=v) h
    exact .inr ⟨x,t,rfl,e⟩
theorem keyIs_int (i:Int) (t:Tok):keyIs (.inl i) (.int i t)=true:=by simp [keyIs,Value.isInt]
theorem keyIs_str (x:Str) (t:Tok):keyIs (.inr x) (.str x t)=true:=by simp [keyIs,Value.isStrOf]
theorem key_ll (a b:Int):decide ((Sum.inl a:Key)=Sum.inl b)=(a == b):=by
  by_cases e:a=b
  · subst e;simp
  · have h:¬ (Sum.inl a:Key)=Sum.inl b:=fun q=>e (Sum.inl.inj q)
    rw [decide_eq_false h]
    exact (beq_eq_false_iff_ne.mpr e).symm
theorem key_rr (a b:Str):decide ((Sum.inr a:Key)=Sum.inr b)=decide (a=b):=by
  by_cases e:a=b
  · subst e;simp
  · have h:¬ (Sum.inr a:Key)=Sum.inr b:=fun q=>e (Sum.inr.inj q)
    rw [decide_eq_false h,decide_eq_false e]
theorem key_lr (a:Int) (b:Str):decide ((Sum.inl a:Key)=Sum.inr b)=false:=decide_eq_false (fun q=>nomatch q)
theorem key_rl (a:Str) (b:Int):decide ((Sum.inr a:Key)=Sum.inl b)=false:=decide_eq_false (fun q=>nomatch q)
def mixKind (prog:Program) (w:World):PySem.KeyKind prog w Key where
  is:=keyIs
  hash:=keyH w
  inj:=fun v a b ha hb=>by
    rcases keyIs_shape ha with ⟨i,t,rfl,rfl⟩ | ⟨x,t,rfl,rfl⟩
    · rcases keyIs_shape hb with ⟨j,u,rfl,e⟩ | ⟨y,u,rfl,e⟩
      · injection e with e1 _;rw [e1]
      · exact nomatch e
    · rcases keyIs_shape hb with ⟨j,u,rfl,e⟩ | ⟨y,u,rfl,e⟩
      · exact nomatch e
      · injection e with e1 _;rw [e1]
  byValue:=fun k v h=>by
    rcases keyIs_shape h with ⟨i,t,rfl,rfl⟩ | ⟨x,t,rfl,rfl⟩ <;> rfl
  pyHash:=fun hv h=>by
    rcases keyIs_shape hv with ⟨i,t,rfl,rfl⟩ | ⟨x,t,rfl,rfl⟩
    · exact wpAny_pyHash_int h
    · exact wpAny_pyHash_str h
  eqBool:=fun hu hv h=>by
    rcases keyIs_shape hu with ⟨i,t,rfl,rfl⟩ | ⟨x,t,rfl,rfl⟩
    · rcases keyIs_shape hv with ⟨j,u,rfl,rfl⟩ | ⟨y,u,rfl,rfl⟩
      · rw [key_ll] at h;exact wpAny_eqBool_int h
      · rw [key_lr] at h;exact SeqAt.EqAt.int_str i t y u _ _ _ _ h
    · rcases keyIs_shape hv with ⟨j,u,rfl,rfl⟩ | ⟨y,u,rfl,rfl⟩
      · rw [key_rl] at h;exact SeqAt.EqAt.str_int x t j u _ _ _ _ h
      · rw [key_rr] at h;exact wpAny_eqBool_str h
  «strs»:=fun k x t v h=>by
    rcases keyIs_shape h with ⟨i,u,rfl,e⟩ | ⟨y,u,rfl,e⟩
    · exact nomatch e
    · injection e with e1 _
      subst e1
      cases v <;> rfl
theorem mixKind_int (prog:Program) (w:World) (i:Int) (t:Tok):(mixKind prog w).is (.inl i) (.int i t)=true:=keyIs_int i t
theorem mixKind_str (prog:Program) (w:World) (x:Str) (t:Tok):(mixKind prog w).is (.inr x) (.str x t)=true:=keyIs_str x t
end L2
namespace L2
open PySem PySem.Spec PyProof.Rows
inductive V where
  | non | bl (b:Bool) | int (i:Int) | str (x:Str) | byt (b:Array UInt8) | flt (b:UInt64) | ref (a:Addr) | ty (n:String)
  deriving DecidableEq
def RelV:V→Value→Prop
  | .non,u=>u=Value.none
  | .bl b,u=>u=Value.bool b
  | .int i,u=>∃ t,u=Value.int i t
  | .str x,u=>∃ t,u=Value.str x t
  | .byt b,u=>∃ t,u=Value.bytes b t
  | .flt b,u=>∃ t,u=Value.float b t
  | .ref a,u=>u=Value.ref a
  | .ty n,u=>u=Value.type n
abbrev Vals:List V→List Value→Prop:=Paired RelV
theorem Vals.length {xs:List V} {us:List Value} (r:Vals xs us):xs.length=us.length:=Paired.length r
theorem Vals.get:∀ {xs:List V} {us:List Value} {i:Nat} {x:V},Vals xs us→xs[i]?=some x→∃ u,us[i]?=some u∧RelV x u
  | _,_,_,_,.nil,e=>by simp at e
  | _,_,0,_,.cons r _,e=>by simp at e;subst e;exact ⟨_,rfl,r⟩
  | _,_,i + 1,x,.cons _ t,e=>by
    obtain ⟨u,h1,h2⟩:=Vals.get (i:=i) (x:=x) t (by simpa using e)
    exact ⟨u,by simpa using h1,h2⟩
theorem Vals.set {x:V} {u:Value} (r:RelV x u):∀ {xs:List V} {us:List Value} (i:Nat),Vals xs us→Vals (xs.set i x) (us.set i u)
  | _,_,_,.nil=>.nil
  | _,_,0,.cons _ t=>.cons r t
  | _,_,i + 1,.cons q t=>.cons q (Vals.set r i t)
theorem Vals.append:∀ {xs ys:List V} {us ws:List Value},Vals xs us→Vals ys ws→Vals (xs++ys) (us++ws)
  | _,_,_,_,.nil,s=>s
  | _,_,_,_,.cons r t,s=>.cons r (Vals.append t s)
theorem Vals.take:∀ {xs:List V} {us:List Value} (n:Nat),Vals xs us→Vals (xs.take n) (us.take n)
  | _,_,0,_=>.nil
  | _,_,_ + 1,.nil=>.nil
  | _,_,n + 1,.cons r t=>.cons r (Vals.take n t)
theorem Vals.drop:∀ {xs:List V} {us:List Value} (n:Nat),Vals xs us→Vals (xs.drop n) (us.drop n)
  | _,_,0,r=>r
  | _,_,_ + 1,.nil=>.nil
  | _,_,n + 1,.cons _ t=>Vals.drop n t
def RelO:Option V→Option Value→Prop
  | some v,some u=>RelV v u
  | none,none=>True
  | _,_=>False
def KV {κ:Type}:List (κ × V)→List (κ × Value)→Prop:=Paired fun (p:κ × V) (q:κ × Value)=>p.1=q.1∧RelV p.2 q.2
def kV:Key→V
  | .inl i=>.int i
  | .inr x=>.str x
inductive HO where
    | lst (xs:List V)
    | tup (xs:List V)
    | dK (kvs:List (Key × V)) | dT (kvs:List (List Key × V))
    | set (S:Int→Bool) (n:Nat)
    | ins (C dx:Addr) (fs:List (Str × V))
    | own (x:Addr)
    | xd (fs:List (Str × V))
    | met (f x:Addr)
    | rng (lo hi:Int)
    | frz (o:Obj) (u:HO)
    | tbl (ps:Array Value)
    | ext (φ:Heap→Prop)
abbrev Hp:=Addr→Option HO
def upd (H:Hp) (a:Addr) (o:HO):Hp:=fun b=>if b=a then some o else H b
theorem upd_same {H:Hp} {a:Addr} {o:HO}:upd H a o a=some o:=by unfold upd;rw [if_pos rfl]
theorem upd_ne {H:Hp} {a b:Addr} {o:HO} (h:b≠a):upd H a o b=H b:=by unfold upd;rw [if_neg h]
theorem ne_of {H:Hp} {a b:Addr} {o u:HO} (h:H a=some o) (h':H b=some u) (d:o≠u):a≠b:=by
  intro e;subst e;rw [h] at h';exact d (Option.some.inj h')
theorem ne_of_none {H:Hp} {a b:Addr} {o:HO} (h:H a=some o) (h':H b=none):a≠b:=by
  intro e;subst e;rw [h] at h';cases h'
section
variable (P:Program) (w:World)
def ObjOk (H:Hp) (h:Heap) (a:Addr):HO→Prop
  | .lst xs=>xs.length≤sizeLine∧∃ (its:List Value) (n:Nat),Vals xs its∧h.get? a=some { cls:=.type "list",data:=.seq its.toArray n }
  | .tup xs=>xs.length≤sizeLine∧∃ its:List Value,Vals xs its∧IsTup h a its.toArray
  | .dK kvs=>kvs.length≤sizeLine∧(a == sysModules)=false∧∃ vs,KV kvs vs∧h.DictOf (mixKind P w) a vs
  | .dT kvs=>kvs.length≤sizeLine∧(a == sysModules)=false∧∃ xs:List (List Key × Addr × Value),
      Paired (fun (p:List Key × V) (q:List Key × Addr × Value)=>p.1=q.1∧H q.2.1=some (.tup (p.1.map kV))∧RelV p.2 q.2.2) kvs xs ∧
      ∃ o es ep,h.get? a=some o∧o.ExactDict∧o.data=.dict es ep∧es.toList=xs.map (entryOfKey (tupleKind (mixKind P w)))∧(xs.map (·.1)).Nodup
  | .set S n=>h.SetOf (intKind P w) a S n
  | .ins C dx fs=>H dx=some (.own a)∧fs.length≤1000∧dx≠a∧h.get? a=some (PySem.W.instObj C dx) ∧
      ∃ mA,h.Ns1 dx mA∧(∀ f,RelO (fs.lookup f) (mA f))∧PySem.Within mA (fs.map (·.1))
  | .own _=>∃ o,h.get? a=some o
  | .xd fs=>∃ mA,h.Ns1 a mA∧∀ f,RelO (fs.lookup f) (mA f)
  | .rng lo hi=>∃ t u v,h.get? a=some { cls:=.type "range",data:=.fields #[.int lo t,.int hi u,.int 1 v] }
  | .frz o u=>h.get? a=some o∧ObjOk H h a u
  | .tbl ps=>h.get? a=some { cls:=.none,data:=.fields ps }
  | .met f x=>h.get? a=some (PySem.W.methodObj (.ref f) (.ref x))
  | .ext φ=>φ h∧(∃ o,h.get? a=some o)∧∀ h1 h2:Heap,φ h1→(∀ o,h1.get? a=some o→h2.get? a=some o)→φ h2
def HOk (H:Hp) (h:Heap):Prop:=∀ a o,H a=some o→ObjOk P w H h a o
end
section
variable {P:Program} {w:World} {H H':Hp} {h h':Heap} {a:Addr} {o:HO}
theorem ObjOk.lt (x:ObjOk P w H h a o):a < h.objs.size:=by
  cases o with
  | lst xs=>obtain ⟨_,_,_,_,e⟩:=x;exact Heap.lt_size e
  | tup xs=>obtain ⟨_,_,_,p⟩:=x;exact p.lt
  | dK kvs=>obtain ⟨_,_,_,_,o,_,_,e,_⟩:=x;exact Heap.lt_size e
  | dT kvs=>obtain ⟨_,_,_,_,o,_,_,e,_⟩:=x;exact Heap.lt_size e
  | set S n=>obtain ⟨o,_,_,_,e,_⟩:=x;exact Heap.lt_size e
  | ins C dx fs=>obtain ⟨_,_,_,e,_⟩:=x;exact Heap.lt_size e
  | own y=>obtain ⟨_,e⟩:=x;exact Heap.lt_size e
  | xd fs=>obtain ⟨_,⟨_,_,_,e,_⟩,_⟩:=x;exact Heap.lt_size e
  | rng lo hi=>obtain ⟨_,_,_,e⟩:=x;exact Heap.lt_size e
  | frz ob u=>obtain ⟨e,_⟩:=x;exact Heap.lt_size e
  | tbl ps=>exact Heap.lt_size (show h.get? a=some _ from x)
  | met f y=>exact Heap.lt_size (show h.get? a=some _ from x)
  | ext φ=>obtain ⟨_,⟨_,e⟩,_⟩:=x;exact Heap.lt_size e
theorem Paired.mapP {α β:Type} {F G:α→β→Prop}:∀ {l₁:List α} {l₂:List β},Paired F l₁ l₂→(∀ a b,F a b→G a b)→Paired G l₁ l₂
  | _,_,.nil,_=>.nil
  | _,_,.cons r t,f=>.cons (f _ _ r) (Paired.mapP t f)
theorem ObjOk.stay (x:ObjOk P w H h a o) (k:∀ b u,(b=a∨H b=some (.own a))→h.get? b=some u→h'.get? b=some u)
    (ho:∀ b,H b=some (.own a)→H' b=some (.own a)) (ht:∀ b xs,H b=some (.tup xs)→H' b=some (.tup xs)):ObjOk P w H' h' a o:=by
  induction o with
  | lst xs=>obtain ⟨z,its,n,r,e⟩:=x;exact ⟨z,its,n,r,k _ _ (.inl rfl) e⟩
  | tup xs=>obtain ⟨z,its,r,ob,e,c⟩:=x;exact ⟨z,its,r,ob,k _ _ (.inl rfl) e,c⟩
  | dK kvs=>obtain ⟨z,y,vs,r,ob,es,ep,e,c⟩:=x;exact ⟨z,y,vs,r,ob,es,ep,k _ _ (.inl rfl) e,c⟩
  | dT kvs =>
    obtain ⟨z,y,xs,r,ob,es,ep,e,c⟩:=x
    exact ⟨z,y,xs,Paired.mapP r fun p q z=>⟨z.1,ht _ _ z.2.1,z.2.2⟩,ob,es,ep,k _ _ (.inl rfl) e,c⟩
  | set S n=>obtain ⟨ob,es,ep,t,e,c⟩:=x;exact ⟨ob,es,ep,t,k _ _ (.inl rfl) e,c⟩
  | ins C dx fs =>
    obtain ⟨d,z,ne,e,mA,⟨od,es,ep,e2,c⟩,r⟩:=x
    exact ⟨ho _ d,z,ne,k _ _ (.inl rfl) e,mA,⟨od,es,ep,k _ _ (.inr d) e2,c⟩,r⟩
  | own y=>obtain ⟨ob,e⟩:=x;exact ⟨ob,k _ _ (.inl rfl) e⟩
  | xd fs=>obtain ⟨mA,⟨od,es,ep,e,c⟩,r⟩:=x;exact ⟨mA,⟨od,es,ep,k _ _ (.inl rfl) e,c⟩,r⟩
  | rng lo hi=>obtain ⟨t,u,v,e⟩:=x;exact ⟨t,u,v,k _ _ (.inl rfl) e⟩
  | frz ob u ih=>obtain ⟨e,q⟩:=x;exact ⟨k _ _ (.inl rfl) e,ih q⟩
  | tbl ps =>
    have e:h.get? a=some { cls:=.none,data:=.fields ps }:=x
    show h'.get? a=some { cls:=.none,data:=.fields ps }
    exact k a _ (.inl rfl) e
  | met f y =>
    have e:h.get? a=some (PySem.W.methodObj (.ref f) (.ref y)):=x
    show h'.get? a=some (PySem.W.methodObj (.ref f) (.ref y))
    exact k a _ (.inl rfl) e
  | ext φ=>obtain ⟨p,⟨o,e⟩,st⟩:=x;exact ⟨st _ _ p fun o q=>k _ _ (.inl rfl) q,⟨o,k _ _ (.inl rfl) e⟩,st⟩
theorem HOk.lt (x:HOk P w H h) (e:H a=some o):a < h.objs.size:=(x a o e).lt
theorem HOk.fresh (x:HOk P w H h) (e:h.objs.size≤a):H a=none:=by
  cases q:H a with
  | none=>rfl
  | some u=>exact absurd (Nat.lt_of_lt_of_le (x.lt q) e) (Nat.lt_irrefl _)
theorem HOk.kept (x:HOk P w H h) (k:∀ b u,h.get? b=some u→h'.get? b=some u):HOk P w H h':=fun a o e =>
  (x a o e).stay (fun b u _ q=>k b u q) (fun _ q=>q) fun _ _ q=>q
theorem HOk.laid (x:HOk P w H h) (k:∀ b u,h.get? b=some u→h'.get? b=some u) (hp:h.objs.size≤a) (new:ObjOk P w (upd H a o) h' a o):HOk P w (upd H a o) h':=fun b u e=>by
  have hn:=x.fresh hp
  by_cases hb:b=a
  · subst hb;rw [upd_same] at e;cases e;exact new
  · rw [upd_ne hb] at e
    exact (x b u e).stay (fun c v _ q=>k c v q) (fun c q=>by rw [upd_ne (ne_of_none q hn)];exact q) fun c xs q=>by rw [upd_ne (ne_of_none q hn)];exact q
end
def Rd (H:Hp) (a:Addr) (u:HO):Prop:=H a=some u∨∃ o,H a=some (.frz o u)
theorem Rd.ok {P:Program} {w:World} {H:Hp} {h:Heap} {a:Addr} {u:HO} (r:Rd H a u) (x:HOk P w H h):ObjOk P w H h a u:=by
  rcases r with r | ⟨o,r⟩
  · exact x a u r
  · obtain ⟨_,q⟩:=x a _ r
    exact q
def Mut:Option HO→Prop
  | some (.lst _)=>True
  | some (.dK _)=>True
  | some (.dT _)=>True
  | some (.set _ _)=>True
  | some (.ins _ _ _)=>True
  | some (.ext _)=>True
  | _=>False
section
variable {P:Program} {w:World} {H:Hp} {h h':Heap} {x e:Addr} {o':HO}
theorem HOk.write (ok:HOk P w H h) (mu:Mut (H x)) (he:e=x∨H e=some (.own x)) (k:∀ b u,b≠e→h.get? b=some u→h'.get? b=some u) (heo:∃ u,h'.get? e=some u)
    (new:ObjOk P w (upd H x o') h' x o'):HOk P w (upd H x o') h':=fun b u q=>by
  have nown:∀ c y,H c=some (.own y)→c≠x:=fun c y r z=>by subst z;rw [r] at mu;exact mu
  have ntup:∀ c xs,H c=some (.tup xs)→c≠x:=fun c xs r z=>by subst z;rw [r] at mu;exact mu
  by_cases hb:b=x
  · subst hb;rw [upd_same] at q;cases q;exact new
  · rw [upd_ne hb] at q
    by_cases hbe:b=e
    · have q':H b=some (.own x):=by
        rcases he with z | z
        · exact absurd (hbe.trans z) hb
        · rw [hbe];exact z
      rw [q] at q';cases q'
      obtain ⟨v,hv⟩:=heo
      exact ⟨v,by rw [hbe];exact hv⟩
    · refine (ok b u q).stay (fun c v hc r=>k c v ?_ r) (fun c r=>by rw [upd_ne (nown c b r)];exact r) fun c xs r=>by rw [upd_ne (ntup c xs r)];exact r
      rcases hc with rfl | hc
      · exact hbe
      · rintro rfl
        rcases he with z | z
        · exact nown c b hc z
        · rw [hc] at z;cases z;exact hb rfl
end
structure Un (fs ex:List Addr) (H H':Hp) (h h':Heap):Prop where
  keep:∀ b o,h.get? b=some o→H b=none→b ∉ fs→b ∉ ex→h'.get? b=some o
  slot:∀ b o,h.get? b=some o→H b=none→b∈fs→b ∉ ex→∃ sl,h'.get? b=some { o with slots:=sl }
  free:∀ b o,h.get? b=some o→H b=none→b ∉ ex→H' b=none
  there:∀ b o,h.get? b=some o→b ∉ ex→∃ o',h'.get? b=some o'
  tups:∀ b xs,H b=some (.tup xs)→H' b=some (.tup xs)
  frzs:∀ b o u,H b=some (.frz o u)→H' b=some (.frz o u)
  tbls:∀ b ps,H b=some (.tbl ps)→∃ more,H' b=some (.tbl (ps++more))
section
variable {fs fs' ex ex':List Addr} {H H1 H2:Hp} {h h1 h2 h':Heap} {a x e:Addr} {o:HO}
theorem Un.any (u:Un fs ex H H1 h h1) {b:Addr} {ob:Obj} (q:h.get? b=some ob) (n:H b=none) (hx:b ∉ ex):∃ sl,h1.get? b=some { ob with slots:=sl }:=by
  by_cases hb:b∈fs
  · exact u.slot b ob q n hb hx
  · exact ⟨ob.slots,u.keep b ob q n hb hx⟩
theorem Un.kept (k:∀ b u,h.get? b=some u→h'.get? b=some u):Un fs ex H H h h' :=
  ⟨fun b ob q _ _ _=>k b ob q,fun b ob q _ _ _=>⟨ob.slots,k b ob q⟩,fun _ _ _ n _=>n,fun b ob q _=>⟨ob,k b ob q⟩,fun _ _ q=>q,fun _ _ _ q=>q,fun _ ps q=>⟨#[],by rw [q];simp⟩⟩
theorem Un.refl:Un fs ex H H h h:=Un.kept fun _ _ q=>q
theorem Un.laid (k:∀ b u,h.get? b=some u→h'.get? b=some u) (hp:h.objs.size≤a) (hn:H a=none):Un fs ex H (upd H a o) h h' where
  keep:=fun b u q _ _ _=>k b u q
  slot:=fun b u q _ _ _=>⟨u.slots,k b u q⟩
  free:=fun b u q n _=>by rw [upd_ne (Nat.ne_of_lt (Nat.lt_of_lt_of_le (Heap.lt_size q) hp))];exact n
  there:=fun b u q _=>⟨u,k b u q⟩
  tups:=fun b xs q=>by rw [upd_ne (ne_of_none q hn)];exact q
  frzs:=fun b u xs q=>by rw [upd_ne (ne_of_none q hn)];exact q
  tbls:=fun b ps q=>⟨#[],by rw [upd_ne (ne_of_none q hn),q];simp⟩
theorem Un.write (mu:Mut (H x)) (he:e=x∨H e=some (.own x)) (k:∀ b u,b≠e→h.get? b=some u→h'.get? b=some u) (heo:∃ u,h'.get? e=some u):Un fs ex H (upd H x o) h h':=by
  have hx:∀ b,H b=none→b≠x:=fun b n z=>by subst z;rw [n] at mu;exact mu
  have hb:∀ b,H b=none→b≠e:=fun b n z=>by
    subst z
    rcases he with r | r
    · exact hx b n r
    · rw [n] at r;cases r
  have hm:∀ b u,H b=some u→¬ Mut (some u)→b≠x:=fun b u q nm z=>by subst z;rw [q] at mu;exact nm mu
  refine ⟨fun b u q n _ _=>k b u (hb b n) q,fun b u q n _ _=>⟨u.slots,k b u (hb b n) q⟩,fun b u q n _=>by rw [upd_ne (hx b n)];exact n,fun b u q _=>?_,
    fun b xs q=>by rw [upd_ne (hm b _ q fun z=>z)];exact q,fun b u xs q=>by rw [upd_ne (hm b _ q fun z=>z)];exact q,fun b ps q=>⟨#[],by rw [upd_ne (hm b _ q fun z=>z),q];simp⟩⟩
  by_cases hbe:b=e
  · subst hbe;exact heo
  · exact ⟨u,k b u hbe q⟩
end
def trk (h:Heap) (H:Hp):List Addr:=(List.range h.objs.size).filter fun a=>(H a).isSome
def hidT (h:Heap) (H:Hp):Heap:=PySem.W.hideAll h (trk h H)
theorem hidT_size (h:Heap) (H:Hp):(hidT h H).objs.size=h.objs.size:=PySem.W.hideAll_size _ _
theorem hidT_get {h:Heap} {H:Hp} {b:Addr} {o:Obj} (e:h.get? b=some o) (n:H b=none):(hidT h H).get? b=some o :=
  PySem.W.hideAll_get _ e fun hm=>by
    have q:(H b).isSome=true:=(List.mem_filter.mp hm).2
    rw [n] at q;simp at q
theorem of_hidT {h:Heap} {H:Hp} {b:Addr} {o:Obj} (e:(hidT h H).get? b=some o):h.get? b=some o∧H b=none:=by
  have e':h.get? b=some o:=PySem.W.of_hideAll (trk h H) e
  refine ⟨e',?_⟩
  cases q:H b with
  | none=>rfl
  | some x =>
    have hm:b∈trk h H:=List.mem_filter.mpr ⟨List.mem_range.mpr (Heap.lt_size e'),by simp [q]⟩
    have z:(hidT h H).get? b=none:=PySem.W.hideAll_none (trk h H) hm
    rw [z] at e;cases e
end L2
namespace L2
open PySem PySem.Spec PyProof.Rows
structure Mod (K:PySem.W.Frag) (mg:Str→Option Value) (base:Heap):Prop where
  kin:K.In base
  glob:base.Ns mainGlobals mg
  blt:∃ mb,base.Ns builtinsNs mb∧∀ x:Str,x≠"__name__"→mb x=bootBuiltins x
  nolimit:base.NoLimit
structure Cx where
  prog:Program
  w:World
  K:PySem.W.Frag
  mg:Str→Option Value
  base:Heap
  A:Around
  N:List Str
  s₀:Shared
  H₀:Hp
  env:Env
  outer:List Env
  stack:List Env
  ex:List Addr
  fn:Str→Bool
  calm:Bool
  pn:List (Addr × Obj)
  xe:Value→Shared→Prop
def frs (l:List Env):List Addr:=l.filterMap (·.frame)
abbrev Cx.fs (X:Cx):List Addr:=frs X.outer
def Vis (sc:Scope) (x:Str):Prop:=sc.names.lookup x=some .local∨sc.names.lookup x=some .cell∨sc.names.lookup x=some .free
def Loc (sc:Scope) (x:Str):Prop:=sc.names.lookup x=some .local∨sc.names.lookup x=some .cell
def Look (env:Env) (h:Heap) (m:Str→Option Value) (x:Str) (u:Value):Prop :=
  (env.kindOf x=some .local∧m x=some u)∨((env.kindOf x=some .cell∨env.kindOf x=some .free)∧∃ c,env.cells.lookup x=some c∧h.IsCell c (some u))
structure Cx.Ok (X:Cx):Prop where
  mod:Mod X.K X.mg X.base
  kind:X.env.scope.kind=.function
  glob:X.env.globals=mainGlobals
  blt:X.env.builtins=builtinsNs
  above:X.s₀.heap.objs.size≤X.env.locals
  inj:∀ x y c,X.env.cells.lookup x=some c→X.env.cells.lookup y=some c→x=y
  has:∀ x,(X.env.kindOf x=some .cell∨X.env.kindOf x=some .free)→∃ c,X.env.cells.lookup x=some c
  cab:∀ x c,X.fn x=true→X.env.cells.lookup x=some c→X.s₀.heap.objs.size≤c
  hd:X.calm=true→X.A.handled=none
  frames:X.A.frames=some X.stack
  stk:X.stack=X.outer∨(X.stack=X.env :: X.outer∧X.env.frame=some X.env.locals)
  exf:∀ b∈X.ex,b≠X.env.locals∧∀ x c,X.env.cells.lookup x=some c→c≠b
  bs:∀ b o,X.base.get? b=some o→X.s₀.heap.get? b=some o∧X.H₀ b=none
  bsz:X.base.objs.size≤X.s₀.heap.objs.size
  noex:∀ b o,X.base.get? b=some o→b ∉ X.ex
  exfs:∀ b∈X.ex,b ∉ X.fs
  funs:X.s₀.heap.FunFrames X.base X.outer
  frf:∀ b∈X.fs,X.H₀ b=none
structure Inv (X:Cx) (pins:List (Addr × Obj)) (σ:List (Option V)) (H:Hp) (s:Shared):Prop where
  ok:X.Ok
  os:s.os=X.s₀.os
  bare:AllBare s.gens
  base:Un X.fs X.ex X.H₀ H X.s₀.heap s.heap
  loc:∃ m,s.heap.Ns X.env.locals m∧∀ (i:Nat) (x:Str) (v:V),X.N[i]?=some x→σ[i]?=some (some v)→Vis X.env.scope x→∃ u,RelV v u∧Look X.env s.heap m x u
  cell:∀ x c,X.env.cells.lookup x=some c→∃ v,s.heap.IsCell c v
  free:H X.env.locals=none
  freeC:∀ x c,X.env.cells.lookup x=some c→H c=none
  pin:∀ p∈X.pn++pins,s.heap.get? p.1=some p.2∧H p.1=none∧p.1≠X.env.locals∧p.1 ∉ X.fs∧∀ v,p.2.data≠.cell v
  hok:HOk X.prog X.w H s.heap
  len:σ.length=X.N.length
section
variable {X:Cx} {pins:List (Addr × Obj)} {σ:List (Option V)} {H H':Hp} {s:Shared} {h':Heap}
theorem Cx.Ok.nofr (ok:X.Ok) {b:Addr} {o:Obj} (e:X.base.get? b=some o):b ∉ X.fs:=fun hb=>by
  have:=(ok.funs.mem hb).1
  rw [e] at this;cases this
theorem Inv.bs (I:Inv X pins σ H s):∀ b o,X.base.get? b=some o→s.heap.get? b=some o∧H b=none:=fun b o e =>
  ⟨I.base.keep b o (I.ok.bs b o e).1 (I.ok.bs b o e).2 (I.ok.nofr e) (I.ok.noex b o e),I.base.free b o (I.ok.bs b o e).1 (I.ok.bs b o e).2 (I.ok.noex b o e)⟩
theorem Inv.bk (I:Inv X pins σ H s):∀ b o,X.base.get? b=some o→s.heap.get? b=some o:=fun b o e=>(I.bs b o e).1
theorem Inv.mod (I:Inv X pins σ H s):Mod X.K X.mg X.base:=I.ok.mod
theorem Inv.kIn (I:Inv X pins σ H s):X.K.In s.heap:=I.ok.mod.kin.keeps I.bk
theorem Inv.fr (I:Inv X pins σ H s):∃ m,Fr X.base X.env.locals s.heap m :=
  let ⟨m,hn,_⟩:=I.loc
  ⟨m,hn,I.bk,Nat.le_trans I.ok.bsz I.ok.above⟩
theorem Inv.lt (I:Inv X pins σ H s):X.env.locals < s.heap.objs.size:=let ⟨_,hn,_⟩:=I.loc;hn.lt
theorem Inv.sz (I:Inv X pins σ H s):X.s₀.heap.objs.size≤s.heap.objs.size:=Nat.le_trans I.ok.above (Nat.le_of_lt I.lt)
theorem Inv.nofs (I:Inv X pins σ H s) {a:Addr} (h:s.heap.objs.size≤a):a ∉ X.fs:=fun hb=>by
  obtain ⟨_,o,ho,_⟩:=I.ok.funs.mem hb
  exact absurd (Nat.lt_of_lt_of_le (Heap.lt_size ho) (Nat.le_trans I.sz h)) (Nat.lt_irrefl _)
theorem Inv.cne (I:Inv X pins σ H s):∀ x c,X.env.cells.lookup x=some c→c≠X.env.locals:=fun x c e z=>by
  obtain ⟨v,o,ho,hd⟩:=I.cell x c e
  obtain ⟨m,⟨o',es,ep,ho',hd',_⟩,_⟩:=I.loc
  rw [z,ho'] at ho;cases ho;rw [hd'] at hd;cases hd
theorem Inv.funs (I:Inv X pins σ H s):s.heap.FunFrames X.base X.outer:=by
  have all:∀ (l:List Env),(∀ b∈frs l,b∈X.fs)→X.s₀.heap.FunFrames X.base l→s.heap.FunFrames X.base l:=by
    intro l
    induction l with
    | nil=>intro _ _;trivial
    | cons env r ih =>
      intro hs hl
      obtain ⟨hk,⟨L,o,hf,hn,ho,hd⟩,hr⟩:=hl
      have hL:L∈X.fs:=hs L (by unfold frs;rw [List.filterMap_cons,hf];exact List.mem_cons_self)
      obtain ⟨sl,e⟩:=I.base.slot L o ho (I.ok.frf L hL) hL fun z=>I.ok.exfs L z hL
      exact ⟨hk,⟨L,_,hf,hn,e,hd⟩,ih (fun b hb=>hs b (by unfold frs;rw [List.filterMap_cons,hf];exact List.mem_cons_of_mem _ hb)) hr⟩
  exact all X.outer (fun _ hb=>hb) I.ok.funs
theorem Inv.stack (I:Inv X pins σ H s):s.heap.FunFrames X.base X.stack:=by
  rcases I.ok.stk with e | ⟨e,hf⟩
  · rw [e];exact I.funs
  · rw [e]
    obtain ⟨m,hn,_⟩:=I.loc
    refine .cons (by rw [I.ok.kind];decide) hf hn ?_ I.funs
    exact Heap.get?_none_of_le (Nat.le_trans I.ok.bsz I.ok.above)
theorem Inv.stkSub (I:Inv X pins σ H s):∀ b∈frs X.stack,b∈X.env.locals :: X.fs:=fun b hb=>by
  rcases I.ok.stk with e | ⟨e,hf⟩
  · rw [e] at hb;exact List.mem_cons_of_mem _ hb
  · rw [e] at hb
    unfold frs at hb
    rw [List.filterMap_cons,hf] at hb
    exact hb
theorem Inv.stkFree (I:Inv X pins σ H s):∀ b∈frs X.stack,H b=none:=fun b hb=>by
  rcases List.mem_cons.mp (I.stkSub b hb) with e | hb
  · rw [e];exact I.free
  · obtain ⟨_,o,ho,_⟩:=I.ok.funs.mem hb
    exact I.base.free b o ho (I.ok.frf b hb) fun z=>I.ok.exfs b z hb
theorem Inv.step {g':Array GenState} {t':Nat} {d':Drawn} {ch:List Addr} (I:Inv X pins σ H s)
    (hch:∀ b∈ch,(b∈X.ex∨X.s₀.heap.objs.size≤b)∧b≠X.env.locals∧(∀ x c,X.env.cells.lookup x=some c→c≠b)∧∀ p∈X.pn++pins,p.1≠b)
    (keep:∀ b o,b≠X.env.locals→b ∉ X.fs→b ∉ ch→s.heap.get? b=some o→H b=none→h'.get? b=some o)
    (slot:∀ b o,b≠X.env.locals→b∈X.fs→b ∉ ch→s.heap.get? b=some o→H b=none→∃ sl,h'.get? b=some { o with slots:=sl }) (free:∀ b o,b ∉ ch→s.heap.get? b=some o→H b=none→H' b=none)
    (there:∀ b o,b ∉ ch→s.heap.get? b=some o→∃ o',h'.get? b=some o')
    (tups:∀ b xs,H b=some (.tup xs)→H' b=some (.tup xs)) (frzs:∀ b o u,H b=some (.frz o u)→H' b=some (.frz o u)) (tbls:∀ b ps,H b=some (.tbl ps)→∃ more,H' b=some (.tbl (ps++more)))
    (ns:∀ m,s.heap.Ns X.env.locals m→h'.Ns X.env.locals m) (hok:HOk X.prog X.w H' h') (hg:AllBare g') :
    Inv X pins σ H' { s with heap:=h',gens:=g',drawn:=d',toks:=t' }:=by
  have neL:∀ b o,X.s₀.heap.get? b=some o→b≠X.env.locals:=fun b o e=>Nat.ne_of_lt (Nat.lt_of_lt_of_le (Heap.lt_size e) I.ok.above)
  have neC:∀ b o,X.s₀.heap.get? b=some o→b ∉ X.ex→b ∉ ch:=fun b o e hx hb=>by
    rcases (hch b hb).1 with z | z
    · exact hx z
    · exact absurd (Nat.lt_of_lt_of_le (Heap.lt_size e) z) (Nat.lt_irrefl _)
  have cellK:∀ x c,X.env.cells.lookup x=some c→∀ v,s.heap.IsCell c v→h'.IsCell c v:=fun x c e v ⟨o,ho,hd⟩=>by
    have nch:c ∉ ch:=fun z=>(hch c z).2.2.1 x c e rfl
    by_cases hc:c∈X.fs
    · obtain ⟨sl,q⟩:=slot c o (I.cne x c e) hc nch ho (I.freeC x c e)
      exact ⟨_,q,hd⟩
    · exact ⟨o,keep c o (I.cne x c e) hc nch ho (I.freeC x c e),hd⟩
  refine ⟨I.ok,I.os,hg,⟨fun b o e n hb hx=>?_,fun b o e n hb hx=>?_,fun b o e n hx=>?_,fun b o e hx=>?_,fun b xs e=>tups b xs (I.base.tups b xs e),fun b o xs e=>frzs b o xs (I.base.frzs b o xs e),fun b ps e=>?_⟩,?_,fun x c e=>?_,?_,fun x c e=>?_,fun p hp=>?_,hok,I.len⟩
  · exact keep b o (neL b o e) hb (neC b o e hx) (I.base.keep b o e n hb hx) (I.base.free b o e n hx)
  · obtain ⟨sl,e1⟩:=I.base.slot b o e n hb hx
    obtain ⟨sl',e2⟩:=slot b _ (neL b o e) hb (neC b o e hx) e1 (I.base.free b o e n hx)
    exact ⟨sl',e2⟩
  · obtain ⟨o',e1⟩:=I.base.there b o e hx
    exact free b o' (neC b o e hx) e1 (I.base.free b o e n hx)
  · obtain ⟨o',e1⟩:=I.base.there b o e hx
    exact there b o' (neC b o e hx) e1
  · obtain ⟨m1,e1⟩:=I.base.tbls b ps e
    obtain ⟨m2,e2⟩:=tbls b _ e1
    exact ⟨m1++m2,by rw [e2,Array.append_assoc]⟩
  · obtain ⟨m,hn,hl⟩:=I.loc
    refine ⟨m,ns m hn,fun i x v e1 e2 e3=>?_⟩
    obtain ⟨u,r,l⟩:=hl i x v e1 e2 e3
    refine ⟨u,r,?_⟩
    rcases l with l | ⟨k,c,e,z⟩
    · exact .inl l
    · exact .inr ⟨k,c,e,cellK x c e _ z⟩
  · obtain ⟨v,z⟩:=I.cell x c e
    exact ⟨v,cellK x c e v z⟩
  · obtain ⟨m,⟨o,_,_,ho,_⟩,_⟩:=I.loc
    exact free _ o (fun z=>(hch _ z).2.1 rfl) ho I.free
  · obtain ⟨v,o,ho,hd⟩:=I.cell x c e
    exact free c o (fun z=>(hch c z).2.2.1 x c e rfl) ho (I.freeC x c e)
  · obtain ⟨e,n,ne,nf,d⟩:=I.pin p hp
    have nch:p.1 ∉ ch:=fun z=>(hch p.1 z).2.2.2 p hp rfl
    exact ⟨keep p.1 p.2 ne nf nch e n,free p.1 p.2 nch e n,ne,nf,d⟩
theorem Inv.un {t':Nat} (I:Inv X pins σ H s) (u:Un X.fs [] H H' s.heap h') (hok:HOk X.prog X.w H' h'):Inv X pins σ H' { s with heap:=h',toks:=t' }:=by
  obtain ⟨m,⟨o,es,ep,ho,r⟩,_⟩:=id I.loc
  obtain ⟨sl,hL⟩:=u.any ho I.free (by simp)
  exact I.step (g':=s.gens) (d':=s.drawn) (ch:=[]) (fun _ z=>nomatch z) (fun b o _ hb _ e n=>u.keep b o e n hb (by simp)) (fun b o _ hb _ e n=>u.slot b o e n hb (by simp)) (fun b o _ e n=>u.free b o e n (by simp)) (fun b o _ e=>u.there b o e (by simp)) u.tups u.frzs u.tbls (fun m' hm=>by
    obtain ⟨o',es',ep',ho',r'⟩:=hm
    rw [ho] at ho';cases ho'
    exact ⟨_,es',ep',hL,r'⟩) hok I.bare
theorem Inv.call {g':Array GenState} {t':Nat} {d':Drawn} {ch:List Addr} (I:Inv X pins σ H s) (u:Un (frs X.stack) ch H H' s.heap h') (hok:HOk X.prog X.w H' h') (hg:AllBare g')
    (hch:∀ b∈ch,(b∈X.ex∨X.s₀.heap.objs.size≤b)∧b≠X.env.locals∧(∀ x c,X.env.cells.lookup x=some c→c≠b)∧∀ p∈X.pn++pins,p.1≠b) :
    Inv X pins σ H' { s with heap:=h',gens:=g',drawn:=d',toks:=t' }:=by
  obtain ⟨m,⟨o,es,ep,ho,r⟩,_⟩:=id I.loc
  obtain ⟨sl,hL⟩:=u.any ho I.free fun z=>(hch _ z).2.1 rfl
  exact I.step (ch:=ch) hch (fun b o hL hb hc e n=>u.keep b o e n (fun z=>(List.mem_cons.mp (I.stkSub b z)).elim hL hb) hc) (fun b o _ _ hc e n=>u.any e n hc) (fun b o hc e n=>u.free b o e n hc) (fun b o hc e=>u.there b o e hc) u.tups u.frzs u.tbls (fun m' hm=>by
    obtain ⟨o',es',ep',ho',r'⟩:=hm
    rw [ho] at ho';cases ho'
    exact ⟨_,es',ep',hL,r'⟩) hok hg
theorem Inv.turned {t':Nat} {it:Addr} (I:Inv X pins σ H s) (k:∀ b o,b≠it→s.heap.get? b=some o→h'.get? b=some o) (hn:H it=none) (hL:it≠X.env.locals)
    (h1:it∈X.ex∨X.s₀.heap.objs.size≤it) (h2:∀ x c,X.env.cells.lookup x=some c→c≠it) (h3:∀ p∈X.pn++pins,p.1≠it):Inv X pins σ H { s with heap:=h',toks:=t' }:=by
  have nit:∀ b u,H b=some u→b≠it:=fun b u e z=>by rw [z,hn] at e;cases e
  refine I.step (g':=s.gens) (d':=s.drawn) (ch:=[it]) (fun b hb=>?_) (fun b o _ _ hc e _=>k b o (fun z=>hc (by simp [z])) e) (fun b o _ _ hc e _=>⟨o.slots,k b o (fun z=>hc (by simp [z])) e⟩) (fun _ _ _ _ n=>n)
    (fun b o hc e=>⟨o,k b o (fun z=>hc (by simp [z])) e⟩) (fun _ _ e=>e) (fun _ _ _ e=>e) (fun b ps e=>⟨#[],by rw [e];simp⟩) (fun m hm=>?_) (fun b u e=>?_) I.bare
  · have e:b=it:=by simpa using hb
    subst e
    exact ⟨h1,hL,h2,h3⟩
  · obtain ⟨o,es,ep,ho,r⟩:=hm
    exact ⟨o,es,ep,k _ o (Ne.symm hL) ho,r⟩
  · refine (I.hok b u e).stay (fun c v hc q=>k c v ?_ q) (fun _ q=>q) fun _ _ q=>q
    rcases hc with z | z
    · rw [z];exact nit b u e
    · exact nit c _ z
theorem Inv.tok (I:Inv X pins σ H s) (t:Nat):Inv X pins σ H { s with toks:=t }:=I.un (h':=s.heap) (t':=t) Un.refl I.hok
theorem Inv.kept {t':Nat} (I:Inv X pins σ H s) (k:∀ b u,s.heap.get? b=some u→h'.get? b=some u):Inv X pins σ H { s with heap:=h',toks:=t' }:=I.un (Un.kept k) (I.hok.kept k)
theorem Inv.laid {a:Addr} {o:HO} {t':Nat} (I:Inv X pins σ H s) (k:∀ b u,s.heap.get? b=some u→h'.get? b=some u) (hp:s.heap.objs.size≤a) (new:ObjOk X.prog X.w (upd H a o) h' a o) :
    Inv X pins σ (upd H a o) { s with heap:=h',toks:=t' }:=I.un (Un.laid k hp (I.hok.fresh hp)) (I.hok.laid k hp new)
theorem Inv.write {x e:Addr} {o:HO} {t':Nat} (I:Inv X pins σ H s) (mu:Mut (H x)) (he:e=x∨H e=some (.own x)) (k:∀ b u,b≠e→s.heap.get? b=some u→h'.get? b=some u) (heo:∃ u,h'.get? e=some u)
    (new:ObjOk X.prog X.w (upd H x o) h' x o):Inv X pins σ (upd H x o) { s with heap:=h',toks:=t' }:=I.un (Un.write mu he k heo) (I.hok.write mu he k heo new)
theorem Inv.weak {σ':List (Option V)} (I:Inv X pins σ H s) (hl:σ'.length=σ.length) (w:∀ (i:Nat) v,σ'[i]?=some (some v)→σ[i]?=some (some v)):Inv X pins σ' H s :=
  ⟨I.ok,I.os,I.bare,I.base,let ⟨m,hn,hl'⟩:=I.loc;⟨m,hn,fun i x v e1 e2 e3=>hl' i x v e1 (w i v e2) e3⟩,I.cell,I.free,I.freeC,I.pin,I.hok,hl.trans I.len⟩
theorem Inv.pins_of {pins':List (Addr × Obj)} (I:Inv X pins σ H s) (h:∀ p∈pins',s.heap.get? p.1=some p.2∧H p.1=none∧p.1≠X.env.locals∧p.1 ∉ X.fs∧∀ v,p.2.data≠.cell v):Inv X pins' σ H s :=
  ⟨I.ok,I.os,I.bare,I.base,I.loc,I.cell,I.free,I.freeC,fun p hp=>(List.mem_append.mp hp).elim (fun z=>I.pin p (List.mem_append_left _ z)) (h p),I.hok,I.len⟩
theorem nodup_ix {N:List Str} (hN:N.Nodup) {i j:Nat} {x:Str} (a:N[i]?=some x) (b:N[j]?=some x):i=j:=by
  obtain ⟨h1,e1⟩:=List.getElem?_eq_some_iff.mp a
  obtain ⟨h2,e2⟩:=List.getElem?_eq_some_iff.mp b
  exact (List.getElem_inj hN).mp (e1.trans e2.symm)
theorem store_ok2 {M:Model} {A:Around} {E:Value→Shared→Prop} {i:Nat} {x:Str} {v:V} {u:Value} {Q:Unit→Shared→Prop} (I:Inv X pins σ H s) (hN:X.N.Nodup) (hi:X.N[i]?=some x) (hx:Loc X.env.scope x) (r:RelV v u)
    (h:∀ s',Inv X pins (σ.set i (some v)) H s'→(∃ a,Heap.SameBut a s.heap s'.heap∧(a=X.env.locals∨X.env.cells.lookup x=some a))→Q () s') (hf:X.fn x=true∨X.env.scope.names.lookup x=some .local:=by first | exact .inl rfl | exact .inr rfl | assumption):wpAny M A (storeName X.env x u) Q E s:=by
  obtain ⟨m,hn,hl⟩:=id I.loc
  have hcls:(X.env.scope.kind == .class || (X.env.scope.kind == .module && X.env.locals != X.env.globals))=false:=by rw [I.ok.kind];rfl
  have hiσ:i < σ.length:=by rw [I.len];exact (List.getElem?_eq_some_iff.mp hi).1
  have cne:=I.cne
  have tracked:∀ {a:Addr} {h':Heap},(∃ o,s.heap.get? a=some o∧H a=none)→Heap.SameBut a s.heap h'→HOk X.prog X.w H h':=fun {a h'} ha hs b ob e=>by
    obtain ⟨_,_,hfree⟩:=ha
    refine (I.hok b ob e).stay (fun c w' hc q=>(hs.2 c ?_).trans q) (fun _ q=>q) fun _ _ q=>q
    rintro rfl
    rcases hc with rfl | hc
    · rw [hfree] at e;cases e
    · rw [hfree] at hc;cases hc
  rcases hx with hk | hk
  · refine wpAny_storeName_local hk hn (fun h' hn' hs=>?_) hcls
    obtain ⟨oL,_,_,hoL,_⟩:=id hn
    refine h _ ⟨I.ok,I.os,I.bare,⟨fun b o e n hb hx=>?_,fun b o e n hb hx=>?_,I.base.free,fun b o e hx=>?_,I.base.tups,I.base.frzs,I.base.tbls⟩,⟨_,hn',fun j y v' e1 e2 e3=>?_⟩,fun y c e=>?_,I.free,I.freeC,fun p hp=>?_,tracked ⟨oL,hoL,I.free⟩ hs,by simpa using I.len⟩ ⟨_,hs,.inl rfl⟩
    · exact (hs.2 b (Nat.ne_of_lt (Nat.lt_of_lt_of_le (Heap.lt_size e) I.ok.above))).trans (I.base.keep b o e n hb hx)
    · obtain ⟨sl,e1⟩:=I.base.slot b o e n hb hx
      exact ⟨sl,(hs.2 b (Nat.ne_of_lt (Nat.lt_of_lt_of_le (Heap.lt_size e) I.ok.above))).trans e1⟩
    · obtain ⟨o',e1⟩:=I.base.there b o e hx
      exact ⟨o',(hs.2 b (Nat.ne_of_lt (Nat.lt_of_lt_of_le (Heap.lt_size e) I.ok.above))).trans e1⟩
    · by_cases hj:j=i
      · subst hj
        rw [hi] at e1;cases e1
        rw [List.getElem?_set_self hiσ] at e2
        cases e2
        exact ⟨u,r,.inl ⟨hk,by simp⟩⟩
      · rw [List.getElem?_set_ne (Ne.symm hj)] at e2
        obtain ⟨u',r',q⟩:=hl j y v' e1 e2 e3
        refine ⟨u',r',?_⟩
        rcases q with ⟨k,e⟩ | ⟨k,c,e,z⟩
        · refine .inl ⟨k,?_⟩
          have:y≠x:=fun e=>hj (nodup_ix hN e1 (e ▸ hi))
          simp [this,e]
        · exact .inr ⟨k,c,e,z.sameBut hs (cne y c e)⟩
    · obtain ⟨w',z⟩:=I.cell y c e
      exact ⟨w',z.sameBut hs (cne y c e)⟩
    · obtain ⟨e,n,ne,nf,d⟩:=I.pin p hp
      exact ⟨(hs.2 p.1 ne).trans e,n,ne,nf,d⟩
  · have hfn:X.fn x=true:=by
      rcases hf with z | z
      · exact z
      · rw [z] at hk;cases hk
    obtain ⟨c,hc⟩:=I.ok.has x (.inl hk)
    obtain ⟨w',z⟩:=I.cell x c hc
    refine wpAny_storeName_cell I.ok.kind hk hc z (fun h' hc' hs=>?_)
    obtain ⟨oc,hoc,hocd⟩:=id z
    refine h { s with heap:=h' } ⟨I.ok,I.os,I.bare,⟨fun b o e n hb hx=>?_,fun b o e n hb hx=>?_,I.base.free,fun b o e hx=>?_,I.base.tups,I.base.frzs,I.base.tbls⟩,⟨m,hn.sameBut hs (Ne.symm (cne x c hc)),fun j y v' e1 e2 e3=>?_⟩,fun y c' e=>?_,I.free,I.freeC,fun p hp=>?_,tracked ⟨oc,hoc,I.freeC x c hc⟩ hs,by simpa using I.len⟩ ⟨c,hs,.inr hc⟩
    · exact (hs.2 b (Nat.ne_of_lt (Nat.lt_of_lt_of_le (Heap.lt_size e) (I.ok.cab x c hfn hc)))).trans (I.base.keep b o e n hb hx)
    · obtain ⟨sl,e1⟩:=I.base.slot b o e n hb hx
      exact ⟨sl,(hs.2 b (Nat.ne_of_lt (Nat.lt_of_lt_of_le (Heap.lt_size e) (I.ok.cab x c hfn hc)))).trans e1⟩
    · obtain ⟨o',e1⟩:=I.base.there b o e hx
      exact ⟨o',(hs.2 b (Nat.ne_of_lt (Nat.lt_of_lt_of_le (Heap.lt_size e) (I.ok.cab x c hfn hc)))).trans e1⟩
    · by_cases hj:j=i
      · subst hj
        rw [hi] at e1;cases e1
        rw [List.getElem?_set_self hiσ] at e2
        cases e2
        exact ⟨u,r,.inr ⟨.inl hk,c,hc,hc'⟩⟩
      · rw [List.getElem?_set_ne (Ne.symm hj)] at e2
        obtain ⟨u',r',q⟩:=hl j y v' e1 e2 e3
        refine ⟨u',r',?_⟩
        rcases q with q | ⟨k,c',e,z'⟩
        · exact .inl q
        · refine .inr ⟨k,c',e,z'.sameBut hs ?_⟩
          rintro rfl
          exact hj (nodup_ix hN e1 (I.ok.inj _ _ _ e hc ▸ hi))
    · by_cases hcc:c'=c
      · subst hcc;exact ⟨_,hc'⟩
      · obtain ⟨w2,z2⟩:=I.cell y c' e
        exact ⟨w2,z2.sameBut hs hcc⟩
    · obtain ⟨e,n,ne,nf,d⟩:=I.pin p hp
      refine ⟨(hs.2 p.1 ?_).trans e,n,ne,nf,d⟩
      intro q
      rw [q,hoc] at e
      have q':oc=p.2:=Option.some.inj e
      exact d w' (by rw [← q'];exact hocd)
theorem store_ok {M:Model} {A:Around} {E:Value→Shared→Prop} {i:Nat} {x:Str} {v:V} {u:Value} {Q:Unit→Shared→Prop} (I:Inv X pins σ H s) (hN:X.N.Nodup) (hi:X.N[i]?=some x) (hx:Loc X.env.scope x) (r:RelV v u)
    (h:∀ s',Inv X pins (σ.set i (some v)) H s'→Q () s') (hf:X.fn x=true∨X.env.scope.names.lookup x=some .local:=by first | exact .inl rfl | exact .inr rfl | assumption):wpAny M A (storeName X.env x u) Q E s :=
  store_ok2 I hN hi hx r (fun s' I' _=>h s' I') hf
theorem Inv.call' {s':Shared} {ch:List Addr} (I:Inv X pins σ H s) (ho:s'.os=s.os) (u:Un (frs X.stack) ch H H' s.heap s'.heap) (hok:HOk X.prog X.w H' s'.heap) (hg:AllBare s'.gens)
    (hch:∀ b∈ch,(b∈X.ex∨X.s₀.heap.objs.size≤b)∧b≠X.env.locals∧(∀ x c,X.env.cells.lookup x=some c→c≠b)∧∀ p∈X.pn++pins,p.1≠b):Inv X pins σ H' s':=by
  obtain ⟨h',g',d',t',o'⟩:=s'
  have e:o'=s.os:=ho
  subst e
  exact I.call (g':=g') (t':=t') (d':=d') u hok hg hch
end
abbrev XK:=Value→Option Addr→Hp→Prop
abbrev St:=List (Option V)
abbrev VK:=V→Hp→Prop
abbrev TE:=St→Hp→VK→Prop
abbrev TT:=St→Hp→(Bool→Hp→Prop)→Prop
abbrev TA:=St→Hp→(List V→Hp→Prop)→Prop
structure Ends where
  nx:St→Hp→Prop
  rt:VK
  bk:St→Hp→Prop:=fun _ _=>False
  ct:St→Hp→Prop:=fun _ _=>False
abbrev TS:=Ends→St→Hp→Prop
def EP (X:Cx) (pins:List (Addr × Obj)) (σ:St) (Q:VK) (u:Value) (s':Shared):Prop:=∃ v H',Inv X pins σ H' s'∧RelV v u∧Q v H'
def TP (X:Cx) (pins:List (Addr × Obj)) (σ:St) (Q:Bool→Hp→Prop) (b:Bool) (s':Shared):Prop:=∃ H',Inv X pins σ H' s'∧Q b H'
def AP (X:Cx) (pins:List (Addr × Obj)) (σ:St) (Q:List V→Hp→Prop) (us:List Value) (s':Shared):Prop:=∃ vs H',Inv X pins σ H' s'∧Vals vs us∧Q vs H'
def SP (X:Cx) (pins:List (Addr × Obj)) (D:Ends) (f:Flow) (s':Shared):Prop :=
  match f with
  | .next=>∃ σ' H',Inv X pins σ' H' s'∧D.nx σ' H'
  | .brk=>∃ σ' H',Inv X pins σ' H' s'∧D.bk σ' H'
  | .cont=>∃ σ' H',Inv X pins σ' H' s'∧D.ct σ' H'
  | .ret u=>∃ v σ' H',Inv X pins σ' H' s'∧RelV v u∧D.rt v H'
def PE (X:Cx) (e:Expr) (t:TE):Prop :=
  ∀ (pins:List (Addr × Obj)) (s:Shared) (σ:St) (H:Hp) (Q:VK),Inv X pins σ H s→t σ H Q→wpAny (model X.prog X.w) X.A (eval e X.env) (EP X pins σ Q) X.xe s
def PT (X:Cx) (e:Expr) (t:TT):Prop :=
  ∀ (pins:List (Addr × Obj)) (s:Shared) (σ:St) (H:Hp) (Q:Bool→Hp→Prop),Inv X pins σ H s→t σ H Q→wpAny (model X.prog X.w) X.A (isTrue e X.env (eval e X.env)) (TP X pins σ Q) X.xe s
def PW (X:Cx) (e:Expr) (t:TT):Prop :=
  ∀ (whole:Sem Value) (pins:List (Addr × Obj)) (s:Shared) (σ:St) (H:Hp) (Q:Bool→Hp→Prop),Inv X pins σ H s→t σ H Q→wpAny (model X.prog X.w) X.A (isTrue e X.env whole) (TP X pins σ Q) X.xe s
theorem PW.pt {X:Cx} {e:Expr} {t:TT} (h:PW X e t):PT X e t:=h _
def PA (X:Cx) (es:List Expr) (t:TA):Prop :=
  ∀ (pos:Pos) (pins:List (Addr × Obj)) (s:Shared) (σ:St) (H:Hp) (Q:List V→Hp→Prop),Inv X pins σ H s→t σ H Q→wpAny (model X.prog X.w) X.A (spliced (backTo pos (starEach es X.env))) (AP X pins σ Q) X.xe s
def PS (X:Cx) (st:Stmt) (t:TS):Prop :=
  ∀ (pins:List (Addr × Obj)) (s:Shared) (σ:St) (H:Hp) (D:Ends),Inv X pins σ H s→t D σ H→wpAny (model X.prog X.w) X.A (exec st X.env) (SP X pins D) X.xe s
def PSs (X:Cx) (st:List Stmt) (t:TS):Prop :=
  ∀ (pins:List (Addr × Obj)) (s:Shared) (σ:St) (H:Hp) (D:Ends),Inv X pins σ H s→t D σ H→wpAny (model X.prog X.w) X.A (execs st X.env) (SP X pins D) X.xe s
theorem thn {α:Type} {t:Sem α} {Q Q':α→Shared→Prop} {M:Model} {A:Around} {E:Value→Shared→Prop} {s:Shared} (h:wpAny M A t Q E s) (hQ:∀ a s,Q a s→Q' a s):wpAny M A t Q' E s:=wpAny_mono h hQ fun _ _ x=>x
end L2
namespace L2
open PySem PySem.Spec PyProof.Rows
section
variable {X:Cx}
theorem bin {a b:Expr} {ta tb:TE} (ha:PE X a ta) (hb:PE X b tb) {pins:List (Addr × Obj)} {s:Shared} {σ:St} {H:Hp} {R:V→V→Hp→Prop} (I:Inv X pins σ H s) (h:ta σ H fun x H1=>tb σ H1 fun y H2=>R x y H2)
    {α:Type} {Q:α→Shared→Prop} {f:Value→Value→Sem α}
    (hf:∀ v u s2 x y H2,Inv X pins σ H2 s2→RelV x v→RelV y u→R x y H2→wpAny (model X.prog X.w) X.A (f v u) Q X.xe s2) :
    wpAny (model X.prog X.w) X.A (eval a X.env) (fun v s₁=>wpAny (model X.prog X.w) X.A (eval b X.env) (fun u s₂=>wpAny (model X.prog X.w) X.A (f v u) Q X.xe s₂) X.xe s₁) X.xe s:=by
  refine thn (ha pins s σ H _ I h) fun v s1 ⟨x,H1,I1,r1,q1⟩=>?_
  refine thn (hb pins s1 σ H1 _ I1 q1) fun u s2 ⟨y,H2,I2,r2,q2⟩=>?_
  exact hf v u s2 x y H2 I2 r1 r2 q2
def tVar (i:Nat):TE:=fun σ H Q=>∃ v,σ[i]?=some (some v)∧Q v H
def tC (v:V):TE:=fun _ H Q=>Q v H
theorem pe_var {i:Nat} {x:Str} {pos:Pos} (hN:X.N[i]?=some x) (hv:Vis X.env.scope x) (hd:(x == ("__debug__":Str))=false:=by decide) (hcd:(x == ("__classdict__":Str))=false:=by decide):PE X (.Name x pos) (tVar i):=by
  intro pins s σ H Q I h
  obtain ⟨v,e,h⟩:=h
  obtain ⟨m,hn,hl⟩:=I.loc
  obtain ⟨u,r,l⟩:=hl i x v hN e hv
  have fin:EP X pins σ Q u s:=⟨v,H,I,r,h⟩
  rcases l with ⟨hk,hm⟩ | ⟨hk,c,hc,hcell⟩
  · exact wpAny_Name (wpAny_loadName_local I.ok.kind hk hn hm fin) hd
  · rcases hk with hk | hk
    · exact wpAny_Name (wpAny_loadName_cell I.ok.kind hk hc hcell fin) hd
    · exact wpAny_Name (wpAny_loadName_free I.ok.kind hk hc hcell fin hcd) hd
theorem pe_int {i j pos}:PE X (.Constant (.int i) j pos) (tC (.int i)):=fun _ _ _ H _ I h=>wpAny_Constant_int ⟨.int i,H,I.tok _,⟨_,rfl⟩,h⟩
theorem pe_bl {b j pos}:PE X (.Constant (.bool b) j pos) (tC (.bl b)):=fun _ _ _ H _ I h=>Constant_bool ⟨.bl b,H,I,rfl,h⟩
theorem pe_non {j pos}:PE X (.Constant .none j pos) (tC .non):=fun _ _ _ H _ I h=>Constant_none ⟨.non,H,I,rfl,h⟩
theorem pe_str {x j pos}:PE X (.Constant (.str x) j pos) (tC (.str x)):=fun _ _ _ H _ I h=>Calls.Constant_str ⟨.str x,H,I.tok _,⟨_,rfl⟩,h⟩
def Gl (X:Cx) (x:Str):Prop:=X.env.kindOf x=some .globalImplicit
theorem ld_glob {E:Value→Shared→Prop} {pins:List (Addr × Obj)} {s:Shared} {σ:St} {H:Hp} {x:Str} {u:Value} {pos:Pos} {Q:Value→Shared→Prop} (I:Inv X pins σ H s) (hg:Gl X x) (hm:X.mg x=some u) (h:Q u s)
    (hd:(x == ("__debug__":Str))=false:=by decide):wpAny (model X.prog X.w) X.A (eval (.Name x pos) X.env) Q E s :=
  Calls.Name_function_global I.ok.kind hg (Calls.loadGlobal_global (by rw [I.ok.glob];exact I.mod.glob.keeps I.bk) hm h) hd
theorem ld_blt {E:Value→Shared→Prop} {pins:List (Addr × Obj)} {s:Shared} {σ:St} {H:Hp} {x:Str} {u:Value} {pos:Pos} {Q:Value→Shared→Prop} (I:Inv X pins σ H s) (hg:Gl X x) (hm:X.mg x=none) (hv:bootBuiltins x=some u) (h:Q u s)
    (hn:x≠"__name__":=by decide) (hd:(x == ("__debug__":Str))=false:=by decide):wpAny (model X.prog X.w) X.A (eval (.Name x pos) X.env) Q E s:=by
  obtain ⟨mb,h1,h2⟩:=I.mod.blt
  exact Calls.Name_function_global I.ok.kind hg (Calls.loadGlobal_builtin (by rw [I.ok.glob];exact I.mod.glob.keeps I.bk) hm (by rw [I.ok.blt];exact h1.keeps I.bk) ((h2 x hn).trans hv) h) hd
theorem pe_glob {x:Str} {v:V} {u:Value} {pos:Pos} (hg:Gl X x) (hm:X.mg x=some u) (r:RelV v u) (hd:(x == ("__debug__":Str))=false:=by decide):PE X (.Name x pos) (tC v) :=
  fun _ _ _ H _ I h=>ld_glob I hg hm ⟨v,H,I,r,h⟩ hd
def t2I (ta tb:TE) (k:Int→Int→Hp→Prop):St→Hp→Prop:=fun σ H=>ta σ H fun x H1=>tb σ H1 fun y H2=>∃ i j,x=.int i∧y=.int j∧k i j H2
variable {a b:Expr} {ta tb:TE} {pos:Pos}
def tCmp (p:Int→Int→Bool) (ta tb:TE):TE:=fun σ H Q=>t2I ta tb (fun i j H2=>Q (.bl (p i j)) H2) σ H
abbrev tLt:TE→TE→TE:=tCmp fun i j=>decide (i < j)
abbrev tLe:TE→TE→TE:=tCmp fun i j=>decide (i≤j)
abbrev tGt:TE→TE→TE:=tCmp fun i j=>decide (j < i)
abbrev tGe:TE→TE→TE:=tCmp fun i j=>decide (j≤i)
abbrev tEqI:TE→TE→TE:=tCmp fun i j=>decide (i=j)
abbrev tNeI:TE→TE→TE:=tCmp fun i j=>!decide (i=j)
variable {tA tB':TT} {rest:List Expr}
def tAnd (t u:TT):TT:=fun σ H Q=>t σ H fun c H1=>if c=true then u σ H1 Q else Q false H1
def tOr (t u:TT):TT:=fun σ H Q=>t σ H fun c H1=>if c=true then Q true H1 else u σ H1 Q
def tNot (t:TT):TT:=fun σ H Q=>t σ H fun c H1=>Q (!c) H1
theorem pw_and1 (ha:PT X a tA):PW X (.BoolOp .And [a] pos) tA:=by
  intro wh pins s σ H Q I h
  refine isTrue_and (thn (ha pins s σ H Q I h) fun c s1 e=>?_)
  cases c with
  | true=>exact isTrue_and_nil e
  | false=>exact e
theorem pw_or1 (ha:PT X a tA):PW X (.BoolOp .Or [a] pos) tA:=by
  intro wh pins s σ H Q I h
  refine isTrue_or (thn (ha pins s σ H Q I h) fun c s1 e=>?_)
  cases c with
  | false=>exact isTrue_or_nil e
  | true=>exact e
theorem pw_and (ha:PT X a tA) (hb:PW X (.BoolOp .And (b :: rest) pos) tB'):PW X (.BoolOp .And (a :: b :: rest) pos) (tAnd tA tB'):=by
  intro wh pins s σ H Q I h
  refine isTrue_and (thn (ha pins s σ H _ I h) fun c s1 ⟨H1,I1,q1⟩=>?_)
  cases c with
  | true=>exact hb wh pins s1 σ H1 Q I1 q1
  | false=>exact ⟨H1,I1,q1⟩
theorem pw_or (ha:PT X a tA) (hb:PW X (.BoolOp .Or (b :: rest) pos) tB'):PW X (.BoolOp .Or (a :: b :: rest) pos) (tOr tA tB'):=by
  intro wh pins s σ H Q I h
  refine isTrue_or (thn (ha pins s σ H _ I h) fun c s1 ⟨H1,I1,q1⟩=>?_)
  cases c with
  | true=>exact ⟨H1,I1,q1⟩
  | false=>exact hb wh pins s1 σ H1 Q I1 q1
theorem pt_not (ha:PT X a tA):PT X (.UnaryOp .Not a pos) (tNot tA):=by
  intro pins s σ H Q I h
  exact isTrue_not (ha pins s σ H (fun c H1=>Q (!c) H1) I h)
def tAndV (ta tb:TE):TE:=fun σ H Q=>ta σ H fun x H1=>∃ c,x=.bl c∧if c=true then tb σ H1 Q else Q (.bl false) H1
theorem pe_one {op} {t:TE} (h:PE X a t):PE X (.BoolOp op [a] pos) t:=fun pins s σ H Q I hw=>BoolOp_one (h pins s σ H Q I hw)
theorem pe_and (ha:PE X a ta) (hb:PE X (.BoolOp .And (b :: rest) pos) tb):PE X (.BoolOp .And (a :: b :: rest) pos) (tAndV ta tb):=by
  intro pins s σ H Q I h
  refine BoolOp_and (thn (ha pins s σ H _ I h) fun v s1 ⟨x,H1,I1,r1,q1⟩=>?_)
  obtain ⟨c,rfl,q1⟩:=q1
  cases r1
  refine wpAny_truthy_bool ?_
  cases c with
  | true=>exact hb pins s1 σ H1 Q I1 q1
  | false=>exact ⟨.bl false,H1,I1,rfl,q1⟩
def tIf (t:TT) (ta tb:TE):TE:=fun σ H Q=>t σ H fun c H1=>if c=true then ta σ H1 Q else tb σ H1 Q
theorem pe_ifExp {c:Expr} (hc:PT X c tA) (ha:PE X a ta) (hb:PE X b tb):PE X (.IfExp c a b pos) (tIf tA ta tb):=by
  intro pins s σ H Q I h
  refine wpAny_IfExp (thn (hc pins s σ H _ I h) fun d s1 ⟨H1,I1,q1⟩=>?_)
  cases d with
  | true=>exact ha pins s1 σ H1 Q I1 q1
  | false=>exact hb pins s1 σ H1 Q I1 q1
end
end L2
namespace L2
open PySem PySem.Spec PyProof.Rows
def SqL (K:PySem.W.Frag) (H:Hp) (a:Addr) (xs:List V):Prop :=
  Rd H a (.lst xs) ∨
    ∃ (o:Obj) (its:Array Value) (n:Nat),K.lookup a=some o∧o.cls=.type "list"∧o.dict=none∧o.data=.seq its n∧its.size≤sizeLine∧Vals xs its.toList
def SqT (K:PySem.W.Frag) (H:Hp) (a:Addr) (xs:List V):Prop :=
  Rd H a (.tup xs) ∨
    ∃ (o:Obj) (its:Array Value) (n:Nat),K.lookup a=some o∧o.cls=.type "tuple"∧o.data=.seq its n∧its.size≤sizeLine∧Vals xs its.toList
def absV:Value→Option V
  | .none=>some .non
  | .bool b=>some (.bl b)
  | .int i _=>some (.int i)
  | .str x _=>some (.str x)
  | .bytes b _=>some (.byt b)
  | .float b _=>some (.flt b)
  | .ref a=>some (.ref a)
  | .type n=>some (.ty n)
  | _=>none
theorem RelV.abs {x:V} {u:Value} (r:RelV x u):absV u=some x:=by
  cases x with
  | non=>cases r;rfl
  | bl _=>cases r;rfl
  | int _=>obtain ⟨t,rfl⟩:=r;rfl
  | str _=>obtain ⟨t,rfl⟩:=r;rfl
  | byt _=>obtain ⟨t,rfl⟩:=r;rfl
  | flt _=>obtain ⟨t,rfl⟩:=r;rfl
  | ref _=>cases r;rfl
  | ty _=>cases r;rfl
theorem RelV.inj {x y:V} {u:Value} (r:RelV x u) (q:RelV y u):x=y:=Option.some.inj (r.abs.symm.trans q.abs)
theorem Vals.inj:∀ {xs ys:List V} {us:List Value},Vals xs us→Vals ys us→xs=ys
  | _,_,_,.nil,.nil=>rfl
  | _,_,_,.cons r t,.cons r' t'=>by rw [r.inj r',Vals.inj t t']
section
variable {X:Cx} {pins:List (Addr × Obj)} {σ:St} {H:Hp} {s:Shared} {a:Addr} {xs ys:List V}
theorem Inv.list (I:Inv X pins σ H s) (h:SqL X.K H a xs):∃ its:List Value,Vals xs its∧PlainL s.heap a its.toArray∧xs.length≤sizeLine:=by
  rcases h with h | ⟨o,its,n,hk,hc,hd,hs,hz,r⟩
  · obtain ⟨z,its,n,r,e⟩:=h.ok I.hok
    exact ⟨its,r,⟨_,n,e,rfl,rfl,rfl⟩,z⟩
  · refine ⟨its.toList,r,⟨o,n,I.kIn a o hk,hc,hd,by simpa using hs⟩,?_⟩
    have e:=r.length
    simp only [Array.length_toList] at e
    omega
theorem Inv.tuple (I:Inv X pins σ H s) (h:SqT X.K H a xs):∃ its:List Value,Vals xs its∧IsTup s.heap a its.toArray∧xs.length≤sizeLine:=by
  rcases h with h | ⟨o,its,n,hk,hc,hs,hz,r⟩
  · obtain ⟨z,its,r,p⟩:=h.ok I.hok
    exact ⟨its,r,p,z⟩
  · refine ⟨its.toList,r,⟨o,I.kIn a o hk,hc,n,by simpa using hs⟩,?_⟩
    have e:=r.length
    simp only [Array.length_toList] at e
    omega
theorem Inv.list_inj (I:Inv X pins σ H s) (h:SqL X.K H a xs) (h':SqL X.K H a ys):xs=ys:=by
  obtain ⟨its,r,⟨o,n,e,_,_,d⟩,_⟩:=I.list h
  obtain ⟨its',r',⟨o',n',e',_,_,d'⟩,_⟩:=I.list h'
  rw [e] at e';cases e'
  rw [d] at d'
  injection d' with d1 _
  have:its=its':=by simpa using congrArg Array.toList d1
  subst this
  exact r.inj r'
theorem Inv.tuple_inj (I:Inv X pins σ H s) (h:SqT X.K H a xs) (h':SqT X.K H a ys):xs=ys:=by
  obtain ⟨its,r,⟨o,e,_,n,d⟩,_⟩:=I.tuple h
  obtain ⟨its',r',⟨o',e',_,n',d'⟩,_⟩:=I.tuple h'
  rw [e] at e';cases e'
  rw [d] at d'
  injection d' with d1 _
  have:its=its':=by simpa using congrArg Array.toList d1
  subst this
  exact r.inj r'
end
abbrev Cx.wish (X:Cx) (E:Value→Shared→Prop):Cx:={ X with xe:=E }
abbrev Cx.nox (X:Cx):Cx:=X.wish fun _ _=>False
theorem Cx.Ok.wish {X:Cx} (ok:X.Ok) (E:Value→Shared→Prop):(X.wish E).Ok :=
  ⟨ok.mod,ok.kind,ok.glob,ok.blt,ok.above,ok.inj,ok.has,ok.cab,ok.hd,ok.frames,ok.stk,ok.exf,ok.bs,ok.bsz,ok.noex,ok.exfs,ok.funs,ok.frf⟩
theorem Cx.Ok.unwish {X:Cx} {E:Value→Shared→Prop} (ok:(X.wish E).Ok):X.Ok :=
  ⟨ok.mod,ok.kind,ok.glob,ok.blt,ok.above,ok.inj,ok.has,ok.cab,ok.hd,ok.frames,ok.stk,ok.exf,ok.bs,ok.bsz,ok.noex,ok.exfs,ok.funs,ok.frf⟩
section
variable {X:Cx} {pins:List (Addr × Obj)} {σ:St} {H:Hp} {s:Shared} {E:Value→Shared→Prop}
theorem Inv.wish (I:Inv X pins σ H s) (E:Value→Shared→Prop):Inv (X.wish E) pins σ H s:=⟨I.ok.wish E,I.os,I.bare,I.base,I.loc,I.cell,I.free,I.freeC,I.pin,I.hok,I.len⟩
theorem Inv.unwish (I:Inv (X.wish E) pins σ H s):Inv X pins σ H s:=⟨I.ok.unwish,I.os,I.bare,I.base,I.loc,I.cell,I.free,I.freeC,I.pin,I.hok,I.len⟩
theorem SP.unwish {D:Ends} {f:Flow} {s':Shared} (h:SP (X.wish E) pins D f s'):SP X pins D f s':=by
  cases f with
  | next=>obtain ⟨σ',H',I,q⟩:=h;exact ⟨σ',H',I.unwish,q⟩
  | brk=>obtain ⟨σ',H',I,q⟩:=h;exact ⟨σ',H',I.unwish,q⟩
  | cont=>obtain ⟨σ',H',I,q⟩:=h;exact ⟨σ',H',I.unwish,q⟩
  | ret u=>obtain ⟨v,σ',H',I,r,q⟩:=h;exact ⟨v,σ',H',I.unwish,r,q⟩
theorem PSs.nox {st:List Stmt} {t:TS} (h:PSs X.nox st t):PSs X st t:=fun pins s σ H D I hw =>
  wpAny_mono (h pins s σ H D (I.wish _) hw) (fun _ _ q=>q.unwish) fun _ _ z=>False.elim z
end
section
variable {X:Cx} {st:Stmt} {rest:List Stmt} {t u:TS} {e:Expr} {te:TE} {pos:Pos}
def tNext:TS:=fun D σ H=>D.nx σ H
def tSeq (t u:TS):TS:=fun D σ H=>t { D with nx:=u D } σ H
theorem pss_nil:PSs X [] tNext:=fun _ _ σ H _ I h=>wpAny_execs_nil ⟨σ,H,I,h⟩
theorem pss_cons (h1:PS X st t) (h2:PSs X rest u):PSs X (st :: rest) (tSeq t u):=by
  intro pins s σ H D I h
  refine wpAny_execs_cons (thn (h1 pins s σ H { D with nx:=u D } I h) fun f s1 q=>?_)
  cases f with
  | next =>
    obtain ⟨σ',H',I',q⟩:=q
    exact h2 pins s1 σ' H' D I' q
  | ret v=>exact q
  | brk=>exact q
  | cont=>exact q
theorem pss_one (h1:PS X st t):PSs X [st] t:=by
  intro pins s σ H D I h
  refine wpAny_execs_cons (thn (h1 pins s σ H D I h) fun f s1 q=>?_)
  cases f with
  | next=>exact wpAny_execs_nil q
  | ret v=>exact q
  | brk=>exact q
  | cont=>exact q
theorem Inv.quiet {pins:List (Addr × Obj)} {σ:St} {H:Hp} {s:Shared} (I:Inv X pins σ H s):interactive X.env=false:=by simp [interactive,I.ok.kind]
def tDrop (te:TE):TS:=fun D σ H=>te σ H fun _ H1=>D.nx σ H1
theorem ps_expr (he:PE X e te) (hs:swapsWith e none pos.line X.env=pure false:=by rfl):PS X (.Expr e pos) (tDrop te):=by
  intro pins s σ H D I h
  exact wpAny_Expr_any (thn (he pins s σ H _ I h) fun v s1 ⟨x,H1,I1,r1,q1⟩=>⟨σ,H1,I1,q1⟩) I.quiet hs
def tRet (te:TE):TS:=fun D σ H=>te σ H D.rt
theorem ps_ret (he:PE X e te):PS X (.Return (some e) pos) (tRet te):=by
  intro pins s σ H D I h
  exact wpAny_Return_some (thn (he pins s σ H _ I h) fun v s1 ⟨x,H1,I1,r1,q1⟩=>⟨x,σ,H1,I1,r1,q1⟩)
def tIfS (c:TT) (t u:TS):TS:=fun D σ H=>c σ H fun b H1=>if b=true then t D σ H1 else u D σ H1
theorem ps_if {c:Expr} {a b:List Stmt} {tc:TT} (hc:PT X c tc) (ha:PSs X a t) (hb:PSs X b u):PS X (.If c a b pos) (tIfS tc t u):=by
  intro pins s σ H D I h
  refine wpAny_If (thn (hc pins s σ H _ I h) fun d s1 ⟨H1,I1,q1⟩=>?_)
  cases d with
  | true=>exact ha pins s1 σ H1 D I1 q1
  | false=>exact hb pins s1 σ H1 D I1 q1
end
abbrev TG:=V→St→Hp→(St→Hp→Prop)→Prop
abbrev TGs:=List V→St→Hp→(St→Hp→Prop)→Prop
def PG (X:Cx) (target:Expr) (t:TG):Prop :=
  ∀ (pins:List (Addr × Obj)) (s:Shared) (σ:St) (H:Hp) (v:V) (u:Value) (Q:St→Hp→Prop),Inv X pins σ H s→RelV v u→t v σ H Q →
    wpAny (model X.prog X.w) X.A (assign target X.env u) (fun _ s'=>∃ σ' H',Inv X pins σ' H' s'∧Q σ' H') X.xe s
def PGs (X:Cx) (ts:List Expr) (t:TGs):Prop :=
  ∀ (pins:List (Addr × Obj)) (s:Shared) (σ:St) (H:Hp) (vs:List V) (us:List Value) (Q:St→Hp→Prop),Inv X pins σ H s→Vals vs us→t vs σ H Q →
    wpAny (model X.prog X.w) X.A (assignInOrder ((assignEach ts X.env).map (·.2)) us) (fun _ s'=>∃ σ' H',Inv X pins σ' H' s'∧Q σ' H') X.xe s
abbrev TSet:=V→V→V→Hp→(Hp→Prop)→Prop
def PSet (X:Cx) (t:TSet):Prop :=
  ∀ (pins:List (Addr × Obj)) (s:Shared) (σ:St) (H:Hp) (o i v:V) (ov iv u:Value) (Q:Hp→Prop),Inv X pins σ H s→RelV o ov→RelV i iv→RelV v u→t o i v H Q →
    wpAny (model X.prog X.w) X.A (setItem ov iv u) (fun _ s'=>∃ H',Inv X pins σ H' s'∧Q H') X.xe s
abbrev TIp:=V→V→Hp→VK→Prop
section
variable {X:Cx} {pos:Pos}
def gName (i:Nat):TG:=fun v σ H Q=>Q (σ.set i (some v)) H
theorem pg_name {i:Nat} {x:Str} (hN:X.N.Nodup) (hi:X.N[i]?=some x) (hx:Loc X.env.scope x) (hf:X.fn x=true∨X.env.scope.names.lookup x=some .local:=by first | exact .inl rfl | exact .inr rfl | assumption):PG X (.Name x pos) (gName i):=by
  intro pins s σ H v u Q I r h
  exact wpAny_assign_Name (store_ok I hN hi hx r (fun s' I'=>⟨_,H,I',h⟩) hf)
def gNil:TGs:=fun vs σ H Q=>vs=[]∧Q σ H
def gCons (t:TG) (u:TGs):TGs:=fun vs σ H Q=>∃ v r,vs=v :: r∧t v σ H fun σ' H'=>u r σ' H' Q
theorem pgs_nil:PGs X [] gNil:=by
  intro pins s σ H vs us Q I r h
  obtain ⟨e,h⟩:=h
  subst e
  cases r
  exact assignInOrder_nil ⟨σ,H,I,h⟩
theorem pgs_cons {e:Expr} {es:List Expr} {t:TG} {u:TGs} (h1:PG X e t) (h2:PGs X es u)
    (hs:(assignEach (e :: es) X.env).map (·.2)=assign e X.env :: (assignEach es X.env).map (·.2):=by rfl):PGs X (e :: es) (gCons t u):=by
  intro pins s σ H vs us Q I r h
  obtain ⟨v,vr,e1,h⟩:=h
  subst e1
  cases r with
  | cons r rr =>
    rw [hs]
    refine assignInOrder_cons (thn (h1 pins s σ H _ _ _ I r h) fun _ s1 ⟨σ1,H1,I1,q1⟩=>?_)
    exact h2 pins s1 σ1 H1 _ _ Q I1 rr q1
def gTup (K:PySem.W.Frag) (n:Nat) (t:TGs):TG:=fun v σ H Q=>∃ a xs,v=.ref a∧SqT K H a xs∧xs.length=n∧t xs σ H Q
theorem pg_tup {es:List Expr} {k:Nat} {t:TGs} {n:Nat} (hc:X.calm=true) (h:PGs X es t)
    (hn:(assignEach es X.env).length=n:=by rfl) (hst:(assignEach es X.env).findIdx? (·.1)=none:=by rfl):PG X (.Tuple es k pos) (gTup X.K n t):=by
  intro pins s σ H v u Q I r hw
  obtain ⟨a,xs,e1,hq,hl,hw⟩:=hw
  subst e1
  cases r
  obtain ⟨its,rv,ht,hz⟩:=I.tuple hq
  refine assign_Tuple_tuple (I.ok.hd hc) ht (by simp [hn,← hl,rv.length]) hst fun h' hx=>?_
  have I1:Inv X pins σ H { s with heap:=h' }:=I.kept (t':=s.toks) fun b o e=>hx b o (Nat.ne_of_lt (Heap.lt_size e)) e
  exact h pins _ σ H xs _ Q I1 (by simpa using rv) hw
def gSub (to ti:TE) (t:TSet):TG:=fun v σ H Q=>to σ H fun o H1=>ti σ H1 fun i H2=>t o i v H2 fun H3=>Q σ H3
theorem pg_sub {o i:Expr} {to ti:TE} {t:TSet} (ho:PE X o to) (hi:PE X i ti) (hs:PSet X t)
    (ha:∀ v,assign (.Subscript o i pos) X.env v=(do
      let ov ← holding [v] (eval o X.env)
      let iv ← holding [v,ov] (eval i X.env)
      standAt pos
      holding [v,ov,iv] (setItem ov iv v)
      release [v,ov,iv] []):=by intro _;rfl):PG X (.Subscript o i pos) (gSub to ti t):=by
  intro pins s σ H v u Q I r h
  rw [ha]
  refine wpAny_bind (wpAny_holding (thn (ho pins s σ H _ I h) fun ov s1 ⟨x,H1,I1,r1,q1⟩=>?_))
  refine wpAny_bind (wpAny_holding (thn (hi pins s1 σ H1 _ I1 q1) fun iv s2 ⟨y,H2,I2,r2,q2⟩=>?_))
  refine wpAny_bind (wpAny_standAt (wpAny_bind (wpAny_holding (thn (hs pins s2 σ H2 x y v ov iv u _ I2 r1 r2 r q2) fun _ s3 ⟨H3,I3,q3⟩=>?_))))
  exact wpAny_release ⟨σ,H3,I3,q3⟩
def tAsg (te:TE) (g:TG):TS:=fun D σ H=>te σ H fun x H1=>g x σ H1 D.nx
theorem ps_asg {tg e:Expr} {te:TE} {g:TG} (he:PE X e te) (hg:PG X tg g) (hs:swapsWithSole [tg] e pos.line X.env=pure false:=by rfl) (hw:swappedStores [tg] e X.env=pure none:=by rfl)
    (h1:(assignEach [tg] X.env).map (·.2)=[assign tg X.env]:=by rfl):PS X (.Assign [tg] e pos) (tAsg te g):=by
  intro pins s σ H D I h
  refine wpAny_Assign_stores (thn (he pins s σ H _ I h) fun v s1 ⟨x,H1,I1,r1,q1⟩=>?_) hs hw
  rw [h1]
  exact thn (hg pins s1 σ H1 x v _ I1 r1 q1) fun _ s2 q=>q
theorem ps_set {i:Nat} {x:Str} {e:Expr} {te:TE} {pos':Pos} (hN:X.N.Nodup) (hi:X.N[i]?=some x) (hx:Loc X.env.scope x) (he:PE X e te) (hs:swapsWith e (some (.Name x pos')) pos.line X.env=pure false:=by rfl) (hf:X.fn x=true∨X.env.scope.names.lookup x=some .local:=by first | exact .inl rfl | exact .inr rfl | assumption) :
    PS X (.Assign [.Name x pos'] e pos) (tAsg te (gName i)):=by
  intro pins s σ H D I h
  refine wpAny_Assign_Name (thn (he pins s σ H _ I h) fun v s1 ⟨y,H1,I1,r1,q1⟩=>?_) hs
  exact store_ok I1 hN hi hx r1 (fun s2 I2=>⟨_,H1,I2,q1⟩) hf
end
section
variable {X:Cx} {pos:Pos}
def tWhile (c:TT) (tb:TS):TS:=fun D σ H=>∃ W:Nat→St→Hp→Prop,(∃ m,W m σ H)∧∀ m σ H,W m σ H →
  c σ H fun b H1=>if b=true then ∃ N:St→Hp→Prop,(∀ σ' H',N σ' H'→∃ m',m' < m∧W m' σ' H')∧tb { D with nx:=N,ct:=N,bk:=D.nx } σ H1 else D.nx σ H1
theorem ps_while {c:Expr} {body:List Stmt} {tc:TT} {tb:TS} (hp:PassesOwn (model X.prog X.w) X.A X.env X.xe) (hc:PT X c tc) (hb:PSs X body tb):PS X (.While c body [] pos) (tWhile tc tb):=by
  intro pins s σ H D I h
  obtain ⟨W,⟨m0,w0⟩,turn⟩:=h
  refine wpAny_While (codeAny_whileLoop (fun n s'=>∃ σ' H',Inv X pins σ' H' s'∧W n σ' H') ?_ m0 ⟨σ,H,I,w0⟩)
  rintro n s1 ⟨σ1,H1,I1,w1⟩
  refine wpAny_passesOwn hp (thn (hc pins s1 σ1 H1 _ I1 (turn n σ1 H1 w1)) fun b s2 ⟨H2,I2,q2⟩=>?_)
  cases b with
  | true =>
    obtain ⟨N,hN,q2⟩:=q2
    rw [if_pos rfl]
    refine wpAny_passesOwn hp (thn (hb pins s2 σ1 H2 _ I2 q2) fun f s3 q3=>?_)
    cases f with
    | next =>
      obtain ⟨σ3,H3,I3,n3⟩:=q3
      obtain ⟨m',hm,w3⟩:=hN σ3 H3 n3
      exact ⟨m',hm,σ3,H3,I3,w3⟩
    | cont =>
      obtain ⟨σ3,H3,I3,n3⟩:=q3
      obtain ⟨m',hm,w3⟩:=hN σ3 H3 n3
      exact ⟨m',hm,σ3,H3,I3,w3⟩
    | brk=>exact q3
    | ret v=>exact q3
  | false =>
    rw [if_neg Bool.false_ne_true]
    exact wpAny_execs_nil ⟨σ1,H2,I2,q2⟩
end
structure It where
  go:Nat→Hp→Prop
  yld:Nat→Hp→V→Hp→Prop
  stop:Nat→Hp→Prop
def FpOk (X:Cx) (pins:List (Addr × Obj)) (H:Hp) (b:Addr):Prop :=
  H b=none∧b≠X.env.locals∧b ∉ X.fs∧(b∈X.ex∨X.s₀.heap.objs.size≤b)∧(∀ x c,X.env.cells.lookup x=some c→c≠b)∧∀ p∈X.pn++pins,p.1≠b
theorem Inv.fpOk {X:Cx} {pins:List (Addr × Obj)} {σ:St} {H H':Hp} {s:Shared} {b:Addr} (I:Inv X pins σ H s) (hb:s.heap.objs.size≤b) (hn:H' b=none):FpOk X pins H' b:=by
  refine ⟨hn,Nat.ne_of_gt (Nat.lt_of_lt_of_le I.lt hb),I.nofs hb,.inr (Nat.le_trans I.sz hb),fun x c e z=>?_,fun p hp z=>?_⟩
  · obtain ⟨v,q⟩:=I.cell x c e
    exact absurd (Nat.lt_of_lt_of_le q.lt (by rw [z];exact hb)) (Nat.lt_irrefl _)
  · exact absurd (Nat.lt_of_lt_of_le (Heap.lt_size (I.pin p hp).1) (by rw [z];exact hb)) (Nat.lt_irrefl _)
structure Turn (P:Program) (w:World) (K:PySem.W.Frag) (tg:Expr) (J:It) (fp:List Addr) (it:Addr) (tn:Nat→Heap→Prop):Prop where
  mem:it∈fp
  obj:∀ i h,tn i h→∀ b∈fp,∃ o,h.get? b=some o∧∀ v,o.data≠.cell v
  keep:∀ i h h',tn i h→(∀ b∈fp,∀ o,h.get? b=some o→h'.get? b=some o)→tn i h'
  item:∀ (X:Cx),X.prog=P→X.w=w→X.K=K→X.calm=true→∀ (i:Nat) (pins:List (Addr × Obj)) (s:Shared) (σ:St) (H:Hp) (E:Value→Shared→Prop),Inv X pins σ H s→(∀ b∈fp,FpOk X pins H b)→tn i s.heap→J.go i H →
    wpAny (model P w) X.A (pyNext (.ref it)) (fun r s1=>∃ u,r=some u ∧
      wpAny (model P w) X.A (letOwnedTupleGo tg (.ref it) u) (fun _ s2=>∃ x H',Inv X pins σ H' s2∧RelV x u∧J.yld i H x H'∧tn (i + 1) s2.heap∧∀ b∈fp,H' b=none) E s1) E s
  done:∀ (X:Cx),X.prog=P→X.w=w→X.K=K→X.calm=true→∀ (i:Nat) (pins:List (Addr × Obj)) (s:Shared) (σ:St) (H:Hp) (E:Value→Shared→Prop),Inv X pins σ H s→(∀ b∈fp,FpOk X pins H b)→tn i s.heap→J.stop i H →
    wpAny (model P w) X.A (pyNext (.ref it)) (fun r s1=>r=none∧Inv X pins σ H s1) E s
  self:∀ (A:Around) (i:Nat) (s:Shared) (Q:Value→Shared→Prop) (E:Value→Shared→Prop),tn i s.heap→Q (.ref it) s→wpAny (model P w) A (pyIter (.ref it)) Q E s
abbrev TI:=St→Hp→(It→Hp→Prop)→Prop
def PIE (X:Cx) (pins:List (Addr × Obj)) (σ:St) (tg:Expr) (R:It→Hp→Prop) (itv:Value) (s2:Shared):Prop :=
  ∃ (it:Addr) (fp:List Addr) (tn:Nat→Heap→Prop) (J:It) (H':Hp),itv=.ref it∧Inv X pins σ H' s2∧Turn X.prog X.w X.K tg J fp it tn∧tn 0 s2.heap∧(∀ b∈fp,FpOk X pins H' b)∧R J H'
def PI (X:Cx) (tg iter:Expr) (wi:TI):Prop :=
  ∀ (pins:List (Addr × Obj)) (s:Shared) (σ:St) (H:Hp) (R:It→Hp→Prop),Inv X pins σ H s→wi σ H R →
    wpAny (model X.prog X.w) X.A (eval iter X.env) (fun v s1=>wpAny (model X.prog X.w) X.A (pyIter v) (PIE X pins σ tg R) X.xe s1) X.xe s
theorem go_of {M:Model} {A:Around} {E:Value→Shared→Prop} {s:Shared} {tg:Expr} {it:Addr} {u:Value} {o:Obj} {n:String} {vs:Array Value} {Q:Unit→Shared→Prop} (ho:s.heap.get? it=some o) (hc:o.cls=.type n) (hd:o.data=.fields vs)
    (hn:["enumerate","zip","dict_itemiterator","dict_reverseitemiterator","odict_iterator","itertools.zip_longest","itertools.pairwise"].contains n=false) (hQ:Q () s):wpAny M A (letOwnedTupleGo tg (.ref it) u) Q E s:=by
  unfold letOwnedTupleGo
  cases tg <;> first
    | exact wpAny_pure hQ
    | (cases u <;> first
        | exact wpAny_pure hQ
        | (refine wpAny_bind (wpAny_load ho ?_)
           rw [hc,hd]
           show wpAny M A (if (["enumerate","zip","dict_itemiterator","dict_reverseitemiterator","odict_iterator","itertools.zip_longest","itertools.pairwise"].contains n && vs[0]? == some (rawInt _))=true then _ else _) Q E s
           rw [if_neg (by intro h;rw [hn,Bool.false_and] at h;cases h)]
           exact wpAny_pure hQ))
def Itl (K:PySem.W.Frag) (a:Addr):It :=
  ⟨fun i H=>∃ xs x,SqL K H a xs∧xs[i]?=some x,fun i H x H'=>H'=H∧∀ xs,SqL K H a xs→xs[i]?=some x,fun i H=>∃ xs,SqL K H a xs∧xs.length≤i⟩
def Itt (K:PySem.W.Frag) (a:Addr):It :=
  ⟨fun i H=>∃ xs x,SqT K H a xs∧xs[i]?=some x,fun i H x H'=>H'=H∧∀ xs,SqT K H a xs→xs[i]?=some x,fun i H=>∃ xs,SqT K H a xs∧xs.length≤i⟩
def Itr (lo:Int) (n:Nat):It:=⟨fun i _=>i < n,fun i H x H'=>H'=H∧x=.int (lo + i),fun i _=>n≤i⟩
theorem turn_list {P:Program} {w:World} {K:PySem.W.Frag} {tg:Expr} (a it:Addr):Turn P w K tg (Itl K a) [it] it (fun i h=>h.IsListIter it a i) where
  mem:=by simp
  obj:=fun i h st b hb=>by
    have e:b=it:=by simpa using hb
    subst e
    obtain ⟨o,e,c,d⟩:=st
    exact ⟨o,e,fun v z=>by rw [d] at z;cases z⟩
  keep:=fun i h h' st k=>st.at fun o e=>k it (by simp) o e
  item:=by
    intro X hP hw hK hc i pins s σ H E I hf st hg
    subst hP hw hK
    obtain ⟨xs,x,hq,hx⟩:=hg
    obtain ⟨its,rv,p,hz⟩:=I.list hq
    obtain ⟨u,hu,ru⟩:=rv.get hx
    obtain ⟨f0,f1,f2,f3,f4,f5⟩:=hf it (by simp)
    refine wpAny_pyNext_list_item st p.isList (x:=u) (by simpa using hu) fun h' st' sb=>?_
    have I1:Inv X pins σ H { s with heap:=h' }:=I.turned (t':=s.toks) (fun b o hb e=>(sb.2 b hb).trans e) f0 f1 f3 f4 f5
    obtain ⟨o,e,c,d⟩:=id st'
    exact ⟨u,rfl,go_of (s:={ s with heap:=h' }) e c d (by decide) ⟨x,H,I1,ru,⟨rfl,fun ys hy=>by rw [I.list_inj hy hq];exact hx⟩,st',fun b hb=>(hf b hb).1⟩⟩
  done:=by
    intro X hP hw hK hc i pins s σ H E I hf st hg
    subst hP hw hK
    obtain ⟨xs,hq,hx⟩:=hg
    obtain ⟨its,rv,p,hz⟩:=I.list hq
    obtain ⟨f0,f1,f2,f3,f4,f5⟩:=hf it (by simp)
    have hl:=rv.length
    exact wpAny_pyNext_list_end (I.ok.hd hc) st p.isList (by simp;omega) fun h' eb=>⟨rfl,I.turned (t':=s.toks) (fun b o hb e=>eb b o hb e) f0 f1 f3 f4 f5⟩
  self:=fun _ _ _ _ _ st h=>wpAny_pyIter_listiter st h
theorem turn_tuple {P:Program} {w:World} {K:PySem.W.Frag} {tg:Expr} (a it:Addr):Turn P w K tg (Itt K a) [it] it (fun i h=>h.IsTupleIter it a i) where
  mem:=by simp
  obj:=fun i h st b hb=>by
    have e:b=it:=by simpa using hb
    subst e
    obtain ⟨o,e,c,d⟩:=st
    exact ⟨o,e,fun v z=>by rw [d] at z;cases z⟩
  keep:=fun i h h' st k=>st.at fun o e=>k it (by simp) o e
  item:=by
    intro X hP hw hK hc i pins s σ H E I hf st hg
    subst hP hw hK
    obtain ⟨xs,x,hq,hx⟩:=hg
    obtain ⟨its,rv,p,hz⟩:=I.tuple hq
    obtain ⟨u,hu,ru⟩:=rv.get hx
    obtain ⟨f0,f1,f2,f3,f4,f5⟩:=hf it (by simp)
    refine wpAny_pyNext_tuple_item st (show s.heap.IsTuple a its.toArray from p) (x:=u) (by simpa using hu) fun h' st' sb=>?_
    have I1:Inv X pins σ H { s with heap:=h' }:=I.turned (t':=s.toks) (fun b o hb e=>(sb.2 b hb).trans e) f0 f1 f3 f4 f5
    obtain ⟨o,e,c,d⟩:=id st'
    exact ⟨u,rfl,go_of (s:={ s with heap:=h' }) e c d (by decide) ⟨x,H,I1,ru,⟨rfl,fun ys hy=>by rw [I.tuple_inj hy hq];exact hx⟩,st',fun b hb=>(hf b hb).1⟩⟩
  done:=by
    intro X hP hw hK hc i pins s σ H E I hf st hg
    subst hP hw hK
    obtain ⟨xs,hq,hx⟩:=hg
    obtain ⟨its,rv,p,hz⟩:=I.tuple hq
    obtain ⟨f0,f1,f2,f3,f4,f5⟩:=hf it (by simp)
    have hl:=rv.length
    exact wpAny_pyNext_tuple_end (I.ok.hd hc) st (show s.heap.IsTuple a its.toArray from p) (by simp;omega) fun h' eb=>⟨rfl,I.turned (t':=s.toks) (fun b o hb e=>eb b o hb e) f0 f1 f3 f4 f5⟩
  self:=fun _ _ _ _ _ st h=>wpAny_pyIter_tupleiter st h
theorem turn_range {P:Program} {w:World} {K:PySem.W.Frag} {tg:Expr} (it:Addr) (lo:Int) (n:Nat):Turn P w K tg (Itr lo n) [it] it (fun i h=>IsRangeIter h it (lo + (i:Nat) * 1) ((n:Int) - (i:Nat)) 1) where
  mem:=by simp
  obj:=fun i h st b hb=>by
    have e:b=it:=by simpa using hb
    subst e
    exact ⟨_,st,fun v z=>by
      have z':Data.fields _=Data.cell v:=z
      cases z'⟩
  keep:=fun i h h' st k=>k it (by simp) _ st
  item:=by
    intro X hP hw hK hc i pins s σ H E I hf st hg
    subst hP hw hK
    obtain ⟨f0,f1,f2,f3,f4,f5⟩:=hf it (by simp)
    have W:=Walks.range (prog:=X.prog) (w:=X.w) (I.ok.hd hc) it lo 1 n
    refine W.item i s _ _ hg st fun v h' tk hv st' kk=>?_
    obtain ⟨t,rfl⟩:=hv
    have I1:Inv X pins σ H { s with heap:=h',toks:=tk }:=I.turned (fun b o hb e=>kk b o (by simpa using hb) e) f0 f1 f3 f4 f5
    refine ⟨_,rfl,go_of (s:={ s with heap:=h',toks:=tk }) (n:="range_iterator") st' rfl rfl (by decide) ⟨.int (lo + i),H,I1,⟨t,?_⟩,⟨rfl,rfl⟩,st',fun b hb=>(hf b hb).1⟩⟩
    rw [Int.mul_one]
  done:=by
    intro X hP hw hK hc i pins s σ H E I hf st hg
    subst hP hw hK
    obtain ⟨f0,f1,f2,f3,f4,f5⟩:=hf it (by simp)
    exact wpAny_pyNext_range_end (I.ok.hd hc) st (by have:n≤i:=hg;omega) fun h' eb=>⟨rfl,I.turned (t':=s.toks) (fun b o hb e=>eb b o hb e) f0 f1 f3 f4 f5⟩
  self:=fun _ _ _ _ _ st h=>wpAny_pyIter_rangeiter st h
end L2
namespace L2
open PySem PySem.Spec PyProof.Rows
section
variable {X:Cx} {tg:Expr}
theorem range_it {pins:List (Addr × Obj)} {σ:St} {H:Hp} {s:Shared} {R:It→Hp→Prop} {E:Value→Shared→Prop} {lo hi:Int} {t u v:Tok} {tk:Nat} (I:Inv X pins σ H s) (h1:-(2 ^ 62)≤lo) (h2:lo < 2 ^ 62) (h3:-(2 ^ 62)≤hi) (h4:hi < 2 ^ 62)
    (q:R (Itr lo (hi - lo).toNat) H):wpAny (model X.prog X.w) X.A (pyIter (.ref s.heap.objs.size)) (PIE X pins σ tg R) E { s with heap:=s.heap.push { cls:=.type "range",data:=.fields #[.int lo t,.int hi u,.int 1 v] },toks:=tk }:=by
  refine wpAny_pyIter_range (IsRange.new ..) (small_one h1 h2 h3 h4) ?_
  have I1:Inv X pins σ H { s with heap:=s.heap.push { cls:=.type "range",data:=.fields #[.int lo t,.int hi u,.int 1 v] },toks:=tk }:=I.kept fun b o e=>Heap.get?_push_of_some _ e
  refine ⟨(s.heap.push { cls:=.type "range",data:=.fields #[.int lo t,.int hi u,.int 1 v] }).objs.size,[(s.heap.push { cls:=.type "range",data:=.fields #[.int lo t,.int hi u,.int 1 v] }).objs.size],_,_,H,rfl,
    I1.kept (t':=tk) fun b o e=>Heap.get?_push_of_some _ e,turn_range _ lo (hi - lo).toNat,?_,fun b hb=>?_,q⟩
  · have e1:lo + ((0:Nat):Int) * 1=lo:=by simp
    have e2:(((hi - lo).toNat:Nat):Int) - ((0:Nat):Int)=Builtin.Range.rangeSize lo hi 1:=by rw [rangeSize_one];split <;> omega
    show IsRangeIter _ _ (lo + ((0:Nat):Int) * 1) ((((hi - lo).toNat:Nat):Int) - ((0:Nat):Int)) 1
    rw [e1,e2]
    exact Heap.get?_push_size _ rfl
  · have e:b=(s.heap.push { cls:=.type "range",data:=.fields #[.int lo t,.int hi u,.int 1 v] }).objs.size:=by simpa using hb
    subst e
    exact I1.fpOk (Nat.le_refl _) (I1.hok.fresh (Nat.le_refl _))
def iRng1 (ta:TA):TI:=fun σ H R=>ta σ H fun vs H1=>∃ j:Int,vs=[.int j]∧-(2 ^ 62)≤j∧j < 2 ^ 62∧R (Itr 0 j.toNat) H1
theorem pi_range1 {a:Expr} {ta:TA} {p pos:Pos} (hg:Gl X "range") (hm:X.mg "range"=none) (ha:PA X [a] ta) (hs:starEach [a] X.env=[(false,eval a X.env)]:=by rfl):PI X tg (.Call (.Name "range" p) [a] [] pos) (iRng1 ta):=by
  intro pins s σ H R I h
  refine Call_ (ld_blt I hg hm boot_range (PyProof.Rows.callWith_type1 (thn (ha pos pins s σ H _ I h) fun us s1 ⟨vs,H1,I1,r1,q1⟩=>?_) hs rfl))
  obtain ⟨j,e,q1,q2,q⟩:=q1
  subst e
  cases r1 with
  | cons r rr =>
    cases rr
    obtain ⟨t,rfl⟩:=r
    exact call_range_1 (range_it I1 (by omega) (by omega) q1 q2 (by simpa using q))
def tFor (wi:TI) (g:TG) (tb:TS):TS:=fun D σ H=>wi σ H fun J H1=>∃ W:Nat→Nat→St→Hp→Prop,(∃ m,W 0 m σ H1)∧∀ i m σ H,W i m σ H →
  (J.stop i H∧D.nx σ H)∨(J.go i H∧∃ N:St→Hp→Prop,(∀ σ' H',N σ' H'→∃ m',m' < m∧W (i + 1) m' σ' H')∧∀ x H',J.yld i H x H'→g x σ H' fun σ2 H2=>tb { D with nx:=N,ct:=N,bk:=D.nx } σ2 H2)
def pinsAt (fp:List Addr) (h:Heap):List (Addr × Obj):=fp.filterMap fun b=>(h.get? b).map fun o=>(b,o)
theorem mem_pinsAt {fp:List Addr} {h:Heap} {b:Addr} {o:Obj} (hb:b∈fp) (e:h.get? b=some o):(b,o)∈pinsAt fp h:=List.mem_filterMap.mpr ⟨b,hb,by rw [e];rfl⟩
theorem of_pinsAt {fp:List Addr} {h:Heap} {p:Addr × Obj} (hp:p∈pinsAt fp h):p.1∈fp∧h.get? p.1=some p.2:=by
  obtain ⟨b,hb,e⟩:=List.mem_filterMap.mp hp
  cases q:h.get? b with
  | none=>rw [q] at e;cases e
  | some o =>
    rw [q] at e
    have e':(b,o)=p:=Option.some.inj e
    subst e'
    exact ⟨hb,q⟩
theorem Inv.pinned {pins:List (Addr × Obj)} {σ:St} {H:Hp} {s:Shared} {fp:List Addr} (I:Inv X pins σ H s) (hf:∀ b∈fp,FpOk X pins H b) (ho:∀ b∈fp,∃ o,s.heap.get? b=some o∧∀ v,o.data≠.cell v):Inv X (pins++pinsAt fp s.heap) σ H s :=
  I.pins_of fun p hp=>(List.mem_append.mp hp).elim (fun z=>I.pin p (List.mem_append_right _ z)) fun z=>by
    obtain ⟨hb,e⟩:=of_pinsAt z
    obtain ⟨f0,f1,f2,_⟩:=hf p.1 hb
    obtain ⟨o,e',d⟩:=ho p.1 hb
    rw [e] at e';cases e'
    exact ⟨e,f0,f1,f2,d⟩
theorem Inv.unpinned {pins pl:List (Addr × Obj)} {σ:St} {H:Hp} {s:Shared} (I:Inv X (pins++pl) σ H s):Inv X pins σ H s:=I.pins_of fun p hp=>I.pin p (List.mem_append_right _ (List.mem_append_left _ hp))
theorem ps_for {iter:Expr} {body:List Stmt} {wi:TI} {g:TG} {tb:TS} {pos:Pos} (hp:PassesOwn (model X.prog X.w) X.A X.env X.xe) (hc:X.calm=true) (hi:PI X tg iter wi) (hg:PG X tg g) (hb:PSs X body tb)
    (hs:∀ x,foldedSetIterable iter X.env x=pure x:=by intro _;rfl):PS X (.For tg iter body [] pos) (tFor wi g tb):=by
  intro pins s σ H D I h
  refine wpAny_For (thn (hi pins s σ H _ I h) fun v s1 h1=>thn h1 fun itv s2 h2=>?_) hs
  obtain ⟨it,fp,tn,J,H2,e,I2,T,st2,f2,W,⟨m0,w0⟩,turn⟩:=h2
  subst e
  -- what stays true of the iterator's objects through the loop
  have stat:∀ {H':Hp},(∀ b∈fp,H' b=none)→∀ b∈fp,FpOk X pins H' b:=fun hn b hb=>⟨hn b hb,(f2 b hb).2⟩
  refine codeAny_forLoop_any (fun n s'=>∃ i σ' H',Inv X pins σ' H' s'∧tn i s'.heap∧(∀ b∈fp,H' b=none)∧W i n σ' H') ?_ m0 ⟨0,σ,H2,I2,st2,fun b hb=>(f2 b hb).1,w0⟩
  rintro n s3 ⟨i,σ3,H3,I3,st3,fr3,w3⟩
  rcases turn i n σ3 H3 w3 with ⟨stop,qn⟩ | ⟨go,N,hN,step⟩
  · refine wpAny_passesOwn hp (thn (T.done X rfl rfl rfl hc i pins s3 σ3 H3 X.xe I3 (stat fr3) st3 stop) fun r s4 ⟨hr,I4⟩=>?_)
    subst hr
    exact wpAny_execs_nil ⟨σ3,H3,I4,qn⟩
  · refine wpAny_passesOwn hp (thn (T.item X rfl rfl rfl hc i pins s3 σ3 H3 X.xe I3 (stat fr3) st3 go) fun r s4 ⟨u,hr,h4⟩=>?_)
    subst hr
    refine wpAny_passesOwn hp (thn h4 fun _ s5 ⟨x,H5,I5,r5,y5,st5,fr5⟩=>?_)
    have I5':=I5.pinned (stat fr5) (T.obj _ _ st5)
    refine wpAny_passesOwn hp (thn (hg _ s5 σ3 H5 x u _ I5' r5 (step x H5 y5)) fun _ s6 ⟨σ6,H6,I6,q6⟩=>?_)
    refine wpAny_passesOwn hp (thn (hb _ s6 σ6 H6 _ I6 q6) fun f s7 q7=>?_)
    have again:∀ {σ7:St} {H7:Hp},Inv X (pins++pinsAt fp s5.heap) σ7 H7 s7→N σ7 H7→∃ m,m < n∧∃ i σ' H',Inv X pins σ' H' s7∧tn i s7.heap∧(∀ b∈fp,H' b=none)∧W i m σ' H':=fun {σ7 H7} I7 n7=>by
      obtain ⟨m',hm,w7⟩:=hN σ7 H7 n7
      refine ⟨m',hm,i + 1,σ7,H7,I7.unpinned,T.keep _ _ _ st5 fun b hb o e=>(I7.pin (b,o) (List.mem_append_right _ (List.mem_append_right _ (mem_pinsAt hb e)))).1,fun b hb=>?_,w7⟩
      obtain ⟨o,e,d⟩:=T.obj _ _ st5 b hb
      exact (I7.pin (b,o) (List.mem_append_right _ (List.mem_append_right _ (mem_pinsAt hb e)))).2.1
    cases f with
    | next=>obtain ⟨σ7,H7,I7,n7⟩:=q7;exact again I7 n7
    | cont=>obtain ⟨σ7,H7,I7,n7⟩:=q7;exact again I7 n7
    | brk=>obtain ⟨σ7,H7,I7,q7⟩:=q7;exact ⟨σ7,H7,I7.unpinned,q7⟩
    | ret v=>obtain ⟨x7,σ7,H7,I7,r7,q7⟩:=q7;exact ⟨x7,σ7,H7,I7.unpinned,r7,q7⟩
end
end L2
namespace L2
open PySem PySem.Spec PyProof.Rows
abbrev R2:=V→V→Hp→VK→Prop
def OpR (X:Cx) (f:Value→Value→Sem Value) (r:R2):Prop :=
  ∀ (pins:List (Addr × Obj)) (s:Shared) (σ:St) (H:Hp) (x y:V) (v u:Value) (Q:VK),Inv X pins σ H s→RelV x v→RelV y u→r x y H Q →
    wpAny (model X.prog X.w) X.A (f v u) (EP X pins σ Q) X.xe s
def CallR (X:Cx) (f:Value) (r:List V→Hp→VK→Prop):Prop :=
  ∀ (pins:List (Addr × Obj)) (s:Shared) (σ:St) (H:Hp) (xs:List V) (us:List Value) (Q:VK),Inv X pins σ H s→Vals xs us→r xs H Q →
    wpAny (model X.prog X.w) X.A (call f us) (EP X pins σ Q) X.xe s
def TruR (X:Cx) (r:V→Hp→(Bool→Hp→Prop)→Prop):Prop :=
  ∀ (pins:List (Addr × Obj)) (s:Shared) (σ:St) (H:Hp) (x:V) (v:Value) (Q:Bool→Hp→Prop),Inv X pins σ H s→RelV x v→r x H Q →
    wpAny (model X.prog X.w) X.A (truthy v) (TP X pins σ Q) X.xe s
def tOp (r:R2) (ta tb:TE):TE:=fun σ H Q=>ta σ H fun x H1=>tb σ H1 fun y H2=>r x y H2 Q
def rI (C:Int→Int→Prop) (g:Int→Int→V):R2:=fun x y H Q=>∃ i j,x=.int i∧y=.int j∧C i j∧Q (g i j) H
def rI0 (g:Int→Int→V):R2:=fun x y H Q=>∃ i j,x=.int i∧y=.int j∧Q (g i j) H
section
variable {X:Cx} {a b c:Expr} {ta tb tc:TE} {pos:Pos}
theorem binT (ha:PE X a ta) (hb:PE X b tb) {pins:List (Addr × Obj)} {s:Shared} {σ:St} {H:Hp} {R:V→V→Hp→Prop} (I:Inv X pins σ H s)
    (h:ta σ H fun x H1=>tb σ H1 fun y H2=>R x y H2) {Q:Value→Shared→Prop} {f:Value→Value→Sem Value}
    (hf:∀ v u s2 x y H2,Inv X pins σ H2 s2→RelV x v→RelV y u→R x y H2→wpAny (model X.prog X.w) X.A (f v u) Q X.xe s2) :
    wpAny (model X.prog X.w) X.A (eval a X.env) (fun v s₁=>wpAny (model X.prog X.w) X.A (eval b X.env) (fun u s₂=>wpAny (model X.prog X.w) X.A (f v u) Q X.xe s₂) X.xe s₁) X.xe s:=by
  refine thn (ha pins s σ H _ I h) fun v s1 ⟨x,H1,I1,r1,q1⟩=>?_
  refine thn (hb pins s1 σ H1 _ I1 q1) fun u s2 ⟨y,H2,I2,r2,q2⟩=>?_
  exact hf v u s2 x y H2 I2 r1 r2 q2
theorem pe_op {op:Operator} {r:R2} (ho:OpR X (binaryOp op) r) (ha:PE X a ta) (hb:PE X b tb):PE X (.BinOp a op b pos) (tOp r ta tb):=by
  intro pins s σ H Q I h
  exact wpAny_BinOp (binT ha hb I h fun v u s2 x y H2 I2 rx ry q=>ho pins s2 σ H2 x y v u Q I2 rx ry q)
theorem opI {f:Value→Value→Sem Value} {C:Int→Int→Prop} {g:Int→Int→Int}
    (rule:∀ (i j:Int) (t u:Tok) (s:Shared) (Q:Value→Shared→Prop) (E:Value→Shared→Prop),C i j→Q (.int (g i j) s.toks) { s with toks:=s.toks + 1 }→wpAny (model X.prog X.w) X.A (f (.int i t) (.int j u)) Q E s) :
    OpR X f (rI C fun i j=>.int (g i j)):=by
  intro pins s σ H x y v u Q I rx ry h
  obtain ⟨i,j,rfl,rfl,hc,q⟩:=h
  obtain ⟨t,rfl⟩:=rx
  obtain ⟨t',rfl⟩:=ry
  exact rule i j t t' s _ _ hc ⟨.int (g i j),H,I.tok _,⟨_,rfl⟩,q⟩
theorem opI0 {f:Value→Value→Sem Value} {g:Int→Int→Int}
    (rule:∀ (i j:Int) (t u:Tok) (s:Shared) (Q:Value→Shared→Prop) (E:Value→Shared→Prop),Q (.int (g i j) s.toks) { s with toks:=s.toks + 1 }→wpAny (model X.prog X.w) X.A (f (.int i t) (.int j u)) Q E s) :
    OpR X f (rI0 fun i j=>.int (g i j)):=by
  intro pins s σ H x y v u Q I rx ry h
  obtain ⟨i,j,rfl,rfl,q⟩:=h
  obtain ⟨t,rfl⟩:=rx
  obtain ⟨t',rfl⟩:=ry
  exact rule i j t t' s _ _ ⟨.int (g i j),H,I.tok _,⟨_,rfl⟩,q⟩
theorem opB0 {f:Value→Value→Sem Value} {g:Int→Int→Bool}
    (rule:∀ (i j:Int) (t u:Tok) (s:Shared) (Q:Value→Shared→Prop) (E:Value→Shared→Prop),Q (.bool (g i j)) s→wpAny (model X.prog X.w) X.A (f (.int i t) (.int j u)) Q E s) :
    OpR X f (rI0 fun i j=>.bl (g i j)):=by
  intro pins s σ H x y v u Q I rx ry h
  obtain ⟨i,j,rfl,rfl,q⟩:=h
  obtain ⟨t,rfl⟩:=rx
  obtain ⟨t',rfl⟩:=ry
  exact rule i j t t' s _ _ ⟨.bl (g i j),H,I,rfl,q⟩
def CPow (i j:Int):Prop:=0≤j∧j≤1000000∧i.natAbs < 2 ^ 64
def CMul (i j:Int):Prop:=(-(2 ^ 64) < i∧i < 2 ^ 64)∨(-(2 ^ 64) < j∧j < 2 ^ 64)
theorem CMul.ok {i j:Int} (h:CMul i j):IntMulOk i j:=by
  rcases h with ⟨h1,h2⟩ | ⟨h1,h2⟩
  · exact .of_left (intBits_le_64 h1 h2)
  · exact .of_right (intBits_le_64 h1 h2)
theorem two_pow_nn (k:Nat):(0:Int)≤2 ^ k:=by
  rw [two_pow_cast]
  exact Int.natCast_nonneg _
theorem op_add:OpR X (binaryOp .Add) (rI0 fun i j=>.int (i + j)):=opI0 fun _ _ _ _ _ _ _ q=>add_int q
theorem op_sub:OpR X (binaryOp .Sub) (rI0 fun i j=>.int (i - j)):=opI0 fun _ _ _ _ _ _ _ q=>sub_int q
theorem op_mod:OpR X (binaryOp .Mod) (rI (fun _ j=>0 < j) fun i j=>.int (i % j)):=opI fun i j _ _ _ _ _ hc q=>by
  have h1:(0:Int) < j:=hc
  exact mod_int' (by omega) (by rw [Int.fmod_eq_emod_of_nonneg i (by omega)];exact q)
theorem op_pow:OpR X (binaryOp .Pow) (rI CPow fun i j=>.int (i ^ j.toNat)):=opI fun _ _ _ _ _ _ _ hc q=>pow_int_small hc.1 hc.2.1 hc.2.2 q
end
def scal:V→V→Bool
  | .non,.non=>true | .non,.int _=>true | .int _,.non=>true | .non,.bl _=>true | .bl _,.non=>true | .non,.str _=>true | .str _,.non=>true
  | .int _,.int _=>true | .bl _,.bl _=>true | .str _,.str _=>true | .byt _,.byt _=>true
  | .int _,.str _=>true | .str _,.int _=>true | .bl _,.str _=>true | .str _,.bl _=>true
  | _,_=>false
def rEq:R2:=fun x y H Q=>scal x y=true∧Q (.bl (decide (x=y))) H
def rNe:R2:=fun x y H Q=>scal x y=true∧Q (.bl (!decide (x=y))) H
theorem dec_int {i j:Int}:decide (V.int i=V.int j)=(i == j):=by
  rw [Bool.eq_iff_iff]
  simp
theorem dec_bl {i j:Bool}:decide (V.bl i=V.bl j)=(i == j):=by
  rw [Bool.eq_iff_iff]
  simp
theorem dec_str {i j:Str}:decide (V.str i=V.str j)=(i == j):=by
  rw [Bool.eq_iff_iff]
  simp
theorem dec_byt {i j:Array UInt8}:decide (V.byt i=V.byt j)=(i.toList == j.toList):=by
  rw [Bool.eq_iff_iff]
  cases i
  cases j
  simp
section
variable {X:Cx} {a b c:Expr} {ta tb tc:TE} {pos:Pos}
theorem fin_bl {pins:List (Addr × Obj)} {σ:St} {H:Hp} {s:Shared} {Q:VK} {k k':Bool} (I:Inv X pins σ H s) (q:Q (.bl k) H) (e:k=k'):EP X pins σ Q (.bool k') s:=by
  subst e
  exact ⟨.bl k,H,I,rfl,q⟩
theorem op_eq:OpR X (compareOp .Eq) rEq:=by
  intro pins s σ H x y v u Q I rx ry h
  obtain ⟨hs,q⟩:=h
  cases x with
  | non =>
    cases rx
    cases y with
    | non=>cases ry;exact PySem.EqNone.eq_none_none (fin_bl I q (by simp))
    | bl j=>cases ry;exact PySem.EqNone.eq_none_bool (fin_bl I q (by simp))
    | int j=>obtain ⟨t',rfl⟩:=ry;exact PySem.EqNone.eq_none_int (fin_bl I q (by simp))
    | str j=>obtain ⟨t',rfl⟩:=ry;exact PySem.EqNone.eq_none_str (fin_bl I q (by simp))
    | _=>exact absurd (show false=true from hs) Bool.false_ne_true
  | bl i =>
    cases rx
    cases y with
    | non=>cases ry;exact PySem.EqNone.eq_bool_none (fin_bl I q (by simp))
    | bl j=>cases ry;exact eq_bool (fin_bl I q dec_bl)
    | str j=>obtain ⟨t',rfl⟩:=ry;exact PySem.EqMixed.eq_bool_str (fin_bl I q (by simp))
    | _=>exact absurd (show false=true from hs) Bool.false_ne_true
  | int i =>
    obtain ⟨t,rfl⟩:=rx
    cases y with
    | non=>cases ry;exact PySem.EqNone.eq_int_none (fin_bl I q (by simp))
    | int j=>obtain ⟨t',rfl⟩:=ry;exact eq_int (fin_bl I q dec_int)
    | str j=>obtain ⟨t',rfl⟩:=ry;exact PySem.EqMixed.eq_int_str (fin_bl I q (by simp))
    | _=>exact absurd (show false=true from hs) Bool.false_ne_true
  | str i =>
    obtain ⟨t,rfl⟩:=rx
    cases y with
    | non=>cases ry;exact PySem.EqNone.eq_str_none (fin_bl I q (by simp))
    | bl j=>cases ry;exact PySem.EqMixed.eq_str_bool (fin_bl I q (by simp))
    | int j=>obtain ⟨t',rfl⟩:=ry;exact PySem.EqMixed.eq_str_int (fin_bl I q (by simp))
    | str j=>obtain ⟨t',rfl⟩:=ry;exact eq_str (fin_bl I q dec_str)
    | _=>exact absurd (show false=true from hs) Bool.false_ne_true
  | byt i =>
    obtain ⟨t,rfl⟩:=rx
    cases y with
    | byt j=>obtain ⟨t',rfl⟩:=ry;exact PySem.W.eq_bytes (fin_bl I q dec_byt)
    | _=>exact absurd (show false=true from hs) Bool.false_ne_true
  | _=>cases y <;> exact absurd (show false=true from hs) Bool.false_ne_true
theorem op_ne:OpR X (compareOp .NotEq) rNe:=by
  intro pins s σ H x y v u Q I rx ry h
  obtain ⟨hs,q⟩:=h
  cases x with
  | non =>
    cases rx
    cases y with
    | non=>cases ry;exact PySem.EqNone.ne_none_none (fin_bl I q (by simp))
    | bl j=>cases ry;exact PySem.EqNone.ne_none_bool (fin_bl I q (by simp))
    | int j=>obtain ⟨t',rfl⟩:=ry;exact PySem.EqNone.ne_none_int (fin_bl I q (by simp))
    | str j=>obtain ⟨t',rfl⟩:=ry;exact PySem.EqNone.ne_none_str (fin_bl I q (by simp))
    | _=>exact absurd (show false=true from hs) Bool.false_ne_true
  | bl i =>
    cases rx
    cases y with
    | non=>cases ry;exact PySem.EqNone.ne_bool_none (fin_bl I q (by simp))
    | bl j=>cases ry;exact ne_bool (fin_bl I q (congrArg not dec_bl))
    | str j=>obtain ⟨t',rfl⟩:=ry;exact PySem.EqMixed.ne_bool_str (fin_bl I q (by simp))
    | _=>exact absurd (show false=true from hs) Bool.false_ne_true
  | int i =>
    obtain ⟨t,rfl⟩:=rx
    cases y with
    | non=>cases ry;exact PySem.EqNone.ne_int_none (fin_bl I q (by simp))
    | int j=>obtain ⟨t',rfl⟩:=ry;exact ne_int (fin_bl I q (congrArg not dec_int))
    | str j=>obtain ⟨t',rfl⟩:=ry;exact PySem.EqMixed.ne_int_str (fin_bl I q (by simp))
    | _=>exact absurd (show false=true from hs) Bool.false_ne_true
  | str i =>
    obtain ⟨t,rfl⟩:=rx
    cases y with
    | non=>cases ry;exact PySem.EqNone.ne_str_none (fin_bl I q (by simp))
    | bl j=>cases ry;exact PySem.EqMixed.ne_str_bool (fin_bl I q (by simp))
    | int j=>obtain ⟨t',rfl⟩:=ry;exact PySem.EqMixed.ne_str_int (fin_bl I q (by simp))
    | str j=>obtain ⟨t',rfl⟩:=ry;exact ne_str (fin_bl I q (congrArg not dec_str))
    | _=>exact absurd (show false=true from hs) Bool.false_ne_true
  | byt i =>
    obtain ⟨t,rfl⟩:=rx
    cases y with
    | byt j=>obtain ⟨t',rfl⟩:=ry;exact PySem.W.ne_bytes (fin_bl I q (congrArg not dec_byt))
    | _=>exact absurd (show false=true from hs) Bool.false_ne_true
  | _=>cases y <;> exact absurd (show false=true from hs) Bool.false_ne_true
theorem op_lt:OpR X (compareOp .Lt) (rI0 fun i j=>.bl (decide (i < j))):=opB0 fun _ _ _ _ _ _ _ q=>lt_int q
theorem op_le:OpR X (compareOp .LtE) (rI0 fun i j=>.bl (decide (i≤j))):=opB0 fun _ _ _ _ _ _ _ q=>le_int q
theorem op_gt:OpR X (compareOp .Gt) (rI0 fun i j=>.bl (decide (j < i))):=opB0 fun _ _ _ _ _ _ _ q=>gt_int q
theorem op_ge:OpR X (compareOp .GtE) (rI0 fun i j=>.bl (decide (j≤i))):=opB0 fun _ _ _ _ _ _ _ q=>ge_int q
theorem op_isN:OpR X (compareOp .Is) (fun x y H Q=>y=.non∧Q (.bl (decide (x=.non))) H):=by
  intro pins s σ H x y v u Q I rx ry h
  obtain ⟨rfl,q⟩:=h
  cases ry
  refine is_none_gen (fin_bl I q ?_)
  cases x <;> first
    | (cases rx;rfl)
    | (obtain ⟨t,rfl⟩:=rx;rfl)
theorem op_notN:OpR X (compareOp .IsNot) (fun x y H Q=>y=.non∧Q (.bl (!decide (x=.non))) H):=by
  intro pins s σ H x y v u Q I rx ry h
  obtain ⟨rfl,q⟩:=h
  cases ry
  refine isnot_none_gen (fin_bl I q ?_)
  cases x <;> first
    | (cases rx;rfl)
    | (obtain ⟨t,rfl⟩:=rx;rfl)
theorem OpR.or {f:Value→Value→Sem Value} {r r':R2} (h:OpR X f r) (h':OpR X f r'):OpR X f (fun x y H Q=>r x y H Q∨r' x y H Q):=by
  intro pins s σ H x y v u Q I rx ry q
  rcases q with q | q
  · exact h pins s σ H x y v u Q I rx ry q
  · exact h' pins s σ H x y v u Q I rx ry q
theorem nomark (b:Expr) {op:CmpOp} (h:op≠.In:=by decide) (h2:op≠.NotIn:=by decide):behindInMarks op b=false:=by
  have e1:(op == CmpOp.In)=false:=by cases op <;> first | rfl | exact absurd rfl h
  have e2:(op == CmpOp.NotIn)=false:=by cases op <;> first | rfl | exact absurd rfl h2
  cases b <;> simp [behindInMarks,e1,e2]
theorem pe_cmpR {op:CmpOp} {r:R2} (ho:OpR X (compareOp op) r) (ha:PE X a ta) (hb:PE X b tb) (hm:behindInMarks op b=false):PE X (.Compare a [op] [b] pos) (tOp r ta tb):=by
  intro pins s σ H Q I h
  exact wpAny_Compare1 (binT ha hb I h fun v u s2 x y H2 I2 rx ry q=>ho pins s2 σ H2 x y v u Q I2 rx ry q) hm
def tTest (t:TE):TT:=fun σ H Q=>t σ H fun x H'=>∃ k,x=.bl k∧Q k H'
theorem pt_cmpR {op:CmpOp} {r:R2} (ho:OpR X (compareOp op) r) (ha:PE X a ta) (hb:PE X b tb) (hm:behindInMarks op b=false):PT X (.Compare a [op] [b] pos) (tTest (tOp r ta tb)):=by
  intro pins s σ H Q I h
  refine wpAny_isTrue_Compare1 (thn (ha pins s σ H _ I h) fun v s1 ⟨x,H1,I1,r1,q1⟩=>thn (hb pins s1 σ H1 _ I1 q1) fun u s2 ⟨y,H2,I2,r2,q2⟩ =>
    thn (ho pins s2 σ H2 x y v u _ I2 r1 r2 q2) fun c s3 ⟨z,H3,I3,r3,k,e,q3⟩=>?_) hm
  subst e
  cases r3
  exact wpAny_truthy_bool ⟨H3,I3,q3⟩
def tChain (r r':R2) (ta tb tc:TE):TE:=fun σ H Q=>ta σ H fun x H1=>tb σ H1 fun y H2=>r x y H2 fun z H3=>∃ k,z=.bl k ∧
  (if k=true then tc σ H3 fun w' H4=>r' y w' H4 Q else Q (.bl false) H3)
theorem pe_chain {op op':CmpOp} {r r':R2} (ho:OpR X (compareOp op) r) (ho':OpR X (compareOp op') r') (ha:PE X a ta) (hb:PE X b tb) (hc:PE X c tc)
    (hm:lastMarks [op,op'] [b,c]=false:=by with_unfolding_all rfl):PE X (.Compare a [op,op'] [b,c] pos) (tChain r r' ta tb tc):=by
  intro pins s σ H Q I h
  refine Compare_chain (thn (ha pins s σ H _ I h) fun v s1 ⟨x,H1,I1,r1,q1⟩=>chain_link (thn (hb pins s1 σ H1 _ I1 q1) fun u s2 ⟨y,H2,I2,r2,q2⟩ =>
    thn (ho pins s2 σ H2 x y v u _ I2 r1 r2 q2) fun d s3 ⟨z,H3,I3,r3,k,e,q3⟩=>?_)) hm
  subst e
  cases r3
  refine wpAny_truthy_bool ?_
  cases k with
  | false=>exact ite_ff ⟨.bl false,H3,I3,rfl,q3⟩
  | true=>exact ite_tt (chain_last (thn (hc pins s3 σ H3 _ I3 q3) fun w' s4 ⟨z',H4,I4,r4,q4⟩=>ho' pins s4 σ H4 y z' u w' Q I4 r2 r4 q4))
def TruV (K:PySem.W.Frag) (x:V) (H:Hp) (k:Bool):Prop :=
  match x with
  | .non=>k=false
  | .bl b=>k=b
  | .int i=>k=(i != 0)
  | .str y=>y.length≤sizeLine∧k=((y.length:Int) != 0)
  | .byt y=>y.size≤sizeLine∧k=((y.size:Int) != 0)
  | .ref p=>(∃ xs,SqL K H p xs∧k=!xs.isEmpty)∨(∃ xs,SqT K H p xs∧k=!xs.isEmpty)∨∃ kvs,H p=some (.dK kvs)∧k=!kvs.isEmpty
  | _=>False
theorem isEmpty_kv {κ:Type} {kvs:List (κ × V)} {vs:List (κ × Value)} (r:KV kvs vs):(!vs.isEmpty)=!kvs.isEmpty:=by
  cases r <;> rfl
theorem isEmpty_of {xs:List V} {its:List Value} (r:Vals xs its):(!its.toArray.isEmpty)=!xs.isEmpty:=by
  cases r <;> simp
theorem line63:(sizeLine:Nat) < 2 ^ 63:=by rw [sizeLine_eq];decide
theorem tru_ok:TruR X (fun x H Q=>∃ k,TruV X.K x H k∧Q k H):=by
  intro pins s σ H x v Q I rx h
  obtain ⟨k,e,q⟩:=h
  have hl:=line63
  have hs:sizeLine=16777216:=sizeLine_eq
  cases x with
  | non =>
    cases rx
    have e':k=false:=e
    subst e'
    exact truthy_none ⟨H,I,q⟩
  | bl b =>
    cases rx
    have e':k=b:=e
    subst e'
    exact wpAny_truthy_bool ⟨H,I,q⟩
  | int i =>
    obtain ⟨t,rfl⟩:=rx
    have e':k=(i != 0):=e
    subst e'
    exact PySem.P.truthy_int ⟨H,I,q⟩
  | str y =>
    obtain ⟨t,rfl⟩:=rx
    obtain ⟨hy,e'⟩:y.length≤sizeLine∧k=((y.length:Int) != 0):=e
    subst e'
    exact PySem.P.truthy_str (by omega) ⟨H,I.tok _,q⟩
  | byt y =>
    obtain ⟨t,rfl⟩:=rx
    obtain ⟨hy,e'⟩:y.size≤sizeLine∧k=((y.size:Int) != 0):=e
    subst e'
    exact PySem.W.truthy_bytes (by omega) ⟨H,I.tok _,q⟩
  | ref p =>
    cases rx
    have e':(∃ xs,SqL X.K H p xs∧k=!xs.isEmpty)∨(∃ xs,SqT X.K H p xs∧k=!xs.isEmpty)∨∃ kvs,H p=some (.dK kvs)∧k=!kvs.isEmpty:=e
    rcases e' with ⟨xs,hx,e'⟩ | ⟨xs,hx,e'⟩ | ⟨kvs,hx,e'⟩
    · subst e'
      obtain ⟨its,r,pl,hz⟩:=I.list hx
      have hlen:=r.length
      exact wpAny_truthy_list pl.isList (by simp only [List.size_toArray];omega) ⟨H,I.tok _,by rw [isEmpty_of r];exact q⟩
    · subst e'
      obtain ⟨its,r,pl,hz⟩:=I.tuple hx
      have hlen:=r.length
      exact truthy_tuple pl (by simp only [List.size_toArray];omega) ⟨H,I.tok _,by rw [isEmpty_of r];exact q⟩
    · subst e'
      obtain ⟨hz,hS,vs,r,m⟩:kvs.length≤sizeLine∧(p == sysModules)=false∧∃ vs,KV kvs vs∧s.heap.DictOf (mixKind X.prog X.w) p vs:=I.hok p _ hx
      have hlen:kvs.length=vs.length:=Paired.length r
      exact wpAny_truthy_dict hS m (by omega) ⟨H,I.tok _,by rw [isEmpty_kv r];exact q⟩
  | _=>exact (show False from e).elim
theorem pt_truth (ha:PE X a ta) (he:∀ whole,isTrue a X.env whole=(do let v ← whole;standAt a.pos;holding [v] (truthy v))) :
    PT X a (fun σ H Q=>ta σ H fun x H'=>∃ k,TruV X.K x H' k∧Q k H'):=by
  intro pins s σ H Q I h
  exact isTrue_plain (thn (ha pins s σ H _ I h) fun v s1 ⟨x,H1,I1,r1,q1⟩=>tru_ok pins s1 σ H1 x v Q I1 r1 q1) (he _)
theorem op_add_str:OpR X (binaryOp .Add) (fun x y H Q=>∃ i j,x=.str i∧y=.str j∧i.length + j.length≤sizeLine∧Q (.str (i++j)) H):=by
  intro pins s σ H x y v u Q I rx ry h
  obtain ⟨i,j,rfl,rfl,hz,q⟩:=h
  obtain ⟨t,rfl⟩:=rx
  obtain ⟨t',rfl⟩:=ry
  exact add_str (fun t' tk=>⟨.str (i++j),H,I.tok _,⟨_,rfl⟩,q⟩) hz
theorem vals1 {x:V} {us:List Value} (r:Vals [x] us):∃ u,us=[u]∧RelV x u:=by
  cases r with
  | cons r1 r2=>cases r2;exact ⟨_,rfl,r1⟩
def LenV (K:PySem.W.Frag) (x:V) (H:Hp) (n:Nat):Prop :=
  match x with
  | .str y=>y.length≤sizeLine∧n=y.length
  | .byt y=>y.size≤sizeLine∧n=y.size
  | .ref p=>(∃ xs,SqL K H p xs∧n=xs.length)∨∃ xs,SqT K H p xs∧n=xs.length
  | _=>False
theorem call_len:CallR X (.builtin "len") (fun xs H Q=>∃ x n,xs=[x]∧LenV X.K x H n∧Q (.int n) H):=by
  intro pins s σ H xs us Q I r h
  obtain ⟨x,n,rfl,e,q⟩:=h
  obtain ⟨u,rfl,rx⟩:=vals1 r
  have hl:=line63
  have hs:sizeLine=16777216:=sizeLine_eq
  cases x with
  | str y =>
    obtain ⟨t,rfl⟩:=rx
    obtain ⟨hy,e'⟩:y.length≤sizeLine∧n=y.length:=e
    subst e'
    exact len_str (by omega) ⟨.int _,H,I.tok _,⟨_,rfl⟩,q⟩
  | byt y =>
    obtain ⟨t,rfl⟩:=rx
    obtain ⟨hy,e'⟩:y.size≤sizeLine∧n=y.size:=e
    subst e'
    exact PySem.W.len_bytes (by omega) ⟨.int _,H,I.tok _,⟨_,rfl⟩,q⟩
  | ref p =>
    cases rx
    have e':(∃ xs,SqL X.K H p xs∧n=xs.length)∨∃ xs,SqT X.K H p xs∧n=xs.length:=e
    rcases e' with ⟨xs,hx,e'⟩ | ⟨xs,hx,e'⟩
    · subst e'
      obtain ⟨its,r',pl,hz⟩:=I.list hx
      have hlen:=r'.length
      exact Calls.call_len_list pl.isList (by simp only [List.size_toArray];omega) ⟨.int xs.length,H,I.tok _,⟨_,by simp only [List.size_toArray];rw [hlen]⟩,q⟩
    · subst e'
      obtain ⟨its,r',pl,hz⟩:=I.tuple hx
      have hlen:=r'.length
      exact len_tuple pl (by simp only [List.size_toArray];omega) ⟨.int xs.length,H,I.tok _,⟨_,by simp only [List.size_toArray];rw [hlen]⟩,q⟩
  | _=>exact (show False from e).elim
end
end L2
namespace L2
open PySem PySem.Spec PyProof.Rows
section
variable {prog:Program} {w:World} {A:Around} {E:Value→Shared→Prop} {s:Shared} {K:PySem.W.Frag} {x dx C f:Addr} {mA:Str→Option Value} {name:Str} {v:Value}
end
def putF (f:Str) (v:V):List (Str × V)→List (Str × V)
  | []=>[(f,v)]
  | (g,x) :: r=>if g=f then (g,v) :: r else (g,x) :: putF f v r
theorem lookup_putF (f g:Str) (v:V):∀ fs:List (Str × V),(putF f v fs).lookup g=if g=f then some v else fs.lookup g
  | []=>by
    show List.lookup g [(f,v)]=_
    by_cases h:g=f
    · have hb:(g == f)=true:=beq_iff_eq.mpr h
      simp only [List.lookup,hb,if_pos h]
    · have hb:(g == f)=false:=beq_eq_false_iff_ne.mpr h
      simp only [List.lookup,hb,if_neg h]
  | (k,x) :: r=>by
    have ih:=lookup_putF f g v r
    rw [show putF f v ((k,x) :: r)=(if k=f then (k,v) :: r else (k,x) :: putF f v r) from rfl]
    by_cases hk:k=f
    · rw [if_pos hk]
      by_cases h:g=k
      · have hb:(g == k)=true:=beq_iff_eq.mpr h
        simp only [List.lookup,hb,if_pos (h.trans hk)]
      · have hb:(g == k)=false:=beq_eq_false_iff_ne.mpr h
        simp only [List.lookup,hb,if_neg (fun e:g=f=>h (e.trans hk.symm))]
    · rw [if_neg hk]
      by_cases h:g=k
      · have hb:(g == k)=true:=beq_iff_eq.mpr h
        simp only [List.lookup,hb,if_neg (fun e:g=f=>hk (h.symm.trans e))]
      · have hb:(g == k)=false:=beq_eq_false_iff_ne.mpr h
        simp only [List.lookup,hb]
        exact ih
theorem RelO.some_of {v:V} {o:Option Value} (r:RelO (some v) o):∃ u,o=some u∧RelV v u:=by
  cases o with
  | none=>exact (show False from r).elim
  | some u=>exact ⟨u,rfl,r⟩
section
variable {P:Program} {w:World} {H H':Hp} {h h':Heap} {a C dx:Addr} {fs fs':List (Str × V)}
end
section
variable {X:Cx} {pins:List (Addr × Obj)} {σ:St} {H:Hp} {s:Shared} {a C dx:Addr} {fs:List (Str × V)} {f:Str} {v:V} {A:Around} {E:Value→Shared→Prop}
end
section
variable {X:Cx} {o e value:Expr} {f:Str} {pos pos' tpos:Pos} {ta tv:TE}
end
section
variable {X:Cx} {pins:List (Addr × Obj)} {σ:St} {H:Hp} {s:Shared} {A:Around} {E:Value→Shared→Prop} {Q:Value→Shared→Prop} {c:Value} {b:Bool}
end
end L2
namespace L2
open PySem PySem.Spec PyProof.Rows
structure Room (k:Nat) (A:Around):Prop where
  hd:A.handled=none
  dp:A.depth + 3 * k + 5 < recursionLimit
  un:A.units + 16 * k + 200 < cLine
theorem Room.mono {j k:Nat} {A:Around} (r:Room k A) (h:j≤k):Room j A:=⟨r.hd,by have:=r.dp;omega,by have:=r.un;omega⟩
theorem Room.deeper {k:Nat} {A:Around} (r:Room (k + 1) A) (env:Env):Room k (A.deeper env) :=
  ⟨r.hd,by have:=r.dp;show A.depth + 1 + 3 * k + 5 < _;omega,by have:=r.un;show A.units + 3 + 16 * k + 200 < _;omega⟩
theorem make_depth {A:Around} {C:Addr} {us:List Value} {kw:List (Str × Value)}:(A.under (.builtin "type.__call__" ⟨.ref C :: us,kw⟩)).depth=A.depth + 1:=by
  first | rfl | simp [Around.under,Code.weight,Code.isCreation,Code.isGuard,Code.isCaller,Code.frames,Code.isFrame,guardIds]
theorem make_units {A:Around} {C:Addr} {us:List Value} {kw:List (Str × Value)}:(A.under (.builtin "type.__call__" ⟨.ref C :: us,kw⟩)).units=A.units + 1:=by
  first | rfl | simp [Around.under,Code.cUnits,Code.frames,Code.isFrame]
theorem Room.depth {k:Nat} {A:Around} (r:Room k A):A.depth < recursionLimit:=by have:=r.dp;omega
theorem Room.units {k:Nat} {A:Around} (r:Room k A):A.units + 64 < cLine:=by have:=r.un;omega
theorem Room.units0 {k:Nat} {A:Around} (r:Room k A):A.units < cLine:=by have:=r.un;omega
def tNil:TA:=fun _ H Q=>Q [] H
def tCons (ta:TE) (tr:TA):TA:=fun σ H Q=>ta σ H fun x H1=>tr σ H1 fun xs H2=>Q (x :: xs) H2
section
variable {X:Cx} {e:Expr} {es:List Expr} {te:TE} {t:TA} {pos:Pos}
theorem pa_nil:PA X [] tNil:=fun _ _ _ _ H Q I h=>Calls.spliced_nil ⟨[],H,I,.nil,h⟩
theorem pa_cons (ha:PE X e te) (hr:PA X es t) (hs:starEach (e :: es) X.env=(false,eval e X.env) :: starEach es X.env:=by rfl):PA X (e :: es) (tCons te t):=by
  intro pos pins s σ H Q I h
  rw [hs]
  show wpAny _ _ (spliced ((false,eval e X.env) :: backTo pos (starEach es X.env))) _ _ s
  refine Calls.spliced_cons (thn (ha pins s σ H _ I h) fun u s1 ⟨x,H1,I1,r1,q1⟩=>?_)
  exact thn (hr pos pins s1 σ H1 _ I1 q1) fun us s2 ⟨xs,H2,I2,r2,q2⟩=>⟨x :: xs,H2,I2,.cons r1 r2,q2⟩
def tTup (t:TA):TE:=fun σ H Q=>t σ H fun xs H1=>xs.length≤sizeLine∧∀ p,H1 p=none→Q (.ref p) (upd H1 p (.tup xs))
def tLst (t:TA):TE:=fun σ H Q=>t σ H fun xs H1=>xs.length≤sizeLine∧∀ p,H1 p=none→Q (.ref p) (upd H1 p (.lst xs))
theorem pe_tup {x1} (h:PA X es t):PE X (.Tuple es x1 pos) (tTup t):=by
  intro pins s σ H Q I hq
  refine wpAny_Tuple_spliced (thn (h pos pins s σ H _ I hq) fun us s1 ⟨xs,H1,I1,r,z,q⟩=>⟨by rw [← r.length];exact z,?_⟩)
  have hf:H1 s1.heap.objs.size=none:=I1.hok.fresh (Nat.le_refl _)
  refine ⟨.ref s1.heap.objs.size,upd H1 s1.heap.objs.size (.tup xs),I1.laid (t':=s1.toks) (fun b u e=>Heap.get?_push_of_some _ e) (Nat.le_refl _) ?_,rfl,q _ hf⟩
  exact ⟨z,us,r,⟨_,Heap.get?_push_size _ rfl,rfl,_,rfl⟩⟩
theorem pe_lst (h:PA X es t):PE X (.List es pos) (tLst t):=by
  intro pins s σ H Q I hq
  refine wpAny_List_spliced (thn (h pos pins s σ H _ I hq) fun us s1 ⟨xs,H1,I1,r,z,q⟩=>⟨by rw [← r.length];exact z,?_⟩)
  have hf:H1 s1.heap.objs.size=none:=I1.hok.fresh (Nat.le_refl _)
  refine ⟨.ref s1.heap.objs.size,upd H1 s1.heap.objs.size (.lst xs),I1.laid (t':=s1.toks) (fun b u e=>Heap.get?_push_of_some _ e) (Nat.le_refl _) ?_,rfl,q _ hf⟩
  exact ⟨z,us,0,r,Heap.get?_push_size _ rfl⟩
end
abbrev Sp:=List V→Hp→VK→XK→Prop
abbrev CXT:=List Env→Hp→Shared→XK→Value→Shared→Prop
structure Env0 (P:Program) (w:World) (K:PySem.W.Frag) (mg:Str→Option Value) (base:Heap) (A:Around) (outer:List Env) (s:Shared) (H:Hp):Prop where
  frames:A.frames=some outer
  mod:Mod K mg base
  bs:∀ b o,base.get? b=some o→s.heap.get? b=some o∧H b=none
  bsz:base.objs.size≤s.heap.objs.size
  funs:s.heap.FunFrames base outer
  frf:∀ b∈frs outer,H b=none
  hok:HOk P w H s.heap
  bare:AllBare s.gens
def CE (outer:List Env) (P:Program) (w:World) (H:Hp) (s:Shared) (Q:VK) (u:Value) (s':Shared):Prop :=
  ∃ v H',s'.os=s.os∧AllBare s'.gens∧Un (frs outer) [] H H' s.heap s'.heap∧HOk P w H' s'.heap∧RelV v u∧Q v H'
def CR (CX:CXT) (outer:List Env) (P:Program) (w:World) (H:Hp) (s:Shared) (Q:VK) (E:XK) (r:Result) (s':Shared):Prop :=
  match r with
  | .ok (.ret u)=>CE outer P w H s Q u s'
  | .ok _=>False
  | .error e=>CX outer H s E e s'
structure FnOk (P:Program) (w:World) (K:PySem.W.Frag) (mg:Str→Option Value) (base:Heap) (CX:CXT) (k:Nat) (f:Addr) (fd:FuncData) (ps:List Str) (sp:Sp):Prop where
  len:∀ vs H Q E,sp vs H Q E→vs.length=ps.length
  run:∀ (A:Around) (outer:List Env) (s:Shared) (H:Hp) (args:Args) (us:List Value) (vs:List V) (Q:VK) (E:XK),Room k A→Env0 P w K mg base A outer s H→BindsTo s fd args (ps.zip us)→Vals vs us→sp vs H Q E →
    codeAny (model P w) A (.call (.ref f) args) (CR CX outer P w H s Q E) s
theorem FnOk.imp {P:Program} {w:World} {K:PySem.W.Frag} {mg:Str→Option Value} {base:Heap} {CX:CXT} {k:Nat} {f:Addr} {fd:FuncData} {ps:List Str} {sp sp':Sp} (F:FnOk P w K mg base CX k f fd ps sp)
    (h:∀ vs H Q E,sp' vs H Q E→sp vs H Q E):FnOk P w K mg base CX k f fd ps sp' :=
  ⟨fun vs H Q E q=>F.len vs H Q E (h _ _ _ _ q),fun A outer s H args us vs Q E hr he hb hv hs=>F.run A outer s H args us vs Q E hr he hb hv (h _ _ _ _ hs)⟩
section
variable {X:Cx} {pins:List (Addr × Obj)} {σ:St} {H:Hp} {s s':Shared}
theorem Inv.env0 (I:Inv X pins σ H s):Env0 X.prog X.w X.K X.mg X.base X.A X.stack s H :=
  ⟨I.ok.frames,I.ok.mod,I.bs,Nat.le_trans I.ok.bsz I.sz,I.stack,I.stkFree,I.hok,I.bare⟩
theorem Inv.after {Q:VK} {u:Value} (I:Inv X pins σ H s) (h:CE X.stack X.prog X.w H s Q u s'):EP X pins σ Q u s':=by
  obtain ⟨v,H',os,bare,un,hok,r,q⟩:=h
  obtain ⟨hh,g,d,t,os'⟩:=s'
  obtain rfl:os'=s.os:=os
  exact ⟨v,H',I.call (h':=hh) (g':=g) (d':=d) (t':=t) (ch:=[]) un hok bare (fun b z=>absurd z (by simp)),r,q⟩
end
def tCall (sp:Sp) (dvs:List V) (E:XK) (t:TA):TE:=fun σ H Q=>t σ H fun vs H1=>sp (vs++dvs) H1 Q E
def Binds (K:PySem.W.Frag) (fd:FuncData) (ps:List Str) (ds:List Value):Prop :=
  ∀ (s:Shared) (us:List Value),K.In s.heap→(us++ds).length=ps.length→BindsTo s fd ⟨us,[]⟩ (ps.zip (us++ds))
theorem Binds.all {K:PySem.W.Frag} {fd:FuncData} {ps:List Str} (h:∀ us:List Value,us.length=ps.length→bindArgs fd ⟨us,[]⟩=pure (ps.zip us)):Binds K fd ps []:=fun s us _ hl=>by
  rw [List.append_nil] at hl ⊢
  exact .of_eq (h us hl)
def Passes (CX:CXT) (X:Cx) (E:XK):Prop:=∀ (pins:List (Addr × Obj)) (σ:St) (H:Hp) (s:Shared) (e:Value) (s':Shared),Inv X pins σ H s→CX X.stack H s E e s'→X.xe e s'
section
variable {X:Cx} {CX:CXT} {k:Nat} {f C:Addr} {fd:FuncData} {ps:List Str} {sp:Sp} {dvs:List V} {ds:List Value} {E:XK} {x m:Str} {p pos apos:Pos} {e o:Expr} {es:List Expr} {ta:TE} {t:TA}
theorem run_fn {pins:List (Addr × Obj)} {σ:St} {H:Hp} {s:Shared} {Q:VK} {us:List Value} {vs:List V} (F:FnOk X.prog X.w X.K X.mg X.base CX k f fd ps sp) (hr:Room k X.A) (hb:Binds X.K fd ps ds) (hd:Vals dvs ds) (hx:Passes CX X E)
    (I:Inv X pins σ H s) (r:Vals vs us) (h:sp (vs++dvs) H Q E):wpAny (model X.prog X.w) X.A (call (.ref f) us) (EP X pins σ Q) X.xe s:=by
  have r2:Vals (vs++dvs) (us++ds):=r.append hd
  have hl:(us++ds).length=ps.length:=by rw [← r2.length];exact F.len _ _ _ _ h
  refine wpAny_call (codeAny_mono (F.run X.A X.stack s H ⟨us,[]⟩ (us++ds) (vs++dvs) Q E hr I.env0 (hb s us I.kIn hl) r2 h) fun r s' hq=>?_)
  cases r with
  | error e=>exact hx pins σ H s e s' I hq
  | ok fl =>
    cases fl with
    | ret u=>exact I.after hq
    | next=>exact False.elim hq
    | brk=>exact False.elim hq
    | cont=>exact False.elim hq
theorem pe_call (F:FnOk X.prog X.w X.K X.mg X.base CX k f fd ps sp) (hr:Room k X.A) (hg:Gl X x) (hm:X.mg x=some (.ref f)) (hk:PySem.W.keepIn X.K (.ref f)=true) (hb:Binds X.K fd ps ds) (hd:Vals dvs ds) (hx:Passes CX X E)
    (ha:PA X (e :: es) t) (hdb:(x == ("__debug__":Str))=false:=by decide) (he:starEach (e :: es) X.env=(false,eval e X.env) :: starEach es X.env:=by rfl) (hpl:(backTo pos (starEach es X.env)).any (·.1)=false:=by rfl) :
    PE X (.Call (.Name x p) (e :: es) [] pos) (tCall sp dvs E t):=by
  intro pins s σ H Q I h
  refine wpAny_Call_Name_kw (ld_glob I hg hm ?_ hdb)
  refine PySem.W.callWith_K (h₀:=X.base) I.ok.mod.kin hk (thn (ha pos pins s σ H _ I h) fun us s1 ⟨vs,H1,I1,r,q⟩=>⟨I1.kIn,?_⟩) he hpl
  exact run_fn F hr hb hd hx I1 r q
end
section
variable {X:Cx} {CX:CXT} {k:Nat} {f C:Addr} {fd:FuncData} {ps ks:List Str} {sp:Sp} {E:XK} {x m:Str} {p pos apos kpos:Pos} {e o:Expr} {es:List Expr} {kws:List Keyword} {te ta:TE} {t tk:TA} {nm:Option Str}
variable {g:List Value→List Value→List Value} {gV:List V→List V→List V}
end
structure FnScope (N P:List Str) (sc:Scope):Prop where
  kind:sc.kind=.function
  co:sc.isCoroutine=false
  gen:sc.isGenerator=false
  nd:N.Nodup
  pre:N.take P.length=P
  par:∀ x∈P,sc.names.lookup x=some .local∨sc.names.lookup x=some .cell
  nofree:∀ y∈sc.names,y.2≠.free
theorem bindL_out {kindOf:Str→Option NameKind} {x:Str}:∀ {binds:List (Str × Value)} {m:Str→Option Value},(∀ v,(x,v) ∉ binds)→bindL kindOf binds m x=m x
  | [],_,_=>rfl
  | (n,v) :: r,m,h=>by
    unfold bindL
    rw [bindL_out fun w hw=>h w (List.mem_cons_of_mem _ hw)]
    split
    · have:x≠n:=by rintro rfl;exact h v List.mem_cons_self
      simp [this]
    · rfl
theorem bindC_out {kindOf:Str→Option NameKind} {x:Str}:∀ {binds:List (Str × Value)} {m:Str→Option Value},(∀ v,(x,v) ∉ binds)→bindC kindOf binds m x=m x
  | [],_,_=>rfl
  | (n,v) :: r,m,h=>by
    unfold bindC
    rw [bindC_out fun w hw=>h w (List.mem_cons_of_mem _ hw)]
    split
    · rfl
    · have:x≠n:=by rintro rfl;exact h v List.mem_cons_self
      simp [this]
theorem bindL_get {kindOf:Str→Option NameKind} {x:Str} {v:Value}:∀ {P:List Str} {vs:List Value} {i:Nat} {m:Str→Option Value},P.Nodup→P[i]?=some x→vs[i]?=some v→kindOf x=some .local →
    bindL kindOf (P.zip vs) m x=some v
  | [],_,_,_,_,h,_,_=>by simp at h
  | _ :: _,[],_,_,_,_,h,_=>by simp at h
  | p :: P,w :: vs,0,m,nd,h1,h2,hk=>by
    simp at h1 h2;subst h1;subst h2
    show bindL kindOf ((p,w) :: P.zip vs) m p=_
    unfold bindL
    rw [bindL_out fun v hv=>(List.nodup_cons.mp nd).1 (List.of_mem_zip hv).1,if_pos hk]
    simp
  | p :: P,w :: vs,i + 1,m,nd,h1,h2,hk=>by
    show bindL kindOf ((p,w) :: P.zip vs) m x=_
    unfold bindL
    exact bindL_get (i:=i) (List.nodup_cons.mp nd).2 (by simpa using h1) (by simpa using h2) hk
theorem bindC_get {kindOf:Str→Option NameKind} {x:Str} {v:Value}:∀ {P:List Str} {vs:List Value} {i:Nat} {m:Str→Option Value},P.Nodup→P[i]?=some x→vs[i]?=some v→kindOf x≠some .local →
    bindC kindOf (P.zip vs) m x=some v
  | [],_,_,_,_,h,_,_=>by simp at h
  | _ :: _,[],_,_,_,_,h,_=>by simp at h
  | p :: P,w :: vs,0,m,nd,h1,h2,hk=>by
    simp at h1 h2;subst h1;subst h2
    show bindC kindOf ((p,w) :: P.zip vs) m p=_
    unfold bindC
    rw [bindC_out fun v hv=>(List.nodup_cons.mp nd).1 (List.of_mem_zip hv).1,if_neg hk]
    simp
  | p :: P,w :: vs,i + 1,m,nd,h1,h2,hk=>by
    show bindC kindOf ((p,w) :: P.zip vs) m x=_
    unfold bindC
    exact bindC_get (i:=i) (List.nodup_cons.mp nd).2 (by simpa using h1) (by simpa using h2) hk
def start (N:List Str) (vs:List V):St:=vs.map some++List.replicate (N.length - vs.length) none
def cxOf (CX:CXT) (P:Program) (w:World) (K:PySem.W.Frag) (mg:Str→Option Value) (base:Heap) (N:List Str) (qual:Str) (scope:Scope) (f:Addr) (cd:Value) (A:Around) (outer:List Env) (s:Shared) (H:Hp) (E:XK):Cx where
  prog:=P
  w:=w
  K:=K
  mg:=mg
  base:=base
  A:=A.deeper (envOfC qual scope s.heap.objs.size f cd)
  N:=N
  s₀:=s
  H₀:=H
  env:=envOfC qual scope s.heap.objs.size f cd
  outer:=outer
  stack:=envOfC qual scope s.heap.objs.size f cd :: outer
  ex:=[]
  calm:=true
  fn:=fun _=>true
  pn:=[]
  xe:=fun e s'=>wpAny (model P w) (A.deeper (envOfC qual scope s.heap.objs.size f cd)) (leaving (envOfC qual scope s.heap.objs.size f cd) e) (fun _ s''=>CX outer H s E e s'') (fun e' s''=>CX outer H s E e' s'') s'
theorem cell_has {sc:Scope} {n:Nat} {x:Str} (h:sc.names.lookup x=some .cell):∃ c,(cellsFrom n sc.names []).lookup x=some c:=by
  have q:=PySem.W.cellsFrom_some sc.names n [] (.inl h)
  exact Option.isSome_iff_exists.mp q
theorem inv_start {CX:CXT} {P:Program} {w:World} {K:PySem.W.Frag} {mg:Str→Option Value} {base:Heap} {N ps:List Str} {qual:Str} {scope:Scope} {f:Addr} {cd:Value} {A:Around} {outer:List Env} {s s1:Shared} {H:Hp} {E:XK} {us:List Value} {vs:List V}
    (S:FnScope N ps scope) (hd:A.handled=none) (e0:Env0 P w K mg base A outer s H) (hl:vs.length=ps.length) (r:Vals vs us)
    (x:InCallC s s.heap.objs.size (bindL (envOfC qual scope s.heap.objs.size f cd).kindOf (ps.zip us) fun _=>none) (cellsFrom (s.heap.objs.size + 1) scope.names []) (bindC (envOfC qual scope s.heap.objs.size f cd).kindOf (ps.zip us) fun _=>none) s1) :
    Inv (cxOf CX P w K mg base N qual scope f cd A outer s H E) [] (start N vs) H s1:=by
  have hpl:ps.length≤N.length:=by have:=congrArg List.length S.pre;rw [List.length_take] at this;omega
  obtain ⟨h1,tk,rfl,hk⟩:=x.done
  have noA:∀ b:Addr,b ∉ (cxOf CX P w K mg base N qual scope f cd A outer s H E).ex:=fun b z=>absurd (show b∈([]:List Addr) from z) (by simp)
  refine ⟨⟨e0.mod,S.kind,rfl,rfl,Nat.le_refl _,fun y z c h1 h2=>?_,fun y hy=>?_,fun y c _ h=>?_,fun _=>hd,Around.frames_deeper e0.frames,.inr ⟨rfl,rfl⟩,fun b z=>absurd z (noA b),e0.bs,e0.bsz,fun b _ _=>noA b,fun b z=>absurd z (noA b),e0.funs,e0.frf⟩,
    rfl,e0.bare,Un.kept hk,⟨_,x.toInCall.ns,fun i y v h1 h2 h3=>?_⟩,fun y c h=>⟨_,x.cell y c h⟩,e0.hok.fresh (Nat.le_refl _),fun y c h=>?_,fun p hp=>absurd (show p∈([]:List (Addr × Obj)) from hp) (by simp),e0.hok.kept hk,?_⟩
  · exact name_of_addr x.apart (PySem.mem_of_lookup h1) (PySem.mem_of_lookup h2)
  · have hy:scope.names.lookup y=some .cell∨scope.names.lookup y=some .free:=hy
    rcases hy with hy | hy
    · exact cell_has hy
    · exact absurd rfl (S.nofree _ (PySem.mem_of_lookup hy))
  · exact Nat.le_of_lt (x.above y c (PySem.mem_of_lookup h))
  · have hi:i < vs.length:=by
      unfold start at h2
      by_cases hi:i < vs.length
      · exact hi
      · rw [List.getElem?_append_right (by simpa using hi)] at h2
        rw [List.getElem?_replicate] at h2
        split at h2 <;> cases h2
    have ha:vs[i]?=some v:=by
      unfold start at h2
      rw [List.getElem?_append_left (by simpa using hi),List.getElem?_map] at h2
      cases e:vs[i]? with
      | none=>rw [e] at h2;cases h2
      | some a=>rw [e] at h2;cases h2;rfl
    obtain ⟨u,hu,rv⟩:=r.get ha
    have hp:ps[i]?=some y:=by
      rw [← S.pre,List.getElem?_take_of_lt (by omega)];exact h1
    have ndP:ps.Nodup:=by rw [← S.pre];exact S.nd.sublist (List.take_sublist _ _)
    refine ⟨u,rv,?_⟩
    rcases S.par y (List.mem_of_getElem? hp) with k | k
    · exact .inl ⟨k,bindL_get ndP hp hu k⟩
    · obtain ⟨c,e⟩:=cell_has (n:=s.heap.objs.size + 1) k
      refine .inr ⟨.inl k,c,e,?_⟩
      have q:=x.cell y c e
      rw [bindC_get ndP hp hu (by show scope.names.lookup y≠_;rw [k];decide)] at q
      exact q
  · exact e0.hok.fresh (Nat.le_of_lt (x.above y c (PySem.mem_of_lookup h)))
  · unfold start
    show _=N.length
    rw [List.length_append,List.length_map,List.length_replicate]
    omega
theorem fn_of {CX:CXT} {P:Program} {w:World} {K:PySem.W.Frag} {mg:Str→Option Value} {base:Heap} {k:Nat} {f:Addr} {name qual:Str} {params:Arguments} {body:List Stmt} {scope:Scope} {dV kV doc pm cdv ct oc:Value} {an od:Option Addr}
    {osl:Array (Option Value)} {N ps:List Str} {sp:Sp} (lk:K.lookup f=some ⟨oc,od,.func (PySem.W.fnOf name qual params body scope dV kV doc pm an cdv ct),osl⟩) (hcd:PySem.W.codeIn K cdv qual=true) (S:FnScope N ps scope)
    (len:∀ vs H Q E,sp vs H Q E→vs.length=ps.length)
    (hbody:∀ (A:Around) (outer:List Env) (s:Shared) (H:Hp) (vs:List V) (Q:VK) (E:XK),Room k (A.deeper (envOfC qual scope s.heap.objs.size f cdv))→sp vs H Q E →
      ∃ t,PSs (cxOf CX P w K mg base N qual scope f cdv A outer s H E) body t∧t { nx:=fun _ H'=>Q .non H',rt:=Q } (start N vs) H) :
    FnOk P w K mg base CX (k + 1) f (PySem.W.fnOf name qual params body scope dV kV doc pm an cdv ct) ps sp:=by
  refine ⟨len,fun A outer s H args us vs Q E hr e0 hb r hsp=>?_⟩
  have hl:=len _ _ _ _ hsp
  have KX:K.In s.heap:=e0.mod.kin.keeps fun b o e=>(e0.bs b o e).1
  have lim:s.heap.NoLimit:=e0.mod.nolimit.keeps fun b o e=>(e0.bs b o e).1
  have hkind:∀ y∈ps.zip us,scope.names.lookup y.1=some .local∨(scope.names.lookup y.1=some .cell∧((cellsFrom (s.heap.objs.size + 1) scope.names []).lookup y.1).isSome=true):=fun ⟨n,v⟩ hy=>by
    rcases S.par n (List.of_mem_zip hy).1 with q | q
    · exact .inl q
    · exact .inr ⟨q,PySem.W.cellsFrom_some _ _ _ (.inl q)⟩
  refine codeAny_call_function hr.depth (KX _ _ lk) rfl S.co S.gen rfl (PySem.W.codeRec_of KX hcd) (hb _ _ _ _ ?_)
  refine wpAny_newFunctionEnv_cells S.kind hkind fun env he s1 x=>?_
  subst he
  refine ⟨lim.keeps x.toInCall.keep,codeAny_func ?_⟩
  obtain ⟨t,ht,hq⟩:=hbody A outer s H vs Q E (hr.deeper _) hsp
  have I:Inv (cxOf CX P w K mg base N qual scope f cdv A outer s H E) [] (start N vs) H s1:=inv_start S hr.hd e0 hl r x
  refine wpAny_mono (ht [] s1 (start N vs) H _ I hq) (fun fl s' hs=>?_) fun e s' hs=>hs
  have fin:∀ {σ':St} {H':Hp} {v:V} {u:Value},Inv (cxOf CX P w K mg base N qual scope f cdv A outer s H E) [] σ' H' s'→RelV v u→Q v H'→CE outer P w H s Q u s' :=
    fun {σ' H' v u} J rv q=>⟨v,H',J.os,J.bare,J.base,J.hok,rv,q⟩
  cases fl with
  | ret u =>
    obtain ⟨v,σ',H',J,rv,q⟩:=hs
    exact fin J rv q
  | next =>
    obtain ⟨σ',H',J,q⟩:=hs
    exact fin (v:=V.non) (u:=Value.none) J rfl q
  | brk =>
    obtain ⟨_,_,_,q⟩:=hs
    exact False.elim q
  | cont =>
    obtain ⟨_,_,_,q⟩:=hs
    exact False.elim q
end L2
namespace L2
open PySem PySem.Spec PyProof.Rows
section
variable {X:Cx} {x:Str} {p pos:Pos} {e:Expr} {es:List Expr} {t:TA} {id T:String} {r:List V→Hp→VK→Prop}
def tCB (r:List V→Hp→VK→Prop) (t:TA):TE:=fun σ H Q=>t σ H fun vs H1=>r vs H1 Q
theorem pe_callB (hc:CallR X (.builtin id) r) (hg:Gl X x) (hm:X.mg x=none) (hv:bootBuiltins x=some (.builtin id)) (ha:PA X (e :: es) t) (hn:x≠"__name__":=by decide) (hdb:(x == ("__debug__":Str))=false:=by decide)
    (he:starEach (e :: es) X.env=(false,eval e X.env) :: starEach es X.env:=by rfl) (hpl:(backTo pos (starEach es X.env)).any (·.1)=false:=by rfl):PE X (.Call (.Name x p) (e :: es) [] pos) (tCB r t):=by
  intro pins s σ H Q I h
  refine wpAny_Call_Name_kw (ld_blt I hg hm hv ?_ hn hdb)
  exact PyProof.Rows.callWith_builtin1 (thn (ha pos pins s σ H _ I h) fun us s1 ⟨vs,H1,I1,r1,q1⟩=>hc pins s1 σ H1 vs us Q I1 r1 q1) he hpl
theorem pe_callTy (hc:CallR X (.type T) r) (hg:Gl X x) (hm:X.mg x=none) (hv:bootBuiltins x=some (.type T)) (ha:PA X (e :: es) t) (hn:x≠"__name__":=by decide) (hdb:(x == ("__debug__":Str))=false:=by decide)
    (he:starEach (e :: es) X.env=(false,eval e X.env) :: starEach es X.env:=by rfl) (hpl:(backTo pos (starEach es X.env)).any (·.1)=false:=by rfl):PE X (.Call (.Name x p) (e :: es) [] pos) (tCB r t):=by
  intro pins s σ H Q I h
  refine wpAny_Call_Name_kw (ld_blt I hg hm hv ?_ hn hdb)
  exact PyProof.Rows.callWith_type1 (thn (ha pos pins s σ H _ I h) fun us s1 ⟨vs,H1,I1,r1,q1⟩=>hc pins s1 σ H1 vs us Q I1 r1 q1) he hpl
end
end L2
namespace HT
open PySem PyProof.Rows
def lexLt:List Int→List Int→Bool
  | [],[]=>false
  | [],_ :: _=>true
  | _ :: _,[]=>false
  | x :: xs,y :: ys=>if x=y then lexLt xs ys else decide (x < y)
theorem lexLt_cons (x y:Int) (xs ys:List Int):lexLt (x :: xs) (y :: ys)=if x=y then lexLt xs ys else decide (x < y):=rfl
theorem lexLt_nil_nil:lexLt [] []=false:=rfl
theorem lexLt_nil_cons (y:Int) (ys:List Int):lexLt [] (y :: ys)=true:=rfl
theorem lexLt_cons_nil (x:Int) (xs:List Int):lexLt (x :: xs) []=false:=rfl
theorem eqAt_int (A:Around) (s:Shared) (a:Int) (t:Tok) (c:Int) (u:Tok):∃ e,SeqAt.EqAt A s (.int a t) (.int c u) e∧(e=true ↔ a=c) :=
  ⟨(a == c),SeqAt.EqAt.int_int a t c u,by simp⟩
theorem rcLt_int (A:Around) (s:Shared) (a:Int) (t:Tok) (c:Int) (u:Tok) (prog:Program) (w:World) (E:Value→Shared→Prop) (Q:Value→Shared→Prop) (h:Q (.bool (decide (a < c))) s) :
    wpAny (model prog w) A (richCompare .Lt (.int a t) (.int c u)) Q E s :=
  (PyProof.Rows.lt_int h:wpAny (model prog w) A (compareOp .Lt (.int a t) (.int c u)) Q E s)
section
open PySem.SeqAt
open PySem.AutoSeq1 (wpAny_loadPart')
open PySem.MeetsSeq PySem.MeetsSeq2 PySem.MeetsSeq3
theorem tuple_lt_ints (l b:Addr) (items items2:Array Value) (n n2:Nat) (dd dd2:Option Addr) (sl sl2:Array (Option Value)) (ns ms:List Int) (hi:IntsAre items.toList ns) (hj:IntsAre items2.toList ms) :
    Meets (Builtin.«tuple.__lt__» ⟨[.ref l,.ref b],[]⟩)
      (fun _ R s=>s.heap.get? l=some { cls:=.type "tuple",dict:=dd,data:=.seq items n,slots:=sl }∧s.heap.get? b=some { cls:=.type "tuple",dict:=dd2,data:=.seq items2 n2,slots:=sl2 } ∧
        R (.ok (.ret (.bool (lexLt ns ms)))) s) :=
  .of_wp fun prog w A R s h=>by
    obtain ⟨hp,g,d,tk,os⟩:=s;obtain ⟨hl,hb,h⟩:=h
    have f2:=AutoSeq1.sub_tuple_tuple
    have z1:items.size=ns.length:=by rw [← hi.length];simp
    have z2:items2.size=ms.length:=by rw [← hj.length];simp
    wp_walk using wpAny_loadPart' hl,wpAny_loadPart' hb,wpAny_forIn_list _ (fun rest b s'=>b.1=none∧s'=⟨hp,g,d,tk,os⟩∧∃ (vs ws:List Value) (ns' ms':List Int),rest=vs.zip ws ∧
      IntsAre vs ns'∧IntsAre ws ms'∧ns'.length + items2.size=ms'.length + items.size∧R (.ok (.ret (.bool (lexLt ns' ms')))) ⟨hp,g,d,tk,os⟩) _
    case turn =>
      rintro ⟨y,x⟩ rest b s' ⟨hb',rfl,vs,ws,ns',ms',hz,hvi,hwi,hlen,hR⟩
      cases hvi with
      | nil=>rw [List.zip_nil_left] at hz;cases hz
      | cons a t hvi' =>
        cases hwi with
        | nil=>rw [List.zip_nil_right] at hz;cases hz
        | cons c u hwi' =>
          rw [List.zip_cons_cons] at hz
          injection hz with hyx hrest
          injection hyx with hy hx
          subst hy hx
          rw [lexLt_cons] at hR
          simp only [List.length_cons] at hlen
          obtain ⟨e,he,hiff⟩:=eqAt_int A.in1 ⟨hp,g,d,tk,os⟩ a t c u
          refine wpAny_bind (he prog w _ _ ?_)
          cases e with
          | true =>
            rw [if_pos (hiff.mp rfl)] at hR
            wp_walk
            exact ⟨rfl,rfl,_,_,_,_,hrest,hvi',hwi',by omega,hR⟩
          | false =>
            rw [if_neg (fun q=>absurd (hiff.mpr q) Bool.false_ne_true)] at hR
            have hri:=rcLt_int A.in1 ⟨hp,g,d,tk,os⟩ a t c u prog w
            wp_walk using hri
            exact ⟨_,rfl,by simpa using hR⟩
    case fin =>
      rintro ⟨b1,b2⟩ s' ⟨hb',rfl,vs,ws,ns',ms',hz,hvi,hwi,hlen,hR⟩
      simp only at hb'
      subst hb'
      have hv:lexLt ns' ms'=decide (items.size < items2.size):=by
        cases hvi with
        | nil =>
          cases hwi with
          | nil =>
            simp only [List.length_nil] at hlen
            rw [lexLt_nil_nil]
            exact (decide_eq_false (by omega)).symm
          | cons c u hw =>
            simp only [List.length_nil,List.length_cons] at hlen
            rw [lexLt_nil_cons]
            exact (decide_eq_true (by omega)).symm
        | cons a t hv =>
          cases hwi with
          | nil =>
            simp only [List.length_nil,List.length_cons] at hlen
            rw [lexLt_cons_nil]
            exact (decide_eq_false (by omega)).symm
          | cons c u hw =>
            rw [List.zip_cons_cons] at hz
            cases hz
      rw [hv] at hR
      wp_walk
      exact ⟨_,rfl,by simpa [Builtin.Tuple.tupleCompareSizes] using hR⟩
    case h =>
      exact ⟨rfl,rfl,items.toList,items2.toList,ns,ms,rfl,hi,hj,by omega,h⟩
end
section
variable {prog:Program} {w:World} {A:Around} {E:Value→Shared→Prop} {s:Shared}
theorem lt_tupInts {l b:Addr} {items items2:Array Value} {ns ms:List Int} {Q:Value→Shared→Prop} (hl:IsTup s.heap l items) (hb:IsTup s.heap b items2) (hi:IntsAre items.toList ns) (hj:IntsAre items2.toList ms)
    (hu:A.units < cLine) (h:Q (.bool (lexLt ns ms)) s):wpAny (model prog w) A (compareOp .Lt (.ref l) (.ref b)) Q E s:=by
  obtain ⟨⟨cls,dd,data,sl⟩,ho,hc,n,hd⟩:=id hl
  obtain ⟨⟨cls2,dd2,data2,sl2⟩,ho2,hc2,n2,hd2⟩:=id hb
  simp only at hc hd hc2 hd2
  subst hc hd hc2 hd2
  exact richCompare_meets_room (op:=.Lt) ⟨_,ho,rfl⟩ ⟨_,ho2,rfl⟩ PySem.F.slot_tuple_lt PySem.F.entry_tuple_lt (PySem.F.args_tuple_lt_2 _ _) (tuple_lt_ints l b items items2 n n2 dd dd2 sl sl2 ns ms hi hj)
    ⟨ho,ho2,show Value.bool (lexLt ns ms)≠Value.notImplemented∧Q (.bool (lexLt ns ms)) s from ⟨(fun x=>nomatch x),h⟩⟩ hu
theorem cat_tup {t b:Addr} {vs ws:List Value} {Q:Value→Shared→Prop} (ht:IsTup s.heap t vs.toArray) (hb:IsTup s.heap b ws.toArray) (hv:vs≠[])
    (h1:ws=[]→Q (.ref t) s) (h2:ws≠[]→Q (.ref s.heap.objs.size) { s with heap:=s.heap.push { cls:=.type "tuple",data:=.seq (vs++ws).toArray } })
    (hsz:vs.length + ws.length≤sizeLine):wpAny (model prog w) A (binaryOp .Add (.ref t) (.ref b)) Q E s:=by
  obtain ⟨⟨cls,dd,data,sl⟩,ho,hc,n,hd⟩:=id ht
  obtain ⟨⟨cls2,dd2,data2,sl2⟩,ho2,hc2,n2,hd2⟩:=id hb
  simp only at hc hd hc2 hd2
  subst hc hd hc2 hd2
  have e:vs.toArray++ws.toArray=(vs++ws).toArray:=by simp
  by_cases hw:ws=[]
  · exact concat_meets ⟨_,ho,rfl⟩ ⟨_,ho2,rfl⟩ noFill_tuple_add seq_tuple_add PySem.F.slot_tuple_add PySem.F.entry_tuple_add (PySem.F.args_tuple_add_2 _ _)
      (tuple_addW1 t b vs.toArray ws.toArray n n2 dd dd2 sl sl2 (by simpa using hv) (by simp [hw])) ⟨ho,ho2,h1 hw⟩
  · refine concat_meets ⟨_,ho,rfl⟩ ⟨_,ho2,rfl⟩ noFill_tuple_add seq_tuple_add PySem.F.slot_tuple_add PySem.F.entry_tuple_add (PySem.F.args_tuple_add_2 _ _)
      (tuple_addW2 t b vs.toArray ws.toArray n n2 dd dd2 sl sl2 (by simpa using hv) (by simpa using hw) (by rw [List.size_toArray,List.size_toArray];exact hsz)) ⟨ho,ho2,?_⟩
    rw [e]
    exact h2 hw
def sIx (n d:Nat):Option Int→Nat
  | none=>d
  | some v=>if v < 0 then (v + (n:Int)).toNat else min v.toNat n
theorem sIx_le (n d:Nat) (hd:d≤n) (o:Option Int):sIx n d o≤n:=by
  cases o with
  | none=>exact hd
  | some v =>
    show (if v < 0 then (v + (n:Int)).toNat else min v.toNat n)≤n
    by_cases hv:v < 0
    · rw [if_pos hv];omega
    · rw [if_neg hv];exact Nat.min_le_right _ _
theorem clip_eq (v:Int) (n d:Nat):(if v < 0 then max (v + (n:Int)) 0 else min v (n:Int))=((sIx n d (some v):Nat):Int):=by
  show (if v < 0 then max (v + (n:Int)) 0 else min v (n:Int))=(((if v < 0 then (v + (n:Int)).toNat else min v.toNat n):Nat):Int)
  by_cases hv:v < 0
  · simp only [if_pos hv];omega
  · simp only [if_neg hv];omega
theorem adjust_gen (lo hi:Option Int) (n:Nat):Builtin.Slice.sliceAdjust lo hi 1 (n:Int)=(((sIx n 0 lo:Nat):Int),((sIx n n hi:Nat):Int)):=by
  have h1:¬ ((1:Int) < 0):=by omega
  unfold Builtin.Slice.sliceAdjust
  simp only [h1,if_false]
  refine Prod.ext ?_ ?_
  · cases lo with
    | none=>rfl
    | some v=>exact clip_eq v n 0
  · cases hi with
    | none=>rfl
    | some v=>exact clip_eq v n n
theorem places_gen (i j:Nat):Builtin.Slice.slicePlaces (i:Int) (j:Int) 1=j - i:=by
  unfold Builtin.Slice.slicePlaces
  have h1:(1:Int) > 0:=by omega
  simp only [h1,if_true,Int.ediv_one]
  split <;> omega
theorem slicePart_ {v:Value} {o:Option Int} {Q:Option Int→Shared→Prop} (p:IsPart v o) (h:Q o s):wpAny (model prog w) A (Builtin.Slice.slicePartIndex v) Q E s:=by
  cases p with
  | none=>exact slicePart_none h
  | int i t=>exact slicePart_int h
theorem sliceApplied_gen {sl:Addr} {vl vu:Value} {lo hi:Option Int} {n:Nat} {Q:Int × Int × Nat→Shared→Prop} (hs:s.heap.IsSliceOf sl vl vu .none) (pl:IsPart vl lo) (pu:IsPart vu hi)
    (h:Q (((sIx n 0 lo:Nat):Int),1,sIx n n hi - sIx n 0 lo) s):wpAny (model prog w) A (Builtin.Slice.sliceApplied (.ref sl) (pure (n:Int))) Q E s:=by
  obtain ⟨os,hos,hcs,hds⟩:=id hs
  unfold Builtin.Slice.sliceApplied Builtin.Slice.sliceFields
  refine wpAny_bind (wpAny_bind (wpAny_field hos hds (x:=vl) rfl (wpAny_bind (wpAny_field hos hds (x:=vu) rfl (wpAny_bind (wpAny_field hos hds (x:=.none) rfl (wpAny_pure ?_)))))))
  refine wpAny_bind (slicePart_none ?_)
  show wpAny _ _ (if ((1:Int) == 0)=true then _ else _) _ _ s
  rw [if_neg (by decide)]
  refine wpAny_bind (slicePart_ pl (wpAny_bind (slicePart_ pu (wpAny_bind (wpAny_pure ?_)))))
  show wpAny _ _ (match Builtin.Slice.sliceAdjust lo hi 1 (n:Int) with | (lo,hi)=>pure (lo,(1:Int),Builtin.Slice.slicePlaces lo hi 1)) _ _ s
  rw [adjust_gen lo hi n]
  show wpAny _ _ (pure (((sIx n 0 lo:Nat):Int),(1:Int),Builtin.Slice.slicePlaces ((sIx n 0 lo:Nat):Int) ((sIx n n hi:Nat):Int) 1)) _ _ s
  rw [places_gen]
  exact wpAny_pure h
theorem pick_gen (xs:Array Value) (i k:Nat):((List.range k).filterMap fun (m:Nat)=>xs[((i:Int) + (m:Int) * 1).toNat]?).toArray=((xs.toList.drop i).take k).toArray:=by
  have e:(fun (m:Nat)=>xs[((i:Int) + (m:Int) * 1).toNat]?)=fun m=>xs[i + m]?:=by
    funext m
    have:((i:Int) + (m:Int) * 1).toNat=i + m:=by omega
    rw [this]
  rw [e]
  have:=pick_run xs i k
  rw [List.filterMap_map] at this
  have e2:((fun x=>xs[x]?) ∘ fun x=>i + x)=fun m=>xs[i + m]?:=rfl
  rw [e2] at this
  rw [this]
theorem getItem_tuple_cut {t sl:Addr} {items:Array Value} {vl vu:Value} {lo hi:Option Int} {Q:Value→Shared→Prop} (ht:IsTup s.heap t items) (hs:s.heap.IsSliceOf sl vl vu .none) (pl:IsPart vl lo) (pu:IsPart vu hi)
    (hw:¬ (sIx items.size 0 lo=0∧sIx items.size items.size hi=items.size))
    (h:Q (.ref s.heap.objs.size) { s with heap:=s.heap.push { cls:=.type "tuple",data:=.seq ((items.toList.drop (sIx items.size 0 lo)).take (sIx items.size items.size hi - sIx items.size 0 lo)).toArray } })
    (hsz:items.size≤sizeLine):wpAny (model prog w) A (getItem (.ref t) (.ref sl)) Q E s:=by
  have htake:sizeOk (.seq ((items.toList.drop (sIx items.size 0 lo)).take (sIx items.size items.size hi - sIx items.size 0 lo)).toArray):=by
    show ((items.toList.drop (sIx items.size 0 lo)).take (sIx items.size items.size hi - sIx items.size 0 lo)).toArray.size≤sizeLine
    rw [List.size_toArray,List.length_take,List.length_drop,Array.length_toList]
    omega
  have hj:sIx items.size items.size hi≤items.size:=sIx_le _ _ (Nat.le_refl _) hi
  obtain ⟨os,hos,hcs,hds⟩:=id hs
  have hTs:s.TypeIs (.ref sl) "slice":=⟨os,hos,hcs⟩
  unfold getItem
  try with_reducible refine wpAny_holding ?_
  first | refine wpAny_bind (wpAny_pure ?_) | skip
  refine wpAny_bind (wpAny_sequenceKey ht.typeIs (by decide) ?_)
  refine wpAny_bind (wpAny_callSpecial?_slot (name:=Str.ofString "__getitem__") ht.typeIs PyProof.Rows.slot_tuple_getitem
    (wpAny_call_entry PyProof.Rows.slot_tuple_getitem ht.typeIs entry_tuple_getitem ?_ (args_tuple_getitem _ _)))
  show wpAny _ _ (Builtin.Tuple.tupleItemsOf (.ref t) >>= _) _ _ s
  refine wpAny_bind (tupleItemsOf_ ht ?_)
  refine wpAny_bind (wpAny_typeOf hTs ?_)
  rw [if_pos (by decide)]
  refine wpAny_bind (sliceApplied_gen hs pl pu ?_)
  have hno:¬ ((((sIx items.size 0 lo:Nat):Int) == 0 && (1:Int) == 1 && (sIx items.size items.size hi - sIx items.size 0 lo) == items.size)=true):=by
    intro q
    rw [Bool.and_eq_true,Bool.and_eq_true] at q
    have q1:((sIx items.size 0 lo:Nat):Int)=0:=eq_of_beq q.1.1
    have q2:sIx items.size items.size hi - sIx items.size 0 lo=items.size:=eq_of_beq q.2
    exact hw ⟨by omega,by omega⟩
  show wpAny _ _ (if (((sIx items.size 0 lo:Nat):Int) == 0 && (1:Int) == 1 && (sIx items.size items.size hi - sIx items.size 0 lo) == items.size)=true then _ else _) _ _ s
  rw [if_neg hno,pick_gen]
  first
    | exact wpAny_bind (m:=Builtin.Tuple.tupleExact _) (wpAny_newObj_type (wpAny_pure ⟨_,rfl,wpAny_pure h⟩) htake)
    | exact wpAny_bind (m:=Builtin.Tuple.tupleExact _) (wpAny_newObj_type (wpAny_bind (wpAny_pure (wpAny_pure ⟨_,rfl,wpAny_pure h⟩))) htake)
    | exact wpAny_bind (wpAny_bind (m:=Builtin.Tuple.tupleExact _) (wpAny_newObj_type (wpAny_pure (wpAny_pure ⟨_,rfl,wpAny_pure h⟩)) htake))
    | exact wpAny_bind (wpAny_bind (m:=Builtin.Tuple.tupleExact _) (wpAny_newObj_type (wpAny_pure ⟨_,rfl,wpAny_pure h⟩) htake))
end
end HT
namespace L2
open PySem PySem.Spec PyProof.Rows
abbrev TO:=St→Hp→(Option Int→Hp→Prop)→Prop
def PO (X:Cx) (e:Option Expr) (t:TO):Prop :=
  ∀ (pins:List (Addr × Obj)) (s:Shared) (σ:St) (H:Hp) (Q:Option Int→Hp→Prop),Inv X pins σ H s→t σ H Q →
    wpAny (model X.prog X.w) X.A (evalPart e X.env) (fun u s'=>∃ o H',Inv X pins σ H' s'∧IsPart u o∧Q o H') X.xe s
def tNoPart:TO:=fun _ H Q=>Q none H
def tPart (t:TE):TO:=fun σ H Q=>t σ H fun x H1=>∃ i,x=.int i∧Q (some i) H1
theorem intsAre_of {ns:List Int}:∀ {us:List Value},Vals (ns.map V.int) us→IntsAre us ns:=by
  induction ns with
  | nil=>intro us r;rw [List.map_nil] at r;cases r;exact .nil
  | cons n ns ih =>
    intro us r
    rw [List.map_cons] at r
    cases r with
    | cons r1 r2 =>
      obtain ⟨t,e⟩:=r1
      subst e
      exact .cons n t (ih r2)
section
variable {X:Cx} {e:Expr} {te:TE} {lo hi:Option Expr} {tl th:TO} {pos p2:Pos}
theorem po_none:PO X none tNoPart:=by
  intro pins s σ H Q I h
  rw [evalPart_none]
  exact wpAny_pure ⟨none,H,I,.none,h⟩
theorem po_some (h:PE X e te):PO X (some e) (tPart te):=by
  intro pins s σ H Q I hw
  rw [evalPart_some]
  refine thn (h pins s σ H _ I hw) fun u s1 ⟨x,H1,I1,r1,q1⟩=>?_
  obtain ⟨i,rfl,q⟩:=q1
  obtain ⟨t,rfl⟩:=r1
  exact ⟨some i,H1,I1,.int i t,q⟩
def SlR (X:Cx) (r:V→Option Int→Option Int→Hp→VK→Prop):Prop :=
  ∀ (pins:List (Addr × Obj)) (s:Shared) (σ:St) (H:Hp) (x:V) (v vl vu:Value) (lo hi:Option Int) (sl:Addr) (Q:VK),Inv X pins σ H s→RelV x v→s.heap.IsSliceOf sl vl vu .none→IsPart vl lo→IsPart vu hi→r x lo hi H Q →
    ∃ T id,typeLookup (.type T) "__getitem__"=pure (some (.builtin id))∧s.TypeIs v T∧wpAny (model X.prog X.w) X.A (getItem v (.ref sl)) (EP X pins σ Q) X.xe s
theorem SlR.or {r r':V→Option Int→Option Int→Hp→VK→Prop} (h:SlR X r) (h':SlR X r'):SlR X (fun x lo hi H Q=>r x lo hi H Q∨r' x lo hi H Q):=by
  intro pins s σ H x v vl vu lo hi sl Q I rx hs pl pu q
  rcases q with q | q
  · exact h pins s σ H x v vl vu lo hi sl Q I rx hs pl pu q
  · exact h' pins s σ H x v vl vu lo hi sl Q I rx hs pl pu q
def tSl (r:V→Option Int→Option Int→Hp→VK→Prop) (te:TE) (tl th:TO):TE:=fun σ H Q=>te σ H fun x H1=>tl σ H1 fun l H2=>th σ H2 fun u H3=>r x l u H3 Q
theorem pe_slice {r:V→Option Int→Option Int→Hp→VK→Prop} (hr:SlR X r) (he:PE X e te) (hl:PO X lo tl) (hu:PO X hi th):PE X (.Subscript e (.Slice lo hi none p2) pos) (tSl r te tl th):=by
  intro pins s σ H Q I h
  refine Subscript_ (thn (he pins s σ H _ I h) fun v s1 ⟨x,H1,I1,r1,q1⟩=>?_)
  refine wpAny_Slice (thn (hl pins s1 σ H1 _ I1 q1) fun vl s2 ⟨l,H2,I2,pl,q2⟩=>thn (hu pins s2 σ H2 _ I2 q2) fun vu s3 ⟨u,H3,I3,pu,q3⟩=>?_)
  rw [evalPart_none]
  refine wpAny_pure ?_
  have I4:Inv X pins σ H3 { s3 with heap:=s3.heap.push { cls:=.type "slice",data:=.fields #[vl,vu,.none] } }:=I3.kept (t':=s3.toks) fun b ob q=>Heap.get?_push_of_some _ q
  obtain ⟨T,id,hT,ht,hg⟩:=hr pins { s3 with heap:=s3.heap.push { cls:=.type "slice",data:=.fields #[vl,vu,.none] } } σ H3 x v vl vu l u s3.heap.objs.size Q I4 r1 (Heap.IsSliceOf.new ..) pl pu q3
  show wpAny (model X.prog X.w) X.A (subscriptTail e (.Slice lo hi none p2) v (.ref s3.heap.objs.size)) (EP X pins σ Q) X.xe { s3 with heap:=s3.heap.push { cls:=.type "slice",data:=.fields #[vl,vu,.none] } }
  exact tail_any (ops:=[.ref s3.heap.objs.size,v]) ht hT hg (by with_unfolding_all rfl)
def cutV (xs:List V) (lo hi:Option Int):List V:=(xs.drop (HT.sIx xs.length 0 lo)).take (HT.sIx xs.length xs.length hi - HT.sIx xs.length 0 lo)
theorem cutV_length (xs:List V) (lo hi:Option Int):(cutV xs lo hi).length≤xs.length:=by
  unfold cutV
  rw [List.length_take,List.length_drop]
  omega
def rSlT (K:PySem.W.Frag):V→Option Int→Option Int→Hp→VK→Prop:=fun x lo hi H Q=>∃ a xs,x=.ref a∧SqT K H a xs ∧
  ¬ (HT.sIx xs.length 0 lo=0∧HT.sIx xs.length xs.length hi=xs.length)∧∀ p,H p=none→Q (.ref p) (upd H p (.tup (cutV xs lo hi)))
theorem sl_tup:SlR X (rSlT X.K):=by
  intro pins s σ H x v vl vu lo hi sl Q I rx hs pl pu h
  obtain ⟨a,xs,rfl,hx,hw,q⟩:=h
  cases rx
  obtain ⟨its,r,ht,hz⟩:=I.tuple hx
  have hlen:its.toArray.size=xs.length:=by rw [List.size_toArray];exact r.length.symm
  refine ⟨"tuple",_,PyProof.Rows.slot_tuple_getitem.lookup,ht.typeIs,?_⟩
  refine HT.getItem_tuple_cut ht hs pl pu (by rw [hlen];exact hw) ?_ (by rw [hlen];exact hz)
  rw [hlen]
  refine ⟨.ref s.heap.objs.size,_,I.laid (t':=s.toks) (o:=.tup (cutV xs lo hi)) (fun b ob q=>Heap.get?_push_of_some _ q) (Nat.le_refl _) ?_,rfl,q _ (I.hok.fresh (Nat.le_refl _))⟩
  exact ⟨Nat.le_trans (cutV_length xs lo hi) hz,_,(r.drop (HT.sIx xs.length 0 lo)).take (HT.sIx xs.length xs.length hi - HT.sIx xs.length 0 lo),IsTup.new _ _⟩
def rLtT (K:PySem.W.Frag):R2:=fun x y H Q=>∃ a b ns ms,x=.ref a∧y=.ref b∧SqT K H a (ns.map V.int)∧SqT K H b (ms.map V.int)∧Q (.bl (HT.lexLt ns ms)) H
theorem op_ltT (hu:X.A.units < cLine):OpR X (compareOp .Lt) (rLtT X.K):=by
  intro pins s σ H x y v u Q I rx ry h
  obtain ⟨a,b,ns,ms,rfl,rfl,ha,hb,q⟩:=h
  cases rx
  cases ry
  obtain ⟨its,r1,p1,_⟩:=I.tuple ha
  obtain ⟨its2,r2,p2,_⟩:=I.tuple hb
  have i1:IntsAre its.toArray.toList ns:=intsAre_of r1
  have i2:IntsAre its2.toArray.toList ms:=intsAre_of r2
  exact HT.lt_tupInts p1 p2 i1 i2 hu ⟨.bl (HT.lexLt ns ms),H,I,rfl,q⟩
def rCatT (K:PySem.W.Frag):R2:=fun x y H Q=>∃ a b xs ys,x=.ref a∧y=.ref b∧SqT K H a xs∧SqT K H b ys∧xs≠[]∧xs.length + ys.length≤sizeLine ∧
  (ys=[]→Q (.ref a) H)∧(ys≠[]→∀ p,H p=none→Q (.ref p) (upd H p (.tup (xs++ys))))
theorem Vals.nil_iff {xs:List V} {us:List Value} (r:Vals xs us):us=[] ↔ xs=[]:=by
  cases r with
  | nil=>simp
  | cons _ _=>simp
theorem op_catT:OpR X (binaryOp .Add) (rCatT X.K):=by
  intro pins s σ H x y v u Q I rx ry h
  obtain ⟨a,b,xs,ys,rfl,rfl,ha,hb,hx,hz,q1,q2⟩:=h
  cases rx
  cases ry
  obtain ⟨its,r1,p1,_⟩:=I.tuple ha
  obtain ⟨its2,r2,p2,_⟩:=I.tuple hb
  refine HT.cat_tup p1 p2 (fun z=>hx (r1.nil_iff.mp z)) (fun z=>⟨.ref a,H,I,rfl,q1 (r2.nil_iff.mp z)⟩) (fun z=>?_) (by rw [← r1.length,← r2.length];exact hz)
  refine ⟨.ref s.heap.objs.size,_,I.laid (t':=s.toks) (o:=.tup (xs++ys)) (fun b ob q=>Heap.get?_push_of_some _ q) (Nat.le_refl _) ?_,rfl,q2 (fun w=>z (r2.nil_iff.mpr w)) _ (I.hok.fresh (Nat.le_refl _))⟩
  exact ⟨by rw [List.length_append];exact hz,_,r1.append r2,IsTup.new _ _⟩
end
end L2
namespace L2
open PySem PySem.Spec PyProof.Rows
def ixN (n:Nat) (i:Int):Option Nat:=if 0≤i then (if i < n then some i.toNat else none) else if -(n:Int)≤i then some (i + n).toNat else none
def atI {α:Type} (xs:List α) (i:Int):Option α:=(ixN xs.length i).bind fun j=>xs[j]?
theorem ixN_seq {n:Nat} {i:Int} {j:Nat} (h:ixN n i=some j):seqIndex? i n=some j∧j < n∧-(n:Int)≤i∧i < n:=by
  unfold ixN at h
  by_cases h0:0≤i
  · rw [if_pos h0] at h
    by_cases h1:i < n
    · rw [if_pos h1] at h
      have e:i.toNat=j:=Option.some.inj h
      exact ⟨by rw [seqIndex_of h0 h1,e],by omega,by omega,h1⟩
    · rw [if_neg h1] at h;cases h
  · rw [if_neg h0] at h
    by_cases h1:-(n:Int)≤i
    · rw [if_pos h1] at h
      have e:(i + n).toNat=j:=Option.some.inj h
      exact ⟨by rw [seqIndex_neg (by omega) h1,e],by omega,h1,by omega⟩
    · rw [if_neg h1] at h;cases h
theorem atI_get {α:Type} {xs:List α} {i:Int} {v:α} (h:atI xs i=some v):∃ j,seqIndex? i xs.length=some j∧xs[j]?=some v∧j < xs.length∧-(xs.length:Int)≤i∧i < xs.length:=by
  unfold atI at h
  cases e:ixN xs.length i with
  | none=>rw [e] at h;cases h
  | some j =>
    rw [e] at h
    obtain ⟨h1,h2,h3,h4⟩:=ixN_seq e
    exact ⟨j,h1,h,h2,h3,h4⟩
theorem atI_nat {α:Type} {xs:List α} {j:Nat} {v:α} (h:xs[j]?=some v):atI xs (j:Int)=some v:=by
  have hj:j < xs.length:=(List.getElem?_eq_some_iff.mp h).1
  have e:ixN xs.length (j:Int)=some j:=by
    unfold ixN
    rw [if_pos (by omega),if_pos (by omega)];simp
  unfold atI;rw [e];exact h
def PlainIx (b:Expr):Prop:=∀ o i,subscripted b false o i=operate [o,i] (getItem o i)
def IxR (X:Cx) (r:R2):Prop :=
  ∀ (value slice:Expr) (pins:List (Addr × Obj)) (s:Shared) (σ:St) (H:Hp) (x y:V) (v u:Value) (Q:VK),Inv X pins σ H s→RelV x v→RelV y u→r x y H Q →
    subscripted slice false v u=operate [v,u] (getItem v u)→wpAny (model X.prog X.w) X.A (subscriptTail value slice v u) (EP X pins σ Q) X.xe s
def MtR (X:Cx) (id:String) (r:V→List V→Hp→VK→Prop):Prop :=
  ∀ (pins:List (Addr × Obj)) (s:Shared) (σ:St) (H:Hp) (x:V) (xs:List V) (v:Value) (us:List Value) (Q:VK),Inv X pins σ H s→RelV x v→Vals xs us→r x xs H Q →
    wpAny (model X.prog X.w) X.A (call (.builtin id) (v :: us)) (EP X pins σ Q) X.xe s
section
variable {X:Cx} {a b:Expr} {ta tb:TE} {pos:Pos}
theorem IxR.or {r r':R2} (h:IxR X r) (h':IxR X r'):IxR X (fun x y H Q=>r x y H Q∨r' x y H Q):=by
  intro value slice pins s σ H x y v u Q I rx ry q hs
  rcases q with q | q
  · exact h value slice pins s σ H x y v u Q I rx ry q hs
  · exact h' value slice pins s σ H x y v u Q I rx ry q hs
theorem pe_ix {r:R2} (hr:IxR X r) (ha:PE X a ta) (hb:PE X b tb) (hs:PlainIx b):PE X (.Subscript a b pos) (tOp r ta tb):=by
  intro pins s σ H Q I h
  exact Subscript_ (binT ha hb I h fun v u s2 x y H2 I2 rx ry q=>hr a b pins s2 σ H2 x y v u Q I2 rx ry q (hs _ _))
def rIxL (K:PySem.W.Frag):R2:=fun x y H Q=>∃ p xs i v,x=.ref p∧y=.int i∧SqL K H p xs∧atI xs i=some v∧Q v H
def rIxT (K:PySem.W.Frag):R2:=fun x y H Q=>∃ p xs i v,x=.ref p∧y=.int i∧SqT K H p xs∧atI xs i=some v∧Q v H
def rIxS:R2:=fun x y H Q=>∃ z i c,x=.str z∧y=.int i∧z.length≤sizeLine∧atI z.cps.toList i=some c∧Q (.str ⟨#[c]⟩) H
theorem ix_list:IxR X (rIxL X.K):=by
  intro value slice pins s σ H x y v u Q I rx ry h hs
  obtain ⟨p,xs,i,z,rfl,rfl,hq,he,q⟩:=h
  cases rx
  obtain ⟨t,rfl⟩:=ry
  obtain ⟨its,r,pl,hz⟩:=I.list hq
  obtain ⟨j,h1,h2,h3,h4,h5⟩:=atI_get he
  obtain ⟨w,ew,rw'⟩:=r.get h2
  have hl:=r.length
  have hn:=line63
  have fin:EP X pins σ Q w s:=⟨z,H,I,rw',q⟩
  by_cases h0:0≤i
  · have hj:i.toNat=j:=by
      rw [seqIndex_of h0 h5] at h1
      exact Option.some.inj h1
    exact item_listR pl.isList h0 (by omega) (by rw [hj];simpa using ew) fin hs
  · have hj:(i + (its.toArray.size:Int)).toNat=j:=by
      rw [seqIndex_neg (by omega) h4] at h1
      rw [List.size_toArray,← hl]
      exact Option.some.inj h1
    exact subscriptTail_builtinR (x:=w) pl.isList.typeIs slot_list_getitem.lookup
      (wpAny_getItem_list_neg (Q:=fun r s'=>r=w∧EP X pins σ Q r s') pl.isList (by omega) (by rw [List.size_toArray] <;> omega) (by omega) (by rw [hj];simpa using ew) ⟨rfl,fin⟩) hs
theorem ix_tup:IxR X (rIxT X.K):=by
  intro value slice pins s σ H x y v u Q I rx ry h hs
  obtain ⟨p,xs,i,z,rfl,rfl,hq,he,q⟩:=h
  cases rx
  obtain ⟨t,rfl⟩:=ry
  obtain ⟨its,r,pl,hz⟩:=I.tuple hq
  obtain ⟨j,h1,h2,h3,h4,h5⟩:=atI_get he
  obtain ⟨w,ew,rw'⟩:=r.get h2
  have hl:=r.length
  have hn:=line63
  have fin:EP X pins σ Q w s:=⟨z,H,I,rw',q⟩
  exact subscriptTail_builtinR (x:=w) pl.typeIs slot_tuple_getitem.lookup
    (getItem_tuple (j:=j) (Q:=fun r s'=>r=w∧EP X pins σ Q r s') pl (by omega) (by omega) (by rw [List.size_toArray,← hl];exact h1) (by simpa using ew) ⟨rfl,fin⟩) hs
theorem ix_str:IxR X rIxS:=by
  intro value slice pins s σ H x y v u Q I rx ry h hs
  obtain ⟨z,i,c,rfl,rfl,hz,he,q⟩:=h
  obtain ⟨t,rfl⟩:=rx
  obtain ⟨t',rfl⟩:=ry
  obtain ⟨j,h1,h2,h3,h4,h5⟩:=atI_get he
  have hl:z.cps.toList.length=z.length:=by simp [Str.length]
  rw [hl] at h1 h4 h5
  have hn:=line63
  exact tail_any (typeIs_str s z t) slot_str_getitem.lookup (getItem_str (c:=c) (by
    have e1:decide (i < -(2 ^ 63:Int))=false:=decide_eq_false (by omega)
    have e2:decide (i ≥ 2 ^ 63)=false:=decide_eq_false (by omega)
    rw [e1,e2,Bool.or_false]) (by rw [h1];simpa using h2) ⟨.str ⟨#[c]⟩,H,I.tok _,⟨_,rfl⟩,q⟩) hs
def rIx (K:PySem.W.Frag):R2:=fun x y H Q=>rIxL K x y H Q∨rIxT K x y H Q∨rIxS x y H Q
theorem ix_seq:IxR X (rIx X.K):=ix_list.or (ix_tup.or ix_str)
theorem mapSeq_set (its:List Value) (n j:Nat) (u:Value):Obj.mapSeq (·.setIfInBounds j u) { cls:=.type "list",data:=.seq its.toArray n }={ cls:=.type "list",data:=.seq (its.set j u).toArray n }:=by
  simp [Obj.mapSeq]
theorem Inv.lst {pins:List (Addr × Obj)} {σ:St} {H:Hp} {s:Shared} {p:Addr} {xs:List V} (I:Inv X pins σ H s) (h:H p=some (.lst xs)) :
    ∃ (its:List Value) (n:Nat),Vals xs its∧s.heap.get? p=some { cls:=.type "list",data:=.seq its.toArray n }∧xs.length≤sizeLine:=by
  obtain ⟨z,its,n,r,e⟩:=I.hok p _ h
  exact ⟨its,n,r,e,z⟩
theorem Inv.lstUpd {pins:List (Addr × Obj)} {σ:St} {H:Hp} {s:Shared} {p:Addr} {xs ys:List V} {its its':List Value} {n n':Nat} {f:Obj→Obj} (I:Inv X pins σ H s) (h:H p=some (.lst xs))
    (ho:s.heap.get? p=some { cls:=.type "list",data:=.seq its.toArray n }) (hf:f { cls:=.type "list",data:=.seq its.toArray n }={ cls:=.type "list",data:=.seq its'.toArray n' }) (r:Vals ys its') (hz:ys.length≤sizeLine) (t:Nat) :
    Inv X pins σ (upd H p (.lst ys)) { s with heap:=s.heap.update p f,toks:=t }:=by
  have e:(s.heap.update p f).get? p=some { cls:=.type "list",data:=.seq its'.toArray n' }:=by
    rw [Heap.get?_update_self f ho (by rw [hf] <;> rfl),hf]
  refine I.write (x:=p) (e:=p) (by rw [h];trivial) (.inl rfl) (fun b u hb q=>(Heap.get?_update_other _ _ (Ne.symm hb)).trans q) ⟨_,e⟩ ?_
  exact ⟨hz,its',n',r,e⟩
def rSetL:V→V→V→Hp→(Hp→Prop)→Prop:=fun o i v H Q=>∃ p xs k j,o=.ref p∧i=.int k∧H p=some (.lst xs)∧ixN xs.length k=some j∧Q (upd H p (.lst (xs.set j v)))
theorem set_list:PSet X rSetL:=by
  intro pins s σ H o i v ov iv u Q I ro ri rv h
  obtain ⟨p,xs,k,j,rfl,rfl,hp,hj,q⟩:=h
  cases ro
  obtain ⟨t,rfl⟩:=ri
  obtain ⟨its,n,r,ho,hz⟩:=I.lst hp
  obtain ⟨h1,h2,h3,h4⟩:=ixN_seq hj
  have hl:=r.length
  have hn:=line63
  have I':Inv X pins σ (upd H p (.lst (xs.set j v))) { s with heap:=s.heap.update p (Obj.mapSeq (·.setIfInBounds j u)) } :=
    I.lstUpd hp ho (mapSeq_set its n j u) (r.set rv j) (by rw [List.length_set];exact hz) s.toks
  by_cases h0:0≤k
  · have hk:k.toNat=j:=by
      rw [seqIndex_of h0 h4] at h1
      exact Option.some.inj h1
    exact PySem.W.ki_setAt ho h0 (by omega) (by rw [List.size_toArray,← hl];exact h4) (by rw [hk];exact ⟨_,I',q⟩)
  · have hk:(k + (its.toArray.size:Int)).toNat=j:=by
      rw [seqIndex_neg (by omega) h3] at h1
      rw [List.size_toArray,← hl]
      exact Option.some.inj h1
    exact PySem.W.ki_setBack ho (by omega) (by rw [List.size_toArray,← hl];exact h3) (by omega) (by rw [hk];exact ⟨_,I',q⟩)
theorem slice_bounds (lo hi:Option Int) (n:Nat):(sliceBounds lo hi none n).1=((HT.sIx n 0 lo:Nat):Int)∧(sliceBounds lo hi none n).2.1=((HT.sIx n n hi:Nat):Int)∧(sliceBounds lo hi none n).2.2=1:=by
  refine ⟨?_,?_,rfl⟩
  · cases lo with
    | none=>simp [sliceBounds,HT.sIx]
    | some i =>
      simp only [sliceBounds,HT.sIx,Option.getD_none,show (1:Int) > 0 by decide,if_true]
      by_cases h:i < 0
      · simp only [h,if_true] <;> omega
      · simp only [h,if_false] <;> omega
  · cases hi with
    | none=>simp [sliceBounds,HT.sIx]
    | some i =>
      simp only [sliceBounds,HT.sIx,Option.getD_none,show (1:Int) > 0 by decide,if_true]
      by_cases h:i < 0
      · simp only [h,if_true] <;> omega
      · simp only [h,if_false] <;> omega
theorem slicePick_cut (its:List Value) (lo hi:Option Int):slicePick its.toArray lo hi none=((its.drop (HT.sIx its.length 0 lo)).take (HT.sIx its.length its.length hi - HT.sIx its.length 0 lo)).toArray:=by
  obtain ⟨h1,h2,h3⟩:=slice_bounds lo hi its.toArray.size
  unfold slicePick
  rw [h1,h2,h3]
  simp only [sliceRange_one,pick_run,List.size_toArray] <;> rfl
def rSlL (K:PySem.W.Frag):V→Option Int→Option Int→Hp→VK→Prop:=fun x lo hi H Q=>∃ a xs,x=.ref a∧SqL K H a xs∧∀ p,H p=none→Q (.ref p) (upd H p (.lst (cutV xs lo hi)))
theorem sl_list:SlR X (rSlL X.K):=by
  intro pins s σ H x v vl vu lo hi sl Q I rx hs pl pu h
  obtain ⟨a,xs,rfl,hx,q⟩:=h
  cases rx
  obtain ⟨its,r,ht,hz⟩:=I.list hx
  have hlen:=r.length
  refine ⟨"list",_,slot_list_getitem.lookup,ht.isList.typeIs,?_⟩
  refine wpAny_getItem_list_slice ht.isList hs pl pu .none (by simp) ?_ (by rw [List.size_toArray] <;> omega)
  rw [slicePick_cut,← hlen]
  refine ⟨.ref s.heap.objs.size,_,I.laid (t':=s.toks) (o:=.lst (cutV xs lo hi)) (fun b ob q=>Heap.get?_push_of_some _ q) (Nat.le_refl _) ?_,rfl,q _ (I.hok.fresh (Nat.le_refl _))⟩
  exact ⟨Nat.le_trans (cutV_length xs lo hi) hz,_,0,(r.drop (HT.sIx xs.length 0 lo)).take (HT.sIx xs.length xs.length hi - HT.sIx xs.length 0 lo),Heap.get?_push_size _ rfl⟩
def flatV:V→Bool
  | .non=>true
  | .bl _=>true
  | .int _=>true
  | .str _=>true
  | _=>false
def eqV:V→V→Bool
  | .non,.non=>true
  | .bl a,.bl b=>a == b
  | .bl a,.int b=>(if a then 1 else 0) == b
  | .int a,.bl b=>a == (if b then 1 else 0)
  | .int a,.int b=>a == b
  | .str a,.str b=>a == b
  | _,_=>false
theorem eqAt_V {A:Around} {s:Shared} {y x:V} {u v:Value} (ry:RelV y u) (rx:RelV x v) (fy:flatV y=true) (fx:flatV x=true):SeqAt.EqAt A s u v (eqV y x):=by
  cases y with
  | non =>
    cases ry
    cases x with
    | non=>cases rx;exact SeqAt.EqAt.same _
    | bl b=>cases rx;exact SeqAt.EqAt.none_bool b
    | int b=>obtain ⟨t,rfl⟩:=rx;exact SeqAt.EqAt.none_int b t
    | str b=>obtain ⟨t,rfl⟩:=rx;exact SeqAt.EqAt.none_str b t
    | _=>exact absurd (show false=true from fx) Bool.false_ne_true
  | bl a =>
    cases ry
    cases x with
    | non=>cases rx;exact SeqAt.EqAt.bool_none a
    | bl b=>cases rx;exact SeqAt.EqAt.bool_bool a b
    | int b=>obtain ⟨t,rfl⟩:=rx;exact SeqAt.EqAt.bool_int a b t
    | str b=>obtain ⟨t,rfl⟩:=rx;exact SeqAt.EqAt.bool_str a b t
    | _=>exact absurd (show false=true from fx) Bool.false_ne_true
  | int a =>
    obtain ⟨t',rfl⟩:=ry
    cases x with
    | non=>cases rx;exact SeqAt.EqAt.int_none a t'
    | bl b=>cases rx;exact SeqAt.EqAt.int_bool a t' b
    | int b=>obtain ⟨t,rfl⟩:=rx;exact SeqAt.EqAt.int_int a t' b t
    | str b=>obtain ⟨t,rfl⟩:=rx;exact SeqAt.EqAt.int_str a t' b t
    | _=>exact absurd (show false=true from fx) Bool.false_ne_true
  | str a =>
    obtain ⟨t',rfl⟩:=ry
    cases x with
    | non=>cases rx;exact SeqAt.EqAt.str_none a t'
    | bl b=>cases rx;exact SeqAt.EqAt.str_bool a t' b
    | int b=>obtain ⟨t,rfl⟩:=rx;exact SeqAt.EqAt.str_int a t' b t
    | str b=>obtain ⟨t,rfl⟩:=rx;exact SeqAt.EqAt.str_str a t' b t
    | _=>exact absurd (show false=true from fx) Bool.false_ne_true
  | _=>exact absurd (show false=true from fy) Bool.false_ne_true
def eqU (x:V) (u:Value):Bool:=match u with
  | .none=>eqV .non x
  | .bool b=>eqV (.bl b) x
  | .int i _=>eqV (.int i) x
  | .str z _=>eqV (.str z) x
  | _=>false
theorem eqU_of {x y:V} {u:Value} (r:RelV y u) (f:flatV y=true):eqU x u=eqV y x:=by
  cases y with
  | non=>cases r;rfl
  | bl b=>cases r;rfl
  | int i=>obtain ⟨t,rfl⟩:=r;rfl
  | str z=>obtain ⟨t,rfl⟩:=r;rfl
  | _=>exact absurd (show false=true from f) Bool.false_ne_true
theorem any_eqU {x:V}:∀ {xs:List V} {us:List Value},Vals xs us→xs.all flatV=true→us.any (eqU x)=xs.any fun y=>eqV y x
  | _,_,.nil,_=>rfl
  | y :: xs,u :: us,.cons r t,f=>by
    rw [List.all_cons,Bool.and_eq_true] at f
    rw [List.any_cons,List.any_cons,eqU_of r f.1,any_eqU t f.2]
theorem mem_eqAt {A:Around} {s:Shared} {x:V} {v:Value} (rx:RelV x v) (fx:flatV x=true):∀ {xs:List V} {us:List Value},Vals xs us→xs.all flatV=true→∀ u∈us,SeqAt.EqAt A s u v (eqU x u)
  | _,_,.nil,_=>fun u hu=>by cases hu
  | y :: xs,u :: us,.cons r t,f=>fun u' hu=>by
    rw [List.all_cons,Bool.and_eq_true] at f
    rcases List.mem_cons.mp hu with rfl | hu
    · rw [eqU_of r f.1];exact eqAt_V r rx f.1 fx
    · exact mem_eqAt rx fx t f.2 u' hu
def inV (x:V) (xs:List V):Bool:=xs.any fun y=>eqV y x
def rIn (K:PySem.W.Frag) (neg:Bool):R2:=fun x y H Q=>∃ p xs,y=.ref p∧(SqL K H p xs∨SqT K H p xs)∧flatV x=true∧xs.all flatV=true∧Q (.bl (if neg then !inV x xs else inV x xs)) H
theorem op_in_seq:OpR X (compareOp .In) (rIn X.K false):=by
  intro pins s σ H x y v u Q I rx ry h
  obtain ⟨p,xs,rfl,hq,fx,fs,q⟩:=h
  cases ry
  rcases hq with hq | hq
  · obtain ⟨its,r,pl,hz⟩:=I.list hq
    refine SeqAt.in_listAt (eqU x) pl.isList (fun w hw=>mem_eqAt rx fx r fs w (by simpa using hw)) ⟨.bl _,H,I,rfl,?_⟩
    rw [show its.toArray.any (eqU x)=its.any (eqU x) by simp,any_eqU r fs]
    exact q
  · obtain ⟨its,r,pl,hz⟩:=I.tuple hq
    refine SeqAt.in_tupleAt (eqU x) pl (fun w hw=>mem_eqAt rx fx r fs w (by simpa using hw)) ⟨.bl _,H,I,rfl,?_⟩
    rw [show its.toArray.any (eqU x)=its.any (eqU x) by simp,any_eqU r fs]
    exact q
theorem call_list_of:CallR X (.type "list") (fun xs H Q=>∃ p ys,xs=[.ref p]∧(SqL X.K H p ys∨SqT X.K H p ys)∧∀ l,H l=none→Q (.ref l) (upd H l (.lst ys))):=by
  intro pins s σ H xs us Q I r h
  obtain ⟨p,ys,rfl,hq,q⟩:=h
  obtain ⟨u,rfl,rx⟩:=vals1 r
  cases rx
  have fin:∀ (its:List Value),Vals ys its→ys.length≤sizeLine→∀ (h':Heap) (c':Nat),(∀ b o',s.heap.get? b=some o'→h'.get? b=some o') →
      h'.get? s.heap.objs.size=some { cls:=.type "list",dict:=none,data:=.seq its.toArray c',slots:=#[] }→EP X pins σ Q (.ref s.heap.objs.size) { s with heap:=h' }:=fun its r' hz h' c' kp e =>
    ⟨.ref s.heap.objs.size,_,I.laid (t':=s.toks) kp (Nat.le_refl _) (show ObjOk X.prog X.w _ h' _ (.lst ys) from ⟨hz,its,c',r',e⟩),rfl,q _ (I.hok.fresh (Nat.le_refl _))⟩
  rcases hq with hq | hq
  · obtain ⟨its,r',pl,hz⟩:=I.list hq
    have hlen:=r'.length
    obtain ⟨o,ho,hc,n,hd⟩:=pl.isList
    exact call_list_seq p (.inl rfl) ho hc hd (fun h' c' kp e=>fin its r' hz h' c' kp e) (by simp only [List.size_toArray] <;> omega)
  · obtain ⟨its,r',pl,hz⟩:=I.tuple hq
    have hlen:=r'.length
    obtain ⟨o,ho,hc,n,hd⟩:=pl
    exact call_list_seq p (.inr rfl) ho hc hd (fun h' c' kp e=>fin its r' hz h' c' kp e) (by simp only [List.size_toArray] <;> omega)
theorem call_tuple_of:CallR X (.type "tuple") (fun xs H Q=>∃ p ys,xs=[.ref p]∧((SqL X.K H p ys∧∀ l,H l=none→Q (.ref l) (upd H l (.tup ys)))∨(SqT X.K H p ys∧Q (.ref p) H))):=by
  intro pins s σ H xs us Q I r h
  obtain ⟨p,ys,rfl,h⟩:=h
  obtain ⟨u,rfl,rx⟩:=vals1 r
  cases rx
  rcases h with ⟨hq,q⟩ | ⟨hq,q⟩
  · obtain ⟨its,r',pl,hz⟩:=I.list hq
    have hlen:=r'.length
    refine call_tuple_list pl.isList (fun h' kp=>?_) (by simp only [List.size_toArray] <;> omega)
    have I1:Inv X pins σ H { s with heap:=h' }:=I.kept (t':=s.toks) kp
    have I2:Inv X pins σ (upd H h'.objs.size (.tup ys)) { s with heap:=h'.push { cls:=.type "tuple",data:=.seq its.toArray } } :=
      I1.laid (t':=s.toks) (fun b o e=>Heap.get?_push_of_some _ e) (Nat.le_refl _) (show ObjOk X.prog X.w _ _ _ (.tup ys) from ⟨hz,its,r',IsTup.new _ _⟩)
    exact ⟨.ref h'.objs.size,_,I2,rfl,q _ (I1.hok.fresh (Nat.le_refl _))⟩
  · obtain ⟨its,r',pl,hz⟩:=I.tuple hq
    exact call_tuple_same pl ⟨.ref p,H,I,rfl,q⟩
def tyV (K:PySem.W.Frag) (T:String) (x:V) (H:Hp):Prop:=match x with
  | .str _=>T="str"
  | .int _=>T="int"
  | .ref p=>(T="list"∧∃ xs,SqL K H p xs)∨(T="tuple"∧∃ o,K.lookup p=some o∧o.cls=.type "tuple"∧o.dict=none) ∨
      (T="dict"∧((∃ kvs,H p=some (.dK kvs))∨∃ kvs,H p=some (.dT kvs)))∨(T="set"∧∃ S n,H p=some (.set S n))
  | _=>False
theorem tyV_is {pins:List (Addr × Obj)} {σ:St} {H:Hp} {s:Shared} {T:String} {x:V} {v:Value} (I:Inv X pins σ H s) (r:RelV x v) (ty:tyV X.K T x H) :
    s.TypeIs v T∧∀ a,v=.ref a→∃ ob,s.heap.get? a=some ob∧ob.dict=none:=by
  cases x with
  | str z =>
    obtain ⟨t,rfl⟩:=r
    cases (show T="str" from ty)
    exact ⟨typeIs_str s z t,fun _ e=>nomatch e⟩
  | int i =>
    obtain ⟨t,rfl⟩:=r
    cases (show T="int" from ty)
    exact ⟨typeIs_int s i t,fun _ e=>nomatch e⟩
  | ref p =>
    cases r
    rcases ty with ⟨rfl,xs,hq⟩ | ⟨rfl,o,hk,hc,hd⟩ | ⟨rfl,hk⟩ | ⟨rfl,S,n,hk⟩
    · obtain ⟨its,_,pl,_⟩:=I.list hq
      refine ⟨pl.isList.typeIs,fun a e=>?_⟩
      cases e
      obtain ⟨o,n,e,c,hd,_⟩:=pl
      exact ⟨o,e,hd⟩
    · refine ⟨⟨o,I.kIn p o hk,hc⟩,fun a e=>?_⟩
      cases e
      exact ⟨o,I.kIn _ o hk,hd⟩
    · have z:∃ o,s.heap.get? p=some o∧o.ExactDict:=by
        rcases hk with ⟨kvs,hk⟩ | ⟨kvs,hk⟩
        · obtain ⟨_,_,_,_,o,_,_,e,ex,_⟩:=I.hok p _ hk
          exact ⟨o,e,ex⟩
        · obtain ⟨_,_,_,_,o,_,_,e,ex,_⟩:=I.hok p _ hk
          exact ⟨o,e,ex⟩
      obtain ⟨o,e,ex⟩:=z
      refine ⟨⟨o,e,ex.1⟩,fun a e2=>?_⟩
      cases e2
      exact ⟨o,e,ex.2.1⟩
    · obtain ⟨o,_,_,_,e,ex,_⟩:=I.hok p _ hk
      refine ⟨⟨o,e,ex.1⟩,fun a e2=>?_⟩
      cases e2
      exact ⟨o,e,ex.2.1⟩
  | _=>exact False.elim ty
def tBM0 (K:PySem.W.Frag) (T:String) (r:V→List V→Hp→VK→Prop) (to:TE):TE:=fun σ H Q=>to σ H fun x H1=>tyV K T x H1∧r x [] H1 Q
def tBM (K:PySem.W.Frag) (T:String) (r:V→List V→Hp→VK→Prop) (to:TE) (t:TA):TE:=fun σ H Q=>to σ H fun x H1=>tyV K T x H1∧t σ H1 fun xs H2=>r x xs H2 Q
variable {o e:Expr} {es:List Expr} {to:TE} {t:TA} {name:Str} {apos cpos:Pos} {T id:String} {r:V→List V→Hp→VK→Prop}
theorem pe_bm0 (pa:PlainAttrs T) (slot:Slot T name id) (hty:typeOf (.builtin id)=pure (.type "method_descriptor")) (hm:MtR X id r) (ho:PE X o to)
    (hbase:attributeBase o name X.env (eval o X.env)=eval o X.env:=by rfl) (hline:(apos.endLine == cpos.line)=true:=by rfl):PE X (.Call (.Attribute o name apos) [] [] cpos) (tBM0 X.K T r to):=by
  intro pins s σ H Q I h
  refine wpAny_Call_method0_late hbase hline (thn (ho pins s σ H _ I h) fun v s1 ⟨x,H1,I1,r1,ty,q1⟩=>?_)
  obtain ⟨h1,h2⟩:=tyV_is I1 r1 ty
  exact ⟨T,id,pa,slot,hty,h1,h2,Calls.callWith_builtin rfl (PySem.evalArgs_none (hm pins s1 σ H1 x [] v [] Q I1 r1 .nil q1))⟩
theorem pe_bm (pa:PlainAttrs T) (slot:Slot T name id) (hty:typeOf (.builtin id)=pure (.type "method_descriptor")) (hm:MtR X id r) (ho:PE X o to) (ha:PA X (e :: es) t)
    (hbase:attributeBase o name X.env (eval o X.env)=eval o X.env:=by rfl)
    (hfew:((backTo cpos (starEach (e :: es) X.env)).all (fun x=>!x.1) && (backToKw cpos (keywordEach [] X.env)).all (fun x=>x.1.isSome)
      && decide ((e :: es).length + ([]:List Keyword).length + (if ([]:List Keyword).isEmpty then 0 else 1) < 30))=true:=by rfl)
    (hline:(apos.endLine == cpos.line)=true:=by rfl) (hs:starEach (e :: es) X.env=(false,eval e X.env) :: starEach es X.env:=by rfl) (hplain:(backTo cpos (starEach es X.env)).any (·.1)=false:=by rfl) :
    PE X (.Call (.Attribute o name apos) (e :: es) [] cpos) (tBM X.K T r to t):=by
  intro pins s σ H Q I h
  refine wpAny_Call_method_late hbase hfew hline rfl (thn (ho pins s σ H _ I h) fun v s1 ⟨x,H1,I1,r1,ty,q1⟩=>?_)
  obtain ⟨h1,h2⟩:=tyV_is I1 r1 ty
  refine ⟨T,id,pa,slot,hty,h1,h2,?_⟩
  have hA:=ha cpos pins s1 σ H1 _ I1 q1
  rw [hs] at hA ⊢
  refine Calls.callWith_builtin (by show (false || (backTo cpos (starEach es X.env)).any (·.1))=false;rw [hplain] <;> rfl) (Calls.evalArgs_plain ?_)
  exact thn hA fun us s2 ⟨vs,H2,I2,r2,q2⟩=>hm pins s2 σ H2 x vs v us Q I2 r1 r2 q2
/- xs.append(e),list.index on a module's tuple .. are MtR facts of 06m -/
end
end L2
namespace L2
open PySem PySem.Spec PyProof.Rows
def MtM (X:Cx) (id:String) (r:V→List V→Hp→VK→Prop):Prop :=
  ∀ (pins:List (Addr × Obj)) (s:Shared) (σ:St) (H:Hp) (x:V) (xs:List V) (v:Value) (us:List Value) (Q:VK),Inv X pins σ H s→RelV x v→Vals xs us→r x xs H Q →
    wpAny (model X.prog X.w) X.A (call (.builtin id) (v :: us)) (EP X pins σ Q) X.xe s
theorem Vals.one:∀ {x:V} {us:List Value},Vals [x] us→∃ u,us=[u]∧RelV x u
  | _,_,.cons r .nil=>⟨_,rfl,r⟩
theorem Vals.zero:∀ {us:List Value},Vals [] us→us=[]
  | _,.nil=>rfl
theorem Vals.dropLast {xs:List V} {us:List Value} (h:Vals xs us):Vals xs.dropLast us.dropLast:=by
  induction h with
  | nil=>exact .nil
  | cons r t ih =>
    cases t with
    | nil=>exact .nil
    | cons q t'=>exact .cons r ih
theorem Vals.reverse {xs:List V} {us:List Value} (h:Vals xs us):Vals xs.reverse us.reverse:=by
  induction h with
  | nil=>exact .nil
  | cons r t ih=>rw [List.reverse_cons,List.reverse_cons];exact Vals.append ih (.cons r .nil)
theorem Vals.rep {xs:List V} {us:List Value} (h:Vals xs us):∀ k:Nat,Vals (List.replicate k xs).flatten (List.replicate k us).flatten
  | 0=>.nil
  | k + 1=>by
    rw [List.replicate_succ,List.replicate_succ,List.flatten_cons,List.flatten_cons]
    exact Vals.append h (Vals.rep h k)
theorem erase_last {α:Type} (l:List α):l.eraseIdx (l.length - 1)=l.dropLast:=by
  induction l with
  | nil=>rfl
  | cons a r ih =>
    cases r with
    | nil=>rfl
    | cons b r =>
      have e:(a :: b :: r).length - 1=((b :: r).length - 1) + 1:=by
        have h1:(a :: b :: r).length=r.length + 2:=rfl
        have h2:(b :: r).length=r.length + 1:=rfl
        omega
      rw [e,List.eraseIdx_cons_succ,ih]
      all_goals rfl
theorem foldl_rep (its:List Value):∀ (k:Nat) (acc:List Value),
    List.foldl (fun x1 x2=>x1++x2) acc.toArray (List.replicate k its.toArray)=(acc++(List.replicate k its).flatten).toArray
  | 0,acc=>by simp
  | k + 1,acc=>by
    have e:acc.toArray++its.toArray=(acc++its).toArray:=by simp
    have e2:(acc++its)++(List.replicate k its).flatten=acc++(List.replicate (k + 1) its).flatten:=by
      rw [List.replicate_succ,List.flatten_cons,List.append_assoc]
    rw [← e2,← foldl_rep its k (acc++its),← e,List.replicate_succ,List.foldl_cons]
section
variable {X:Cx} {pins:List (Addr × Obj)} {σ:St} {H:Hp} {s:Shared} {l b:Addr} {xs ys zs:List V}
theorem Inv.lset {its its':List Value} {n:Nat} {f:Array Value→Array Value} {t':Nat} (I:Inv X pins σ H s) (hH:H l=some (.lst xs))
    (e:s.heap.get? l=some { cls:=.type "list",data:=.seq its.toArray n }) (hf:f its.toArray=its'.toArray) (hv:Vals ys its') (hz:ys.length≤sizeLine) :
    Inv X pins σ (upd H l (.lst ys)) { s with heap:=s.heap.update l (Obj.mapSeq f),toks:=t' }:=by
  have q:=PySem.IsL.update e f
  rw [hf] at q
  refine I.write (x:=l) (e:=l) (by rw [hH];exact trivial) (.inl rfl) (fun b' u hb hu=>(Heap.get?_update_other s.heap (Obj.mapSeq f) (Ne.symm hb)).trans hu) ⟨_,q⟩ ?_
  exact ⟨hz,its',_,hv,q⟩
theorem Inv.lnew {its:List Value} {t':Nat} (I:Inv X pins σ H s) (hv:Vals ys its) (hz:ys.length≤sizeLine) :
    Inv X pins σ (upd H s.heap.objs.size (.lst ys)) { s with heap:=s.heap.push { cls:=.type "list",data:=.seq its.toArray },toks:=t' } :=
  I.laid (fun _ _ q=>Heap.get?_push_of_some _ q) (Nat.le_refl _) ⟨hz,its,0,hv,Heap.get?_push_size _ rfl⟩
theorem Inv.fresh (I:Inv X pins σ H s):H s.heap.objs.size=none:=I.hok.fresh (Nat.le_refl _)
theorem Inv.lstM (I:Inv X pins σ H s) (hH:H l=some (.lst xs)):xs.length≤sizeLine∧∃ (its:List Value) (n:Nat),Vals xs its∧xs.length=its.length∧s.heap.get? l=some { cls:=.type "list",data:=.seq its.toArray n }:=by
  obtain ⟨z,its,n,r,e⟩:=I.hok l _ hH
  exact ⟨z,its,n,r,r.length,e⟩
theorem notLongL {n:Nat} (h:n≤sizeLine):Builtin.List.listTooLong n=false:=by
  unfold Builtin.List.listTooLong
  exact decide_eq_false (by omega)
end
section
variable {X:Cx}
def rAppend:V→List V→Hp→VK→Prop:=fun x vs H Q=>∃ l xs y,x=.ref l∧vs=[y]∧H l=some (.lst xs)∧xs.length < sizeLine∧Q .non (upd H l (.lst (xs++[y])))
theorem mt_append:MtM X "list.append" rAppend:=by
  intro pins s σ H x vs v us Q I rx rv h
  obtain ⟨l,xs,y,rfl,rfl,hH,hz,q⟩:=h
  cases rx
  obtain ⟨u,rfl,ru⟩:=rv.one
  obtain ⟨z,its,n,r,hl,e⟩:=I.lstM hH
  refine call_meets F.slot_list_append ⟨_,e,rfl⟩ F.entry_list_append (F.args_list_append_2 _ _) (PySem.list_append l its.toArray n u (by rw [List.size_toArray];omega)) ⟨e,?_⟩
  refine ⟨.non,_,I.lset (its':=its++[u]) hH e (by simp) (r.append (.cons ru .nil)) ?_,rfl,q⟩
  rw [List.length_append,List.length_singleton]
  omega
def rPop:V→List V→Hp→VK→Prop:=fun x vs H Q=>∃ l xs y,x=.ref l∧vs=[]∧H l=some (.lst xs)∧xs[xs.length - 1]?=some y∧Q y (upd H l (.lst xs.dropLast))
theorem mt_pop:MtM X "list.pop" rPop:=by
  intro pins s σ H x vs v us Q I rx rv h
  obtain ⟨l,xs,y,rfl,rfl,hH,hy,q⟩:=h
  cases rx
  have hus:=rv.zero
  subst hus
  obtain ⟨z,its,n,r,hl,e⟩:=I.lstM hH
  obtain ⟨u,hu,ru⟩:=r.get hy
  have hy':its.toArray[its.toArray.size - 1]?=some u:=by
    show its.toArray[its.length - 1]?=some u
    rw [← Array.getElem?_toList,← hl]
    exact hu
  refine call_meets F.slot_list_pop ⟨_,e,rfl⟩ F.entry_list_pop (F.args_list_pop_1 _) (MeetsSeq.list_pop_last l its.toArray n u hy' (by rw [List.size_toArray];omega)) ⟨e,?_⟩
  refine ⟨y,_,I.lset (its':=its.dropLast) hH e ?_ r.dropLast ?_,ru,q⟩
  · show its.toArray.eraseIdxIfInBounds (its.toArray.size - 1)=its.dropLast.toArray
    rw [List.size_toArray,List.eraseIdxIfInBounds_toArray,erase_last]
  · rw [List.length_dropLast]
    omega
def rRep:R2:=fun x y H Q=>∃ l k xs,x=.ref l∧y=.int k∧H l=some (.lst xs)∧-(2 ^ 63)≤k∧k < 2 ^ 63∧xs.length * k.toNat≤sizeLine ∧
  ∀ p,H p=none→Q (.ref p) (upd H p (.lst (List.replicate k.toNat xs).flatten))
theorem len_rep {α:Type} (xs:List α) (k:Nat):(List.replicate k xs).flatten.length=k * xs.length:=by
  induction k with
  | zero=>simp
  | succ k ih=>rw [List.replicate_succ,List.flatten_cons,List.length_append,ih,Nat.succ_mul,Nat.add_comm]
theorem op_rep:OpR X (binaryOp .Mult) rRep:=by
  intro pins s σ H x y v u Q I rx ry h
  obtain ⟨l,k,xs,rfl,rfl,hH,h1,h2,hz,q⟩:=h
  cases rx
  obtain ⟨t,rfl⟩:=ry
  obtain ⟨z,its,n,r,hl,e⟩:=I.lstM hH
  have hlen:its.toArray.size * k.toNat≤sizeLine:=by rw [List.size_toArray,← hl];exact hz
  have hcap:¬ its.toArray.size * k.toNat > (2 ^ 63 - 1) / 8:=by
    have:(sizeLine:Nat)≤(2 ^ 63 - 1) / 8:=by decide
    omega
  have hfit:¬ (!Builtin.List.listFitsIndex k)=true:=by
    rw [fitsIndex_both h1 h2]
    exact Bool.false_ne_true
  have hlong:¬ Builtin.List.listTooLong (its.toArray.size * k.toNat)=true:=by
    rw [notLongL hlen]
    exact Bool.false_ne_true
  have hnew:List.foldl (fun x1 x2=>x1++x2) #[] (List.replicate (if its.toArray.isEmpty=true then 0 else k.toNat) its.toArray)=(List.replicate k.toNat its).flatten.toArray:=by
    have f0:∀ m:Nat,List.foldl (fun x1 x2=>x1++x2) #[] (List.replicate m its.toArray)=(List.replicate m its).flatten.toArray:=fun m=>by
      have:=foldl_rep its m []
      rw [List.nil_append] at this
      exact this
    rw [f0]
    cases its with
    | nil=>simp
    | cons a r'=>rw [if_neg (by simp)]
  refine wpAny_binaryOp_repeat_ref (T:="list") (U:="int") (by decide) ⟨_,e,rfl⟩ (fun s'=>typeIs_int s' k t) noFill_list_mul F.fills_int_mul F.slot_int_rmul repeat_list F.slot_int_index.lookup
    (call_meets F.slot_int_rmul (typeIs_int s k t) F.entry_int_rmul (F.args_int_rmul_2 _ _) (int___rmul___int_list k t l its.toArray n)
      ⟨e,rfl,⟨_,e,rfl⟩,call_meets F.slot_list_mul ⟨_,e,rfl⟩ F.entry_list_mul (F.args_list_mul_2 _ _) (AutoListH.list___mul___list_int_3 l its.toArray n k t hfit hcap hlong) ⟨e,?_⟩⟩)
  rw [hnew]
  exact ⟨.ref _,_,I.lnew (t':=s.toks) (r.rep k.toNat) (by rw [len_rep,Nat.mul_comm];exact hz),rfl,q _ I.fresh⟩
end
section
variable {prog:Program} {w:World} {A:Around} {E:Value→Shared→Prop} {s:Shared}
end
section
variable {X:Cx}
end
end L2
namespace Att
open PySem PySem.W PySem.Calls PyProof.Rows
theorem ints_of_wellAll {P:Params} {h:Heap}:∀ (ns:List Int) (vs:List Value),WellAll P h vs (ns.map WData.int)→IntsAre vs ns:=by
  intro ns
  induction ns with
  | nil =>
    intro vs w
    rw [List.map_nil] at w
    cases w
    exact .nil
  | cons n ns ih =>
    intro vs w
    rw [List.map_cons] at w
    cases w with
    | cons a b =>
      cases a
      exact .cons _ _ (ih _ b)
theorem script_of {l:OpenLaw} {n:Nat} (hn:l.most=some n) {P:Params} {h:Heap} {args:List WData} {vals:List Value}
    (hpre:l.row.toRowW.claim.pre args=true) (hwl:WellAll P h vals args) :
    ∃ a vs ns,vals=[Value.ref a]∧args=[WData.list (ns.map WData.int)]∧h.get? a=some { cls:=.type "list",data:=.seq vs.toArray }∧IntsAre vs ns∧ns.length≤n:=by
  have hsh:WShape.hasAll [] args [.list .int]=true:=(pre_splitW hpre).1
  have hc:l.pre.holds [] { args:=args }=true:=(pre_splitW hpre).2
  obtain ⟨d,r,rfl,h1,h2⟩:=hasAllW_cons hsh
  obtain rfl:=hasAllW_nil h2
  obtain ⟨xs,rfl,h3⟩:=hasW_list h1
  obtain ⟨ns,rfl⟩:=items_int h3
  have hlen:ns.length≤n:=by
    unfold OpenLaw.pre at hc
    have h4:(WTm.not (.lt (.lit (.int (n:Int))) (.len (.arg 0)))).holds [] { args:=[.list (ns.map .int)] }=true:=by
      have h4:=(holds_andW hc).1
      rw [hn] at h4
      exact h4
    have h5:=condW_of h4 (w_not (w_lt w_lit (w_len_list (w_arg rfl))))
    rw [List.length_map] at h5
    refine Nat.le_of_not_lt fun q=>?_
    have q':(n:Int) < ((ns.length:Nat):Int):=by omega
    first
      | (rw [decide_eq_true q'] at h5;exact absurd h5 (by decide))
      | (simp at h5;omega)
  cases hwl with
  | cons w1 w2 =>
    cases w2
    cases w1 with
    | list ho hall=>exact ⟨_,_,ns,rfl,rfl,ho,ints_of_wellAll ns _ hall,hlen⟩
theorem post_true (l:OpenLaw) (args:List WData):l.row.toRowW.claim.post args (.bool true) args=true :=
  postW_of (r:=l.row.toRowW) (X:=(true == true))
    (show WShape.has [] (.bool true) .bool=true by first | rfl | decide | simp [WShape.has,WShape.arms,WShape.armsAll])
    (show (WTm.eq .res (.lit (.bool true))).value [] { args:=args,res:=some (.bool true),after:=args }=some (.bool (true == true)) from w_eq_bool (w_res rfl) w_lit) rfl
theorem attach_call {l:OpenLaw} {n:Nat} {q:Program} {loose:List Str} {XP:(Str→Option Value)→Heap→Prop} {YP:World→Heap→Prop} {d:DefRec}
    (hn:l.most=some n) (hdf:d.params.defaults=[])
    (call:∀ (w:World) (s₀ s₁:Shared) (mg mb:Str→Option Value) (fa:Addr) (o:Obj) (pm cd doc:Value) (a:Addr) (vs:List Value) (ns:List Int),
      Ground q loose [] XP w s₀ mg mb s₁.heap→YP w s₁.heap →
      s₁.heap.get? fa=some o→o.data=.func (docDef d.name d.params d.body d.scope pm cd doc)→s₁.heap.CodeRec cd d.name→mg d.name=some (.ref fa) →
      s₁.heap.get? a=some { cls:=.type "list",data:=.seq vs.toArray }→IntsAre vs ns→ns.length≤n→s₁.gens=#[] →
      codeAny (model l.prog w) callerA (.call (.ref fa) ⟨[.ref a],[]⟩) (fun r s'=>r=.ok (.ret (.bool true))∧OldK s₁.heap s'.heap∧s'.os=s₁.os∧AllBare s'.gens) s₁) :
    WalkO q loose XP YP l.row.toRowW d [] (fun f vs=>PySem.call f vs):=by
  intro w s₀ s₁ mg mb G Y fa o pm cd doc dV kV ho hd hcd hD hmg hg args vals as hpre hlay hrd hwl hlo
  obtain rfl:dV=.none:=Dflts.none hD hdf
  obtain rfl:kV=.none:=Dflts.noKw hD
  obtain ⟨a,vs,ns,rfl,rfl,hobj,hints,hlen⟩:=script_of hn hpre hwl
  refine enter_call (codeAny_mono (call w s₀ s₁ mg mb fa o pm cd doc a vs ns G Y ho (fd_plain hd) hcd hmg hobj hints hlen hg) fun r s' hq=>?_)
  obtain ⟨rfl,h2,h3,h4⟩:=hq
  exact ⟨.inl ⟨.bool true,.bool true,[],rfl,fun _=>rfl,.bool true,post_true l _,fun _=>⟨List.Pairwise.nil,fun _ hm=>(nomatch hm)⟩⟩,h2,h3,h4⟩
section
variable {prog:Program} {w:World} {A:Around} {E:Value→Shared→Prop} {s:Shared} {K:Frag}
end
end Att
namespace L2
open PySem PySem.Spec PyProof.Rows
theorem vals_ints:∀ {vs:List Value} {ns:List Int},IntsAre vs ns→Vals (ns.map V.int) vs
  | _,_,.nil=>.nil
  | _,_,.cons n t h=>.cons ⟨t,rfl⟩ (vals_ints h)
def Only (H:Hp):Prop:=∀ b,H b=none∨∃ o xs,H b=some (.frz o (.lst xs))
theorem law_call {P:Program} {w:World} {K:PySem.W.Frag} {mg mb:Str→Option Value} {CX:CXT} {k:Nat} {fa a:Addr} {fd:FuncData} {x:Str} {sp:Sp} {s₁:Shared} {vs:List Value} {ns:List Int}
    (KX:K.In s₁.heap) (hns:s₁.heap.Ns mainGlobals mg) (hb:s₁.heap.Ns builtinsNs mb) (hbb:∀ x:Str,x≠"__name__"→mb x=bootBuiltins x) (hlim:s₁.heap.NoLimit) (hg:s₁.gens=#[])
    (ha:s₁.heap.get? a=some { cls:=.type "list",data:=.seq vs.toArray }) (hi:IntsAre vs ns) (hl:ns.length≤sizeLine) (hr:Room k callerA)
    (F:∀ base:Heap,K.In base→base.Ns mainGlobals mg→FnOk P w K mg base CX k fa fd [x] sp) (hbind:∀ (s:Shared) (u:Value),BindsTo s fd ⟨[u],[]⟩ [(x,u)])
    (hsp:∀ H:Hp,Only H→SqL K H a (ns.map V.int)→sp [.ref a] H (fun v _=>v=.bl true) fun _ _ _=>False)
    (hCX:∀ H e s',CX [] H s₁ (fun _ _ _=>False) e s'→False) :
    codeAny (model P w) callerA (.call (.ref fa) ⟨[.ref a],[]⟩) (fun r s'=>r=.ok (.ret (.bool true))∧OldK s₁.heap s'.heap∧s'.os=s₁.os∧AllBare s'.gens) s₁:=by
  have rv:=vals_ints hi
  have lenV:=hi.length
  -- from an abstract heap in which nothing but the script may be tracked
  have core:∀ H:Hp,Only H→SqL K H a (ns.map V.int)→HOk P w H s₁.heap→(∀ b,H b≠none→b=a)→(H a≠none→K.lookup a=none) →
      codeAny (model P w) callerA (.call (.ref fa) ⟨[.ref a],[]⟩) (fun r s'=>r=.ok (.ret (.bool true))∧OldK s₁.heap s'.heap∧s'.os=s₁.os∧AllBare s'.gens) s₁:=by
    intro H hO hS hok hA hK
    have base_of:∀ {b:Addr} {o:Obj},s₁.heap.get? b=some o→H b=none→(hidT s₁.heap H).get? b=some o:=fun e n=>hidT_get e n
    have noA:∀ {b:Addr} {o:Obj} {es:Array DictEntry} {ep:Nat},s₁.heap.get? b=some o→o.data=.dict es ep→H b=none:=fun {b o es ep} e d=>by
      cases q:H b with
      | none=>rfl
      | some u =>
        have e':b=a:=hA b (by rw [q];simp)
        subst e'
        rw [ha] at e;cases e
        have d':Data.seq vs.toArray _=Data.dict es ep:=d
        cases d'
    have nsK:∀ {b:Addr} {m:Str→Option Value},s₁.heap.Ns b m→(hidT s₁.heap H).Ns b m:=fun {b m} ⟨o,es,ep,e,d,r⟩=>⟨o,es,ep,base_of e (noA e d),d,r⟩
    have hKb:K.In (hidT s₁.heap H):=fun b o e=>base_of (KX b o e) (by
      cases q:H b with
      | none=>rfl
      | some u =>
        have e':b=a:=hA b (by rw [q];simp)
        subst e'
        rw [hK (by rw [q];simp)] at e;cases e)
    have hM:Mod K mg (hidT s₁.heap H):=⟨hKb,nsK hns,⟨mb,nsK hb,hbb⟩,let ⟨mc,h1,h2⟩:=hlim;⟨mc,nsK h1,h2⟩⟩
    have e0:Env0 P w K mg (hidT s₁.heap H) callerA [] s₁ H:=⟨rfl,hM,fun b o e=>of_hidT e,Nat.le_of_eq (hidT_size _ _),trivial,fun b hb=>absurd (show b∈([]:List Addr) from hb) (by simp),hok,.of_eq hg⟩
    refine codeAny_mono ((F _ hKb (nsK hns)).run callerA [] s₁ H ⟨[.ref a],[]⟩ [.ref a] [.ref a] _ _ hr e0 (hbind s₁ (.ref a)) (.cons rfl .nil) (hsp H hO hS)) fun r s' h=>?_
    cases r with
    | error e=>exact (hCX H e s' h).elim
    | ok fl =>
      cases fl with
      | next=>exact False.elim h
      | brk=>exact False.elim h
      | cont=>exact False.elim h
      | ret u =>
        obtain ⟨v,H',os,bare,un,hok',r',q⟩:=h
        have q':v=.bl true:=q
        subst q'
        obtain rfl:u=Value.bool true:=r'
        refine ⟨rfl,OldK.of_keep fun b o e=>?_,os,bare⟩
        cases q:H b with
        | none=>exact un.keep b o e q (by intro z;exact absurd (show b∈([]:List Addr) from z) (by simp)) (by simp)
        | some u =>
          rcases hO b with z | ⟨ob,xs,z⟩
          · rw [q] at z;cases z
          · have z2:=un.frzs b ob _ z
            obtain ⟨e1,_⟩:=hok b _ z
            obtain ⟨e2,_⟩:=hok' b _ z2
            rw [e] at e1;cases e1
            exact e2
  cases hk:K.lookup a with
  | some o =>
    -- the script is one of the module's own objects
    have e:=KX a o hk
    rw [ha] at e
    cases e
    refine core (fun _=>none) (fun _=>.inl rfl) (.inr ⟨_,vs.toArray,_,hk,rfl,rfl,rfl,by rw [List.size_toArray,lenV];exact hl,by simpa using rv⟩) (fun b u z=>by have z':(none:Option HO)=some u:=z;cases z') (fun b z=>absurd rfl z) fun z=>absurd rfl z
  | none =>
    refine core (fun b=>if b=a then some (.frz { cls:=.type "list",data:=.seq vs.toArray } (.lst (ns.map V.int))) else none) (fun b=>?_) (.inl (.inr ⟨{ cls:=.type "list",data:=.seq vs.toArray },if_pos rfl⟩)) (fun b u z=>?_) (fun b z=>?_) fun _=>hk
    · by_cases hb:b=a
      · exact .inr ⟨_,_,if_pos hb⟩
      · exact .inl (if_neg hb)
    · by_cases hb:b=a
      · have z':=(if_pos hb).symm.trans z
        cases z'
        subst hb
        exact ⟨ha,by rw [List.length_map];exact hl,vs,_,rv,ha⟩
      · have z':=(if_neg hb).symm.trans z
        cases z'
    · by_cases hb:b=a
      · exact hb
      · exact absurd (if_neg hb) z
end L2
namespace L2
open PySem PySem.Spec PyProof.Rows
theorem walk_of {l:PySem.W.OpenLaw} {n k:Nat} {q:Program} {loose:List Str} {XP:(Str→Option Value)→Heap→Prop} {YP:World→Heap→Prop} {d:DefRec} {K:Params→PySem.W.Frag} {CX:World→CXT} {sp:World→Sp} {x:Str}
    (hn:l.most=some n) (hn2:n≤sizeLine) (hdf:d.params.defaults=[]) (hr:Room k callerA)
    (hY:∀ (w:World) (h:Heap),YP w h→(K w.params).In h)
    (F:∀ (w:World) (mg:Str→Option Value) (fa:Addr) (h:Heap),(K w.params).In h→h.Ns mainGlobals mg→mg d.name=some (.ref fa) →
      ∃ fd:FuncData,(∀ (s:Shared) (u:Value),BindsTo s fd ⟨[u],[]⟩ [(x,u)]) ∧
        ∀ base:Heap,(K w.params).In base→base.Ns mainGlobals mg→FnOk l.prog w (K w.params) mg base (CX w) k fa fd [x] (sp w))
    (hsp:∀ (w:World) (H:Hp) (a:Addr) (ns:List Int),ns.length≤n→Only H→SqL (K w.params) H a (ns.map V.int)→sp w [.ref a] H (fun v _=>v=.bl true) fun _ _ _=>False)
    (hCX:∀ (w:World) (H:Hp) (s:Shared) (e:Value) (s':Shared),CX w [] H s (fun _ _ _=>False) e s'→False) :
    PySem.W.WalkO q loose XP YP l.row.toRowW d [] (fun f vs=>PySem.call f vs):=by
  refine Att.attach_call hn hdf fun w s₀ s₁ mg mb fa o pm cd doc a vs ns G Y ho hd hcd hmg hobj hints hlen hg=>?_
  have KX:=hY w _ Y
  obtain ⟨fd,hb,hF⟩:=F w mg fa _ KX G.T.g hmg
  exact law_call KX G.T.g G.T.b G.T.builtins G.T.nolimit hg hobj hints (Nat.le_trans hlen hn2) hr hF hb (fun H hO hS=>hsp w H a ns hlen hO hS) fun H e s'=>hCX w H s₁ e s'
end L2
/- THE LAST THEOREM (shape;LID,My.* are yours):
   My.Adr: a structure of the addresses that your layer names (classes,functions);My.Txt K t: a structure (Prop) of the equations over K;
   My.txt_mk:{K} {implicit addresses ..} (e1:nsIn K mainGlobals "law"=some (some (.ref f))) (e2:K.lookup f=some ⟨oc,od,.func (fnOf "law" "law" params body scope dV kV doc pm an cdv ct),sl⟩) (e3:codeIn K cdv "law"=true) ..:∃ t,My.Txt K t
set_option maxRecDepth 100000 in
set_option maxHeartbeats 0 in
theorem PySem.Challenge.cw_LID_holds : PySem.Challenge.rw_LID.Holds := by
  w_on;o_law;k_head;(case hw=>w_witness2)
  k_fill
  refine L2.walk_of (l:=PySem.Challenge.rw_LID) (n:=63) (k:=40) (x:="script") (CX:=fun w=>..) (sp:=fun _=>My.sp_law) rfl (by decide) rfl ⟨rfl,by decide,by decide⟩ (fun w h Y=>PySem.W.kIn_of Y) ?F ?S ?C
  case F =>
    intro w mg fa h KX G hmg
    have T:∃ t,My.Txt (L2.KOf KX) t:=by
      dsimp only [L2.KOf]                          -- K must stand as «<heap const> w.params» for k_is
      refine' My.txt_mk ?e1 ?e2 ?e3 ..
      (case e1 => PySem.W.k_is)                    -- in the order: a name -> its address -> its object -> its parts
      (case e2=>PySem.W.k_is)
      ..
    obtain ⟨t,T⟩:=T
    have e0:=hmg.symm.trans (PySem.W.mg_of KX G T.law)
    cases e0                                       -- fa is the law's own address
    exact ⟨_, fun s u => .of_eq rfl, fun base kb nb => My.law_fn T kb nb⟩     -- if «.of_eq rfl» comes too early: refine' ⟨_, ?b, fun base kb nb => My.law_fn T kb nb⟩; exact fun s u => .of_eq rfl
  case S=>exact fun w H a ns hl hO hS=>..
  case C=>exact ..
(the tactic k_is has no namespace: write k_is) -/
namespace L2
open PySem PySem.Spec PyProof.Rows
def defArgs (s:Stmt):Arguments:=match s with
  | .FunctionDef _ a _ _ _ _ _ _ _ _=>a
  | _=>{ posonlyargs:=[],args:=[],vararg:=none,kwonlyargs:=[],kw_defaults:=[],kwarg:=none,defaults:=[] }
def defBody (s:Stmt):List Stmt:=match s with
  | .FunctionDef _ _ b _ _ _ _ _ _ _=>b
  | _=>[]
def defScope (s:Stmt):Scope:=match s with
  | .FunctionDef _ _ _ _ _ _ sc _ _ _=>sc
  | _=>{ kind:=.function,names:=[],isGenerator:=false,isCoroutine:=false }
abbrev CX0:CXT:=fun _ _ _ _ _ _=>False
abbrev E0:XK:=fun _ _ _=>False
theorem pass0 {X:Cx}:Passes CX0 X E0:=fun _ _ _ _ _ _ _ h=>h.elim
structure Fun (K:PySem.W.Frag) (x qual:Str) (st:Stmt) (f:Addr) (fd:FuncData):Prop where
  ex:∃ (oc:Value) (od:Option Addr) (kV doc pm:Value) (an:Option Addr) (cdv ct:Value) (osl:Array (Option Value)),
    fd=PySem.W.fnOf x qual (defArgs st) (defBody st) (defScope st) .none kV doc pm an cdv ct∧K.lookup f=some ⟨oc,od,.func fd,osl⟩∧PySem.W.codeIn K cdv qual=true
  kp:PySem.W.keepIn K (.ref f)=true
section
variable {P:Program} {w:World} {K:PySem.W.Frag} {mg:Str→Option Value} {base:Heap}
theorem Fun.ok {x qual:Str} {st:Stmt} {f:Addr} {fd:FuncData} {N ps:List Str} {k:Nat} {sp:Sp} (F:Fun K x qual st f fd) (S:FnScope N ps (defScope st)) (len:∀ vs H Q E,sp vs H Q E→vs.length=ps.length)
    (hbody:∀ (cdv:Value) (A:Around) (outer:List Env) (s:Shared) (H:Hp) (vs:List V) (Q:VK) (E:XK),Room k (A.deeper (envOfC qual (defScope st) s.heap.objs.size f cdv))→sp vs H Q E →
      ∃ t,PSs (cxOf CX0 P w K mg base N qual (defScope st) f cdv A outer s H E).nox (defBody st) t∧t { nx:=fun _ H'=>Q .non H',rt:=Q } (start N vs) H):FnOk P w K mg base CX0 (k + 1) f fd ps sp:=by
  obtain ⟨oc,od,kV,doc,pm,an,cdv,ct,osl,rfl,lk,hcd⟩:=F.ex
  refine fn_of lk hcd S len fun A outer s H vs Q E hr hsp=>?_
  obtain ⟨t,h,q⟩:=hbody cdv A outer s H vs Q E hr hsp
  exact ⟨t,h.nox,q⟩
theorem Fun.binds {x qual:Str} {st:Stmt} {f:Addr} {fd:FuncData} {ps:List Str} (F:Fun K x qual st f fd)
    (h:∀ (kV doc pm:Value) (an:Option Addr) (cdv ct:Value) (us:List Value),us.length=ps.length→bindArgs (PySem.W.fnOf x qual (defArgs st) (defBody st) (defScope st) .none kV doc pm an cdv ct) ⟨us,[]⟩=pure (ps.zip us)):Binds K fd ps []:=by
  obtain ⟨oc,od,kV,doc,pm,an,cdv,ct,osl,rfl,lk,hcd⟩:=F.ex
  exact .all (h kV doc pm an cdv ct)
theorem fun_mk {x qual:Str} {st:Stmt} {f:Addr} {oc:Value} {od an:Option Addr} {osl:Array (Option Value)} {kV doc pm cdv ct:Value} (l:K.lookup f=some ⟨oc,od,.func (PySem.W.fnOf x qual (defArgs st) (defBody st) (defScope st) .none kV doc pm an cdv ct),osl⟩)
    (c:PySem.W.codeIn K cdv qual=true) (k:PySem.W.keepIn K (.ref f)=true):Fun K x qual st f (PySem.W.fnOf x qual (defArgs st) (defBody st) (defScope st) .none kV doc pm an cdv ct):=⟨⟨oc,od,kV,doc,pm,an,cdv,ct,osl,rfl,l,c⟩,k⟩
end
theorem hu_of {A:Around} {k:Nat} (hr:Room k A):A.units + 1 < cLine:=Nat.lt_of_le_of_lt (Nat.add_le_add_left (by decide:1≤64) _) hr.units
section
variable {X:Cx}
end
theorem ite2 {c A B:Prop} [Decidable c] (h1:c→A) (h2:¬ c→B):if c then A else B:=by
  by_cases h:c
  · rw [if_pos h]
    exact h1 h
  · rw [if_neg h]
    exact h2 h
end L2
namespace L2
open PySem PySem.Spec PyProof.Rows
section
variable {κ:Type} [DecidableEq κ]
def valV (kvs:List (κ × V)) (k:κ):Option V:=(kvs.find? fun kv=>decide (kv.1=k)).map (·.2)
def putK (kvs:List (κ × V)) (k:κ) (v:V):List (κ × V) :=
  if (kvs.any fun kv=>decide (kv.1=k))=true then kvs.map (fun kv=>if kv.1=k then (kv.1,v) else kv) else kvs++[(k,v)]
def dropK (kvs:List (κ × V)) (k:κ):List (κ × V):=kvs.filter fun kv=>decide (kv.1≠k)
theorem valV_pos {p:κ × V} {r:List (κ × V)} {k:κ} (e:p.1=k):valV (p :: r) k=some p.2:=by simp [valV,List.find?_cons,e]
theorem valV_neg {p:κ × V} {r:List (κ × V)} {k:κ} (e:¬ p.1=k):valV (p :: r) k=valV r k:=by simp [valV,List.find?_cons,e]
theorem valV_any (k:κ):∀ kvs:List (κ × V),(kvs.any fun kv=>decide (kv.1=k))=(valV kvs k).isSome
  | []=>rfl
  | p :: r=>by
    rw [List.any_cons]
    by_cases e:p.1=k
    · simp only [valV_pos e,decide_eq_true e,Bool.true_or,Option.isSome_some]
    · rw [valV_neg e,decide_eq_false e,Bool.false_or];exact valV_any k r
theorem valV_map (k j:κ) (y:V):∀ kvs:List (κ × V),valV (kvs.map fun kv=>if kv.1=k then (kv.1,y) else kv) j=(valV kvs j).map fun x=>if j=k then y else x
  | []=>rfl
  | p :: r=>by
    have ih:=valV_map k j y r
    rw [List.map_cons]
    by_cases h:p.1=k
    · rw [if_pos h]
      by_cases e:p.1=j
      · rw [valV_pos (p:=(p.1,y)) e,valV_pos e,Option.map_some,if_pos (e.symm.trans h)]
      · rw [valV_neg (p:=(p.1,y)) e,valV_neg e,ih]
    · rw [if_neg h]
      by_cases e:p.1=j
      · rw [valV_pos (p:=p) e,valV_pos e,Option.map_some,if_neg (fun z=>h (e.trans z))]
      · rw [valV_neg (p:=p) e,valV_neg e,ih]
theorem length_putK (kvs:List (κ × V)) (k:κ) (v:V):(putK kvs k v).length≤kvs.length + 1:=by
  unfold putK
  split
  · rw [List.length_map];omega
  · rw [List.length_append,List.length_cons,List.length_nil];omega
theorem putK_new {kvs:List (κ × V)} {k:κ} (v:V) (h:valV kvs k=none):putK kvs k v=kvs++[(k,v)]:=by
  unfold putK
  rw [valV_any,h]
  exact if_neg (by decide)
theorem RelO.isSome_eq {o:Option V} {u:Option Value} (r:RelO o u):o.isSome=u.isSome:=by
  cases o with
  | none=>cases u with
    | none=>rfl
    | some _=>exact (show False from r).elim
  | some _=>cases u with
    | none=>exact (show False from r).elim
    | some _=>rfl
theorem RelO.getD {o:Option V} {u:Option Value} {d:V} {d':Value} (r:RelO o u) (rd:RelV d d'):RelV (o.getD d) (u.getD d'):=by
  cases o with
  | none=>cases u with
    | none=>exact rd
    | some _=>exact (show False from r).elim
  | some _=>cases u with
    | none=>exact (show False from r).elim
    | some _=>exact r
theorem KV.val {kvs:List (κ × V)} {vs:List (κ × Value)} (r:KV kvs vs) (k:κ):RelO (valV kvs k) (valueAt vs k):=by
  unfold KV at r
  induction r with
  | nil=>exact True.intro
  | @cons p q ps qs h t ih =>
    obtain ⟨h1,h2⟩:=h
    by_cases e:p.1=k
    · have e':q.1=k:=h1.symm.trans e
      have b:valueAt (q :: qs) k=some q.2:=by simp [valueAt,List.find?_cons,e']
      rw [valV_pos e,b];exact h2
    · have e':¬ q.1=k:=fun z=>e (h1.trans z)
      have b:valueAt (q :: qs) k=valueAt qs k:=by simp [valueAt,List.find?_cons,e']
      rw [valV_neg e,b];exact ih
theorem KV.any {kvs:List (κ × V)} {vs:List (κ × Value)} (r:KV kvs vs) (k:κ):(kvs.any fun kv=>decide (kv.1=k))=vs.any fun kv=>decide (kv.1=k):=by
  unfold KV at r
  induction r with
  | nil=>rfl
  | cons h t ih=>rw [List.any_cons,List.any_cons,ih,h.1]
theorem KV.repl {kvs:List (κ × V)} {vs:List (κ × Value)} (r:KV kvs vs) (k:κ) {y:V} {u:Value} (ry:RelV y u) :
    KV (kvs.map fun kv=>if kv.1=k then (kv.1,y) else kv) (vs.map fun kv=>if kv.1=k then (kv.1,u) else kv):=by
  unfold KV at r ⊢
  induction r with
  | nil=>exact .nil
  | @cons p q ps qs h t ih =>
    rw [List.map_cons,List.map_cons]
    refine .cons ?_ ih
    obtain ⟨h1,h2⟩:=h
    by_cases e:p.1=k
    · rw [if_pos e,if_pos (h1.symm.trans e)];exact ⟨h1,ry⟩
    · rw [if_neg e,if_neg (fun z=>e (h1.trans z))];exact ⟨h1,h2⟩
theorem KV.put {kvs:List (κ × V)} {vs:List (κ × Value)} (r:KV kvs vs) (k:κ) {y:V} {u:Value} (ry:RelV y u):KV (putK kvs k y) (stored vs k u):=by
  unfold putK stored
  rw [r.any k]
  by_cases e:(vs.any fun kv=>decide (kv.1=k))=true
  · rw [if_pos e,if_pos e];exact r.repl k ry
  · rw [if_neg e,if_neg e];exact Paired.snoc r ⟨rfl,ry⟩
theorem KV.length {kvs:List (κ × V)} {vs:List (κ × Value)} (r:KV kvs vs):kvs.length=vs.length:=Paired.length r
end
theorem kV_is {P:Program} {w:World} {k:Key} {u:Value} (r:RelV (kV k) u):(mixKind P w).is k u=true:=by
  cases k with
  | inl i=>obtain ⟨t,e⟩:=(show ∃ t,u=Value.int i t from r);subst e;exact mixKind_int P w i t
  | inr x=>obtain ⟨t,e⟩:=(show ∃ t,u=Value.str x t from r);subst e;exact mixKind_str P w x t
theorem kV_inj {a b:Key} (e:kV a=kV b):a=b:=by
  cases a with
  | inl i=>cases b with
    | inl j=>have e':V.int i=V.int j:=e;injection e' with e';rw [e']
    | inr y=>exact nomatch (show V.int i=V.str y from e)
  | inr x=>cases b with
    | inl j=>exact nomatch (show V.str x=V.int j from e)
    | inr y=>have e':V.str x=V.str y:=e;injection e' with e';rw [e']
theorem kVs_inj:∀ {a b:List Key},a.map kV=b.map kV→a=b
  | [],[],_=>rfl
  | [],_ :: _,e=>by simp at e
  | _ :: _,[],e=>by simp at e
  | x :: xs,y :: ys,e=>by
    rw [List.map_cons,List.map_cons] at e
    injection e with e1 e2
    rw [kV_inj e1,kVs_inj e2]
theorem items_are {P:Program} {w:World}:∀ {ks:List Key} {us:List Value},Vals (ks.map kV) us→ItemsAre (mixKind P w) ks us
  | [],_,r=>by rw [List.map_nil] at r;cases r;exact .nil
  | k :: ks,_,r=>by
    rw [List.map_cons] at r
    cases r with
    | cons h t=>exact .cons (kV_is h) (items_are t)
abbrev KTp (H:Hp):List (List Key × V)→List (List Key × Addr × Value)→Prop:=Paired fun p q=>p.1=q.1∧H q.2.1=some (.tup (p.1.map kV))∧RelV p.2 q.2.2
theorem KTp.val {H:Hp} {kvs:List (List Key × V)} {xs:List (List Key × Addr × Value)} (r:KTp H kvs xs) (k:List Key):RelO (valV kvs k) ((atKey xs k).map (·.2)):=by
  induction r with
  | nil=>exact True.intro
  | @cons p q ps qs h t ih =>
    obtain ⟨h1,_,h2⟩:=h
    by_cases e:p.1=k
    · have e':q.1=k:=h1.symm.trans e
      have b:atKey (q :: qs) k=some q.2:=by simp [atKey,List.find?_cons,e']
      rw [valV_pos e,b];exact h2
    · have e':¬ q.1=k:=fun z=>e (h1.trans z)
      have b:atKey (q :: qs) k=atKey qs k:=by simp [atKey,List.find?_cons,e']
      rw [valV_neg e,b];exact ih
theorem KTp.repl {H:Hp} {kvs:List (List Key × V)} {xs:List (List Key × Addr × Value)} (r:KTp H kvs xs) (k:List Key) {y:V} {u:Value} (ry:RelV y u) :
    KTp H (kvs.map fun kv=>if kv.1=k then (kv.1,y) else kv) (xs.map (putAt k u)):=by
  induction r with
  | nil=>exact .nil
  | @cons p q ps qs h t ih =>
    rw [List.map_cons,List.map_cons]
    refine .cons ?_ ih
    obtain ⟨h1,h2,h3⟩:=h
    unfold putAt
    by_cases e:p.1=k
    · rw [if_pos e,if_pos (h1.symm.trans e)];exact ⟨h1,h2,ry⟩
    · rw [if_neg e,if_neg (fun z=>e (h1.trans z))];exact ⟨h1,h2,h3⟩
theorem KTp.put {H:Hp} {kvs:List (List Key × V)} {xs:List (List Key × Addr × Value)} (r:KTp H kvs xs) (k:List Key) {b:Addr} {y:V} {u:Value} (hb:H b=some (.tup (k.map kV))) (ry:RelV y u) :
    KTp H (putK kvs k y) (storedH xs k b u):=by
  have e:(kvs.any fun kv=>decide (kv.1=k))=(atKey xs k).isSome:=by
    rw [valV_any,(r.val k).isSome_eq,Option.isSome_map]
  unfold putK storedH
  rw [e]
  by_cases q:(atKey xs k).isSome=true
  · rw [if_pos q,if_pos q];exact r.repl k ry
  · rw [if_neg q,if_neg q];exact Paired.snoc r ⟨rfl,hb,ry⟩
theorem KTp.keeps {H H':Hp} {kvs:List (List Key × V)} {xs:List (List Key × Addr × Value)} (r:KTp H kvs xs) (ht:∀ b ys,H b=some (.tup ys)→H' b=some (.tup ys)):KTp H' kvs xs :=
  Paired.mapP r fun _ _ z=>⟨z.1,ht _ _ z.2.1,z.2.2⟩
section
variable {P:Program} {w:World} {H:Hp} {h:Heap} {a:Addr}
theorem rd_of {u:HO} (ok:HOk P w H h) (e:Rd H a u):ObjOk P w H h a u:=e.ok ok
theorem dk_rd {kvs:List (Key × V)} (ok:HOk P w H h) (e:Rd H a (.dK kvs)):kvs.length≤sizeLine∧(a == sysModules)=false∧∃ vs,KV kvs vs∧h.DictOf (mixKind P w) a vs :=
  show ObjOk P w H h a (.dK kvs) from rd_of ok e
theorem dk_of {kvs:List (Key × V)} (ok:HOk P w H h) (e:H a=some (.dK kvs)):kvs.length≤sizeLine∧(a == sysModules)=false∧∃ vs,KV kvs vs∧h.DictOf (mixKind P w) a vs:=dk_rd ok (.inl e)
theorem key_of {ks:List Key} (ok:HOk P w H h) (e:H a=some (.tup (ks.map kV))):(tupleKind (mixKind P w)).is h ks a:=by
  obtain ⟨_,its,r,o,h1,h2,n,h3⟩:=(show ObjOk P w H h a (.tup (ks.map kV)) from ok a _ e)
  exact ⟨o,its.toArray,n,h1,h2,h3,by simpa using items_are r⟩
theorem dt_rd {kvs:List (List Key × V)} (ok:HOk P w H h) (e:Rd H a (.dT kvs)):kvs.length≤sizeLine∧(a == sysModules)=false ∧
    ∃ xs,KTp H kvs xs∧h.DictOfH (tupleKind (mixKind P w)) a xs:=by
  obtain ⟨z,y,xs,r,o,es,ep,h1,h2,h3,h4,h5⟩:=(show ObjOk P w H h a (.dT kvs) from rd_of ok e)
  refine ⟨z,y,xs,r,o,es,ep,h1,h2,h3,h4,fun x hx=>?_,h5⟩
  have all:∀ {l:List (List Key × V)} {m:List (List Key × Addr × Value)},KTp H l m→∀ x∈m,(tupleKind (mixKind P w)).is h x.1 x.2.1:=by
    intro l m q
    induction q with
    | nil=>intro x hx;exact nomatch hx
    | @cons p q ps qs hq t ih =>
      intro x hx
      rcases List.mem_cons.mp hx with e | hx
      · subst e
        exact key_of ok (by rw [← hq.1];exact hq.2.1)
      · exact ih x hx
  exact all r x hx
theorem dt_of {kvs:List (List Key × V)} (ok:HOk P w H h) (e:H a=some (.dT kvs)):kvs.length≤sizeLine∧(a == sysModules)=false ∧
    ∃ xs,KTp H kvs xs∧h.DictOfH (tupleKind (mixKind P w)) a xs:=dt_rd ok (.inl e)
end
def DGet (H:Hp) (a:Addr) (y:V) (r:Option V):Prop :=
  (∃ kvs k,Rd H a (.dK kvs)∧y=kV k∧r=valV kvs k)∨∃ kvs k b,Rd H a (.dT kvs)∧y=.ref b∧H b=some (.tup (k.map kV))∧r=valV kvs k
def DPut (H:Hp) (a:Addr) (y v:V) (H':Hp):Prop :=
  (∃ kvs k,H a=some (.dK kvs)∧y=kV k∧kvs.length < sizeLine∧H'=upd H a (.dK (putK kvs k v))) ∨
  ∃ kvs k b,H a=some (.dT kvs)∧y=.ref b∧H b=some (.tup (k.map kV))∧kvs.length < sizeLine∧H'=upd H a (.dT (putK kvs k v))
theorem DGet.k {H:Hp} {a:Addr} {kvs:List (Key × V)} {k:Key} (e:H a=some (.dK kvs)):DGet H a (kV k) (valV kvs k):=.inl ⟨kvs,k,.inl e,rfl,rfl⟩
theorem DGet.t {H:Hp} {a b:Addr} {kvs:List (List Key × V)} {k:List Key} (e:H a=some (.dT kvs)) (eb:H b=some (.tup (k.map kV))):DGet H a (.ref b) (valV kvs k):=.inr ⟨kvs,k,b,.inl e,rfl,eb,rfl⟩
theorem DPut.k {H:Hp} {a:Addr} {kvs:List (Key × V)} {k:Key} {v:V} (e:H a=some (.dK kvs)) (hl:kvs.length < sizeLine):DPut H a (kV k) v (upd H a (.dK (putK kvs k v))):=.inl ⟨kvs,k,e,rfl,hl,rfl⟩
theorem DPut.t {H:Hp} {a b:Addr} {kvs:List (List Key × V)} {k:List Key} {v:V} (e:H a=some (.dT kvs)) (eb:H b=some (.tup (k.map kV))) (hl:kvs.length < sizeLine) :
    DPut H a (.ref b) v (upd H a (.dT (putK kvs k v))):=.inr ⟨kvs,k,b,e,rfl,eb,hl,rfl⟩
section
variable {X:Cx} {pins:List (Addr × Obj)} {σ:St} {H:Hp} {s:Shared} {a:Addr} {y v:V} {u r:Value} {o:Option V} {A:Around} {E:Value→Shared→Prop}
theorem Inv.big (I:Inv X pins σ H s):sysModules < s.heap.objs.size:=by
  have h:mainGlobals < s.heap.objs.size:=(I.mod.glob.keeps I.bk).lt
  exact Nat.lt_trans (by decide) h
theorem d_getItem {Q:Value→Shared→Prop} (hu:A.units + 1 < cLine) (I:Inv X pins σ H s) (g:DGet H a y (some v)) (ry:RelV y u) (h:∀ w' s',Inv X pins σ H s'→RelV v w'→Q w' s') :
    wpAny (model X.prog X.w) A (getItem (.ref a) u) Q E s:=by
  rcases g with ⟨kvs,k,e,ey,l⟩ | ⟨kvs,k,b,e,ey,eb,l⟩
  · subst ey
    obtain ⟨z,hd,vs,rel,dd⟩:=dk_rd I.hok e
    obtain ⟨w',hw,rw'⟩:=RelO.some_of (v:=v) (o:=valueAt vs k) (by rw [l];exact rel.val k)
    exact wpAny_getItem_of (kV_is ry) dd.mapOf hw (h w' _ (I.tok _) rw')
  · subst ey
    cases (show u=Value.ref b from ry)
    obtain ⟨z,hd,xs,rel,dd⟩:=dt_rd I.hok e
    obtain ⟨w',hw,rw'⟩:=RelO.some_of (v:=v) (o:=(atKey xs k).map (·.2)) (by rw [l];exact rel.val k)
    obtain ⟨p,hp,hp2⟩:=Option.map_eq_some_iff.mp hw
    refine wpAny_getItem_heap (tupleKind_room_in1 hu) (key_of I.hok eb) dd hp ?_
    rw [hp2]
    exact h w' _ (I.tok _) rw'
theorem d_in {Q:Value→Shared→Prop} (hu:A.units + 1 < cLine) (I:Inv X pins σ H s) (g:DGet H a y o) (ry:RelV y u) (h:∀ s',Inv X pins σ H s'→Q (.bool o.isSome) s') :
    wpAny (model X.prog X.w) A (compareOp .In u (.ref a)) Q E s:=by
  rcases g with ⟨kvs,k,e,ey,l⟩ | ⟨kvs,k,b,e,ey,eb,l⟩
  · subst ey
    obtain ⟨z,hd,vs,rel,dd⟩:=dk_rd I.hok e
    refine wpAny_in_of (kV_is ry) hd dd.mapOf ?_
    rw [← (rel.val k).isSome_eq,← l]
    exact h _ (I.tok _)
  · subst ey
    cases (show u=Value.ref b from ry)
    obtain ⟨z,hd,xs,rel,dd⟩:=dt_rd I.hok e
    refine wpAny_in_heap (tupleKind_room_in1 hu) (key_of I.hok eb) hd dd ?_
    have q:=(rel.val k).isSome_eq
    rw [Option.isSome_map] at q
    rw [← q,← l]
    exact h _ (I.tok _)
theorem d_notIn {Q:Value→Shared→Prop} (hu:A.units + 1 < cLine) (I:Inv X pins σ H s) (g:DGet H a y o) (ry:RelV y u) (h:∀ s',Inv X pins σ H s'→Q (.bool (!o.isSome)) s') :
    wpAny (model X.prog X.w) A (compareOp .NotIn u (.ref a)) Q E s:=by
  rcases g with ⟨kvs,k,e,ey,l⟩ | ⟨kvs,k,b,e,ey,eb,l⟩
  · subst ey
    obtain ⟨z,hd,vs,rel,dd⟩:=dk_rd I.hok e
    refine wpAny_notIn_of (kV_is ry) hd dd.mapOf ?_
    rw [← (rel.val k).isSome_eq,← l]
    exact h _ (I.tok _)
  · subst ey
    cases (show u=Value.ref b from ry)
    obtain ⟨z,hd,xs,rel,dd⟩:=dt_rd I.hok e
    refine wpAny_notIn_heap (tupleKind_room_in1 hu) (key_of I.hok eb) hd dd ?_
    have q:=(rel.val k).isSome_eq
    rw [Option.isSome_map] at q
    rw [← q,← l]
    exact h _ (I.tok _)
theorem d_write {h':Heap} {t':Nat} {ob:HO} (I:Inv X pins σ H s) (mu:Mut (H a)) (hs:Heap.SameBut a s.heap h') (he:∃ q,h'.get? a=some q) (new:ObjOk X.prog X.w (upd H a ob) h' a ob) :
    Inv X pins σ (upd H a ob) { s with heap:=h',toks:=t' } :=
  I.write (x:=a) (e:=a) mu (.inl rfl) (fun b q hb z=>(hs.2 b hb).trans z) he new
theorem dk_new {P:Program} {w:World} {H':Hp} {h':Heap} {kvs:List (Key × V)} {vs:List (Key × Value)} (z:kvs.length≤sizeLine) (hd:(a == sysModules)=false) (rel:KV kvs vs) (dd:h'.DictOf (mixKind P w) a vs) :
    ObjOk P w H' h' a (.dK kvs):=⟨z,hd,vs,rel,dd⟩
theorem d_setItem {H':Hp} {Q:Unit→Shared→Prop} (hu:A.units + 1 < cLine) (I:Inv X pins σ H s) (g:DPut H a y v H') (ry:RelV y u) (rv:RelV v r) (h:∀ s',Inv X pins σ H' s'→Q () s') :
    wpAny (model X.prog X.w) A (setItem (.ref a) u r) Q E s:=by
  rcases g with ⟨kvs,k,e,ey,l,eH⟩ | ⟨kvs,k,b,e,ey,eb,l,eH⟩
  · subst ey eH
    obtain ⟨z,hd,vs,rel,dd⟩:=dk_of I.hok e
    have hz:vs.length≤sizeLine:=by rw [← rel.length];exact z
    have hl:(putK kvs k v).length≤sizeLine:=by have:=length_putK kvs k v;omega
    refine wpAny_setItem_pairs (hsz:=hz) (kV_is ry) dd fun h' dd' hs=>h _ ?_
    have he:∃ q,h'.get? a=some q:=let ⟨q,_,_,hq,_⟩:=dd';⟨q,hq⟩
    exact d_write I (by rw [e];exact True.intro) hs he (dk_new hl hd (rel.put k rv) dd')
  · subst ey eH
    cases (show u=Value.ref b from ry)
    obtain ⟨z,hd,xs,rel,dd⟩:=dt_of I.hok e
    have hz:xs.length≤sizeLine:=by rw [← Paired.length rel];exact z
    have hl:(putK kvs k v).length≤sizeLine:=by have:=length_putK kvs k v;omega
    refine wpAny_setItem_heap (hsz:=hz) (tupleKind_room_in1 hu) (key_of I.hok eb) dd fun h' dd' hs=>h _ ?_
    obtain ⟨q,es,ep,hq,h2,h3,h4,_,h5⟩:=dd'
    refine d_write I (by rw [e];exact True.intro) hs ⟨q,hq⟩ ⟨hl,hd,_,(rel.put k eb rv).keeps fun c ys ec=>?_,q,es,ep,hq,h2,h3,h4,h5⟩
    rw [upd_ne (ne_of ec e (fun z=>nomatch z))]
    exact ec
end
section
variable {X:Cx} {pins:List (Addr × Obj)} {σ:St} {H:Hp} {s:Shared} {a:Addr} {kvs:List (Key × V)} {k:Key} {u:Value} {A:Around} {E:Value→Shared→Prop}
end
def NoSl (i:Expr):Prop:=∀ ov iv,subscripted i false ov iv=operate [ov,iv] (getItem ov iv)
theorem subD_of {prog:Program} {w:World} {A:Around} {E:Value→Shared→Prop} {s:Shared} {env:Env} {value slice:Expr} {pos:Pos} {T id:String} {Q:Value→Shared→Prop}
    (hl:typeLookup (.type T) "__getitem__"=pure (some (.builtin id))) (hs:NoSl slice)
    (h:wpAny (model prog w) A (eval value env) (fun o s₁=>wpAny (model prog w) A (eval slice env) (fun i s₂=>s₂.TypeIs o T∧wpAny (model prog w) A (getItem o i) Q E s₂) E s₁) E s) :
    wpAny (model prog w) A (eval (.Subscript value slice pos) env) Q E s:=by
  refine Subscript_ (wpAny_mono h (fun o s₁ h₁=>wpAny_mono h₁ (fun i s₂ h₂=>?_) fun _ _ x=>x) fun _ _ x=>x)
  obtain ⟨hT,h₂⟩:=h₂
  unfold subscriptTail
  refine wpAny_bind ?_
  rw [getitemInPython_of_ne hT.not_modules]
  refine wpAny_bind (wpAny_specialOf hT hl ?_)
  have fin:wpAny (model prog w) A (subscripted slice false o i) (fun r s₃=>wpAny (model prog w) A (letTemporaryGo value o r >>= fun _=>pure r) Q E s₃) E s₂:=by
    rw [hs o i]
    exact wpAny_operating (wpAny_mono h₂ (fun r s₃ h₃=>wpAny_bind (wpAny_letTemporaryGo (wpAny_pure h₃))) fun _ _ x=>x)
  first
    | exact wpAny_pure (wpAny_bind fin)
    | exact wpAny_bind (wpAny_pure (wpAny_bind fin))
    | exact wpAny_bind fin
theorem dict_typeIs {X:Cx} {pins:List (Addr × Obj)} {σ:St} {H:Hp} {s:Shared} {a:Addr} {y:V} {o:Option V} (I:Inv X pins σ H s) (g:DGet H a y o):s.TypeIs (.ref a) "dict":=by
  rcases g with ⟨kvs,k,e,_,_⟩ | ⟨kvs,k,b,e,_,_,_⟩
  · obtain ⟨_,_,vs,_,dd⟩:=dk_rd I.hok e
    exact dd.typeIs
  · obtain ⟨_,_,xs,_,dd⟩:=dt_rd I.hok e
    exact dd.typeIs
def tDGet (td ty:TE):TE:=fun σ H Q=>td σ H fun x H1=>ty σ H1 fun y H2=>∃ a v,x=.ref a∧DGet H2 a y (some v)∧Q v H2
def sDPut (td ty tv:TE):TS:=fun D σ H=>tv σ H fun v H1=>td σ H1 fun x H2=>ty σ H2 fun y H3=>∃ a H4,x=.ref a∧DPut H3 a y v H4∧D.nx σ H4
section
variable {X:Cx} {o i e value:Expr} {pos pos' tpos:Pos} {td ty tv:TE}
theorem pe_dget (hu:X.A.units + 1 < cLine) (ho:PE X o td) (hi:PE X i ty) (hs:NoSl i):PE X (.Subscript o i pos) (tDGet td ty):=by
  intro pins s σ H Q I h
  refine subD_of PySem.F.slot_dict_getitem.lookup hs (thn (ho pins s σ H _ I h) fun u s1 ⟨x,H1,I1,rx,q1⟩=>thn (hi pins s1 σ H1 _ I1 q1) fun iv s2 ⟨y,H2,I2,ry,a,v,ex,g,q2⟩=>?_)
  subst ex
  obtain rfl:u=Value.ref a:=rx
  exact ⟨dict_typeIs I2 g,d_getItem hu I2 g ry fun w' s3 I3 rw'=>⟨v,H2,I3,rw',q2⟩⟩
theorem ps_dput (hu:X.A.units + 1 < cLine) (ho:PE X o td) (hi:PE X i ty) (hv:PE X value tv) (hs:swapsWith value (some (.Subscript o i pos')) pos.line X.env=pure false) :
    PS X (.Assign [.Subscript o i pos'] value pos) (sDPut td ty tv):=by
  intro pins s σ H D I h
  refine wpAny_Assign_Subscript (thn (hv pins s σ H _ I h) fun r s1 ⟨v,H1,I1,rv,q1⟩=>thn (ho pins s1 σ H1 _ I1 q1) fun u s2 ⟨x,H2,I2,rx,q2⟩=>thn (hi pins s2 σ H2 _ I2 q2) fun iv s3 ⟨y,H3,I3,ry,a,H4,ex,g,q3⟩=>?_) hs
  subst ex
  obtain rfl:u=Value.ref a:=rx
  exact d_setItem hu I3 g ry rv fun s4 I4=>⟨σ,H4,I4,q3⟩
end
theorem dk_empty {P:Program} {w:World} {H:Hp} (h:Heap) (hb:sysModules < h.objs.size):ObjOk P w H (h.push { cls:=.type "dict",data:=.dict #[] }) h.objs.size (.dK []) :=
  ⟨Nat.zero_le _,beq_eq_false_iff_ne.mpr (Ne.symm (Nat.ne_of_lt hb)),[],.nil,Heap.DictOf.new h⟩
theorem dt_empty {P:Program} {w:World} {H:Hp} (h:Heap) (hb:sysModules < h.objs.size):ObjOk P w H (h.push { cls:=.type "dict",data:=.dict #[] }) h.objs.size (.dT []) :=
  ⟨Nat.zero_le _,beq_eq_false_iff_ne.mpr (Ne.symm (Nat.ne_of_lt hb)),[],.nil,_,#[],0,Heap.get?_push_size _ rfl,⟨rfl,rfl,rfl⟩,rfl,rfl,List.nodup_nil⟩
def tDNewK:TE:=fun _ H Q=>∀ p,H p=none→Q (.ref p) (upd H p (.dK []))
def tDNewT:TE:=fun _ H Q=>∀ p,H p=none→Q (.ref p) (upd H p (.dT []))
section
variable {X:Cx} {pos:Pos}
theorem pe_dnewK:PE X (.Dict [] [] pos) tDNewK:=fun pins s σ H Q I h =>
  wpAny_Dict_empty ⟨.ref s.heap.objs.size,_,I.laid (a:=s.heap.objs.size) (o:=.dK []) (t':=s.toks) (fun _ _ q=>Heap.get?_push_of_some _ q) (Nat.le_refl _) (dk_empty s.heap I.big),rfl,h _ (I.hok.fresh (Nat.le_refl _))⟩
theorem pe_dnewT:PE X (.Dict [] [] pos) tDNewT:=fun pins s σ H Q I h =>
  wpAny_Dict_empty ⟨.ref s.heap.objs.size,_,I.laid (a:=s.heap.objs.size) (o:=.dT []) (t':=s.toks) (fun _ _ q=>Heap.get?_push_of_some _ q) (Nat.le_refl _) (dt_empty s.heap I.big),rfl,h _ (I.hok.fresh (Nat.le_refl _))⟩
end
abbrev VV:List (V × V)→List (Value × Value)→Prop:=Paired fun p q=>RelV p.1 q.1∧RelV p.2 q.2
structure M1 (X:Cx) (o:Expr) (m:Str) (apos:Pos) (e:Expr) (cpos:Pos):Prop where
  base:attributeBase o m X.env (eval o X.env)=eval o X.env
  few:((backTo cpos (starEach [e] X.env)).all (fun x=>!x.1) && (backToKw cpos (keywordEach [] X.env)).all (fun x=>x.1.isSome)
    && decide (([e]:List Expr).length + ([]:List Keyword).length + (if ([]:List Keyword).isEmpty then 0 else 1) < 30))=true
  line:(apos.endLine == cpos.line)=true
  trees:backTo cpos (starEach [e] X.env)=[(false,eval e X.env)]
def IsD (H:Hp) (a:Addr):Prop:=(∃ kvs,Rd H a (.dK kvs))∨∃ kvs,Rd H a (.dT kvs)
theorem isD_at {X:Cx} {pins:List (Addr × Obj)} {σ:St} {H:Hp} {s:Shared} {a:Addr} (I:Inv X pins σ H s) (d:IsD H a) :
    s.TypeIs (.ref a) "dict"∧(∀ b,Value.ref a=.ref b→∃ ob,s.heap.get? b=some ob∧ob.dict=none)∧(a == sysModules)=false:=by
  rcases d with ⟨kvs,e⟩ | ⟨kvs,e⟩
  · obtain ⟨_,hd,vs,_,dd⟩:=dk_rd I.hok e
    refine ⟨dd.typeIs,fun b q=>?_,hd⟩
    cases q
    obtain ⟨ob,_,_,h1,h2,_⟩:=dd
    exact ⟨ob,h1,h2.2.1⟩
  · obtain ⟨_,hd,xs,_,dd⟩:=dt_rd I.hok e
    refine ⟨dd.typeIs,fun b q=>?_,hd⟩
    cases q
    obtain ⟨ob,_,_,h1,h2,_⟩:=dd
    exact ⟨ob,h1,h2.2.1⟩
section
variable {X:Cx} {pins:List (Addr × Obj)} {σ:St} {H:Hp} {s:Shared} {a:Addr} {y d:V} {u r:Value} {o:Option V} {A:Around} {E:Value→Shared→Prop}
theorem d_get1 {Q:Value→Shared→Prop} (hu:A.units + 1 < cLine) (I:Inv X pins σ H s) (g:DGet H a y o) (ry:RelV y u) (h:∀ w' s',Inv X pins σ H s'→RelV (o.getD .non) w'→Q w' s') :
    wpAny (model X.prog X.w) A (call (.builtin "dict.get") [.ref a,u]) Q E s:=by
  rcases g with ⟨kvs,k,e,ey,l⟩ | ⟨kvs,k,b,e,ey,eb,l⟩
  · subst ey
    obtain ⟨z,hd,vs,rel,dd⟩:=dk_rd I.hok e
    refine call_meetsIn PySem.F.slot_dict_get dd.typeIs PySem.F.entry_dict_get (PySem.F.args_dict_get_2 _ _) (meets_dict_get (mixKind X.prog X.w) a (kV_is ry) hd) ⟨_,dd.mapOf,h _ _ (I.tok _) ?_⟩
    rw [l]
    exact (rel.val k).getD rfl
  · subst ey
    cases (show u=Value.ref b from ry)
    obtain ⟨z,hd,xs,rel,dd⟩:=dt_rd I.hok e
    refine call_meetsIn PySem.F.slot_dict_get dd.typeIs PySem.F.entry_dict_get (PySem.F.args_dict_get_2 _ _) (meetsH_dict_get (tupleKind (mixKind X.prog X.w)) a b hd) ⟨tupleKind_room_in1 hu,k,xs,key_of I.hok eb,dd,h _ _ (I.tok _) ?_⟩
    rw [l]
    exact (rel.val k).getD rfl
end
def tDGet1 (td ty:TE):TE:=fun σ H Q=>td σ H fun x H1=>∃ a,x=.ref a∧IsD H1 a∧ty σ H1 fun y H2=>∃ o,DGet H2 a y o∧Q (o.getD .non) H2
section
variable {X:Cx} {o e f:Expr} {apos cpos:Pos} {td ty tx:TE}
theorem pe_dget1 (hu:X.A.units + 1 < cLine) (ho:PE X o td) (he:PE X e ty) (m:M1 X o "get" apos e cpos):PE X (.Call (.Attribute o "get" apos) [e] [] cpos) (tDGet1 td ty):=by
  intro pins s σ H Q I h
  refine wpAny_Call_method m.base m.few m.line PySem.F.plainAttrs_dict PySem.F.slot_dict_get PySem.F.type_dict_get (thn (ho pins s σ H _ I h) fun u s1 ⟨x,H1,I1,rx,a,ex,d,q1⟩=>?_)
  subst ex
  obtain rfl:u=Value.ref a:=rx
  obtain ⟨t1,t2,_⟩:=isD_at I1 d
  refine ⟨t1,t2,?_⟩
  rw [m.trees]
  refine Calls.callWith_builtin rfl (Calls.evalArgs_plain (Calls.spliced_cons (thn (he pins s1 σ H1 _ I1 q1) fun iv s2 ⟨y,H2,I2,ry,ov,g,q2⟩=>Calls.spliced_nil ?_)))
  exact d_get1 hu I2 g ry fun w' s3 I3 rw'=>⟨_,H2,I3,rw',q2⟩
end
section
variable {X:Cx} {pins:List (Addr × Obj)} {σ:St} {H:Hp} {s:Shared} {a:Addr} {kvs:List (Key × V)} {A:Around} {E:Value→Shared→Prop}
end
section
variable {X:Cx} {pins:List (Addr × Obj)} {σ:St} {H:Hp} {s:Shared} {a:Addr} {y:V} {u:Value} {A:Around} {E:Value→Shared→Prop}
end
section
variable {X:Cx}
end
section
variable {κ:Type} [DecidableEq κ]
theorem dropK_pos {p:κ × V} {r:List (κ × V)} {k:κ} (e:p.1=k):dropK (p :: r) k=dropK r k:=by
  unfold dropK
  rw [List.filter_cons,if_neg (by simp [e])]
theorem dropK_neg {p:κ × V} {r:List (κ × V)} {k:κ} (e:¬ p.1=k):dropK (p :: r) k=p :: dropK r k:=by
  unfold dropK
  rw [List.filter_cons,if_pos (by simp [e])]
theorem dropK_no:∀ {kvs:List (κ × V)} {k:κ},¬ k∈kvs.map (·.1)→dropK kvs k=kvs
  | [],_,_=>rfl
  | p :: r,k,h=>by
    have h':¬ k∈r.map (·.1):=fun m=>by
      obtain ⟨q,hq,e⟩:=List.mem_map.mp m
      exact h (List.mem_map.mpr ⟨q,List.mem_cons.mpr (Or.inr hq),e⟩)
    rw [dropK_neg fun e=>h (List.mem_map.mpr ⟨p,List.mem_cons.mpr (Or.inl rfl),e⟩),dropK_no h']
end
end L2
namespace U2
open PySem L2
inductive U where
  | non | bl (b:Bool) | int (i:Int) | str (x:Str) | tup (us:List U) | lst (us:List U) | ref (a:Addr) | ty (n:String) | dic (ks:List (List Key)) (tk:Bool) (us:List U)
inductive MO where
  | lst (us:List U) | dK (kvs:List (Key × U)) | dT (kvs:List (List Key × U))
abbrev MHp:=Addr→Option MO
def mup (M:MHp) (a:Addr) (o:MO):MHp:=fun b=>if b=a then some o else M b
theorem mup_same {M:MHp} {a:Addr} {o:MO}:mup M a o a=some o:=by unfold mup;rw [if_pos rfl]
theorem mup_ne {M:MHp} {a b:Addr} {o:MO} (h:b≠a):mup M a o b=M b:=by unfold mup;rw [if_neg h]
theorem mup_mup {M:MHp} {a:Addr} {o u:MO}:mup (mup M a o) a u=mup M a u:=by
  funext b;unfold mup;split <;> rfl
def KL (K:PySem.W.Frag) (a:Addr) (xs:List V):Prop :=
  ∃ (o:Obj) (its:Array Value) (n:Nat),K.lookup a=some o∧o.cls=.type "list"∧o.dict=none∧o.data=.seq its n∧its.size≤sizeLine∧Vals xs its.toList
def DicAt (H:Hp) (a:Addr) (ks:List (List Key)) (tk:Bool) (vs:List V):Prop:=match tk with
  | true=>∃ ws,H a=some (.dT ws)∧ks=ws.map (·.1)∧vs=ws.map (·.2)
  | false=>∃ ws,H a=some (.dK ws)∧ks=ws.map (fun p=>[p.1])∧vs=ws.map (·.2)
mutual
def RelU (K:PySem.W.Frag) (H:Hp) (M:MHp):U→V→Prop
  | .non,v=>v=.non
  | .bl b,v=>v=.bl b
  | .int i,v=>v=.int i
  | .str x,v=>v=.str x
  | .ty n,v=>v=.ty n
  | .ref a,v=>v=.ref a
  | .tup us,v=>∃ a vs,v=.ref a∧(M a=none∧H a=some (.tup vs))∧RelUs K H M us vs
  | .dic ks tk us,v=>∃ a vs,v=.ref a∧M a=none∧DicAt H a ks tk vs∧RelUs K H M us vs
  | .lst us,v=>∃ a vs,v=.ref a∧((M a=none∧Rd H a (.lst vs))∨KL K a vs)∧RelUs K H M us vs
def RelUs (K:PySem.W.Frag) (H:Hp) (M:MHp):List U→List V→Prop
  | [],vs=>vs=[]
  | u :: us,vs=>∃ v vs',vs=v :: vs'∧RelU K H M u v∧RelUs K H M us vs'
end
def Stp (H:Hp) (M:MHp) (H1:Hp) (M1:MHp):Prop:=∀ b o,H b=some o→M b=none→H1 b=some o∧M1 b=none
theorem Stp.refl (H:Hp) (M:MHp):Stp H M H M:=fun _ _ h m=>⟨h,m⟩
theorem Stp.trans {H H1 H2:Hp} {M M1 M2:MHp} (a:Stp H M H1 M1) (b:Stp H1 M1 H2 M2):Stp H M H2 M2:=fun c o h m=>let ⟨h1,m1⟩:=a c o h m;b c o h1 m1
theorem Rd.stp {H H1:Hp} {M M1:MHp} {a:Addr} {u:HO} (st:Stp H M H1 M1) (m:M a=none) (h:Rd H a u):M1 a=none∧Rd H1 a u:=by
  rcases h with h | ⟨o,h⟩
  · obtain ⟨x,y⟩:=st a _ h m;exact ⟨y,.inl x⟩
  · obtain ⟨x,y⟩:=st a _ h m;exact ⟨y,.inr ⟨o,x⟩⟩
theorem DicAt.stp {H H1:Hp} {M M1:MHp} {a:Addr} {ks:List (List Key)} {tk:Bool} {vs:List V} (st:Stp H M H1 M1) (m:M a=none) (h:DicAt H a ks tk vs):M1 a=none∧DicAt H1 a ks tk vs:=by
  cases tk with
  | true=>obtain ⟨ws,e,r⟩:=h;exact ⟨(st a _ e m).2,ws,(st a _ e m).1,r⟩
  | false=>obtain ⟨ws,e,r⟩:=h;exact ⟨(st a _ e m).2,ws,(st a _ e m).1,r⟩
mutual
theorem RelU.stp {K:PySem.W.Frag} {H H1:Hp} {M M1:MHp} (st:Stp H M H1 M1):∀ {u:U} {v:V},RelU K H M u v→RelU K H1 M1 u v
  | .non,_,h=>by simpa only [RelU] using h
  | .bl _,_,h=>by simpa only [RelU] using h
  | .int _,_,h=>by simpa only [RelU] using h
  | .str _,_,h=>by simpa only [RelU] using h
  | .ty _,_,h=>by simpa only [RelU] using h
  | .ref _,_,h=>by simpa only [RelU] using h
  | .tup us,_,h=>by
    simp only [RelU] at h ⊢
    obtain ⟨a,vs,e,h1,h2⟩:=h
    refine ⟨a,vs,e,?_,RelUs.stp st h2⟩
    obtain ⟨m,r⟩:=h1
    exact ⟨(st a _ r m).2,(st a _ r m).1⟩
  | .dic ks tk us,_,h=>by
    simp only [RelU] at h ⊢
    obtain ⟨a,vs,e,m,h1,h2⟩:=h
    have q:=DicAt.stp st m h1
    exact ⟨a,vs,e,q.1,q.2,RelUs.stp st h2⟩
  | .lst us,_,h=>by
    simp only [RelU] at h ⊢
    obtain ⟨a,vs,e,h1,h2⟩:=h
    refine ⟨a,vs,e,?_,RelUs.stp st h2⟩
    rcases h1 with ⟨m,r⟩ | k
    · exact .inl (Rd.stp st m r)
    · exact .inr k
theorem RelUs.stp {K:PySem.W.Frag} {H H1:Hp} {M M1:MHp} (st:Stp H M H1 M1):∀ {us:List U} {vs:List V},RelUs K H M us vs→RelUs K H1 M1 us vs
  | [],_,h=>by simpa only [RelUs] using h
  | u :: us,_,h=>by
    simp only [RelUs] at h ⊢
    obtain ⟨v,vs',e,h1,h2⟩:=h
    exact ⟨v,vs',e,RelU.stp st h1,RelUs.stp st h2⟩
end
theorem Stp.less {H:Hp} {M M1:MHp} (h:∀ b,M b=none→M1 b=none):Stp H M H M1:=fun b o e m=>⟨e,h b m⟩
def RelKv {κ:Type} (K:PySem.W.Frag) (H:Hp) (M:MHp):List (κ × U)→List (κ × V)→Prop:=Paired fun p q=>p.1=q.1∧RelU K H M p.2 q.2
theorem RelKv.stp {κ:Type} {K:PySem.W.Frag} {H H1:Hp} {M M1:MHp} (st:Stp H M H1 M1):∀ {us:List (κ × U)} {vs:List (κ × V)},RelKv K H M us vs→RelKv K H1 M1 us vs
  | _,_,.nil=>.nil
  | _,_,.cons h t=>.cons ⟨h.1,h.2.stp st⟩ (RelKv.stp st t)
def RelMO (K:PySem.W.Frag) (H:Hp) (M:MHp) (a:Addr):MO→Prop
  | .lst us=>∃ vs,H a=some (.lst vs)∧RelUs K H M us vs
  | .dK kvs=>∃ ws,H a=some (.dK ws)∧RelKv K H M kvs ws
  | .dT kvs=>∃ ws,H a=some (.dT ws)∧RelKv K H M kvs ws
def RelM (K:PySem.W.Frag) (H:Hp) (M:MHp):Prop:=∀ a mo,M a=some mo→RelMO K H M a mo
theorem RelMO.stp {K:PySem.W.Frag} {H H1:Hp} {M M1:MHp} {a:Addr} {mo:MO} (st:Stp H M H1 M1) (e:H1 a=H a) (h:RelMO K H M a mo):RelMO K H1 M1 a mo:=by
  cases mo with
  | lst us=>obtain ⟨vs,x,y⟩:=h;exact ⟨vs,e.trans x,y.stp st⟩
  | dK us=>obtain ⟨vs,x,y⟩:=h;exact ⟨vs,e.trans x,y.stp st⟩
  | dT us=>obtain ⟨vs,x,y⟩:=h;exact ⟨vs,e.trans x,y.stp st⟩
theorem RelM.ex {K:PySem.W.Frag} {H:Hp} {M:MHp} (r:RelM K H M) {a:Addr} {mo:MO} (h:M a=some mo):∃ o,H a=some o:=by
  have:=r a mo h
  cases mo with
  | lst us=>obtain ⟨vs,x,y⟩:=this;exact ⟨_,x⟩
  | dK us=>obtain ⟨vs,x,y⟩:=this;exact ⟨_,x⟩
  | dT us=>obtain ⟨vs,x,y⟩:=this;exact ⟨_,x⟩
theorem RelM.no {K:PySem.W.Frag} {H:Hp} {M:MHp} (r:RelM K H M) {a:Addr} (h:H a=none):M a=none:=by
  cases e:M a with
  | none=>rfl
  | some mo=>obtain ⟨o,q⟩:=r.ex e;rw [h] at q;cases q
theorem Stp.laid {K:PySem.W.Frag} {H:Hp} {M:MHp} {p:Addr} {o:HO} (r:RelM K H M) (h:H p=none):Stp H M (upd H p o) M:=fun b u e m=>⟨by rw [upd_ne (ne_of_none e h)];exact e,m⟩
theorem RelM.laid {K:PySem.W.Frag} {H:Hp} {M:MHp} {p:Addr} {o:HO} (r:RelM K H M) (h:H p=none):RelM K (upd H p o) M:=fun a mo e=>by
  obtain ⟨u,q⟩:=r.ex e
  exact (r a mo e).stp (Stp.laid r h) (upd_ne (ne_of_none q h))
theorem Stp.own {K:PySem.W.Frag} {H:Hp} {M:MHp} {p:Addr} {o:HO} {mo:MO} (r:RelM K H M) (h:H p=none):Stp H M (upd H p o) (mup M p mo):=fun b u e m=>by
  have n:=ne_of_none e h
  exact ⟨by rw [upd_ne n];exact e,by rw [mup_ne n];exact m⟩
theorem RelM.put {K:PySem.W.Frag} {H:Hp} {M:MHp} {p:Addr} {o:HO} {mo:MO} (r:RelM K H M) (st:Stp H M (upd H p o) (mup M p mo)) (new:RelMO K (upd H p o) (mup M p mo) p mo):RelM K (upd H p o) (mup M p mo):=fun a m e=>by
  by_cases ha:a=p
  · subst ha;rw [mup_same] at e;cases e;exact new
  · rw [mup_ne ha] at e;exact (r a m e).stp st (upd_ne ha)
theorem Stp.write {H:Hp} {M:MHp} {p:Addr} {o:HO} {mo m0:MO} (h:M p=some m0):Stp H M (upd H p o) (mup M p mo):=fun b u e m=>by
  have n:b≠p:=fun z=>by subst z;rw [h] at m;cases m
  exact ⟨by rw [upd_ne n];exact e,by rw [mup_ne n];exact m⟩
section
variable {K:PySem.W.Frag} {H:Hp} {M:MHp}
theorem RelUs.nil:RelUs K H M [] []:=by simp only [RelUs]
theorem RelUs.cons {u:U} {v:V} {us:List U} {vs:List V} (h:RelU K H M u v) (t:RelUs K H M us vs):RelUs K H M (u :: us) (v :: vs):=by simp only [RelUs];exact ⟨v,vs,rfl,h,t⟩
theorem RelUs.length:∀ {us:List U} {vs:List V},RelUs K H M us vs→us.length=vs.length
  | [],_,h=>by simp only [RelUs] at h;subst h;rfl
  | u :: us,_,h=>by
    simp only [RelUs] at h
    obtain ⟨v,vs',rfl,_,t⟩:=h
    simp [RelUs.length t]
theorem RelUs.inv_cons {u:U} {us:List U} {vs:List V} (h:RelUs K H M (u :: us) vs):∃ v vs',vs=v :: vs'∧RelU K H M u v∧RelUs K H M us vs':=by simpa only [RelUs] using h
theorem RelUs.inv_nil {vs:List V} (h:RelUs K H M [] vs):vs=[]:=by simpa only [RelUs] using h
theorem RelUs.append:∀ {us ws:List U} {vs zs:List V},RelUs K H M us vs→RelUs K H M ws zs→RelUs K H M (us++ws) (vs++zs)
  | [],_,_,_,h,t=>by cases h.inv_nil;exact t
  | u :: us,_,_,_,h,t=>by
    obtain ⟨v,vs',rfl,a,b⟩:=h.inv_cons
    exact .cons a (RelUs.append b t)
theorem RelUs.get:∀ {us:List U} {vs:List V} {i:Nat} {u:U},RelUs K H M us vs→us[i]?=some u→∃ v,vs[i]?=some v∧RelU K H M u v
  | [],_,_,_,_,e=>by simp at e
  | u :: us,_,0,_,h,e=>by
    obtain ⟨v,vs',rfl,a,b⟩:=h.inv_cons
    simp at e;subst e;exact ⟨v,rfl,a⟩
  | u :: us,_,i + 1,_,h,e=>by
    obtain ⟨v,vs',rfl,a,b⟩:=h.inv_cons
    simp at e
    obtain ⟨w,x,y⟩:=RelUs.get b e
    exact ⟨w,by simpa using x,y⟩
theorem RelUs.drop:∀ {us:List U} {vs:List V} (n:Nat),RelUs K H M us vs→RelUs K H M (us.drop n) (vs.drop n)
  | _,_,0,h=>h
  | [],_,_ + 1,h=>by cases h.inv_nil;exact .nil
  | u :: us,_,n + 1,h=>by
    obtain ⟨v,vs',rfl,a,b⟩:=h.inv_cons
    exact RelUs.drop n b
theorem RelUs.take:∀ {us:List U} {vs:List V} (n:Nat),RelUs K H M us vs→RelUs K H M (us.take n) (vs.take n)
  | _,_,0,_=>by simp only [List.take_zero];exact .nil
  | [],_,_ + 1,h=>by cases h.inv_nil;exact .nil
  | u :: us,_,n + 1,h=>by
    obtain ⟨v,vs',rfl,a,b⟩:=h.inv_cons
    exact .cons a (RelUs.take n b)
theorem RelUs.set {u:U} {v:V} (r:RelU K H M u v):∀ {us:List U} {vs:List V} (i:Nat),RelUs K H M us vs→RelUs K H M (us.set i u) (vs.set i v)
  | [],_,_,h=>by cases h.inv_nil;exact .nil
  | w :: us,_,0,h=>by
    obtain ⟨z,vs',rfl,a,b⟩:=h.inv_cons
    exact .cons r b
  | w :: us,_,i + 1,h=>by
    obtain ⟨z,vs',rfl,a,b⟩:=h.inv_cons
    exact .cons a (RelUs.set r i b)
theorem RelUs.reverse:∀ {us:List U} {vs:List V},RelUs K H M us vs→RelUs K H M us.reverse vs.reverse
  | [],_,h=>by cases h.inv_nil;exact .nil
  | u :: us,_,h=>by
    obtain ⟨v,vs',rfl,a,b⟩:=h.inv_cons
    rw [List.reverse_cons,List.reverse_cons]
    exact (RelUs.reverse b).append (.cons a .nil)
theorem RelUs.dropLast {us:List U} {vs:List V} (h:RelUs K H M us vs):RelUs K H M us.dropLast vs.dropLast:=by
  rw [List.dropLast_eq_take,List.dropLast_eq_take,h.length];exact h.take _
end
abbrev SU:=List (Option U)
abbrev UK:=U→MHp→Prop
abbrev UE:=SU→MHp→UK→Prop
abbrev UT:=SU→MHp→(Bool→MHp→Prop)→Prop
abbrev UA:=SU→MHp→(List U→MHp→Prop)→Prop
structure UEnds where
  nx:SU→MHp→Prop
  rt:UK
  bk:SU→MHp→Prop:=fun _ _=>False
  ct:SU→MHp→Prop:=fun _ _=>False
abbrev US:=UEnds→SU→MHp→Prop
def RelS (K:PySem.W.Frag) (H:Hp) (M:MHp) (σ:St) (τ:SU):Prop:=τ.length=σ.length∧∀ (i:Nat) u,τ[i]?=some (some u)→∃ v,σ[i]?=some (some v)∧RelU K H M u v
theorem RelS.stp {K:PySem.W.Frag} {H H1:Hp} {M M1:MHp} {σ:St} {τ:SU} (st:Stp H M H1 M1) (r:RelS K H M σ τ):RelS K H1 M1 σ τ:=⟨r.1,fun i u e=>let ⟨v,a,b⟩:=r.2 i u e;⟨v,a,b.stp st⟩⟩
theorem RelS.set {K:PySem.W.Frag} {H:Hp} {M:MHp} {σ:St} {τ:SU} {i:Nat} {u:U} {v:V} (r:RelS K H M σ τ) (h:RelU K H M u v):RelS K H M (σ.set i (some v)) (τ.set i (some u)):=by
  refine ⟨by simp [r.1],fun j w e=>?_⟩
  rw [List.getElem?_set] at e ⊢
  split at e
  · rename_i hij
    subst hij
    split at e
    · rename_i hl
      cases e
      rw [if_pos rfl,if_pos (by rw [← r.1];exact hl)]
      exact ⟨v,rfl,h⟩
    · cases e
  · rename_i hij
    rw [if_neg hij]
    exact r.2 j w e
def SimE (K:PySem.W.Frag) (t:TE) (t':UE):Prop:=∀ (σ:St) (τ:SU) (H:Hp) (M:MHp) (Q':UK),RelS K H M σ τ→RelM K H M→t' τ M Q' →
  ∀ Q:VK,(∀ u v M1 H1,Stp H M H1 M1→RelM K H1 M1→RelU K H1 M1 u v→Q' u M1→Q v H1)→t σ H Q
def SimT (K:PySem.W.Frag) (t:TT) (t':UT):Prop:=∀ (σ:St) (τ:SU) (H:Hp) (M:MHp) (Q':Bool→MHp→Prop),RelS K H M σ τ→RelM K H M→t' τ M Q' →
  ∀ Q:Bool→Hp→Prop,(∀ b M1 H1,Stp H M H1 M1→RelM K H1 M1→Q' b M1→Q b H1)→t σ H Q
def SimA (K:PySem.W.Frag) (t:TA) (t':UA):Prop:=∀ (σ:St) (τ:SU) (H:Hp) (M:MHp) (Q':List U→MHp→Prop),RelS K H M σ τ→RelM K H M→t' τ M Q' →
  ∀ Q:List V→Hp→Prop,(∀ us vs M1 H1,Stp H M H1 M1→RelM K H1 M1→RelUs K H1 M1 us vs→Q' us M1→Q vs H1)→t σ H Q
structure SimD (K:PySem.W.Frag) (H:Hp) (M:MHp) (D:Ends) (D':UEnds):Prop where
  nx:∀ σ τ H1 M1,Stp H M H1 M1→RelM K H1 M1→RelS K H1 M1 σ τ→D'.nx τ M1→D.nx σ H1
  rt:∀ u v H1 M1,Stp H M H1 M1→RelM K H1 M1→RelU K H1 M1 u v→D'.rt u M1→D.rt v H1
  bk:∀ σ τ H1 M1,Stp H M H1 M1→RelM K H1 M1→RelS K H1 M1 σ τ→D'.bk τ M1→D.bk σ H1
  ct:∀ σ τ H1 M1,Stp H M H1 M1→RelM K H1 M1→RelS K H1 M1 σ τ→D'.ct τ M1→D.ct σ H1
theorem SimD.stp {K:PySem.W.Frag} {H H1:Hp} {M M1:MHp} {D:Ends} {D':UEnds} (d:SimD K H M D D') (st:Stp H M H1 M1):SimD K H1 M1 D D' :=
  ⟨fun σ τ H2 M2 s=>d.nx σ τ H2 M2 (st.trans s),fun u v H2 M2 s=>d.rt u v H2 M2 (st.trans s),fun σ τ H2 M2 s=>d.bk σ τ H2 M2 (st.trans s),fun σ τ H2 M2 s=>d.ct σ τ H2 M2 (st.trans s)⟩
def SimS (K:PySem.W.Frag) (t:TS) (t':US):Prop:=∀ (σ:St) (τ:SU) (H:Hp) (M:MHp) (D':UEnds),RelS K H M σ τ→RelM K H M→t' D' τ M→∀ D:Ends,SimD K H M D D'→t D σ H
end U2
namespace U2
open PySem L2
abbrev UR2:=U→U→MHp→UK→Prop
def Cont (K:PySem.W.Frag) (H:Hp) (M:MHp) (Q':UK) (Q:VK):Prop:=∀ u v M1 H1,Stp H M H1 M1→RelM K H1 M1→RelU K H1 M1 u v→Q' u M1→Q v H1
theorem Cont.stp {K:PySem.W.Frag} {H H1:Hp} {M M1:MHp} {Q':UK} {Q:VK} (c:Cont K H M Q' Q) (st:Stp H M H1 M1):Cont K H1 M1 Q' Q:=fun u v M2 H2 s=>c u v M2 H2 (st.trans s)
theorem Cont.here {K:PySem.W.Frag} {H:Hp} {M:MHp} {Q':UK} {Q:VK} {u:U} {v:V} (c:Cont K H M Q' Q) (rm:RelM K H M) (r:RelU K H M u v) (q:Q' u M):Q v H:=c u v M H (Stp.refl H M) rm r q
def SimR2 (K:PySem.W.Frag) (r:R2) (r':UR2):Prop:=∀ (x y:V) (u w:U) (H:Hp) (M:MHp) (Q':UK),RelM K H M→RelU K H M u x→RelU K H M w y→r' u w M Q'→∀ Q:VK,Cont K H M Q' Q→r x y H Q
def SimCl (K:PySem.W.Frag) (r:List V→Hp→VK→Prop) (r':List U→MHp→UK→Prop):Prop:=∀ (xs:List V) (us:List U) (H:Hp) (M:MHp) (Q':UK),RelM K H M→RelUs K H M us xs→r' us M Q'→∀ Q:VK,Cont K H M Q' Q→r xs H Q
def SimMt (K:PySem.W.Frag) (r:V→List V→Hp→VK→Prop) (r':U→List U→MHp→UK→Prop):Prop:=∀ (x:V) (xs:List V) (u:U) (us:List U) (H:Hp) (M:MHp) (Q':UK),RelM K H M→RelU K H M u x→RelUs K H M us xs→r' u us M Q'→∀ Q:VK,Cont K H M Q' Q→r x xs H Q
section
variable {K:PySem.W.Frag} {H:Hp} {M:MHp} {v:V}
theorem RelU.non (h:RelU K H M .non v):v=.non:=by simpa only [RelU] using h
theorem RelU.bl {b:Bool} (h:RelU K H M (.bl b) v):v=.bl b:=by simpa only [RelU] using h
theorem RelU.int {i:Int} (h:RelU K H M (.int i) v):v=.int i:=by simpa only [RelU] using h
theorem RelU.str {x:Str} (h:RelU K H M (.str x) v):v=.str x:=by simpa only [RelU] using h
theorem RelU.ty {n:String} (h:RelU K H M (.ty n) v):v=.ty n:=by simpa only [RelU] using h
theorem RelU.ref {a:Addr} (h:RelU K H M (.ref a) v):v=.ref a:=by simpa only [RelU] using h
theorem RelU.tup {us:List U} (h:RelU K H M (.tup us) v):∃ a vs,v=.ref a∧SqT K H a vs∧RelUs K H M us vs:=by
  simp only [RelU] at h
  obtain ⟨a,vs,e,h1,h2⟩:=h
  refine ⟨a,vs,e,?_,h2⟩
  exact .inl (.inl h1.2)
theorem RelU.lst {us:List U} (h:RelU K H M (.lst us) v):∃ a vs,v=.ref a∧SqL K H a vs∧RelUs K H M us vs:=by
  simp only [RelU] at h
  obtain ⟨a,vs,e,h1,h2⟩:=h
  refine ⟨a,vs,e,?_,h2⟩
  rcases h1 with ⟨_,r⟩ | k
  · exact .inl r
  · exact .inr k
theorem relU_non:RelU K H M .non .non:=by simp only [RelU]
theorem relU_bl {b:Bool}:RelU K H M (.bl b) (.bl b):=by simp only [RelU]
theorem relU_int {i:Int}:RelU K H M (.int i) (.int i):=by simp only [RelU]
theorem relU_str {x:Str}:RelU K H M (.str x) (.str x):=by simp only [RelU]
theorem relU_ref {a:Addr}:RelU K H M (.ref a) (.ref a):=by simp only [RelU]
theorem relU_tup {a:Addr} {us:List U} {vs:List V} (m:M a=none) (h:H a=some (.tup vs)) (r:RelUs K H M us vs):RelU K H M (.tup us) (.ref a):=by
  simp only [RelU];exact ⟨a,vs,rfl,⟨m,h⟩,r⟩
theorem relU_lst {a:Addr} {us:List U} {vs:List V} (m:M a=none) (h:H a=some (.lst vs)) (r:RelUs K H M us vs):RelU K H M (.lst us) (.ref a):=by
  simp only [RelU];exact ⟨a,vs,rfl,.inl ⟨m,.inl h⟩,r⟩
theorem Cont.tup {Q':UK} {Q:VK} {us:List U} {vs:List V} {p:Addr} (c:Cont K H M Q' Q) (rm:RelM K H M) (r:RelUs K H M us vs) (hp:H p=none) (q:Q' (.tup us) M):Q (.ref p) (upd H p (.tup vs)) :=
  c _ _ M _ (Stp.laid rm hp) (rm.laid hp) (relU_tup (rm.no hp) upd_same (r.stp (Stp.laid rm hp))) q
def mkL (o:Bool) (us:List U) (M:MHp) (Q:UK):Prop:=match o with
  | true=>∀ p,M p=none→Q (.ref p) (mup M p (.lst us))
  | false=>Q (.lst us) M
theorem Cont.lst {o:Bool} {Q':UK} {Q:VK} {us:List U} {vs:List V} {p:Addr} (c:Cont K H M Q' Q) (rm:RelM K H M) (r:RelUs K H M us vs) (hp:H p=none) (q:mkL o us M Q'):Q (.ref p) (upd H p (.lst vs)):=by
  cases o with
  | false=>exact c _ _ M _ (Stp.laid rm hp) (rm.laid hp) (relU_lst (rm.no hp) upd_same (r.stp (Stp.laid rm hp))) q
  | true =>
    have st:Stp H M (upd H p (.lst vs)) (mup M p (.lst us)):=Stp.own rm hp
    exact c (.ref p) _ _ _ st (rm.put st ⟨vs,upd_same,r.stp st⟩) relU_ref (q p (rm.no hp))
end
def view (M:MHp):U→U
  | .ref a=>match M a with
    | some (.lst us)=>.lst us
    | _=>.ref a
  | u=>u
theorem view_ref {M:MHp} {a:Addr} {us:List U} (h:M a=some (.lst us)):view M (.ref a)=.lst us:=by simp only [view,h]
theorem view_lst {K:PySem.W.Frag} {H:Hp} {M:MHp} {u:U} {v:V} {us:List U} (rm:RelM K H M) (r:RelU K H M u v) (h:view M u=.lst us):∃ a vs,v=.ref a∧SqL K H a vs∧RelUs K H M us vs:=by
  cases u with
  | lst ws=>simp only [view] at h;cases h;exact r.lst
  | ref a =>
    simp only [view] at h
    split at h
    · rename_i ws e
      cases h
      obtain ⟨vs,h1,h2⟩:=rm a _ e
      exact ⟨a,vs,r.ref,.inl (.inl h1),h2⟩
    · cases h
  | _=>simp [view] at h
section
variable {K:PySem.W.Frag} {t ta tb tc:TE} {t' ta' tb' tc':UE}
def uVar (i:Nat):UE:=fun τ M Q=>match τ[i]? with
  | some (some u)=>Q u M
  | _=>False
theorem sim_var (i:Nat):SimE K (tVar i) (uVar i):=fun σ τ H M Q' rs rm h Q c=>by
  unfold uVar at h
  split at h
  · rename_i u e
    obtain ⟨v,e2,r⟩:=rs.2 i u e
    exact ⟨v,e2,c u v M H (Stp.refl _ _) rm r h⟩
  · exact h.elim
def uC (u:U):UE:=fun _ M Q=>Q u M
theorem sim_c {u:U} {v:V} (h:∀ H M,RelU K H M u v):SimE K (tC v) (uC u):=fun σ τ H M Q' rs rm q Q c=>c u v M H (Stp.refl _ _) rm (h H M) q
theorem sim_int {i:Int}:SimE K (tC (.int i)) (uC (.int i)):=sim_c fun _ _=>relU_int
theorem sim_bl {i:Bool}:SimE K (tC (.bl i)) (uC (.bl i)):=sim_c fun _ _=>relU_bl
theorem sim_str {i:Str}:SimE K (tC (.str i)) (uC (.str i)):=sim_c fun _ _=>relU_str
theorem sim_non:SimE K (tC .non) (uC .non):=sim_c fun _ _=>relU_non
theorem sim_ref {a:Addr}:SimE K (tC (.ref a)) (uC (.ref a)):=sim_c fun _ _=>relU_ref
def uOp (r:UR2) (ta tb:UE):UE:=fun τ M Q=>ta τ M fun x M1=>tb τ M1 fun y M2=>r x y M2 Q
theorem sim_op {r:R2} {r':UR2} (hr:SimR2 K r r') (ha:SimE K ta ta') (hb:SimE K tb tb'):SimE K (tOp r ta tb) (uOp r' ta' tb'):=fun σ τ H M Q' rs rm h Q c =>
  ha σ τ H M _ rs rm h _ fun u v M1 H1 s1 rm1 ru h1=>hb σ τ H1 M1 _ (rs.stp s1) rm1 h1 _ fun w x M2 H2 s2 rm2 rw h2=>hr v x u w H2 M2 Q' rm2 (ru.stp s2) rw h2 Q (Cont.stp c (s1.trans s2))
def uUn (r:U→MHp→UK→Prop) (ta:UE):UE:=fun τ M Q=>ta τ M fun x M1=>r x M1 Q
def uTest (t:UE):UT:=fun τ M Q=>t τ M fun u M1=>match u with
  | .bl b=>Q b M1
  | _=>False
theorem sim_test (h:SimE K t t'):SimT K (tTest t) (uTest t'):=fun σ τ H M Q' rs rm q Q c=>h σ τ H M _ rs rm q _ fun u v M1 H1 s1 rm1 ru h1=>by
  cases u with
  | bl b=>exact ⟨b,ru.bl,c b M1 H1 s1 rm1 h1⟩
  | _=>exact h1.elim
def uTru (t:UE):UT:=fun τ M Q=>t τ M fun u M1=>match view M1 u with
  | .non=>Q false M1
  | .bl b=>Q b M1
  | .int i=>Q (i != 0) M1
  | .str x=>x.length≤sizeLine∧Q ((x.length:Int) != 0) M1
  | .tup us=>Q (!us.isEmpty) M1
  | .lst us=>Q (!us.isEmpty) M1
  | _=>False
theorem isEmpty_rel {H:Hp} {M:MHp} {us:List U} {vs:List V} (r:RelUs K H M us vs):us.isEmpty=vs.isEmpty:=by
  have:=r.length
  cases us <;> cases vs <;> simp_all
theorem sim_tru (h:SimE K t t'):SimT K (fun σ H Q=>t σ H fun x H'=>∃ k,TruV K x H' k∧Q k H') (uTru t'):=fun σ τ H M Q' rs rm q Q c=>h σ τ H M _ rs rm q _ fun u v M1 H1 s1 rm1 ru h1=>by
  split at h1
  · rename_i e
    cases u with
    | non=>exact ⟨false,by rw [ru.non];rfl,c _ M1 H1 s1 rm1 h1⟩
    | ref a=>simp only [view] at e;split at e <;> cases e
    | _=>simp [view] at e
  · rename_i b e
    cases u with
    | bl b'=>simp only [view] at e;cases e;exact ⟨b,by rw [ru.bl];rfl,c _ M1 H1 s1 rm1 h1⟩
    | ref a=>simp only [view] at e;split at e <;> cases e
    | _=>simp [view] at e
  · rename_i b e
    cases u with
    | int b'=>simp only [view] at e;cases e;exact ⟨b != 0,by rw [ru.int];rfl,c _ M1 H1 s1 rm1 h1⟩
    | ref a=>simp only [view] at e;split at e <;> cases e
    | _=>simp [view] at e
  · rename_i b e
    cases u with
    | str b'=>simp only [view] at e;cases e;exact ⟨(b.length:Int) != 0,by rw [ru.str];exact ⟨h1.1,rfl⟩,c _ M1 H1 s1 rm1 h1.2⟩
    | ref a=>simp only [view] at e;split at e <;> cases e
    | _=>simp [view] at e
  · rename_i us e
    cases u with
    | tup us' =>
      simp only [view] at e;cases e
      obtain ⟨a,vs,rfl,r1,r2⟩:=ru.tup
      exact ⟨!vs.isEmpty,.inr (.inl ⟨vs,r1,rfl⟩),c _ M1 H1 s1 rm1 (by rw [← isEmpty_rel r2];exact h1)⟩
    | ref a=>simp only [view] at e;split at e <;> cases e
    | _=>simp [view] at e
  · rename_i us e
    obtain ⟨a,vs,rfl,r1,r2⟩:=view_lst rm1 ru e
    exact ⟨!vs.isEmpty,.inl ⟨vs,r1,rfl⟩,c _ M1 H1 s1 rm1 (by rw [← isEmpty_rel r2];exact h1)⟩
  · exact h1.elim
def uAnd (t u:UT):UT:=fun τ M Q=>t τ M fun c M1=>if c=true then u τ M1 Q else Q false M1
def uOr (t u:UT):UT:=fun τ M Q=>t τ M fun c M1=>if c=true then Q true M1 else u τ M1 Q
def uNot (t:UT):UT:=fun τ M Q=>t τ M fun c M1=>Q (!c) M1
theorem sim_and {t u:TT} {t' u':UT} (h:SimT K t t') (k:SimT K u u'):SimT K (tAnd t u) (uAnd t' u'):=fun σ τ H M Q' rs rm q Q c=>h σ τ H M _ rs rm q _ fun b M1 H1 s1 rm1 h1=>by
  cases b with
  | true=>exact k σ τ H1 M1 Q' (rs.stp s1) rm1 h1 Q fun b M2 H2 s2=>c b M2 H2 (s1.trans s2)
  | false=>exact c _ M1 H1 s1 rm1 h1
theorem sim_or {t u:TT} {t' u':UT} (h:SimT K t t') (k:SimT K u u'):SimT K (tOr t u) (uOr t' u'):=fun σ τ H M Q' rs rm q Q c=>h σ τ H M _ rs rm q _ fun b M1 H1 s1 rm1 h1=>by
  cases b with
  | false=>exact k σ τ H1 M1 Q' (rs.stp s1) rm1 h1 Q fun b M2 H2 s2=>c b M2 H2 (s1.trans s2)
  | true=>exact c _ M1 H1 s1 rm1 h1
theorem sim_not {t:TT} {t':UT} (h:SimT K t t'):SimT K (tNot t) (uNot t'):=fun σ τ H M Q' rs rm q Q c=>h σ τ H M _ rs rm q _ fun b M1 H1 s1 rm1 h1=>c _ M1 H1 s1 rm1 h1
def uAndV (ta tb:UE):UE:=fun τ M Q=>ta τ M fun x M1=>match x with
  | .bl c=>if c=true then tb τ M1 Q else Q (.bl false) M1
  | _=>False
def uOrV (ta tb:UE):UE:=fun τ M Q=>ta τ M fun x M1=>match x with
  | .bl c=>if c=true then Q (.bl true) M1 else tb τ M1 Q
  | _=>False
def uNotV (ta:UE):UE:=fun τ M Q=>ta τ M fun x M1=>match x with
  | .bl c=>Q (.bl (!c)) M1
  | _=>False
theorem sim_andV (h:SimE K ta ta') (k:SimE K tb tb'):SimE K (tAndV ta tb) (uAndV ta' tb'):=fun σ τ H M Q' rs rm q Q c=>h σ τ H M _ rs rm q _ fun u v M1 H1 s1 rm1 ru h1=>by
  cases u with
  | bl b =>
    refine ⟨b,ru.bl,?_⟩
    cases b with
    | true=>exact k σ τ H1 M1 Q' (rs.stp s1) rm1 h1 Q (Cont.stp c s1)
    | false=>exact c _ _ M1 H1 s1 rm1 relU_bl h1
  | _=>exact h1.elim
def uIf (t:UT) (ta tb:UE):UE:=fun τ M Q=>t τ M fun c M1=>if c=true then ta τ M1 Q else tb τ M1 Q
theorem sim_if {t:TT} {t':UT} (h:SimT K t t') (k:SimE K ta ta') (l:SimE K tb tb'):SimE K (tIf t ta tb) (uIf t' ta' tb'):=fun σ τ H M Q' rs rm q Q c=>h σ τ H M _ rs rm q _ fun b M1 H1 s1 rm1 h1=>by
  cases b with
  | true=>exact k σ τ H1 M1 Q' (rs.stp s1) rm1 h1 Q (Cont.stp c s1)
  | false=>exact l σ τ H1 M1 Q' (rs.stp s1) rm1 h1 Q (Cont.stp c s1)
def uChain (r r':UR2) (ta tb tc:UE):UE:=fun τ M Q=>ta τ M fun x M1=>tb τ M1 fun y M2=>r x y M2 fun z M3=>match z with
  | .bl k=>if k=true then tc τ M3 fun w M4=>r' y w M4 Q else Q (.bl false) M3
  | _=>False
theorem sim_chain {r r':R2} {s s':UR2} (hr:SimR2 K r s) (hr':SimR2 K r' s') (ha:SimE K ta ta') (hb:SimE K tb tb') (hc:SimE K tc tc'):SimE K (tChain r r' ta tb tc) (uChain s s' ta' tb' tc'):=fun σ τ H M Q' rs rm h Q c =>
  ha σ τ H M _ rs rm h _ fun u v M1 H1 s1 rm1 ru h1=>hb σ τ H1 M1 _ (rs.stp s1) rm1 h1 _ fun w x M2 H2 s2 rm2 rw h2 =>
    hr v x u w H2 M2 _ rm2 (ru.stp s2) rw h2 _ fun z zv M3 H3 s3 rm3 rz h3=>by
      cases z with
      | bl k =>
        refine ⟨k,rz.bl,?_⟩
        cases k with
        | true=>exact hc σ τ H3 M3 _ ((rs.stp s1).stp (s2.trans s3)) rm3 h3 _ fun w2 x2 M4 H4 s4 rm4 rw4 h4=>hr' x x2 w w2 H4 M4 Q' rm4 (rw.stp (s3.trans s4)) rw4 h4 Q (Cont.stp c (((s1.trans s2).trans s3).trans s4))
        | false=>exact c _ _ M3 H3 ((s1.trans s2).trans s3) rm3 relU_bl h3
      | _=>exact h3.elim
def uNil:UA:=fun _ M Q=>Q [] M
def uCons (ta:UE) (tr:UA):UA:=fun τ M Q=>ta τ M fun x M1=>tr τ M1 fun xs M2=>Q (x :: xs) M2
theorem sim_nil:SimA K tNil uNil:=fun σ τ H M Q' rs rm q Q c=>c [] [] M H (Stp.refl _ _) rm .nil q
theorem sim_cons {tr:TA} {tr':UA} (ha:SimE K ta ta') (hr:SimA K tr tr'):SimA K (tCons ta tr) (uCons ta' tr'):=fun σ τ H M Q' rs rm h Q c =>
  ha σ τ H M _ rs rm h _ fun u v M1 H1 s1 rm1 ru h1=>hr σ τ H1 M1 _ (rs.stp s1) rm1 h1 _ fun us vs M2 H2 s2 rm2 rus h2=>c (u :: us) (v :: vs) M2 H2 (s1.trans s2) rm2 (.cons (ru.stp s2) rus) h2
def uTup (t:UA):UE:=fun τ M Q=>t τ M fun us M1=>us.length≤sizeLine∧Q (.tup us) M1
def uLst (o:Bool) (t:UA):UE:=fun τ M Q=>t τ M fun us M1=>us.length≤sizeLine∧mkL o us M1 Q
theorem sim_tup {t:TA} {t':UA} (h:SimA K t t'):SimE K (tTup t) (uTup t'):=fun σ τ H M Q' rs rm q Q c =>
  h σ τ H M _ rs rm q _ fun us vs M1 H1 s1 rm1 r h1=>⟨by rw [← r.length];exact h1.1,fun p hp=>(Cont.stp c s1).tup rm1 r hp h1.2⟩
theorem sim_lst {o:Bool} {t:TA} {t':UA} (h:SimA K t t'):SimE K (tLst t) (uLst o t'):=fun σ τ H M Q' rs rm q Q c =>
  h σ τ H M _ rs rm q _ fun us vs M1 H1 s1 rm1 r h1=>⟨by rw [← r.length];exact h1.1,fun p hp=>(Cont.stp c s1).lst rm1 r hp h1.2⟩
def uCB (r:List U→MHp→UK→Prop) (t:UA):UE:=fun τ M Q=>t τ M fun us M1=>r us M1 Q
theorem sim_cb {r:List V→Hp→VK→Prop} {r':List U→MHp→UK→Prop} {t:TA} {t':UA} (hr:SimCl K r r') (h:SimA K t t'):SimE K (tCB r t) (uCB r' t'):=fun σ τ H M Q' rs rm q Q c =>
  h σ τ H M _ rs rm q _ fun us vs M1 H1 s1 rm1 ru h1=>hr vs us H1 M1 Q' rm1 ru h1 Q (Cont.stp c s1)
end
end U2
namespace U2
open PySem L2
section
variable {K:PySem.W.Frag}
def uI0 (g:Int→Int→U):UR2:=fun x y M Q=>match x,y with
  | .int i,.int j=>Q (g i j) M
  | _,_=>False
def uI (C:Int→Int→Prop) (g:Int→Int→U):UR2:=fun x y M Q=>match x,y with
  | .int i,.int j=>C i j∧Q (g i j) M
  | _,_=>False
theorem sim_I0 {g:Int→Int→V} {g':Int→Int→U} (hg:∀ H M i j,RelU K H M (g' i j) (g i j)):SimR2 K (rI0 g) (uI0 g'):=fun x y u w H M Q' rm ru rw h Q c=>by
  cases u with
  | int i=>cases w with
    | int j=>exact ⟨i,j,ru.int,rw.int,c _ _ M H (Stp.refl _ _) rm (hg H M i j) h⟩
    | _=>exact h.elim
  | _=>exact h.elim
theorem sim_I {C:Int→Int→Prop} {g:Int→Int→V} {g':Int→Int→U} (hg:∀ H M i j,RelU K H M (g' i j) (g i j)):SimR2 K (rI C g) (uI C g'):=fun x y u w H M Q' rm ru rw h Q c=>by
  cases u with
  | int i=>cases w with
    | int j=>exact ⟨i,j,ru.int,rw.int,h.1,c _ _ M H (Stp.refl _ _) rm (hg H M i j) h.2⟩
    | _=>exact h.elim
  | _=>exact h.elim
theorem sim_int2 {f:Int→Int→Int}:SimR2 K (rI0 fun i j=>.int (f i j)) (uI0 fun i j=>.int (f i j)):=sim_I0 fun _ _ _ _=>relU_int
theorem sim_bool2 {f:Int→Int→Bool}:SimR2 K (rI0 fun i j=>.bl (f i j)) (uI0 fun i j=>.bl (f i j)):=sim_I0 fun _ _ _ _=>relU_bl
theorem sim_int2c {C:Int→Int→Prop} {f:Int→Int→Int}:SimR2 K (rI C fun i j=>.int (f i j)) (uI C fun i j=>.int (f i j)):=sim_I fun _ _ _ _=>relU_int
def uAddS:UR2:=fun x y M Q=>match x,y with
  | .str i,.str j=>i.length + j.length≤sizeLine∧Q (.str (i++j)) M
  | _,_=>False
theorem sim_addS:SimR2 K (fun x y H Q=>∃ i j,x=.str i∧y=.str j∧i.length + j.length≤sizeLine∧Q (.str (i++j)) H) uAddS:=fun x y u w H M Q' rm ru rw h Q c=>by
  cases u with
  | str i=>cases w with
    | str j=>exact ⟨i,j,ru.str,rw.str,h.1,c _ _ M H (Stp.refl _ _) rm relU_str h.2⟩
    | _=>exact h.elim
  | _=>exact h.elim
def rCatTA (K:PySem.W.Frag):R2:=fun x y H Q=>∃ a b xs ys,x=.ref a∧y=.ref b∧SqT K H a xs∧SqT K H b ys∧xs.length + ys.length≤sizeLine ∧
  (xs=[]→Q (.ref b) H)∧(xs≠[]→ys=[]→Q (.ref a) H)∧(xs≠[]→ys≠[]→∀ p,H p=none→Q (.ref p) (upd H p (.tup (xs++ys))))
def uAddT:UR2:=fun x y M Q=>match x,y with
  | .tup us,.tup ws=>us.length + ws.length≤sizeLine∧Q (.tup (us++ws)) M
  | _,_=>False
theorem sim_addT:SimR2 K (rCatTA K) uAddT:=fun x y u w H M Q' rm ru rw h Q c=>by
  cases u with
  | tup us=>cases w with
    | tup ws =>
      obtain ⟨h2,h3⟩:=h
      obtain ⟨a,xs,rfl,s1,r1⟩:=ru.tup
      obtain ⟨b,ys,rfl,s2,r2⟩:=rw.tup
      refine ⟨a,b,xs,ys,rfl,rfl,s1,s2,by rw [← r1.length,← r2.length];exact h2,fun e=>?_,fun _ e=>?_,fun _ _ p hp=>c.tup rm (r1.append r2) hp h3⟩
      · subst e
        have e2:us=[]:=List.length_eq_zero_iff.mp r1.length
        subst e2
        exact c _ _ M H (Stp.refl _ _) rm rw h3
      · subst e
        have e2:ws=[]:=List.length_eq_zero_iff.mp r2.length
        subst e2
        exact c _ _ M H (Stp.refl _ _) rm ru (by rw [List.append_nil] at h3;exact h3)
    | _=>exact h.elim
  | _=>exact h.elim
def uAddL (o:Bool):UR2:=fun x y M Q=>match view M x,view M y with
  | .lst us,.lst ws=>us.length + ws.length≤sizeLine∧mkL o (us++ws) M Q
  | _,_=>False
def rCatL (K:PySem.W.Frag):R2:=fun x y H Q=>∃ l b xs zs,x=.ref l∧y=.ref b∧SqL K H l xs∧SqL K H b zs∧xs.length + zs.length≤sizeLine∧∀ p,H p=none→Q (.ref p) (upd H p (.lst (xs++zs)))
theorem sim_addL {o:Bool}:SimR2 K (rCatL K) (uAddL o):=fun x y u w H M Q' rm ru rw h Q c=>by
  unfold uAddL at h
  split at h
  · rename_i us ws e1 e2
    obtain ⟨a,xs,rfl,s1,r1⟩:=view_lst rm ru e1
    obtain ⟨b,ys,rfl,s2,r2⟩:=view_lst rm rw e2
    exact ⟨a,b,xs,ys,rfl,rfl,s1,s2,by rw [← r1.length,← r2.length];exact h.1,fun p hp=>c.lst rm (r1.append r2) hp h.2⟩
  · exact h.elim
theorem atI_rel {H:Hp} {M:MHp} {us:List U} {vs:List V} {i:Int} {u:U} (r:RelUs K H M us vs) (h:atI us i=some u):∃ v,atI vs i=some v∧RelU K H M u v:=by
  unfold atI at h ⊢
  rw [← r.length]
  cases e:ixN us.length i with
  | none=>rw [e] at h;cases h
  | some j=>rw [e] at h;exact r.get h
def uIx:UR2:=fun x y M Q=>match view M x,y with
  | .lst us,.int i=>∃ u,atI us i=some u∧Q u M
  | .tup us,.int i=>∃ u,atI us i=some u∧Q u M
  | .str z,.int i=>z.length≤sizeLine∧∃ c,atI z.cps.toList i=some c∧Q (.str ⟨#[c]⟩) M
  | _,_=>False
theorem view_tup {M:MHp} {u:U} {us:List U} (h:view M u=.tup us):u=.tup us:=by
  cases u with
  | ref a=>simp only [view] at h;split at h <;> cases h
  | _=>simpa [view] using h
theorem view_str {M:MHp} {u:U} {x:Str} (h:view M u=.str x):u=.str x:=by
  cases u with
  | ref a=>simp only [view] at h;split at h <;> cases h
  | _=>simpa [view] using h
theorem sim_ix:SimR2 K (rIx K) uIx:=fun x y u w H M Q' rm ru rw h Q c=>by
  unfold uIx at h
  split at h
  · rename_i us i e
    obtain ⟨z,h1,h2⟩:=h
    obtain ⟨a,xs,rfl,s1,r1⟩:=view_lst rm ru e
    obtain ⟨v,h3,h4⟩:=atI_rel r1 h1
    exact .inl ⟨a,xs,i,v,rfl,rw.int,s1,h3,c _ _ M H (Stp.refl _ _) rm h4 h2⟩
  · rename_i us i e
    obtain ⟨z,h1,h2⟩:=h
    have e':=view_tup e
    subst e'
    obtain ⟨a,xs,rfl,s1,r1⟩:=ru.tup
    obtain ⟨v,h3,h4⟩:=atI_rel r1 h1
    exact .inr (.inl ⟨a,xs,i,v,rfl,rw.int,s1,h3,c _ _ M H (Stp.refl _ _) rm h4 h2⟩)
  · rename_i z i e
    obtain ⟨h0,d,h1,h2⟩:=h
    have e':=view_str e
    subst e'
    exact .inr (.inr ⟨z,i,d,ru.str,rw.int,h0,h1,c _ _ M H (Stp.refl _ _) rm relU_str h2⟩)
  · exact h.elim
abbrev UO:=SU→MHp→(Option Int→MHp→Prop)→Prop
def SimO (K:PySem.W.Frag) (t:TO) (t':UO):Prop:=∀ (σ:St) (τ:SU) (H:Hp) (M:MHp) (Q':Option Int→MHp→Prop),RelS K H M σ τ→RelM K H M→t' τ M Q' →
  ∀ Q:Option Int→Hp→Prop,(∀ o M1 H1,Stp H M H1 M1→RelM K H1 M1→Q' o M1→Q o H1)→t σ H Q
def uNoPart:UO:=fun _ M Q=>Q none M
def uPart (t:UE):UO:=fun τ M Q=>t τ M fun x M1=>match x with
  | .int i=>Q (some i) M1
  | _=>False
theorem sim_noPart:SimO K tNoPart uNoPart:=fun σ τ H M Q' rs rm q Q c=>c none M H (Stp.refl _ _) rm q
theorem sim_part {t:TE} {t':UE} (h:SimE K t t'):SimO K (tPart t) (uPart t'):=fun σ τ H M Q' rs rm q Q c=>h σ τ H M _ rs rm q _ fun u v M1 H1 s1 rm1 ru h1=>by
  cases u with
  | int i=>exact ⟨i,ru.int,c _ M1 H1 s1 rm1 h1⟩
  | _=>exact h1.elim
def cutU {α:Type} (xs:List α) (lo hi:Option Int):List α:=(xs.drop (HT.sIx xs.length 0 lo)).take (HT.sIx xs.length xs.length hi - HT.sIx xs.length 0 lo)
theorem cut_rel {H:Hp} {M:MHp} {us:List U} {vs:List V} (r:RelUs K H M us vs) (lo hi:Option Int):RelUs K H M (cutU us lo hi) (cutV vs lo hi):=by
  unfold cutU cutV
  rw [r.length]
  exact (r.drop _).take _
def rSlA (K:PySem.W.Frag):V→Option Int→Option Int→Hp→VK→Prop:=fun x lo hi H Q =>
  (∃ a xs,x=.ref a∧SqL K H a xs∧∀ p,H p=none→Q (.ref p) (upd H p (.lst (cutV xs lo hi)))) ∨
  (∃ a xs,x=.ref a∧SqT K H a xs∧¬ (HT.sIx xs.length 0 lo=0∧HT.sIx xs.length xs.length hi=xs.length)∧∀ p,H p=none→Q (.ref p) (upd H p (.tup (cutV xs lo hi)))) ∨
  (∃ z:Str,x=.str z∧z.length≤sizeLine∧Q (.str (Txt.slice z lo hi)) H)
def uSl (o:Bool) (te:UE) (tl th:UO):UE:=fun τ M Q=>te τ M fun x M1=>tl τ M1 fun l M2=>th τ M2 fun h M3=>match view M3 x with
  | .lst us=>mkL o (cutU us l h) M3 Q
  | .tup us=>¬ (HT.sIx us.length 0 l=0∧HT.sIx us.length us.length h=us.length)∧Q (.tup (cutU us l h)) M3
  | .str z=>z.length≤sizeLine∧Q (.str (Txt.slice z l h)) M3
  | _=>False
end
section
variable {K:PySem.W.Frag} {t u:TS} {t' u':US} {te:TE} {te':UE}
def uNext:US:=fun D τ M=>D.nx τ M
def uSeq (t u:US):US:=fun D τ M=>t { D with nx:=u D } τ M
def uBreak:US:=fun D τ M=>D.bk τ M
def uCont:US:=fun D τ M=>D.ct τ M
def uDrop (te:UE):US:=fun D τ M=>te τ M fun _ M1=>D.nx τ M1
def uRet (te:UE):US:=fun D τ M=>te τ M D.rt
def uRetN:US:=fun D _ M=>D.rt .non M
def uIfS (c:UT) (t u:US):US:=fun D τ M=>c τ M fun b M1=>if b=true then t D τ M1 else u D τ M1
theorem sim_next:SimS K tNext uNext:=fun σ τ H M D' rs rm h D d=>d.nx σ τ H M (Stp.refl _ _) rm rs h
theorem sim_seq (h1:SimS K t t') (h2:SimS K u u'):SimS K (tSeq t u) (uSeq t' u'):=fun σ τ H M D' rs rm h D d =>
  h1 σ τ H M _ rs rm h _ ⟨fun σ1 τ1 H1 M1 s rm1 rs1 q=>h2 σ1 τ1 H1 M1 D' rs1 rm1 q D (d.stp s),d.rt,d.bk,d.ct⟩
theorem sim_drop (h1:SimE K te te'):SimS K (tDrop te) (uDrop te'):=fun σ τ H M D' rs rm h D d=>h1 σ τ H M _ rs rm h _ fun u v M1 H1 s rm1 ru q=>d.nx σ τ H1 M1 s rm1 (rs.stp s) q
theorem sim_ret (h1:SimE K te te'):SimS K (tRet te) (uRet te'):=fun σ τ H M D' rs rm h D d=>h1 σ τ H M _ rs rm h _ fun u v M1 H1 s rm1 ru q=>d.rt u v H1 M1 s rm1 ru q
theorem sim_ifS {c:TT} {c':UT} (hc:SimT K c c') (h1:SimS K t t') (h2:SimS K u u'):SimS K (tIfS c t u) (uIfS c' t' u'):=fun σ τ H M D' rs rm h D d=>hc σ τ H M _ rs rm h _ fun b M1 H1 s rm1 q=>by
  cases b with
  | true=>exact h1 σ τ H1 M1 D' (rs.stp s) rm1 q D (d.stp s)
  | false=>exact h2 σ τ H1 M1 D' (rs.stp s) rm1 q D (d.stp s)
abbrev UG:=U→SU→MHp→(SU→MHp→Prop)→Prop
abbrev UGs:=List U→SU→MHp→(SU→MHp→Prop)→Prop
def SimG (K:PySem.W.Frag) (g:TG) (g':UG):Prop:=∀ (u:U) (v:V) (σ:St) (τ:SU) (H:Hp) (M:MHp) (Q':SU→MHp→Prop),RelU K H M u v→RelS K H M σ τ→RelM K H M→g' u τ M Q' →
  ∀ Q:St→Hp→Prop,(∀ σ1 τ1 H1 M1,Stp H M H1 M1→RelM K H1 M1→RelS K H1 M1 σ1 τ1→Q' τ1 M1→Q σ1 H1)→g v σ H Q
def SimGs (K:PySem.W.Frag) (g:TGs) (g':UGs):Prop:=∀ (us:List U) (vs:List V) (σ:St) (τ:SU) (H:Hp) (M:MHp) (Q':SU→MHp→Prop),RelUs K H M us vs→RelS K H M σ τ→RelM K H M→g' us τ M Q' →
  ∀ Q:St→Hp→Prop,(∀ σ1 τ1 H1 M1,Stp H M H1 M1→RelM K H1 M1→RelS K H1 M1 σ1 τ1→Q' τ1 M1→Q σ1 H1)→g vs σ H Q
def hName (i:Nat):UG:=fun u τ M Q=>Q (τ.set i (some u)) M
theorem sim_gname (i:Nat):SimG K (gName i) (hName i):=fun u v σ τ H M Q' ru rs rm h Q c=>c _ _ H M (Stp.refl _ _) rm (rs.set ru) h
def hNil:UGs:=fun us τ M Q=>match us with
  | []=>Q τ M
  | _=>False
def hCons (g:UG) (r:UGs):UGs:=fun us τ M Q=>match us with
  | u :: us=>g u τ M fun τ1 M1=>r us τ1 M1 Q
  | _=>False
theorem sim_gnil:SimGs K gNil hNil:=fun us vs σ τ H M Q' ru rs rm h Q c=>by
  cases us with
  | nil=>exact ⟨ru.inv_nil,c σ τ H M (Stp.refl _ _) rm rs h⟩
  | cons _ _=>exact h.elim
theorem sim_gcons {g:TG} {g':UG} {r:TGs} {r':UGs} (h1:SimG K g g') (h2:SimGs K r r'):SimGs K (gCons g r) (hCons g' r'):=fun us vs σ τ H M Q' ru rs rm h Q c=>by
  cases us with
  | nil=>exact h.elim
  | cons u us =>
    obtain ⟨v,vs',rfl,a,b⟩:=ru.inv_cons
    exact ⟨v,vs',rfl,h1 u v σ τ H M _ a rs rm h _ fun σ1 τ1 H1 M1 s rm1 rs1 q=>h2 us vs' σ1 τ1 H1 M1 Q' (b.stp s) rs1 rm1 q Q fun σ2 τ2 H2 M2 s2=>c σ2 τ2 H2 M2 (s.trans s2)⟩
def hTup (n:Nat) (r:UGs):UG:=fun u τ M Q=>match u with
  | .tup us=>us.length=n∧r us τ M Q
  | _=>False
theorem sim_gtup {n:Nat} {r:TGs} {r':UGs} (h2:SimGs K r r'):SimG K (gTup K n r) (hTup n r'):=fun u v σ τ H M Q' ru rs rm h Q c=>by
  cases u with
  | tup us =>
    obtain ⟨a,vs,rfl,s1,r1⟩:=ru.tup
    exact ⟨a,vs,rfl,s1,by rw [← r1.length];exact h.1,h2 us vs σ τ H M Q' r1 rs rm h.2 Q c⟩
  | _=>exact h.elim
def uAsg (te:UE) (g:UG):US:=fun D τ M=>te τ M fun x M1=>g x τ M1 D.nx
theorem sim_asg {g:TG} {g':UG} (h1:SimE K te te') (h2:SimG K g g'):SimS K (tAsg te g) (uAsg te' g'):=fun σ τ H M D' rs rm h D d =>
  h1 σ τ H M _ rs rm h _ fun u v M1 H1 s rm1 ru q=>h2 u v σ τ H1 M1 _ ru (rs.stp s) rm1 q _ fun σ1 τ1 H2 M2 s2 rm2 rs2 q2=>d.nx σ1 τ1 H2 M2 (s.trans s2) rm2 rs2 q2
def uWhile (c:UT) (tb:US):US:=fun D τ M=>∃ (P:SU→MHp→Prop) (μ:SU→MHp→Nat),P τ M∧∀ τ M,P τ M→c τ M fun b M1=>if b=true then tb { D with nx:=fun τ' M'=>P τ' M'∧μ τ' M' < μ τ M,ct:=fun τ' M'=>P τ' M'∧μ τ' M' < μ τ M,bk:=D.nx } τ M1 else D.nx τ M1
theorem sim_while {c:TT} {c':UT} (hc:SimT K c c') (h1:SimS K t t'):SimS K (tWhile c t) (uWhile c' t'):=fun σ τ H M D' rs rm h D d=>by
  obtain ⟨P,μ,p0,turn⟩:=h
  refine ⟨fun m σ1 H1=>∃ τ1 M1,Stp H M H1 M1∧RelM K H1 M1∧RelS K H1 M1 σ1 τ1∧P τ1 M1∧m=μ τ1 M1,⟨_,τ,M,Stp.refl _ _,rm,rs,p0,rfl⟩,?_⟩
  rintro m σ1 H1 ⟨τ1,M1,s1,rm1,rs1,p1,rfl⟩
  refine hc σ1 τ1 H1 M1 _ rs1 rm1 (turn τ1 M1 p1) _ fun b M2 H2 s2 rm2 q=>?_
  cases b with
  | true =>
    refine ⟨fun σ3 H3=>∃ τ3 M3,Stp H M H3 M3∧RelM K H3 M3∧RelS K H3 M3 σ3 τ3∧P τ3 M3∧μ τ3 M3 < μ τ1 M1,?_,?_⟩
    · rintro σ3 H3 ⟨τ3,M3,s3,rm3,rs3,p3,lt⟩
      exact ⟨_,lt,τ3,M3,s3,rm3,rs3,p3,rfl⟩
    · have d2:=d.stp (s1.trans s2)
      exact h1 σ1 τ1 H2 M2 _ (rs1.stp s2) rm2 q _ ⟨fun σ3 τ3 H3 M3 s3 rm3 rs3 q3=>⟨τ3,M3,(s1.trans s2).trans s3,rm3,rs3,q3.1,q3.2⟩,d2.rt,d2.nx,fun σ3 τ3 H3 M3 s3 rm3 rs3 q3=>⟨τ3,M3,(s1.trans s2).trans s3,rm3,rs3,q3.1,q3.2⟩⟩
  | false=>exact d.nx σ1 τ1 H2 M2 (s1.trans s2) rm2 (rs1.stp s2) q
structure Src where
  own:Option Addr
  xs:List U
def Src.ok (S:Src) (M:MHp):Prop:=∀ a,S.own=some a→M a=some (.lst S.xs)
structure Walk (K:PySem.W.Frag) (J:It) (S:Src) (H:Hp) (M:MHp):Prop where
  step:∀ H1 M1,Stp H M H1 M1→RelM K H1 M1→S.ok M1→∀ (i:Nat) u,S.xs[i]?=some u→J.go i H1∧∀ x H2,J.yld i H1 x H2→Stp H1 M1 H2 M1∧RelM K H2 M1∧RelU K H2 M1 u x
  stop:∀ H1 M1,Stp H M H1 M1→RelM K H1 M1→S.ok M1→J.stop S.xs.length H1
abbrev UI:=SU→MHp→(Src→MHp→Prop)→Prop
def SimI (K:PySem.W.Frag) (t:TI) (t':UI):Prop:=∀ (σ:St) (τ:SU) (H:Hp) (M:MHp) (R':Src→MHp→Prop),RelS K H M σ τ→RelM K H M→t' τ M R' →
  ∀ R:It→Hp→Prop,(∀ J S M1 H1,Stp H M H1 M1→RelM K H1 M1→Walk K J S H1 M1→R' S M1→R J H1)→t σ H R
def uFor (wi:UI) (g:UG) (tb:US):US:=fun D τ M=>wi τ M fun S M1=>∃ P:Nat→SU→MHp→Prop,P 0 τ M1∧(∀ i τ M,P i τ M→S.ok M) ∧
  (∀ i x τ M,S.xs[i]?=some x→P i τ M→g x τ M fun τ2 M2=>tb { D with nx:=P (i + 1),ct:=P (i + 1),bk:=D.nx } τ2 M2)∧∀ τ M,P S.xs.length τ M→D.nx τ M
theorem sim_for {wi:TI} {wi':UI} {g:TG} {g':UG} (hi:SimI K wi wi') (hg:SimG K g g') (h1:SimS K t t'):SimS K (tFor wi g t) (uFor wi' g' t'):=fun σ τ H M D' rs rm h D d=>by
  refine hi σ τ H M _ rs rm h _ fun J S M0 H0 s0 rm0 w h=>?_
  obtain ⟨P,p0,hok,turn,fin⟩:=h
  refine ⟨fun i m σ1 H1=>∃ τ1 M1,Stp H0 M0 H1 M1∧RelM K H1 M1∧RelS K H1 M1 σ1 τ1∧P i τ1 M1∧i≤S.xs.length∧m=S.xs.length - i,⟨_,τ,M0,Stp.refl _ _,rm0,rs.stp s0,p0,Nat.zero_le _,rfl⟩,?_⟩
  rintro i m σ1 H1 ⟨τ1,M1,s1,rm1,rs1,p1,hle,rfl⟩
  have ok1:=hok i τ1 M1 p1
  by_cases hlt:i < S.xs.length
  · obtain ⟨go,yl⟩:=w.step H1 M1 s1 rm1 ok1 i S.xs[i] (by simp [hlt])
    refine .inr ⟨go,fun σ3 H3=>∃ τ3 M3,Stp H0 M0 H3 M3∧RelM K H3 M3∧RelS K H3 M3 σ3 τ3∧P (i + 1) τ3 M3,?_,fun x H2 y=>?_⟩
    · rintro σ3 H3 ⟨τ3,M3,s3,rm3,rs3,p3⟩
      exact ⟨S.xs.length - (i + 1),by omega,τ3,M3,s3,rm3,rs3,p3,hlt,rfl⟩
    · obtain ⟨s2,rm2,ru⟩:=yl x H2 y
      refine hg _ x σ1 τ1 H2 M1 _ ru (rs1.stp s2) rm2 (turn i S.xs[i] τ1 M1 (by simp [hlt]) p1) _ fun σ3 τ3 H3 M3 s3 rm3 rs3 q3=>?_
      have d3:=d.stp (((s0.trans s1).trans s2).trans s3)
      exact h1 σ3 τ3 H3 M3 _ rs3 rm3 q3 _ ⟨fun σ4 τ4 H4 M4 s4 rm4 rs4 q4=>⟨τ4,M4,((s1.trans s2).trans s3).trans s4,rm4,rs4,q4⟩,d3.rt,d3.nx,fun σ4 τ4 H4 M4 s4 rm4 rs4 q4=>⟨τ4,M4,((s1.trans s2).trans s3).trans s4,rm4,rs4,q4⟩⟩
  · have e:i=S.xs.length:=by omega
    subst e
    exact .inl ⟨w.stop H1 M1 s1 rm1 ok1,d.nx σ1 τ1 H1 M1 (s0.trans s1) rm1 rs1 (fin τ1 M1 p1)⟩
end
end U2
namespace U2
open PySem L2
section
variable {K:PySem.W.Frag}
theorem walk_list {a:Addr} {us:List U} {vs:List V} {H:Hp} {M:MHp} (m:(M a=none∧Rd H a (.lst vs))∨KL K a vs) (r:RelUs K H M us vs):Walk K (Itl K a) ⟨none,us⟩ H M:=by
  have sq:∀ H1 M1,Stp H M H1 M1→SqL K H1 a vs:=fun H1 M1 s=>by
    rcases m with ⟨m,h⟩ | k
    · exact .inl (Rd.stp s m h).2
    · exact .inr k
  refine ⟨fun H1 M1 s rm _ i u e=>?_,fun H1 M1 s rm _=>⟨vs,sq H1 M1 s,by rw [r.length];exact Nat.le_refl _⟩⟩
  obtain ⟨v,e2,ru⟩:=r.get e
  refine ⟨⟨vs,v,sq H1 M1 s,e2⟩,fun x H2 y=>?_⟩
  obtain ⟨rfl,y⟩:=y
  have:=y vs (sq _ M1 s)
  rw [e2] at this;cases this
  exact ⟨Stp.refl _ _,rm,ru.stp s⟩
theorem walk_tup {a:Addr} {us:List U} {vs:List V} {H:Hp} {M:MHp} (m:M a=none∧H a=some (.tup vs)) (r:RelUs K H M us vs):Walk K (Itt K a) ⟨none,us⟩ H M:=by
  have sq:∀ H1 M1,Stp H M H1 M1→SqT K H1 a vs:=fun H1 M1 s=>by
    exact .inl (.inl (s a _ m.2 m.1).1)
  refine ⟨fun H1 M1 s rm _ i u e=>?_,fun H1 M1 s rm _=>⟨vs,sq H1 M1 s,by rw [r.length];exact Nat.le_refl _⟩⟩
  obtain ⟨v,e2,ru⟩:=r.get e
  refine ⟨⟨vs,v,sq H1 M1 s,e2⟩,fun x H2 y=>?_⟩
  obtain ⟨rfl,y⟩:=y
  have:=y vs (sq _ M1 s)
  rw [e2] at this;cases this
  exact ⟨Stp.refl _ _,rm,ru.stp s⟩
theorem walk_own {a:Addr} {us:List U} {H:Hp} {M:MHp}:Walk K (Itl K a) ⟨some a,us⟩ H M:=by
  refine ⟨fun H1 M1 s rm ok i u e=>?_,fun H1 M1 s rm ok=>?_⟩
  · obtain ⟨vs,h1,r⟩:=rm a _ (ok a rfl)
    obtain ⟨v,e2,ru⟩:=r.get e
    refine ⟨⟨vs,v,.inl (.inl h1),e2⟩,fun x H2 y=>?_⟩
    obtain ⟨rfl,y⟩:=y
    have:=y vs (.inl (.inl h1))
    rw [e2] at this;cases this
    exact ⟨Stp.refl _ _,rm,ru⟩
  · obtain ⟨vs,h1,r⟩:=rm a _ (ok a rfl)
    exact ⟨vs,.inl (.inl h1),by rw [r.length];exact Nat.le_refl _⟩
def Its (z:Str):It:=⟨fun i _=>i < z.cps.size,fun i H x H'=>H'=H∧∃ c,z.cps[i]?=some c∧x=.str ⟨#[c]⟩,fun i _=>i=z.cps.size⟩
def chars (z:Str):List U:=z.cps.toList.map fun c=>.str ⟨#[c]⟩
theorem walk_str {z:Str} {H:Hp} {M:MHp}:Walk K (Its z) ⟨none,chars z⟩ H M:=by
  refine ⟨fun H1 M1 s rm _ i u e=>?_,fun H1 M1 s rm _=>?_⟩
  · have hi:i < z.cps.size:=by
      have:=(List.getElem?_eq_some_iff.mp e).1
      simpa [chars] using this
    refine ⟨hi,fun x H2 y=>?_⟩
    obtain ⟨rfl,c,h1,rfl⟩:=y
    have:u=.str ⟨#[c]⟩:=by
      simp only [chars,List.getElem?_map,Array.getElem?_toList,h1,Option.map_some] at e
      exact (Option.some.inj e).symm
    subst this
    exact ⟨Stp.refl _ _,rm,relU_str⟩
  · show (chars z).length=z.cps.size
    simp [chars]
def iSeq (K:PySem.W.Frag) (tl:TE):TI:=fun σ H R=>tl σ H fun x H1 =>
  (∃ a,x=.ref a∧(∃ xs,SqL K H1 a xs)∧R (Itl K a) H1)∨(∃ a,x=.ref a∧(∃ xs,SqT K H1 a xs)∧R (Itt K a) H1)∨(∃ z,x=.str z∧R (Its z) H1)
def uIter (te:UE):UI:=fun τ M R=>te τ M fun u M1=>match u with
  | .lst us=>R ⟨none,us⟩ M1
  | .tup us=>R ⟨none,us⟩ M1
  | .str z=>R ⟨none,chars z⟩ M1
  | .ref a=>match M1 a with
    | some (.lst us)=>R ⟨some a,us⟩ M1
    | _=>False
  | _=>False
theorem sim_iter {te:TE} {te':UE} (h:SimE K te te'):SimI K (iSeq K te) (uIter te'):=fun σ τ H M R' rs rm q R c=>h σ τ H M _ rs rm q _ fun u v M1 H1 s1 rm1 ru h1=>by
  cases u with
  | lst us =>
    simp only [RelU] at ru
    obtain ⟨a,vs,rfl,m,r⟩:=ru
    refine .inl ⟨a,rfl,⟨vs,?_⟩,c _ _ M1 H1 s1 rm1 (walk_list m r) h1⟩
    rcases m with ⟨_,m⟩ | k
    · exact .inl m
    · exact .inr k
  | tup us =>
    simp only [RelU] at ru
    obtain ⟨a,vs,rfl,m,r⟩:=ru
    refine .inr (.inl ⟨a,rfl,⟨vs,?_⟩,c _ _ M1 H1 s1 rm1 (walk_tup m r) h1⟩)
    exact .inl (.inl m.2)
  | str z=>exact .inr (.inr ⟨z,ru.str,c _ _ M1 H1 s1 rm1 walk_str h1⟩)
  | ref a =>
    dsimp only at h1
    split at h1
    · rename_i us e
      obtain ⟨vs,h2,r⟩:=rm1 a _ e
      exact .inl ⟨a,ru.ref,⟨vs,.inl (.inl h2)⟩,c _ _ M1 H1 s1 rm1 walk_own h1⟩
    · exact h1.elim
  | _=>exact h1.elim
def rangeU (lo:Int) (n:Nat):List U:=(List.range n).map fun (k:Nat)=>U.int (lo + (k:Int))
theorem walk_range {lo:Int} {n:Nat} {H:Hp} {M:MHp}:Walk K (Itr lo n) ⟨none,rangeU lo n⟩ H M:=by
  refine ⟨fun H1 M1 s rm _ i u e=>?_,fun H1 M1 s rm _=>?_⟩
  · have hi:i < n:=by
      have:=(List.getElem?_eq_some_iff.mp e).1
      simpa [rangeU] using this
    refine ⟨hi,fun x H2 y=>?_⟩
    obtain ⟨rfl,rfl⟩:=y
    have:u=.int (lo + i):=by
      simp only [rangeU,List.getElem?_map,List.getElem?_range hi,Option.map_some] at e
      exact (Option.some.inj e).symm
    subst this
    exact ⟨Stp.refl _ _,rm,relU_int⟩
  · show n≤(rangeU lo n).length
    simp [rangeU]
def uRng1 (ta:UA):UI:=fun τ M R=>ta τ M fun us M1=>match us with
  | [.int j]=>-(2 ^ 62)≤j∧j < 2 ^ 62∧R ⟨none,rangeU 0 j.toNat⟩ M1
  | _=>False
def uRng2 (ta:UA):UI:=fun τ M R=>ta τ M fun us M1=>match us with
  | [.int i,.int j]=>(-(2 ^ 62)≤i∧i < 2 ^ 62∧-(2 ^ 62)≤j∧j < 2 ^ 62)∧R ⟨none,rangeU i (j - i).toNat⟩ M1
  | _=>False
theorem sim_rng1 {ta:TA} {ta':UA} (h:SimA K ta ta'):SimI K (iRng1 ta) (uRng1 ta'):=fun σ τ H M R' rs rm q R c=>h σ τ H M _ rs rm q _ fun us vs M1 H1 s1 rm1 ru h1=>by
  split at h1
  · rename_i j
    obtain ⟨v,vs',rfl,a,b⟩:=ru.inv_cons
    cases b.inv_nil
    cases a.int
    exact ⟨j,rfl,h1.1,h1.2.1,c _ _ M1 H1 s1 rm1 walk_range h1.2.2⟩
  · exact h1.elim
abbrev USp:=List U→MHp→UK→Prop
def liftSp (K:PySem.W.Frag) (sp:USp):Sp:=fun vs H Q _=>∃ us M Q',RelM K H M∧RelUs K H M us vs∧sp us M Q'∧Cont K H M Q' Q
def uCall (sp:USp) (dus:List U) (t:UA):UE:=fun τ M Q=>t τ M fun us M1=>sp (us++dus) M1 Q
theorem sim_call {sp:USp} {dus:List U} {dvs:List V} {E:XK} {t:TA} {t':UA} (hd:∀ H M,RelUs K H M dus dvs) (h:SimA K t t'):SimE K (tCall (liftSp K sp) dvs E t) (uCall sp dus t'):=fun σ τ H M Q' rs rm q Q c =>
  h σ τ H M _ rs rm q _ fun us vs M1 H1 s1 rm1 ru h1=>⟨us++dus,M1,Q',rm1,ru.append (hd _ _),h1,Cont.stp c s1⟩
def Sub (M' M1:MHp):Prop:=∀ b mo,M' b=some mo→M1 b=some mo
theorem Sub.refl (M:MHp):Sub M M:=fun _ _ h=>h
theorem Sub.mup {M M1:MHp} {p:Addr} {o:MO} (h:Sub M M1) (hp:M p=none):Sub M (mup M1 p o):=fun b mo e=>by
  have:b≠p:=fun z=>by subst z;rw [hp] at e;cases e
  rw [mup_ne this];exact h b mo e
theorem Sub.less {M M1:MHp} (h:Sub M M1) {H:Hp}:Stp H M1 H M:=Stp.less fun b e=>by
  cases q:M b with
  | none=>rfl
  | some mo=>rw [h b mo q] at e;cases e
theorem RelM.sub {H:Hp} {M M1:MHp} (rm:RelM K H M1) (h:Sub M M1):RelM K H M:=fun a mo e=>(rm a mo (h a mo e)).stp (h.less) rfl
def Out (M1 M':MHp) (u u':U):Prop:=u'=u∨∃ a us,u=.ref a∧M1 a=some (.lst us)∧M' a=none∧u'=.lst us
def rtU (Q:UK):UK:=fun u M1=>∃ u' M',Sub M' M1∧Out M1 M' u u'∧Q u' M'
theorem rtU.ok {H H1:Hp} {M M1:MHp} {Q':UK} {Q:VK} {u:U} {v:V} (c:Cont K H M Q' Q) (s:Stp H M H1 M1) (rm:RelM K H1 M1) (ru:RelU K H1 M1 u v) (h:rtU Q' u M1):Q v H1:=by
  obtain ⟨u',M',sb,o,q⟩:=h
  have s':Stp H1 M1 H1 M':=sb.less
  refine c u' v M' H1 (s.trans s') (rm.sub sb) ?_ q
  rcases o with rfl | ⟨a,us,rfl,h1,h2,rfl⟩
  · exact ru.stp s'
  · obtain ⟨vs,h3,h4⟩:=rm a _ h1
    cases ru.ref
    exact relU_lst h2 h3 (h4.stp s')
def startU (N:List Str) (us:List U):SU:=us.map some++List.replicate (N.length - us.length) none
def isL (M:MHp) (x:U):Prop:=∃ us,view M x=.lst us
def uBM (r:U→List U→MHp→UK→Prop) (to:UE) (t:UA):UE:=fun τ M Q=>to τ M fun x M1=>isL M1 x∧t τ M1 fun xs M2=>r x xs M2 Q
def uBM0 (r:U→List U→MHp→UK→Prop) (to:UE):UE:=fun τ M Q=>to τ M fun x M1=>isL M1 x∧r x [] M1 Q
theorem isL.ty {H:Hp} {M:MHp} {u:U} {v:V} (rm:RelM K H M) (ru:RelU K H M u v) (h:isL M u):tyV K "list" v H:=by
  obtain ⟨us,h⟩:=h
  obtain ⟨a,vs,rfl,s,_⟩:=view_lst rm ru h
  exact .inl ⟨rfl,vs,s⟩
theorem sim_bm {r:V→List V→Hp→VK→Prop} {r':U→List U→MHp→UK→Prop} {to:TE} {to':UE} {t:TA} {t':UA} (hr:SimMt K r r') (ho:SimE K to to') (h:SimA K t t') :
    SimE K (tBM K "list" r to t) (uBM r' to' t'):=fun σ τ H M Q' rs rm q Q c =>
  ho σ τ H M _ rs rm q _ fun u v M1 H1 s1 rm1 ru h1=>⟨h1.1.ty rm1 ru,h σ τ H1 M1 _ (rs.stp s1) rm1 h1.2 _ fun us vs M2 H2 s2 rm2 rus h2=>hr v vs u us H2 M2 Q' rm2 (ru.stp s2) rus h2 Q (Cont.stp c (s1.trans s2))⟩
theorem sim_bm0 {r:V→List V→Hp→VK→Prop} {r':U→List U→MHp→UK→Prop} {to:TE} {to':UE} (hr:SimMt K r r') (ho:SimE K to to') :
    SimE K (tBM0 K "list" r to) (uBM0 r' to'):=fun σ τ H M Q' rs rm q Q c =>
  ho σ τ H M _ rs rm q _ fun u v M1 H1 s1 rm1 ru h1=>⟨h1.1.ty rm1 ru,hr v [] u [] H1 M1 Q' rm1 ru .nil h1.2 Q (Cont.stp c s1)⟩
theorem Cont.write {H:Hp} {M:MHp} {Q':UK} {Q:VK} {a:Addr} {us us':List U} {xs':List V} {r:U} {v:V} (c:Cont K H M Q' Q) (rm:RelM K H M) (e:M a=some (.lst us)) (r1:RelUs K H M us' xs') (r2:RelU K H M r v) (q:Q' r (mup M a (.lst us'))):Q v (upd H a (.lst xs')):=by
  have st:Stp H M (upd H a (.lst xs')) (mup M a (.lst us')):=Stp.write e
  exact c _ _ _ _ st (rm.put st ⟨xs',upd_same,r1.stp st⟩) (r2.stp st) q
def mAppend:U→List U→MHp→UK→Prop:=fun x ws M Q=>match x,ws with
  | .ref a,[w]=>match M a with
    | some (.lst us)=>us.length < sizeLine∧Q .non (mup M a (.lst (us++[w])))
    | _=>False
  | _,_=>False
theorem sim_append:SimMt K rAppend mAppend:=fun x xs u us H M Q' rm ru rus h Q c=>by
  unfold mAppend at h
  split at h
  · rename_i a w
    split at h
    · rename_i ws e
      obtain ⟨vs,h1,r⟩:=rm a _ e
      obtain ⟨v,vs',rfl,a1,b⟩:=rus.inv_cons
      cases b.inv_nil
      cases ru.ref
      exact ⟨a,vs,v,rfl,rfl,h1,by rw [← r.length];exact h.1,c.write rm e (r.append (.cons a1 .nil)) relU_non h.2⟩
    · exact h.elim
  · exact h.elim
def mPop:U→List U→MHp→UK→Prop:=fun x ws M Q=>match x,ws with
  | .ref a,[]=>match M a with
    | some (.lst us)=>match us.getLast? with
      | some w=>Q w (mup M a (.lst us.dropLast))
      | none=>False
    | _=>False
  | _,_=>False
theorem sim_pop:SimMt K rPop mPop:=fun x xs u us H M Q' rm ru rus h Q c=>by
  unfold mPop at h
  split at h
  · rename_i a
    split at h
    · rename_i ws e
      split at h
      · rename_i w e2
        obtain ⟨vs,h1,r⟩:=rm a _ e
        cases rus.inv_nil
        cases ru.ref
        rw [List.getLast?_eq_getElem?] at e2
        obtain ⟨v,h3,h4⟩:=r.get e2
        exact ⟨a,vs,v,rfl,rfl,h1,by rw [← r.length];exact h3,c.write rm e r.dropLast h4 h⟩
      · exact h.elim
    · exact h.elim
  · exact h.elim
def rExtendL (K:PySem.W.Frag):V→List V→Hp→VK→Prop:=fun x vs H Q=>∃ l b xs zs,x=.ref l∧vs=[.ref b]∧H l=some (.lst xs)∧SqL K H b zs∧xs.length + zs.length≤sizeLine∧Q .non (upd H l (.lst (xs++zs)))
def mExtend:U→List U→MHp→UK→Prop:=fun x ws M Q=>match x,ws with
  | .ref a,[w]=>match M a,view M w with
    | some (.lst us),.lst zs=>us.length + zs.length≤sizeLine∧Q .non (mup M a (.lst (us++zs)))
    | _,_=>False
  | _,_=>False
theorem sim_extend:SimMt K (rExtendL K) mExtend:=fun x xs u us H M Q' rm ru rus h Q c=>by
  unfold mExtend at h
  split at h
  · rename_i a w
    split at h
    · rename_i ws zs e e2
      obtain ⟨vs,h1,r⟩:=rm a _ e
      obtain ⟨v,vs',rfl,a1,b⟩:=rus.inv_cons
      cases b.inv_nil
      cases ru.ref
      obtain ⟨b,zvs,rfl,s2,r2⟩:=view_lst rm a1 e2
      exact ⟨a,b,vs,zvs,rfl,rfl,h1,s2,by rw [← r.length,← r2.length];exact h.1,c.write rm e (r.append r2) relU_non h.2⟩
    · exact h.elim
  · exact h.elim
def mClear:U→List U→MHp→UK→Prop:=fun x ws M Q=>match x,ws with
  | .ref a,[]=>match M a with
    | some (.lst us)=>Q .non (mup M a (.lst []))
    | _=>False
  | _,_=>False
def bLen:List U→MHp→UK→Prop:=fun us M Q=>match us with
  | [x]=>match view M x with
    | .lst ws=>Q (.int ws.length) M
    | .tup ws=>Q (.int ws.length) M
    | .str z=>z.length≤sizeLine∧Q (.int z.length) M
    | _=>False
  | _=>False
theorem sim_len:SimCl K (fun xs H Q=>∃ x n,xs=[x]∧LenV K x H n∧Q (.int n) H) bLen:=fun xs us H M Q' rm rus h Q c=>by
  unfold bLen at h
  split at h
  · rename_i x
    obtain ⟨v,vs',rfl,a1,b⟩:=rus.inv_cons
    cases b.inv_nil
    split at h
    · rename_i ws e
      obtain ⟨b,zvs,rfl,s2,r2⟩:=view_lst rm a1 e
      exact ⟨_,zvs.length,rfl,.inl ⟨zvs,s2,rfl⟩,c.here rm relU_int (by rw [← r2.length];exact h)⟩
    · rename_i ws e
      have e':=view_tup e
      subst e'
      obtain ⟨b,zvs,rfl,s2,r2⟩:=a1.tup
      exact ⟨_,zvs.length,rfl,.inr ⟨zvs,s2,rfl⟩,c.here rm relU_int (by rw [← r2.length];exact h)⟩
    · rename_i z e
      have e':=view_str e
      subst e'
      cases a1.str
      exact ⟨_,z.length,rfl,⟨h.1,rfl⟩,c.here rm relU_int h.2⟩
    · exact h.elim
  · exact h.elim
def bInt1 (C:Int→Prop) (g:Int→U):List U→MHp→UK→Prop:=fun us M Q=>match us with
  | [.int i]=>C i∧Q (g i) M
  | _=>False
def bInt2 (g:Int→Int→U):List U→MHp→UK→Prop:=fun us M Q=>match us with
  | [.int i,.int j]=>Q (g i j) M
  | _=>False
theorem RelUs.one {H:Hp} {M:MHp} {u:U} {vs:List V} (h:RelUs K H M [u] vs):∃ v,vs=[v]∧RelU K H M u v:=by
  obtain ⟨v,vs',rfl,a1,b⟩:=h.inv_cons
  cases b.inv_nil
  exact ⟨v,rfl,a1⟩
def bList (o:Bool):List U→MHp→UK→Prop:=fun us M Q=>match us with
  | [x]=>match view M x with
    | .lst ws=>mkL o ws M Q
    | .tup ws=>mkL o ws M Q
    | _=>False
  | _=>False
def bTuple:List U→MHp→UK→Prop:=fun us M Q=>match us with
  | [x]=>match view M x with
    | .lst ws=>Q (.tup ws) M
    | .tup ws=>Q (.tup ws) M
    | _=>False
  | _=>False
theorem sim_list {o:Bool}:SimCl K (fun xs H Q=>∃ p ys,xs=[.ref p]∧(SqL K H p ys∨SqT K H p ys)∧∀ l,H l=none→Q (.ref l) (upd H l (.lst ys))) (bList o):=fun xs us H M Q' rm rus h Q c=>by
  unfold bList at h
  split at h
  · rename_i x
    obtain ⟨v,rfl,a1⟩:=rus.one
    split at h
    · rename_i ws e
      obtain ⟨b,zvs,rfl,s2,r2⟩:=view_lst rm a1 e
      exact ⟨b,zvs,rfl,.inl s2,fun l hl=>c.lst rm r2 hl h⟩
    · rename_i ws e
      have e':=view_tup e
      subst e'
      obtain ⟨b,zvs,rfl,s2,r2⟩:=a1.tup
      exact ⟨b,zvs,rfl,.inr s2,fun l hl=>c.lst rm r2 hl h⟩
    · exact h.elim
  · exact h.elim
theorem sim_tuple:SimCl K (fun xs H Q=>∃ p ys,xs=[.ref p]∧((SqL K H p ys∧∀ l,H l=none→Q (.ref l) (upd H l (.tup ys)))∨(SqT K H p ys∧Q (.ref p) H))) bTuple:=fun xs us H M Q' rm rus h Q c=>by
  unfold bTuple at h
  split at h
  · rename_i x
    obtain ⟨v,rfl,a1⟩:=rus.one
    split at h
    · rename_i ws e
      obtain ⟨b,zvs,rfl,s2,r2⟩:=view_lst rm a1 e
      exact ⟨b,zvs,rfl,.inl ⟨s2,fun l hl=>c.tup rm r2 hl h⟩⟩
    · rename_i ws e
      have e':=view_tup e
      subst e'
      have a2:=a1
      obtain ⟨b,zvs,rfl,s2,r2⟩:=a1.tup
      exact ⟨b,zvs,rfl,.inr ⟨s2,c.here rm a2 h⟩⟩
    · exact h.elim
  · exact h.elim
def typU (M:MHp) (x:U):Option String:=match x with
  | .non=>some "NoneType"
  | .bl _=>some "bool"
  | .int _=>some "int"
  | .str _=>some "str"
  | .tup _=>some "tuple"
  | .lst _=>some "list"
  | .ref a=>match M a with
    | some (.lst _)=>some "list"
    | some _=>some "dict"
    | none=>none
  | .dic _ _ _=>some "dict"
  | .ty _=>none
def eqS:U→U→Option Bool
  | .non,.non=>some true
  | .non,.int _=>some false | .int _,.non=>some false | .non,.bl _=>some false | .bl _,.non=>some false | .non,.str _=>some false | .str _,.non=>some false
  | .int i,.int j=>some (decide (i=j))
  | .bl i,.bl j=>some (decide (i=j))
  | .str i,.str j=>some (decide (i=j))
  | .int _,.str _=>some false | .str _,.int _=>some false | .bl _,.str _=>some false | .str _,.bl _=>some false
  | _,_=>none
def uEqS:UR2:=fun x y M Q=>match eqS x y with
  | some b=>Q (.bl b) M
  | none=>False
def uNeS:UR2:=fun x y M Q=>match eqS x y with
  | some b=>Q (.bl (!b)) M
  | none=>False
theorem eqS_rel {H:Hp} {M:MHp} {x y:V} {u w:U} {b:Bool} (ru:RelU K H M u x) (rw:RelU K H M w y) (h:eqS u w=some b):scal x y=true∧decide (x=y)=b:=by
  cases u <;> cases w <;> simp only [eqS,Option.some.injEq,reduceCtorEq] at h <;> subst h <;>
    (first
      | (cases ru.non) | (cases ru.bl) | (cases ru.int) | (cases ru.str)) <;>
    (first
      | (cases rw.non) | (cases rw.bl) | (cases rw.int) | (cases rw.str)) <;> simp [scal]
def isNon:U→Bool
  | .non=>true
  | _=>false
def uIsN:UR2:=fun x y M Q=>match y with
  | .non=>Q (.bl (isNon x)) M
  | _=>False
def uNotN:UR2:=fun x y M Q=>match y with
  | .non=>Q (.bl (!isNon x)) M
  | _=>False
theorem isN_rel {H:Hp} {M:MHp} {x:V} {u:U} (ru:RelU K H M u x):decide (x=.non)=isNon u:=by
  cases u with
  | non=>cases ru.non;simp [isNon]
  | bl b=>cases ru.bl;simp [isNon]
  | int b=>cases ru.int;simp [isNon]
  | str b=>cases ru.str;simp [isNon]
  | ty b=>cases ru.ty;simp [isNon]
  | ref b=>cases ru.ref;simp [isNon]
  | tup b=>obtain ⟨a,vs,rfl,_⟩:=ru.tup;simp [isNon]
  | lst b=>obtain ⟨a,vs,rfl,_⟩:=ru.lst;simp [isNon]
  | dic ks tk us=>simp only [RelU] at ru;obtain ⟨a,vs,rfl,_⟩:=ru;simp [isNon]
theorem sim_isN:SimR2 K (fun x y H Q=>y=.non∧Q (.bl (decide (x=.non))) H) uIsN:=fun x y u w H M Q' rm ru rw h Q c=>by
  unfold uIsN at h
  split at h
  · exact ⟨rw.non,c.here rm (by rw [isN_rel ru];exact relU_bl) h⟩
  · exact h.elim
theorem sim_notN:SimR2 K (fun x y H Q=>y=.non∧Q (.bl (!decide (x=.non))) H) uNotN:=fun x y u w H M Q' rm ru rw h Q c=>by
  unfold uNotN at h
  split at h
  · exact ⟨rw.non,c.here rm (by rw [isN_rel ru];exact relU_bl) h⟩
  · exact h.elim
end
end U2
namespace U2
open PySem L2
def capt {α:Type} (k:Nat) (ix:List Nat) (σ:List (Option α)):List (Option α):=List.replicate k none++ix.map fun i=>(σ[i]?).getD none
def tComp (k:Nat) (ix:List Nat) (wi:TI) (g:TG) (tc:TT) (te:TE):TE:=fun σ H Q=>wi σ H fun J H1=>∀ D,H1 D=none→∃ W:Nat→Nat→Hp→Prop,(∃ m,W 0 m (upd H1 D (.lst [])))∧∀ i m H,W i m H →
  (J.stop i H∧Q (.ref D) H)∨(J.go i H∧∀ x H',J.yld i H x H'→g x (capt k ix σ) H' fun σ2 H2=>tc σ2 H2 fun ok H3 =>
    if ok=true then te σ2 H3 fun y H4=>∃ ys,H4 D=some (.lst ys)∧ys.length < sizeLine∧∃ m',m' < m∧W (i + 1) m' (upd H4 D (.lst (ys++[y]))) else ∃ m',m' < m∧W (i + 1) m' H3)
def endC (o:Bool) (Q:UK) (D:Addr) (ys:List U) (M:MHp):Prop:=match o with
  | true=>Q (.ref D) M
  | false=>∃ M',Sub M' M∧M' D=none∧Q (.lst ys) M'
def uComp (o:Bool) (k:Nat) (ix:List Nat) (wi:UI) (g:UG) (tc:UT) (te:UE):UE:=fun τ M Q=>wi τ M fun S M1=>S.xs.length≤sizeLine∧∀ D,M1 D=none→∃ P:Nat→List U→MHp→Prop,P 0 [] (mup M1 D (.lst [])) ∧
  (∀ i ys M,P i ys M→S.ok M∧M D=some (.lst ys)∧ys.length≤i) ∧
  (∀ i x ys M,S.xs[i]?=some x→P i ys M→g x (capt k ix τ) M fun τ2 M2=>tc τ2 M2 fun ok M3=>if ok=true then te τ2 M3 fun y M4=>M4 D=some (.lst ys)∧P (i + 1) (ys++[y]) (mup M4 D (.lst (ys++[y]))) else P (i + 1) ys M3) ∧
  ∀ ys M,P S.xs.length ys M→endC o Q D ys M
section
variable {K:PySem.W.Frag}
theorem capt_rel {H:Hp} {M:MHp} {σ:St} {τ:SU} (k:Nat) (ix:List Nat) (r:RelS K H M σ τ):RelS K H M (capt k ix σ) (capt k ix τ):=by
  refine ⟨by simp [capt],fun i u e=>?_⟩
  unfold capt at e ⊢
  by_cases hi:i < k
  · rw [List.getElem?_append_left (by simpa using hi),List.getElem?_replicate] at e
    split at e <;> cases e
  · rw [List.getElem?_append_right (by simpa using Nat.le_of_not_lt hi),List.getElem?_map] at e ⊢
    simp only [List.length_replicate] at e ⊢
    cases q:ix[i - k]? with
    | none=>rw [q] at e;cases e
    | some j =>
      rw [q] at e
      simp only [Option.map_some,Option.some.injEq] at e ⊢
      cases z:τ[j]? with
      | none=>rw [z] at e;cases e
      | some w =>
        rw [z] at e
        simp only [Option.getD_some] at e
        subst e
        obtain ⟨v,h1,h2⟩:=r.2 j u z
        exact ⟨v,by rw [h1];rfl,h2⟩
theorem sim_comp {o:Bool} {k:Nat} {ix:List Nat} {wi:TI} {wi':UI} {g:TG} {g':UG} {tc:TT} {tc':UT} {te:TE} {te':UE} (hi:SimI K wi wi') (hg:SimG K g g') (hc:SimT K tc tc') (he:SimE K te te') :
    SimE K (tComp k ix wi g tc te) (uComp o k ix wi' g' tc' te'):=fun σ τ H M Q' rs rm h Q c=>by
  refine hi σ τ H M _ rs rm h _ fun J S M1 H1 s1 rm1 w h=>?_
  obtain ⟨hz,h⟩:=h
  intro D hD
  obtain ⟨P,p0,inv,turn,fin⟩:=h D (rm1.no hD)
  have sD:Stp H1 M1 (upd H1 D (.lst [])) (mup M1 D (.lst [])):=Stp.own rm1 hD
  have rmD:RelM K (upd H1 D (.lst [])) (mup M1 D (.lst [])):=rm1.put sD ⟨[],upd_same,.nil⟩
  refine ⟨fun i m H2=>∃ M2 ys,Stp H1 M1 H2 M2∧RelM K H2 M2∧P i ys M2∧i≤S.xs.length∧m=S.xs.length - i,⟨_,_,[],sD,rmD,p0,Nat.zero_le _,rfl⟩,?_⟩
  rintro i m H2 ⟨M2,ys,s2,rm2,p2,hle,rfl⟩
  obtain ⟨ok2,d2,l2⟩:=inv i ys M2 p2
  by_cases hlt:i < S.xs.length
  · obtain ⟨go,yl⟩:=w.step H2 M2 s2 rm2 ok2 i S.xs[i] (by simp [hlt])
    refine .inr ⟨go,fun x H3 y=>?_⟩
    obtain ⟨s3,rm3,ru⟩:=yl x H3 y
    have rs3:RelS K H3 M2 (capt k ix σ) (capt k ix τ):=capt_rel k ix (((rs.stp s1).stp s2).stp s3)
    refine hg _ x _ _ H3 M2 _ ru rs3 rm3 (turn i S.xs[i] ys M2 (by simp [hlt]) p2) _ fun σ4 τ4 H4 M4 s4 rm4 rs4 q4=>?_
    refine hc σ4 τ4 H4 M4 _ rs4 rm4 q4 _ fun b M5 H5 s5 rm5 q5=>?_
    have s25:Stp H1 M1 H5 M5:=((s2.trans s3).trans s4).trans s5
    cases b with
    | false =>
      exact ⟨S.xs.length - (i + 1),by omega,M5,ys,s25,rm5,q5,hlt,rfl⟩
    | true =>
      refine he σ4 τ4 H5 M5 _ (rs4.stp s5) rm5 q5 _ fun u v M6 H6 s6 rm6 ru6 q6=>?_
      obtain ⟨d6,p6⟩:=q6
      obtain ⟨vs,h6,r6⟩:=rm6 D _ d6
      have l6:vs.length < sizeLine:=by rw [← r6.length];omega
      have s7:Stp H6 M6 (upd H6 D (.lst (vs++[v]))) (mup M6 D (.lst (ys++[u]))):=Stp.write d6
      exact ⟨vs,h6,l6,S.xs.length - (i + 1),by omega,_,ys++[u],(s25.trans s6).trans s7,rm6.put s7 ⟨_,upd_same,(r6.append (.cons ru6 .nil)).stp s7⟩,p6,hlt,rfl⟩
  · have e:i=S.xs.length:=by omega
    subst e
    refine .inl ⟨w.stop H2 M2 s2 rm2 ok2,?_⟩
    have q:=fin ys M2 p2
    cases o with
    | true=>exact c _ _ M2 H2 (s1.trans s2) rm2 relU_ref q
    | false =>
      obtain ⟨M',sb,n,q⟩:=q
      obtain ⟨vs,h6,r6⟩:=rm2 D _ d2
      have s':Stp H2 M2 H2 M':=sb.less
      exact c _ _ M' H2 ((s1.trans s2).trans s') (rm2.sub sb) (relU_lst n h6 (r6.stp s')) q
end
theorem comp_pure {o:Bool} {k:Nat} {ix:List Nat} {wi:UI} {g:UG} {tc:UT} {te:UE} {τ:SU} {M1:MHp} {Q:UK} {S:Src} (f:U→Option U) (hz:S.xs.length≤sizeLine) (hs:S.ok M1)
    (h:∀ x∈S.xs,∀ M,Sub M1 M→∀ R:Option U→MHp→Prop,R (f x) M→g x (capt k ix τ) M fun τ2 M2=>tc τ2 M2 fun ok M3=>if ok=true then te τ2 M3 fun y M4=>R (some y) M4 else R none M3)
    (q:mkL o (S.xs.filterMap f) M1 Q):S.xs.length≤sizeLine∧∀ D,M1 D=none→∃ P:Nat→List U→MHp→Prop,P 0 [] (mup M1 D (.lst [])) ∧
  (∀ i ys M,P i ys M→S.ok M∧M D=some (.lst ys)∧ys.length≤i) ∧
  (∀ i x ys M,S.xs[i]?=some x→P i ys M→g x (capt k ix τ) M fun τ2 M2=>tc τ2 M2 fun ok M3=>if ok=true then te τ2 M3 fun y M4=>M4 D=some (.lst ys)∧P (i + 1) (ys++[y]) (mup M4 D (.lst (ys++[y]))) else P (i + 1) ys M3) ∧
  ∀ ys M,P S.xs.length ys M→endC o Q D ys M:=by
  refine ⟨hz,fun D hD=>⟨fun i ys M=>ys=(S.xs.take i).filterMap f∧M=mup M1 D (.lst ys)∧i≤S.xs.length,⟨by simp,rfl,Nat.zero_le _⟩,?_,?_,?_⟩⟩
  · rintro i ys M ⟨rfl,rfl,hi⟩
    refine ⟨fun a e=>?_,mup_same,?_⟩
    · have:=hs a e
      rw [mup_ne (fun z=>by subst z;rw [hD] at this;cases this)]
      exact this
    · refine Nat.le_trans (List.length_filterMap_le _ _) ?_
      rw [List.length_take];omega
  · rintro i x ys M e ⟨rfl,rfl,hi⟩
    have hlt:i < S.xs.length:=(List.getElem?_eq_some_iff.mp e).1
    have hx:x∈S.xs:=List.mem_of_getElem? e
    have tk:(S.xs.take (i + 1)).filterMap f=(S.xs.take i).filterMap f++(f x).toList:=by
      rw [List.take_add_one,e,List.filterMap_append]
      cases q:f x <;> simp [q]
    refine h x hx (mup M1 D (.lst ((S.xs.take i).filterMap f))) ((Sub.refl M1).mup hD) (fun r M4=>match r with
      | some y=>M4 D=some (.lst ((S.xs.take i).filterMap f))∧((S.xs.take i).filterMap f++[y]=(S.xs.take (i + 1)).filterMap f∧mup M4 D (.lst ((S.xs.take i).filterMap f++[y]))=mup M1 D (.lst ((S.xs.take i).filterMap f++[y]))∧i + 1≤S.xs.length)
      | none=>(S.xs.take i).filterMap f=(S.xs.take (i + 1)).filterMap f∧M4=mup M1 D (.lst ((S.xs.take i).filterMap f))∧i + 1≤S.xs.length) ?_
    rw [tk]
    cases f x with
    | none=>exact ⟨by simp,rfl,hlt⟩
    | some y=>exact ⟨mup_same,rfl,mup_mup,hlt⟩
  · rintro ys M ⟨rfl,rfl,hi⟩
    rw [List.take_length]
    cases o with
    | true=>exact q D hD
    | false=>exact ⟨M1,(Sub.refl M1).mup hD,hD,q⟩
end U2
namespace U2
open PySem PySem.Spec PyProof.Rows L2
theorem turn_str {P:Program} {w:World} {K:PySem.W.Frag} {tg:Expr} {ty:String} (z:Str) (t:Tok) (it:Addr)
    (W:∀ A':Around,A'.handled=none→Walks P w A' it [it] [it] z.cps.size (SignAt z) (fun i h=>h.IsStrIter it ty z t i))
    (hty:["enumerate","zip","dict_itemiterator","dict_reverseitemiterator","odict_iterator","itertools.zip_longest","itertools.pairwise"].contains ty=false)
    (self:∀ (A:Around) (i:Nat) (s:Shared) (Q:Value→Shared→Prop) (E:Value→Shared→Prop),s.heap.IsStrIter it ty z t i→Q (.ref it) s→wpAny (model P w) A (pyIter (.ref it)) Q E s) :
    Turn P w K tg (Its z) [it] it (fun i h=>h.IsStrIter it ty z t i) where
  mem:=by simp
  obj:=fun i h st b hb=>by
    have e:b=it:=by simpa using hb
    subst e
    obtain ⟨o,e,c,d⟩:=st
    exact ⟨o,e,fun v z=>by rw [d] at z;cases z⟩
  keep:=fun i h h' st k=>let ⟨o,ho,r⟩:=st;⟨o,k it (by simp) o ho,r⟩
  item:=by
    intro X hP hw hK hc i pins s σ H E I hf st hg
    subst hP hw hK
    obtain ⟨f0,f1,f2,f3,f4,f5⟩:=hf it (by simp)
    refine (W X.A (I.ok.hd hc)).item i s _ E hg st fun v h' tk hv st' k=>?_
    obtain ⟨c,u,hc',rfl⟩:=hv
    have I1:Inv X pins σ H { s with heap:=h',toks:=tk }:=I.turned (t':=tk) (fun b o hb e=>k b o (by simpa using hb) e) f0 f1 f3 f4 f5
    obtain ⟨o,e,cl,d⟩:=id st'
    exact ⟨_,rfl,go_of (s:={ s with heap:=h',toks:=tk }) e cl d hty ⟨.str ⟨#[c]⟩,H,I1,⟨_,rfl⟩,⟨rfl,c,hc',rfl⟩,st',fun b hb=>(hf b hb).1⟩⟩
  done:=by
    intro X hP hw hK hc i pins s σ H E I hf st hg
    subst hP hw hK
    have hg':i=z.cps.size:=hg
    subst hg'
    obtain ⟨f0,f1,f2,f3,f4,f5⟩:=hf it (by simp)
    exact (W X.A (I.ok.hd hc)).done s _ E st fun h' tk k=>⟨rfl,I.turned (t':=tk) (fun b o hb e=>k b o (by simpa using hb) e) f0 f1 f3 f4 f5⟩
  self:=self
section
variable {X:Cx} {tg:Expr}
theorem pi_seq {l:Expr} {tl:TE} (hl:PE X l tl):PI X tg l (iSeq X.K tl):=by
  intro pins s σ H R I h
  refine thn (hl pins s σ H _ I h) fun v s1 ⟨x,H1,I1,r1,q1⟩=>?_
  have fp:∀ b∈[s1.heap.objs.size],FpOk X pins H1 b:=fun b hb=>by
    have e:b=s1.heap.objs.size:=by simpa using hb
    subst e
    exact I1.fpOk (Nat.le_refl _) (I1.hok.fresh (Nat.le_refl _))
  rcases q1 with ⟨a,rfl,⟨xs,hq⟩,q⟩ | ⟨a,rfl,⟨xs,hq⟩,q⟩ | ⟨z,rfl,q⟩
  · cases r1
    obtain ⟨its,rv,p,hz⟩:=I1.list hq
    refine wpAny_pyIter_list p.isList ?_
    exact ⟨s1.heap.objs.size,[s1.heap.objs.size],_,_,H1,rfl,I1.kept (t':=s1.toks) fun b o e=>Heap.get?_push_of_some _ e,turn_list a _,⟨_,Heap.get?_push_size _ rfl,rfl,rfl⟩,fp,q⟩
  · cases r1
    obtain ⟨its,rv,p,hz⟩:=I1.tuple hq
    refine wpAny_pyIter_tuple (show s1.heap.IsTuple a its.toArray from p) ?_
    exact ⟨s1.heap.objs.size,[s1.heap.objs.size],_,_,H1,rfl,I1.kept (t':=s1.toks) fun b o e=>Heap.get?_push_of_some _ e,turn_tuple a _,⟨_,Heap.get?_push_size _ rfl,rfl,rfl⟩,fp,q⟩
  · obtain ⟨t,rfl⟩:=r1
    cases ha:z.cps.all (· < 128)
    · refine wpAny_pyIter_wide ha ?_
      exact ⟨s1.heap.objs.size,[s1.heap.objs.size],_,_,H1,rfl,I1.kept (t':=s1.toks) fun b o e=>Heap.get?_push_of_some _ e,
        turn_str z t _ (fun A' hA=>Walks.strWide hA _ z t) (by decide) (fun A i s Q E st h=>wpAny_pyIter_striter_wide st h),⟨_,Heap.get?_push_size _ rfl,rfl,rfl⟩,fp,q⟩
    · refine wpAny_pyIter_ascii ha ?_
      exact ⟨s1.heap.objs.size,[s1.heap.objs.size],_,_,H1,rfl,I1.kept (t':=s1.toks) fun b o e=>Heap.get?_push_of_some _ e,
        turn_str z t _ (fun A' hA=>Walks.strAscii hA _ z t) (by decide) (fun A i s Q E st h=>wpAny_pyIter_striter_ascii st h),⟨_,Heap.get?_push_size _ rfl,rfl,rfl⟩,fp,q⟩
end
section
variable {prog:Program} {w:World} {A:Around} {R:Result→Shared→Prop} {s:Shared}
theorem compLoop_tg {elt target iter:Expr} {ifs:List Expr} {scope:Scope} {pos:Pos} {it acc:Value} {env:Env} (I:Nat→Shared→Prop)
    (turn:∀ n s,I n s→wpAny (model prog w) A (pyNext it) (fun r s₁=>match r with
      | none=>R (.ok .next) s₁
      | some v=>wpAny (model prog w) A (letOwnedTupleGo target it v) (fun _ s₀=>wpAny (model prog w) A (assign target env v) (fun _ s₂ =>
          wpAny (model prog w) A (forIn ifs true fun c r=>if r=true then do let ok ← isTrue c env (eval c env);pure (ForInStep.yield ok) else pure (ForInStep.yield r)) (fun ok s₃ =>
            if ok=true then wpAny (model prog w) A (eval elt env) (fun x s₄ =>
              wpAny (model prog w) A (call (.builtin "list.append") [acc,x]) (fun _ s₅=>∃ m,m < n∧I m s₅) (fun _ _=>False) s₄) (fun _ _=>False) s₃
            else ∃ m,m < n∧I m s₃) (fun _ _=>False) s₂) (fun _ _=>False) s₀) (fun _ _=>False) s₁) (fun _ _=>False) s)
    (n:Nat) (h:I n s) :
    codeAny (model prog w) A (.compLoop (.ListComp elt [⟨target,iter,ifs,0⟩] scope pos) 0 it acc env) R s:=by
  refine codeAny_loop rfl I (fun n s hI=>?_) n h
  show wpAny _ A ((compTurn (.ListComp elt [⟨target,iter,ifs,0⟩] scope pos) 0 it acc env).onRaise (fun x=>do noteFrame x env;theTreesLotGoes x)) _ _ s
  refine wpAny_noted ?_
  rw [compTurn_list]
  refine wpAny_bind (wpAny_standAt (wpAny_bind (wpAny_mono (turn n s hI) (fun r s₁ h₁=>?_) fun _ _ h'=>h'.elim)))
  cases r with
  | none=>exact wpAny_pure h₁
  | some v =>
    refine wpAny_bind (wpAny_mono h₁ (fun _ s₀ h₀=>?_) fun _ _ h'=>h'.elim)
    refine wpAny_bind (wpAny_mono h₀ (fun _ s₂ h₂=>wpAny_bind (wpAny_mono h₂ (fun ok s₃ h₃=>?_) fun _ _ h'=>h'.elim)) fun _ _ h'=>h'.elim)
    cases ok with
    | false=>exact wpAny_pure ⟨rfl,h₃⟩
    | true =>
      exact wpAny_bind (wpAny_bind (wpAny_mono h₃ (fun x s₄ h₄=>wpAny_bind (wpAny_mono h₄ (fun _ s₅ h₅=>wpAny_pure (wpAny_pure ⟨rfl,h₅⟩)) fun _ _ h'=>h'.elim)) fun _ _ h'=>h'.elim))
theorem closure_go {env:Env}:∀ (names:List (Str × NameKind)) (cs:List (Str × Addr)),(∀ x∈names,x.2=.free→∃ c,env.cells.lookup x.1=some c) →
    (∀ x c,cs.lookup x=some c→env.cells.lookup x=some c) →
    ∃ cl,(forIn names cs fun (x:Str × NameKind) (cs:List (Str × Addr))=>(if (x.2 == NameKind.free)=true then do let c ← cellOf env x.1;pure (ForInStep.yield ((x.1,c) :: cs)) else pure (ForInStep.yield cs):Sem (ForInStep (List (Str × Addr)))))=pure cl ∧
      (∀ x c,cl.lookup x=some c→env.cells.lookup x=some c)∧(∀ x,(∃ c,cs.lookup x=some c)∨(x,NameKind.free)∈names→∃ c,cl.lookup x=some c)
  | [],cs,_,h=>⟨cs,rfl,h,fun x hx=>by rcases hx with hx | hx;exact hx;cases hx⟩
  | (n,k) :: r,cs,hf,h=>by
    rw [List.forIn_cons]
    by_cases hk:k=.free
    · subst hk
      obtain ⟨c,hc⟩:=hf (n,.free) List.mem_cons_self rfl
      have e:cellOf env n=pure c:=by unfold cellOf;rw [hc]
      simp only [beq_self_eq_true,if_true,e,pure_bind]
      obtain ⟨cl,h1,h2,h3⟩:=closure_go r ((n,c) :: cs) (fun x hx=>hf x (List.mem_cons_of_mem _ hx)) (fun x d q=>by
        rw [List.lookup_cons] at q
        split at q
        · rename_i e;cases q;rw [beq_iff_eq.mp e];exact hc
        · exact h x d q)
      refine ⟨cl,h1,h2,fun x hx=>h3 x ?_⟩
      rcases hx with ⟨d,hd⟩ | hx
      · left
        rw [List.lookup_cons]
        split
        · exact ⟨_,rfl⟩
        · exact ⟨d,hd⟩
      · rcases List.mem_cons.mp hx with e | hx
        · left;cases e;exact ⟨c,by simp [List.lookup_cons]⟩
        · exact .inr hx
    · have hb:(k == NameKind.free)=false:=by simpa using hk
      simp only [hb,Bool.false_eq_true,if_false,pure_bind]
      obtain ⟨cl,h1,h2,h3⟩:=closure_go r cs (fun x hx=>hf x (List.mem_cons_of_mem _ hx)) h
      refine ⟨cl,h1,h2,fun x hx=>h3 x ?_⟩
      rcases hx with hx | hx
      · exact .inl hx
      · rcases List.mem_cons.mp hx with e | hx
        · cases e;exact absurd rfl hk
        · exact .inr hx
theorem closure_of {env:Env} {scope:Scope} (hf:∀ x∈scope.names,x.2=.free→∃ c,env.cells.lookup x.1=some c) :
    ∃ cl,closureFor scope env=pure cl∧(∀ x c,cl.lookup x=some c→env.cells.lookup x=some c)∧(∀ x,(x,NameKind.free)∈scope.names→∃ c,cl.lookup x=some c):=by
  obtain ⟨cl,h1,h2,h3⟩:=closure_go (env:=env) scope.names [] hf (fun x c h=>by cases h)
  refine ⟨cl,?_,h2,fun x hx=>h3 x (.inr hx)⟩
  unfold closureFor
  first
    | exact h1
    | (have:_:=h1;simpa using this)
end
def compCx (X:Cx) (N:List Str) (scope:Scope) (cl:List (Str × Addr)) (C:Addr) (s:Shared) (H:Hp) (fp:List Addr):Cx where
  prog:=X.prog
  w:=X.w
  K:=X.K
  mg:=X.mg
  base:=X.base
  A:=X.A
  N:=N
  s₀:=s
  H₀:=H
  env:=compEnvC scope cl C X.env
  outer:=X.stack
  stack:=X.stack
  ex:=fp
  fn:=fun _=>false
  calm:=X.calm
  pn:=[]
  xe:=fun _ _=>False
def PIf (X:Cx) (ifs:List Expr) (t:TT):Prop :=
  ∀ (pins:List (Addr × Obj)) (s:Shared) (σ:L2.St) (H:Hp) (Q:Bool→Hp→Prop),Inv X pins σ H s→t σ H Q →
    wpAny (model X.prog X.w) X.A (forIn ifs true fun c r=>if r=true then do let ok ← isTrue c X.env (eval c X.env);pure (ForInStep.yield ok) else pure (ForInStep.yield r)) (TP X pins σ Q) X.xe s
def tYes:TT:=fun _ H Q=>Q true H
theorem pif_nil {X:Cx}:PIf X [] tYes:=fun pins s σ H Q I h=>wpAny_tests_nil ⟨H,I,h⟩
theorem pif_one {X:Cx} {c:Expr} {t:TT} (h:PT X c t):PIf X [c] t:=fun pins s σ H Q I q=>wpAny_tests_one (h pins s σ H Q I q)
def GK (k:Nat) (g:TG):Prop:=∀ x σ H Q,g x σ H Q→g x σ H (fun σ2 H2=>(∀ j,k≤j→σ2[j]?=σ[j]?)∧Q σ2 H2)
def GKs (k:Nat) (g:TGs):Prop:=∀ xs σ H Q,g xs σ H Q→g xs σ H (fun σ2 H2=>(∀ j,k≤j→σ2[j]?=σ[j]?)∧Q σ2 H2)
theorem gk_name {k i:Nat} (h:i < k):GK k (gName i):=fun x σ H Q q=>⟨fun j hj=>by rw [List.getElem?_set,if_neg (by omega)],q⟩
theorem gk_nil {k:Nat}:GKs k gNil:=fun xs σ H Q q=>⟨q.1,fun j _=>rfl,q.2⟩
theorem gk_cons {k:Nat} {g:TG} {r:TGs} (h1:GK k g) (h2:GKs k r) (m2:∀ xs σ H Q Q',(∀ σ2 H2,Q σ2 H2→Q' σ2 H2)→r xs σ H Q→r xs σ H Q') (m1:∀ x σ H Q Q',(∀ σ2 H2,Q σ2 H2→Q' σ2 H2)→g x σ H Q→g x σ H Q'):GKs k (gCons g r):=fun xs σ H Q q=>by
  obtain ⟨v,r',rfl,q⟩:=q
  refine ⟨v,r',rfl,m1 _ _ _ _ _ (fun σ2 H2 z=>?_) (h1 _ _ _ _ q)⟩
  exact m2 _ _ _ _ _ (fun σ3 H3 y=>⟨fun j hj=>(y.1 j hj).trans (z.1 j hj),y.2⟩) (h2 _ _ _ _ z.2)
theorem m_name {i:Nat}:∀ x σ H (Q Q':L2.St→Hp→Prop),(∀ σ2 H2,Q σ2 H2→Q' σ2 H2)→gName i x σ H Q→gName i x σ H Q':=fun x σ H Q Q' h q=>h _ _ q
theorem m_nil:∀ xs σ H (Q Q':L2.St→Hp→Prop),(∀ σ2 H2,Q σ2 H2→Q' σ2 H2)→gNil xs σ H Q→gNil xs σ H Q':=fun x σ H Q Q' h q=>⟨q.1,h _ _ q.2⟩
theorem m_cons {g:TG} {r:TGs} (m1:∀ x σ H Q Q',(∀ σ2 H2,Q σ2 H2→Q' σ2 H2)→g x σ H Q→g x σ H Q') (m2:∀ xs σ H Q Q',(∀ σ2 H2,Q σ2 H2→Q' σ2 H2)→r xs σ H Q→r xs σ H Q') :
    ∀ xs σ H (Q Q':L2.St→Hp→Prop),(∀ σ2 H2,Q σ2 H2→Q' σ2 H2)→gCons g r xs σ H Q→gCons g r xs σ H Q':=fun xs σ H Q Q' h q=>by
  obtain ⟨v,r',rfl,q⟩:=q
  exact ⟨v,r',rfl,m1 _ _ _ _ _ (fun σ2 H2 z=>m2 _ _ _ _ _ h z) q⟩
theorem gk_tup {K:PySem.W.Frag} {k n:Nat} {r:TGs} (h:GKs k r):GK k (gTup K n r):=fun x σ H Q q=>by
  obtain ⟨a,xs,rfl,h1,h2,q⟩:=q
  exact ⟨a,xs,rfl,h1,h2,h _ _ _ _ q⟩
theorem m_tup {K:PySem.W.Frag} {n:Nat} {r:TGs} (m2:∀ xs σ H Q Q',(∀ σ2 H2,Q σ2 H2→Q' σ2 H2)→r xs σ H Q→r xs σ H Q') :
    ∀ x σ H (Q Q':L2.St→Hp→Prop),(∀ σ2 H2,Q σ2 H2→Q' σ2 H2)→gTup K n r x σ H Q→gTup K n r x σ H Q':=fun x σ H Q Q' h q=>by
  obtain ⟨a,xs,rfl,h1,h2,q⟩:=q
  exact ⟨a,xs,rfl,h1,h2,m2 _ _ _ _ _ h q⟩
theorem comp_core {X:Cx} {tg elt iter:Expr} {ifs:List Expr} {scope:Scope} {pos:Pos} {N:List Str} {k:Nat} {ix:List Nat} {wi:TI} {g:TG} {tc:TT} {te:TE}
    (hc:X.calm=true) (hi:PI X tg iter wi) (gk:GK k g)
    (hk:scope.kind=.function) (hcell:∀ y∈scope.names,y.2≠.cell) (hnames:∀ y∈scope.names,y.2=.local→scope.names.lookup y.1=some .local)
    (hfree:∀ y∈scope.names,y.2=.free→X.env.kindOf y.1=some .cell∨X.env.kindOf y.1=some .free)
    (hone:∀ y∈scope.names,y.2=.free→scope.names.lookup y.1=some .free)
    (hN:∀ (j:Nat) x,N[k + j]?=some x→∃ i,ix[j]?=some i∧X.N[i]?=some x)
    (hcap:∀ (j:Nat) x,N[k + j]?=some x→scope.names.lookup x=some .free)
    (hlen:N.length=k + ix.length)
    (hg:∀ cl C s H fp,PG (compCx X N scope cl C s H fp) tg g)
    (hif:∀ cl C s H fp,PIf (compCx X N scope cl C s H fp) ifs tc)
    (he:∀ cl C s H fp,PE (compCx X N scope cl C s H fp) elt te)
    (hs:∀ x,foldedSetIterable iter X.env x=pure x) {pins:List (Addr × Obj)} {s:Shared} {σ:L2.St} {H:Hp} {Q:VK} (I:L2.Inv X pins σ H s) (h:tComp k ix wi g tc te σ H Q) {pos':Pos} {use:Option (Value→Sem Unit)} {QQ:Value→Shared→Prop}
    (end_:∀ (D C:Addr) (H3:Hp) (s4:Shared),L2.Inv X pins σ H3 s4→(∃ m,s4.heap.Ns C m)→H3 C=none→C≠X.env.locals→X.s₀.heap.objs.size≤C→(∀ x c,X.env.cells.lookup x=some c→c≠C)→(∀ p∈X.pn++pins,p.1≠C) →
      (∀ h':Heap,Heap.SameBut C s4.heap h'→L2.Inv X pins σ H3 { s4 with heap:=h' })→Q (.ref D) H3→compPost (model X.prog X.w) X.A X.xe use QQ (.ref D) C (.ok .next) s4) :
    wpAny (model X.prog X.w) X.A (comprehension (.ListComp elt [⟨tg,iter,ifs,0⟩] scope pos) scope X.env pos' (newList []) false (eval iter X.env) use) QQ X.xe s:=by
  obtain ⟨cl,hclos,hcl,hcl2⟩:=closure_of (env:=X.env) (scope:=scope) (fun x hx e=>I.ok.has x.1 (hfree x hx e))
  refine wpAny_comprehension_free (use:=use) rfl hs hclos hk hnames (thn (hi pins s σ H _ I h) fun v s1 h1=>thn h1 fun itv s2 h2=>?_)
  obtain ⟨it,fp,tn,J,H2,rfl,I2,T,st2,f2,h2⟩:=h2
  refine wpAny_newObj_type (wpAny_newFunctionEnv hcell (by intro y hy;simp at hy) (fun h₁ hns₁ hsb₁=>?_) hk)
  dsimp only at hns₁ hsb₁ ⊢
  generalize hP:s2.heap.push { cls:=.type "list",dict:=none,data:=.seq ([]:List Value).toArray }=P2 at hns₁ hsb₁ ⊢
  have hCs:P2.objs.size=s2.heap.objs.size + 1:=by rw [← hP,Heap.size_push]
  have below:∀ b,b < s2.heap.objs.size→b≠P2.objs.size:=fun b hb=>by rw [hCs];omega
  have old:∀ b o,s2.heap.get? b=some o→h₁.get? b=some o:=fun b o e=>hsb₁.extBut b o (below b (Heap.lt_size e)) (Heap.get?_push_of_some _ (hP ▸ Heap.get?_push_of_some _ e))
  have hacc:h₁.get? s2.heap.objs.size=some { cls:=.type "list",dict:=none,data:=.seq ([]:List Value).toArray }:=hsb₁.extBut _ _ (show s2.heap.objs.size≠P2.objs.size by rw [hCs];exact Nat.ne_of_lt (Nat.lt_succ_self _)) (Heap.get?_push_of_some _ (hP ▸ Heap.get?_push_size _ rfl))
  obtain ⟨W,⟨m0,w0⟩,turn⟩:=h2 s2.heap.objs.size (I2.hok.fresh (Nat.le_refl _))
  have fpl:∀ b∈fp,b < s2.heap.objs.size:=fun b hb=>let ⟨o,e,_⟩:=T.obj _ _ st2 b hb;Heap.lt_size e
  have σl:(capt k ix σ).length=N.length:=by rw [hlen];simp [capt]
  have i2:=I2.ok
  -- the block's context is in order
  have ok':(compCx X N scope cl P2.objs.size s2 H2 fp).Ok:=by
    refine ⟨i2.mod,hk,i2.glob,i2.blt,(by show s2.heap.objs.size≤P2.objs.size;rw [hCs];exact Nat.le_succ _),fun x y c e1 e2=>i2.inj x y c (hcl x c e1) (hcl y c e2),fun x hx=>?_,(fun x c e=>by cases e),i2.hd,i2.frames,.inl rfl,fun b hb=>?_,fun b o e=>I2.bs b o e,Nat.le_trans i2.bsz I2.sz,fun b o e hb=>?_,fun b hb hb2=>?_,I2.stack,I2.stkFree⟩
    · -- a cell of the block's
      have hx':(relabel scope X.env).names.lookup x=some .cell∨(relabel scope X.env).names.lookup x=some .free:=hx
      have key:∀ (names:List (Str × NameKind)),(∀ y∈names,y.2≠.cell)→((names.map fun (n,k)=>if (k == NameKind.free && X.env.scope.kind == .function && X.env.kindOf n == some .cell) then (n,NameKind.cell) else (n,k)).lookup x=some .cell ∨
          (names.map fun (n,k)=>if (k == NameKind.free && X.env.scope.kind == .function && X.env.kindOf n == some .cell) then (n,NameKind.cell) else (n,k)).lookup x=some .free)→(x,NameKind.free)∈names:=by
        intro names
        induction names with
        | nil=>intro _ h;rcases h with h | h <;> cases h
        | cons y r ih =>
          obtain ⟨n,kd⟩:=y
          intro hnc h
          by_cases hxn:x=n
          · subst hxn
            have hkc:kd≠.cell:=hnc (x,kd) List.mem_cons_self
            by_cases hkf:kd=.free
            · subst hkf;exact List.mem_cons_self
            · exfalso
              have hb:(kd == NameKind.free)=false:=by simpa using hkf
              simp only [List.map_cons,hb,Bool.false_and,Bool.false_eq_true,if_false,List.lookup_cons,beq_self_eq_true] at h
              rcases h with h | h
              · exact hkc (Option.some.inj h)
              · exact hkf (Option.some.inj h)
          · have hb:(x == n)=false:=by simpa using hxn
            refine List.mem_cons_of_mem _ (ih (fun y hy=>hnc y (List.mem_cons_of_mem _ hy)) ?_)
            have e1:∀ z:NameKind,List.lookup x (((n,z)) :: (r.map fun (n,k)=>if (k == NameKind.free && X.env.scope.kind == .function && X.env.kindOf n == some .cell) then (n,NameKind.cell) else (n,k)))=List.lookup x (r.map fun (n,k)=>if (k == NameKind.free && X.env.scope.kind == .function && X.env.kindOf n == some .cell) then (n,NameKind.cell) else (n,k)):=fun z=>by rw [List.lookup_cons,hb]
            rw [List.map_cons] at h
            dsimp only at h
            split at h
            · rw [e1] at h;exact h
            · rw [e1] at h;exact h
      exact hcl2 x (key scope.names hcell hx')
    · exact ⟨below b (fpl b hb),fun x c e=>(f2 b hb).2.2.2.2.1 x c (hcl x c e)⟩
    · rcases (f2 b hb).2.2.2.1 with z | z
      · exact i2.noex b o e z
      · exact absurd (Nat.lt_of_lt_of_le (Heap.lt_size e) (Nat.le_trans i2.bsz z)) (Nat.lt_irrefl _)
    · rcases List.mem_cons.mp (I2.stkSub b hb2) with z | z
      · exact (f2 b hb).2.1 z
      · exact (f2 b hb).2.2.1 z
  have stat:∀ {H':Hp},(∀ b∈fp,H' b=none)→∀ b∈fp,FpOk (compCx X N scope cl P2.objs.size s2 H2 fp) [] H' b:=fun hn b hb =>
    ⟨hn b hb,below b (fpl b hb),fun z=>ok'.exfs b hb z,.inl hb,fun x c e=>(f2 b hb).2.2.2.2.1 x c (hcl x c e),(fun p hp=>by cases hp)⟩
  have hD:H2 s2.heap.objs.size=none:=I2.hok.fresh (Nat.le_refl _)
  have relf:∀ x,scope.names.lookup x=some .free→(X.env.kindOf x=some .cell∨X.env.kindOf x=some .free)→((relabel scope X.env).names.lookup x=some .cell∨(relabel scope X.env).names.lookup x=some .free):=by
    intro x hx hkx
    have key:∀ (names:List (Str × NameKind)),names.lookup x=some .free→((names.map fun (n,k)=>if (k == NameKind.free && X.env.scope.kind == .function && X.env.kindOf n == some .cell) then (n,NameKind.cell) else (n,k)).lookup x=some .cell ∨
        (names.map fun (n,k)=>if (k == NameKind.free && X.env.scope.kind == .function && X.env.kindOf n == some .cell) then (n,NameKind.cell) else (n,k)).lookup x=some .free):=by
      intro names
      induction names with
      | nil=>intro h;cases h
      | cons y r ih =>
        obtain ⟨n,kd⟩:=y
        intro h
        rw [List.lookup_cons] at h
        by_cases hxn:x=n
        · subst hxn
          simp only [beq_self_eq_true] at h
          cases h
          rw [List.map_cons]
          dsimp only
          split
          · left;simp [List.lookup_cons]
          · right;simp [List.lookup_cons]
        · have hb:(x == n)=false:=by simpa using hxn
          rw [hb] at h
          have:=ih h
          rw [List.map_cons]
          dsimp only
          split
          · rw [List.lookup_cons,hb];exact this
          · rw [List.lookup_cons,hb];exact this
    exact key scope.names hx
  have Istart:∀ tk,Inv (compCx X N scope cl P2.objs.size s2 H2 fp) [] (capt k ix σ) (upd H2 s2.heap.objs.size (.lst [])) { s2 with heap:=h₁,toks:=tk }:=fun tk=>by
    refine ⟨ok',rfl,I2.bare,Un.laid old (Nat.le_refl _) hD,⟨_,hns₁,fun i x v e1 e2 e3=>?_⟩,fun x c e=>?_,?_,fun x c e=>?_,(fun p hp=>by cases hp),I2.hok.laid old (Nat.le_refl _) ⟨Nat.zero_le _,[],_,.nil,hacc⟩,σl⟩
    · by_cases hik:i < k
      · exfalso
        unfold capt at e2
        rw [List.getElem?_append_left (by simpa using hik),List.getElem?_replicate] at e2
        split at e2 <;> cases e2
      · have ej:i=k + (i - k):=by omega
        have e1':N[k + (i - k)]?=some x:=by rw [← ej];exact e1
        obtain ⟨i0,hi0,hXN⟩:=hN (i - k) x e1'
        have hfx:=hcap (i - k) x e1'
        have hmem:(x,NameKind.free)∈scope.names:=PySem.mem_of_lookup hfx
        have hkx:=hfree _ hmem rfl
        have e4:σ[i0]?=some (some v):=by
          unfold capt at e2
          rw [List.getElem?_append_right (by simpa using Nat.le_of_not_lt hik),List.getElem?_map] at e2
          simp only [List.length_replicate,hi0,Option.map_some,Option.some.injEq] at e2
          cases z:σ[i0]? with
          | none=>rw [z] at e2;cases e2
          | some y=>rw [z] at e2;simp only [Option.getD_some] at e2;rw [e2]
        obtain ⟨m2,hn2,hl2⟩:=I2.loc
        obtain ⟨u,ru,lk⟩:=hl2 i0 x v hXN e4 (by rcases hkx with z | z;exact .inr (.inl z);exact .inr (.inr z))
        rcases lk with ⟨z,_⟩ | ⟨_,c,hc1,hc2⟩
        · exfalso
          have z':X.env.kindOf x=some .local:=z
          rcases hkx with y | y <;> (rw [z'] at y;cases y)
        · obtain ⟨c',hc'⟩:=hcl2 x hmem
          have e5:=hcl x c' hc'
          rw [hc1] at e5;cases e5
          obtain ⟨o,ho,hd⟩:=hc2
          exact ⟨u,ru,.inr ⟨relf x hfx hkx,c,hc',o,old _ _ ho,hd⟩⟩
    · obtain ⟨v,o,ho,hd⟩:=I2.cell x c (hcl x c e)
      exact ⟨v,o,old _ _ ho,hd⟩
    · show upd H2 s2.heap.objs.size (.lst []) P2.objs.size=none
      rw [upd_ne (show P2.objs.size≠s2.heap.objs.size by rw [hCs];exact Nat.succ_ne_self _)]
      exact I2.hok.fresh (show s2.heap.objs.size≤P2.objs.size by rw [hCs];exact Nat.le_succ _)
    · have e':=hcl x c e
      obtain ⟨v,o,ho,hd⟩:=I2.cell x c e'
      rw [upd_ne (Nat.ne_of_lt (Heap.lt_size ho))]
      exact I2.freeC x c e'
  have st1:tn 0 h₁:=T.keep 0 _ _ st2 fun b hb o e=>old b o e
  have fr1:∀ b∈fp,upd H2 s2.heap.objs.size (.lst []) b=none:=fun b hb=>by rw [upd_ne (Nat.ne_of_lt (fpl b hb))];exact (f2 b hb).1
  -- behind the block
  have fin:∀ (H3:Hp) (s4:Shared),Inv (compCx X N scope cl P2.objs.size s2 H2 fp) [] (capt k ix σ) H3 s4→∀ h':Heap,Heap.SameBut P2.objs.size s4.heap h'→Inv X pins σ H3 { s4 with heap:=h' }:=fun H3 s4 I4 h' sb=>by
    have kp:∀ b o,b < s2.heap.objs.size→s4.heap.get? b=some o→h'.get? b=some o:=fun b o hb e=>sb.extBut b o (below b hb) e
    have u:Un (frs X.stack) fp H2 H3 s2.heap s4.heap:=I4.base
    refine I2.call' (ch:=fp) (H':=H3) I4.os ⟨fun b o q n hb hx=>kp b o (Heap.lt_size q) (u.keep b o q n hb hx),fun b o q n hb hx=>?_,u.free,fun b o q hx=>?_,u.tups,u.frzs,u.tbls⟩ (fun a o e=>?_) I4.bare fun b hb=>⟨(f2 b hb).2.2.2.1,(f2 b hb).2.1,(f2 b hb).2.2.2.2.1,(f2 b hb).2.2.2.2.2⟩
    · obtain ⟨sl,e⟩:=u.slot b o q n hb hx
      exact ⟨sl,kp b _ (Heap.lt_size q) e⟩
    · obtain ⟨o',e⟩:=u.there b o q hx
      exact ⟨o',kp b _ (Heap.lt_size q) e⟩
    · have nC:H3 P2.objs.size=none:=I4.free
      refine (I4.hok a o e).stay (fun b z hb q=>sb.extBut b z ?_ q) (fun _ q=>q) fun _ _ q=>q
      rcases hb with rfl | hb
      · exact ne_of_none e nC
      · exact ne_of_none hb nC
  have loop:∀ tk,codeAny (model X.prog X.w) X.A (.compLoop (.ListComp elt [⟨tg,iter,ifs,0⟩] scope pos) 0 (.ref it) (.ref s2.heap.objs.size) (compEnvC scope cl P2.objs.size X.env))
      (compPost (model X.prog X.w) X.A X.xe use QQ (.ref s2.heap.objs.size) P2.objs.size) { s2 with heap:=h₁,toks:=tk }:=fun tk=>by
    refine compLoop_tg (fun n s'=>∃ i H',Inv (compCx X N scope cl P2.objs.size s2 H2 fp) [] (capt k ix σ) H' s'∧tn i s'.heap∧(∀ b∈fp,H' b=none)∧W i n H') ?_ m0 ⟨0,_,Istart tk,st1,fr1,w0⟩
    rintro n s3 ⟨i,H3,I3,st3,fr3,w3⟩
    rcases turn i n H3 w3 with ⟨stop,q⟩ | ⟨go,step⟩
    · refine thn (T.done (compCx X N scope cl P2.objs.size s2 H2 fp) rfl rfl rfl hc i [] s3 _ H3 (fun _ _=>False) I3 (stat fr3) st3 stop) fun r s4 ⟨hr,I4⟩=>?_
      subst hr
      obtain ⟨m,hn,_⟩:=I4.loc
      refine end_ s2.heap.objs.size P2.objs.size H3 s4 (fin H3 s4 I4 s4.heap (Heap.SameBut.refl ..)) ⟨m,hn⟩ I4.free (Ne.symm (below _ I2.lt)) (Nat.le_trans I2.sz (show s2.heap.objs.size≤P2.objs.size by rw [hCs];exact Nat.le_succ _)) (fun x c e=>?_) (fun p hp=>below _ (Heap.lt_size (I2.pin p hp).1)) (fin H3 s4 I4) q
      obtain ⟨v,o,ho,_⟩:=I2.cell x c e
      exact below _ (Heap.lt_size ho)
    · refine thn (T.item (compCx X N scope cl P2.objs.size s2 H2 fp) rfl rfl rfl hc i [] s3 _ H3 (fun _ _=>False) I3 (stat fr3) st3 go) fun r s4 ⟨u,hr,h4⟩=>?_
      subst hr
      refine thn h4 fun _ s5 ⟨x,H5,I5,r5,y5,st5,fr5⟩=>?_
      have I5':=I5.pinned (stat fr5) (T.obj _ _ st5)
      refine thn (hg cl P2.objs.size s2 H2 fp _ s5 _ H5 x u _ I5' r5 (gk _ _ _ _ (step x H5 y5))) fun _ s6 ⟨σ6,H6,I6,ag,q6⟩=>?_
      have again:∀ {s7:Shared} {H7:Hp} {m':Nat},Inv (compCx X N scope cl P2.objs.size s2 H2 fp) ([]++pinsAt fp s5.heap) σ6 H7 s7→m' < n→W (i + 1) m' H7→∃ m,m < n∧∃ i H',Inv (compCx X N scope cl P2.objs.size s2 H2 fp) [] (capt k ix σ) H' s7∧tn i s7.heap∧(∀ b∈fp,H' b=none)∧W i m H':=fun {s7 H7 m'} I7 hm w7=>by
        refine ⟨m',hm,i + 1,H7,(I7.unpinned).weak (by rw [σl];exact (I7.len).symm) (fun j v e=>?_),T.keep _ _ _ st5 fun b hb o e=>(I7.pin (b,o) (List.mem_append_right _ (List.mem_append_right _ (mem_pinsAt hb e)))).1,fun b hb=>?_,w7⟩
        · by_cases hj:j < k
          · exfalso
            unfold capt at e
            rw [List.getElem?_append_left (by simpa using hj),List.getElem?_replicate] at e
            split at e <;> cases e
          · rw [ag j (by omega)];exact e
        · obtain ⟨o,e,d⟩:=T.obj _ _ st5 b hb
          exact (I7.pin (b,o) (List.mem_append_right _ (List.mem_append_right _ (mem_pinsAt hb e)))).2.1
      refine thn (hif cl P2.objs.size s2 H2 fp _ s6 σ6 H6 _ I6 q6) fun ok s7 ⟨H7,I7,q7⟩=>?_
      cases ok with
      | false =>
        obtain ⟨m',hm,w7⟩:=q7
        exact again I7 hm w7
      | true =>
        refine thn (he cl P2.objs.size s2 H2 fp _ s7 σ6 H7 _ I7 q7) fun y s8 ⟨yv,H8,I8,r8,ys,hD8,hz8,m',hm,w8⟩=>?_
        refine thn (mt_append _ s8 σ6 H8 (.ref s2.heap.objs.size) [yv] (.ref s2.heap.objs.size) [y] (fun v H9=>H9=upd H8 s2.heap.objs.size (.lst (ys++[yv]))) I8 rfl (.cons r8 .nil) ⟨_,ys,yv,rfl,rfl,hD8,hz8,rfl⟩) fun _ s9 ⟨_,H9,I9,_,e9⟩=>?_
        subst e9
        exact again I9 hm w8
  exact codeAny_compStart_list (loop _) (T.self _ 0 _ _ _ st1 (loop _))
theorem pe_comp {X:Cx} {tg elt iter:Expr} {ifs:List Expr} {scope:Scope} {pos:Pos} {N:List Str} {k:Nat} {ix:List Nat} {wi:TI} {g:TG} {tc:TT} {te:TE}
    (hc:X.calm=true) (hi:PI X tg iter wi) (gk:GK k g)
    (hk:scope.kind=.function) (hcell:∀ y∈scope.names,y.2≠.cell) (hnames:∀ y∈scope.names,y.2=.local→scope.names.lookup y.1=some .local)
    (hfree:∀ y∈scope.names,y.2=.free→X.env.kindOf y.1=some .cell∨X.env.kindOf y.1=some .free)
    (hone:∀ y∈scope.names,y.2=.free→scope.names.lookup y.1=some .free)
    (hN:∀ (j:Nat) x,N[k + j]?=some x→∃ i,ix[j]?=some i∧X.N[i]?=some x)
    (hcap:∀ (j:Nat) x,N[k + j]?=some x→scope.names.lookup x=some .free)
    (hlen:N.length=k + ix.length)
    (hg:∀ cl C s H fp,PG (compCx X N scope cl C s H fp) tg g)
    (hif:∀ cl C s H fp,PIf (compCx X N scope cl C s H fp) ifs tc)
    (he:∀ cl C s H fp,PE (compCx X N scope cl C s H fp) elt te)
    (hs:∀ x,foldedSetIterable iter X.env x=pure x:=by intro _;rfl) :
    PE X (.ListComp elt [⟨tg,iter,ifs,0⟩] scope pos) (tComp k ix wi g tc te):=by
  intro pins s σ H Q I h
  rw [eval_ListComp]
  refine comp_core (use:=none) hc hi gk hk hcell hnames hfree hone hN hcap hlen hg hif he hs I h fun D C H3 s4 I4 ⟨m,hn⟩ _ _ _ _ _ fin q=>?_
  exact ⟨m,hn,fun h' sb=>⟨.ref D,H3,fin h' sb,rfl,q⟩⟩
theorem ps_comp {X:Cx} {tg elt iter:Expr} {ifs:List Expr} {scope:Scope} {pos spos py:Pos} {N:List Str} {k:Nat} {ix:List Nat} {wi:TI} {g:TG} {tc:TT} {te:TE} {i:Nat} {y:Str}
    (hc:X.calm=true) (hi:PI X tg iter wi) (gk:GK k g)
    (hk:scope.kind=.function) (hcell:∀ y∈scope.names,y.2≠.cell) (hnames:∀ y∈scope.names,y.2=.local→scope.names.lookup y.1=some .local)
    (hfree:∀ y∈scope.names,y.2=.free→X.env.kindOf y.1=some .cell∨X.env.kindOf y.1=some .free)
    (hone:∀ y∈scope.names,y.2=.free→scope.names.lookup y.1=some .free)
    (hN:∀ (j:Nat) x,N[k + j]?=some x→∃ i,ix[j]?=some i∧X.N[i]?=some x)
    (hcap:∀ (j:Nat) x,N[k + j]?=some x→scope.names.lookup x=some .free)
    (hlen:N.length=k + ix.length)
    (hg:∀ cl C s H fp,PG (compCx X N scope cl C s H fp) tg g)
    (hif:∀ cl C s H fp,PIf (compCx X N scope cl C s H fp) ifs tc)
    (he:∀ cl C s H fp,PE (compCx X N scope cl C s H fp) elt te)
    (hs:∀ x,foldedSetIterable iter X.env x=pure x) (hsw:swapsWith (.ListComp elt [⟨tg,iter,ifs,0⟩] scope pos) (some (.Name y py)) spos.line X.env=pure true)
    (hNd:X.N.Nodup) (hiy:X.N[i]?=some y) (hy:Loc X.env.scope y) (hf:X.fn y=true∨X.env.scope.names.lookup y=some .local) :
    PS X (.Assign [.Name y py] (.ListComp elt [⟨tg,iter,ifs,0⟩] scope pos) spos) (tAsg (tComp k ix wi g tc te) (gName i)):=by
  intro pins s σ H D I h
  rw [exec_Assign_Name_used _ _ _ _ hsw]
  refine wpAny_bind (wpAny_standAt (wpAny_bind ?_))
  show wpAny _ X.A (do let _ ← comprehension (.ListComp elt [⟨tg,iter,ifs,0⟩] scope pos) scope X.env _ (newList []) false (eval iter X.env) (some (assign (.Name y py) X.env))) _ _ s
  refine wpAny_bind (wpAny_mono (comp_core (use:=some (assign (.Name y py) X.env)) (QQ:=fun _ s'=>SP X pins D .next s') hc hi gk hk hcell hnames hfree hone hN hcap hlen hg hif he hs I h fun A C H3 s4 I4 hn nC nL sC cC pC fin q=>?_) (fun _ s' hq=>wpAny_pure (wpAny_pure hq)) fun _ _ e=>e)
  show wpAny _ X.A (assign (.Name y py) X.env (.ref A)) _ _ _
  refine wpAny_assign_Name (store_ok2 (i:=i) (v:=.ref A) I4 hNd hiy hy rfl (fun s5 I5 ⟨a,sb,ha⟩=>?_) hf)
  obtain ⟨m,hn⟩:=hn
  have aC:C≠a:=by
    rcases ha with z | z
    · rw [z];exact nL
    · exact fun e=>cC y a z e.symm
  refine ⟨m,hn.at' fun o e=>sb.extBut C o aC e,fun h' sb'=>?_⟩
  exact ⟨_,H3,I5.turned (t':=s5.toks) (fun b o hb e=>sb'.extBut b o hb e) nC nL (.inr sC) cC pC,q⟩
section
variable {X:Cx}
theorem op_catL:OpR X (binaryOp .Add) (rCatL X.K):=by
  intro pins s σ H x y v u Q I rx ry h
  obtain ⟨l,b,xs,zs,rfl,rfl,hH,hB,hz,q⟩:=h
  cases rx
  cases ry
  obtain ⟨its,r,p,hl⟩:=I.list hH
  obtain ⟨its2,r2,p2,hl2⟩:=I.list hB
  obtain ⟨⟨cls,dd,data,sl⟩,n,ho,hc,_,hd⟩:=p
  obtain ⟨⟨cls2,dd2,data2,sl2⟩,n2,ho2,hc2,_,hd2⟩:=p2
  simp only at hc hd hc2 hd2
  subst hc hd hc2 hd2
  have q1:=r.length
  have q2:=r2.length
  have e:its.toArray++its2.toArray=(its++its2).toArray:=by simp
  refine concat_meets ⟨_,ho,rfl⟩ ⟨_,ho2,rfl⟩ noFill_list_add seq_list_add PySem.F.slot_list_add PySem.F.entry_list_add (PySem.F.args_list_add_2 _ _) (list_addW l b its.toArray its2.toArray n n2 dd dd2 sl sl2 (by rw [List.size_toArray,List.size_toArray];omega)) ⟨ho,ho2,?_⟩
  rw [e]
  exact ⟨.ref _,_,I.lnew (t':=s.toks) (r.append r2) (by rw [List.length_append];omega),rfl,q _ I.fresh⟩
theorem op_catTA:OpR X (binaryOp .Add) (rCatTA X.K):=by
  intro pins s σ H x y v u Q I rx ry h
  obtain ⟨a,b,xs,ys,rfl,rfl,ha,hb,hz,q0,q1,q2⟩:=h
  by_cases hx:xs=[]
  · cases rx
    cases ry
    obtain ⟨its,r1,p1,_⟩:=I.tuple ha
    obtain ⟨its2,r2,p2,_⟩:=I.tuple hb
    obtain ⟨⟨cls,dd,data,sl⟩,ho,hc,n,hd⟩:=p1
    obtain ⟨⟨cls2,dd2,data2,sl2⟩,ho2,hc2,n2,hd2⟩:=p2
    simp only at hc hd hc2 hd2
    subst hc hd hc2 hd2
    have e:its=[]:=r1.nil_iff.mpr hx
    exact concat_meets ⟨_,ho,rfl⟩ ⟨_,ho2,rfl⟩ noFill_tuple_add seq_tuple_add PySem.F.slot_tuple_add PySem.F.entry_tuple_add (PySem.F.args_tuple_add_2 _ _) (tuple_addW0 a b its.toArray its2.toArray n n2 dd dd2 sl sl2 (by rw [e];rfl)) ⟨ho,ho2,.ref b,H,I,rfl,q0 hx⟩
  · exact op_catT pins s σ H _ _ v u Q I rx ry ⟨a,b,xs,ys,rfl,rfl,ha,hb,hx,hz,q1 hx,q2 hx⟩
theorem sl_str:SlR X (fun x lo hi H Q=>∃ z:Str,x=.str z∧z.length≤sizeLine∧Q (.str (Txt.slice z lo hi)) H):=by
  intro pins s σ H x v vl vu lo hi sl Q I rx hs pl pu h
  obtain ⟨z,rfl,hz,q⟩:=h
  obtain ⟨t,rfl⟩:=rx
  refine ⟨"str",_,F.slot_str_getitem.lookup,typeIs_str _ _ _,?_⟩
  have fin:∀ t' k,EP X pins σ Q (.str (Txt.slice z lo hi) t') { s with toks:=k }:=fun t' k=>⟨.str (Txt.slice z lo hi),H,I.tok k,⟨t',rfl⟩,q⟩
  cases pl with
  | none=>cases pu with
    | none=>exact wpAny_getItem_str_slice (l:=none) (u:=none) (st:=none) hs rfl (post_val_or_str ⟨Nat.le_trans (Txt.slice_le z _ _) hz,fun t' k=>fin t' k⟩)
    | int j uj=>exact wpAny_getItem_str_slice (l:=none) (u:=some (j,uj)) (st:=none) hs rfl (post_val_or_str ⟨Nat.le_trans (Txt.slice_le z _ _) hz,fun t' k=>fin t' k⟩)
  | int i ui=>cases pu with
    | none=>exact wpAny_getItem_str_slice (l:=some (i,ui)) (u:=none) (st:=none) hs rfl (post_val_or_str ⟨Nat.le_trans (Txt.slice_le z _ _) hz,fun t' k=>fin t' k⟩)
    | int j uj=>exact wpAny_getItem_str_slice (l:=some (i,ui)) (u:=some (j,uj)) (st:=none) hs rfl (post_val_or_str ⟨Nat.le_trans (Txt.slice_le z _ _) hz,fun t' k=>fin t' k⟩)
theorem sl_any:SlR X (rSlA X.K):=sl_list.or (sl_tup.or sl_str)
theorem call_allB (hc:X.calm=true):CallR X (.builtin "all") (fun xs H Q=>∃ (p:Addr) (bs:List Bool),xs=[.ref p]∧SqL X.K H p (bs.map V.bl)∧Q (.bl (bs.all fun b=>b)) H):=by
  intro pins s σ H xs us Q I r h
  obtain ⟨a,bs,rfl,ha,q⟩:=h
  obtain ⟨u,rfl,ru⟩:=vals1 r
  cases ru
  obtain ⟨its,rv,p,hz⟩:=I.list ha
  have hl:=rv.length
  have hne:a≠s.heap.objs.size:=by
    obtain ⟨o,n,e,_⟩:=p
    exact Nat.ne_of_lt (Heap.lt_size e)
  refine call_all_walk (wpAny_pyIter_list p.isList ?_)
  refine ⟨s.heap.objs.size,_,_,_,_,_,fun i=>(bs[i]?).getD false,rfl,Walks.list (show X.A.in1.handled=none from I.ok.hd hc) s.heap.objs.size a hne its.toArray,⟨⟨_,Heap.get?_push_size _ rfl,rfl,rfl⟩,?_⟩,?_,fun h' tk k=>?_⟩
  · obtain ⟨o,n,e,c,d,z⟩:=p
    exact ⟨o,Heap.get?_push_of_some _ e,c,n,z⟩
  · intro i v s' Q' E' hP hQ
    have hv:its[i]?=some v:=by simpa using hP
    have hi:i < bs.length:=by
      have:=(List.getElem?_eq_some_iff.mp hv).1
      rw [← hl] at this;simpa using this
    obtain ⟨u,hu,ru⟩:=rv.get (i:=i) (x:=.bl bs[i]) (by simp [hi])
    rw [hv] at hu;cases hu
    cases ru
    refine wpAny_truthy_bool ?_
    have:(bs[i]?).getD false=bs[i]:=by simp [hi]
    rw [← this];exact hQ
  · have e:(List.range its.toArray.size).all (fun i=>(bs[i]?).getD false)=bs.all fun b=>b:=by
      have:its.toArray.size=bs.length:=by rw [List.size_toArray,← hl,List.length_map]
      rw [this]
      clear this hl rv p hz k
      rw [Bool.eq_iff_iff]
      simp only [List.all_eq_true,List.mem_range]
      constructor
      · intro h b hb
        obtain ⟨i,hi,rfl⟩:=List.mem_iff_getElem.mp hb
        have:=h i hi
        simpa [hi] using this
      · intro h i hi
        have:=h bs[i] (List.getElem_mem hi)
        simpa [hi] using this
    rw [e]
    exact ⟨.bl _,H,I.kept (t':=tk) (fun b o e=>k b o (fun z=>Nat.lt_irrefl _ (Nat.lt_of_lt_of_le (Heap.lt_size e) (Nat.le_of_eq (show s.heap.objs.size=b from (List.mem_singleton.mp z).symm)))) (Heap.get?_push_of_some _ e)),rfl,q⟩
end
end U2
namespace U2
open PySem PySem.Spec PyProof.Rows L2
structure Dat where
  prog:Program
  w:World
  K:PySem.W.Frag
  mg:Str→Option Value
  base:Heap
  N:List Str
  sc:Scope
  k:Nat
  fn:Bool
structure Has (D:Dat) (X:Cx):Prop where
  prog:X.prog=D.prog
  w:X.w=D.w
  K:X.K=D.K
  mg:X.mg=D.mg
  base:X.base=D.base
  N:X.N=D.N
  sc:X.env.scope=D.sc
  room:Room D.k X.A
  calm:X.calm=true
  xe:X.xe=fun _ _=>False
  fn:D.fn=true→∀ x,X.fn x=true
def PEU (D:Dat) (e:Expr) (t':UE):Prop:=∃ t,(∀ X,Has D X→PE X e t)∧SimE D.K t t'
def PTU (D:Dat) (e:Expr) (t':UT):Prop:=∃ t,(∀ X,Has D X→PT X e t)∧SimT D.K t t'
def PWU (D:Dat) (e:Expr) (t':UT):Prop:=∃ t,(∀ X,Has D X→PW X e t)∧SimT D.K t t'
def PAU (D:Dat) (es:List Expr) (t':UA):Prop:=∃ t,(∀ X,Has D X→PA X es t)∧SimA D.K t t'
def PSU (D:Dat) (s:Stmt) (t':US):Prop:=∃ t,(∀ X,Has D X→PS X s t)∧SimS D.K t t'
def PSsU (D:Dat) (s:List Stmt) (t':US):Prop:=∃ t,(∀ X,Has D X→PSs X s t)∧SimS D.K t t'
def PGU (D:Dat) (k:Nat) (e:Expr) (g':UG):Prop:=∃ g,(∀ X,Has D X→PG X e g)∧SimG D.K g g'∧GK k g∧∀ x σ H Q Q',(∀ σ2 H2,Q σ2 H2→Q' σ2 H2)→g x σ H Q→g x σ H Q'
def PGsU (D:Dat) (k:Nat) (es:List Expr) (g':UGs):Prop:=∃ g,(∀ X,Has D X→PGs X es g)∧SimGs D.K g g'∧GKs k g∧∀ x σ H Q Q',(∀ σ2 H2,Q σ2 H2→Q' σ2 H2)→g x σ H Q→g x σ H Q'
def PIU (D:Dat) (tg e:Expr) (t':UI):Prop:=∃ t,(∀ X,Has D X→PI X tg e t)∧SimI D.K t t'
def POU (D:Dat) (e:Option Expr) (t':UO):Prop:=∃ t,(∀ X,Has D X→PO X e t)∧SimO D.K t t'
def PIfU (D:Dat) (es:List Expr) (t':UT):Prop:=∃ t,(∀ X,Has D X→PIf X es t)∧SimT D.K t t'
section
variable {D:Dat} {a b c e o:Expr} {ta tb tc te:UE} {pos:Pos}
theorem uv (i:Nat) {x:Str} (hN:D.N[i]?=some x:=by rfl) (hv:Vis D.sc x:=by first | exact Or.inl rfl | exact Or.inr (Or.inl rfl) | exact Or.inr (Or.inr rfl)) (hd:(x == ("__debug__":Str))=false:=by decide)
    (hcd:(x == ("__classdict__":Str))=false:=by decide):PEU D (.Name x pos) (uVar i) :=
  ⟨_,fun X h=>pe_var (by rw [h.N];exact hN) (by rw [h.sc];exact hv) hd hcd,sim_var i⟩
theorem un_ {i j}:PEU D (.Constant (.int i) j pos) (uC (.int i)):=⟨_,fun X h=>pe_int,sim_int⟩
theorem ub_ {i j}:PEU D (.Constant (.bool i) j pos) (uC (.bl i)):=⟨_,fun X h=>pe_bl,sim_bl⟩
theorem us_ {i j}:PEU D (.Constant (.str i) j pos) (uC (.str i)):=⟨_,fun X h=>pe_str,sim_str⟩
theorem uo_ {j}:PEU D (.Constant .none j pos) (uC .non):=⟨_,fun X h=>pe_non,sim_non⟩
theorem ug_ref {x:Str} {f:Addr} (hm:D.mg x=some (.ref f)) (hg:D.sc.names.lookup x=some .globalImplicit:=by rfl) (hd:(x == ("__debug__":Str))=false:=by decide):PEU D (.Name x pos) (uC (.ref f)) :=
  ⟨_,fun X h=>pe_glob (v:=.ref f) (by show X.env.scope.names.lookup x=_;rw [h.sc];exact hg) (by rw [h.mg];exact hm) rfl hd,sim_ref⟩
theorem ue_op {op:Operator} {r:R2} {r':UR2} (ho:∀ X,Has D X→OpR X (binaryOp op) r) (hr:SimR2 D.K r r') (ha:PEU D a ta) (hb:PEU D b tb):PEU D (.BinOp a op b pos) (uOp r' ta tb):=by
  obtain ⟨x,p,s⟩:=ha;obtain ⟨y,q,r⟩:=hb
  exact ⟨_,fun X h=>pe_op (ho X h) (p X h) (q X h),sim_op hr s r⟩
theorem ue_sub (ha:PEU D a ta) (hb:PEU D b tb):PEU D (.BinOp a .Sub b pos) (uOp (uI0 fun i j=>.int (i - j)) ta tb):=ue_op (fun _ _=>op_sub) sim_int2 ha hb
theorem ue_mod (ha:PEU D a ta) (hb:PEU D b tb):PEU D (.BinOp a .Mod b pos) (uOp (uI (fun _ j=>0 < j) fun i j=>.int (i % j)) ta tb):=ue_op (fun _ _=>op_mod) sim_int2c ha hb
theorem ue_pow (ha:PEU D a ta) (hb:PEU D b tb):PEU D (.BinOp a .Pow b pos) (uOp (uI CPow fun i j=>.int (i ^ j.toNat)) ta tb):=ue_op (fun _ _=>op_pow) sim_int2c ha hb
def uAdd (o:Bool):UR2:=fun x y M Q=>match x,y with
  | .int i,.int j=>Q (.int (i + j)) M
  | .str i,.str j=>i.length + j.length≤sizeLine∧Q (.str (i++j)) M
  | .tup us,.tup ws=>us.length + ws.length≤sizeLine∧Q (.tup (us++ws)) M
  | x,y=>uAddL o x y M Q
def rAddA (K:PySem.W.Frag):R2:=fun x y H Q=>rI0 (fun i j=>.int (i + j)) x y H Q∨((∃ i j,x=.str i∧y=.str j∧i.length + j.length≤sizeLine∧Q (.str (i++j)) H)∨(rCatTA K x y H Q∨rCatL K x y H Q))
theorem sim_add {K:PySem.W.Frag} {o:Bool}:SimR2 K (rAddA K) (uAdd o):=fun x y u w H M Q' rm ru rw h Q c=>by
  unfold uAdd at h
  split at h
  · exact .inl (sim_int2 x y _ _ H M Q' rm ru rw h Q c)
  · exact .inr (.inl (sim_addS x y _ _ H M Q' rm ru rw h Q c))
  · exact .inr (.inr (.inl (sim_addT x y _ _ H M Q' rm ru rw h Q c)))
  · exact .inr (.inr (.inr (sim_addL x y _ _ H M Q' rm ru rw h Q c)))
theorem ue_add (own:Bool:=false) (ha:PEU D a ta) (hb:PEU D b tb):PEU D (.BinOp a .Add b pos) (uOp (uAdd own) ta tb) :=
  ue_op (r:=rAddA D.K) (fun X h=>by have:=op_add.or (op_add_str.or ((op_catTA (X:=X)).or (op_catL (X:=X))));rw [h.K] at this;exact this) sim_add ha hb
theorem ue_cmp {op:CmpOp} {r:R2} {r':UR2} (ho:∀ X,Has D X→OpR X (compareOp op) r) (hr:SimR2 D.K r r') (ha:PEU D a ta) (hb:PEU D b tb) (hm:behindInMarks op b=false):PEU D (.Compare a [op] [b] pos) (uOp r' ta tb):=by
  obtain ⟨x,p,s⟩:=ha;obtain ⟨y,q,r⟩:=hb
  exact ⟨_,fun X h=>pe_cmpR (ho X h) (p X h) (q X h) hm,sim_op hr s r⟩
theorem ut_cmp {op:CmpOp} {r:R2} {r':UR2} (ho:∀ X,Has D X→OpR X (compareOp op) r) (hr:SimR2 D.K r r') (ha:PEU D a ta) (hb:PEU D b tb) (hm:behindInMarks op b=false):PTU D (.Compare a [op] [b] pos) (uTest (uOp r' ta tb)):=by
  obtain ⟨x,p,s⟩:=ha;obtain ⟨y,q,r⟩:=hb
  exact ⟨_,fun X h=>pt_cmpR (ho X h) (p X h) (q X h) hm,sim_test (sim_op hr s r)⟩
abbrev cLt:UR2:=uI0 fun i j=>.bl (decide (i < j))
abbrev cLe:UR2:=uI0 fun i j=>.bl (decide (i≤j))
abbrev cGt:UR2:=uI0 fun i j=>.bl (decide (j < i))
abbrev cGe:UR2:=uI0 fun i j=>.bl (decide (j≤i))
structure Cmp (D:Dat) (op:CmpOp) (r':UR2):Prop where
  ex:∃ r:R2,(∀ X,Has D X→OpR X (compareOp op) r)∧SimR2 D.K r r'
theorem k_le:Cmp D .LtE cLe:=⟨⟨_,fun _ _=>op_le,sim_bool2⟩⟩
theorem k_gt:Cmp D .Gt cGt:=⟨⟨_,fun _ _=>op_gt,sim_bool2⟩⟩
theorem k_ge:Cmp D .GtE cGe:=⟨⟨_,fun _ _=>op_ge,sim_bool2⟩⟩
theorem k_isN:Cmp D .Is uIsN:=⟨⟨_,fun _ _=>op_isN,sim_isN⟩⟩
theorem k_notN:Cmp D .IsNot uNotN:=⟨⟨_,fun _ _=>op_notN,sim_notN⟩⟩
def inSt (neg:Bool):UR2:=fun x y M Q=>match x,y with
  | .str i,.str j=>Q (.bl (if neg then !(!(Builtin.Str.occurrences j i 0 j.length 1).isEmpty) else !(Builtin.Str.occurrences j i 0 j.length 1).isEmpty)) M
  | _,_=>False
theorem ue_c {op:CmpOp} {r':UR2} (k:Cmp D op r') (ha:PEU D a ta) (hb:PEU D b tb) (hm:behindInMarks op b=false:=by first | exact nomark _ | with_unfolding_all rfl):PEU D (.Compare a [op] [b] pos) (uOp r' ta tb) :=
  let ⟨_,h1,h2⟩:=k.ex;ue_cmp h1 h2 ha hb hm
theorem ut_c {op:CmpOp} {r':UR2} (k:Cmp D op r') (ha:PEU D a ta) (hb:PEU D b tb) (hm:behindInMarks op b=false:=by first | exact nomark _ | with_unfolding_all rfl):PTU D (.Compare a [op] [b] pos) (uTest (uOp r' ta tb)) :=
  let ⟨_,h1,h2⟩:=k.ex;ut_cmp h1 h2 ha hb hm
theorem ue_ch {op op':CmpOp} {r r':UR2} (k:Cmp D op r) (k':Cmp D op' r') (ha:PEU D a ta) (hb:PEU D b tb) (hc:PEU D c tc) (hm:lastMarks [op,op'] [b,c]=false:=by with_unfolding_all rfl) :
    PEU D (.Compare a [op,op'] [b,c] pos) (uChain r r' ta tb tc):=by
  obtain ⟨x,p,s⟩:=ha;obtain ⟨y,q,r⟩:=hb;obtain ⟨z,u,v⟩:=hc
  obtain ⟨_,h1,h2⟩:=k.ex
  obtain ⟨_,h3,h4⟩:=k'.ex
  exact ⟨_,fun X h=>pe_chain (h1 X h) (h3 X h) (p X h) (q X h) (u X h) hm,sim_chain h2 h4 s r v⟩
theorem ut_val (ha:PEU D a ta) (he:∀ env whole,isTrue a env whole=(do let v ← whole;standAt a.pos;holding [v] (truthy v)):=by intro _ _;rfl):PTU D a (uTru ta):=by
  obtain ⟨x,p,s⟩:=ha
  refine ⟨_,fun X h=>?_,sim_tru s⟩
  have:=pt_truth (p X h) (he X.env)
  rw [h.K] at this
  exact this
theorem PWU.pt {t:UT} (h:PWU D a t):PTU D a t:=let ⟨_,p,s⟩:=h;⟨_,fun X h=>(p X h).pt,s⟩
variable {rest:List Expr} {tA tB':UT}
theorem uw_and1 (ha:PTU D a tA):PWU D (.BoolOp .And [a] pos) tA:=let ⟨_,p,s⟩:=ha;⟨_,fun X h=>pw_and1 (p X h),s⟩
theorem uw_or1 (ha:PTU D a tA):PWU D (.BoolOp .Or [a] pos) tA:=let ⟨_,p,s⟩:=ha;⟨_,fun X h=>pw_or1 (p X h),s⟩
theorem uw_and (ha:PTU D a tA) (hb:PWU D (.BoolOp .And (b :: rest) pos) tB'):PWU D (.BoolOp .And (a :: b :: rest) pos) (uAnd tA tB'):=let ⟨_,p,s⟩:=ha;let ⟨_,q,r⟩:=hb;⟨_,fun X h=>pw_and (p X h) (q X h),sim_and s r⟩
theorem uw_or (ha:PTU D a tA) (hb:PWU D (.BoolOp .Or (b :: rest) pos) tB'):PWU D (.BoolOp .Or (a :: b :: rest) pos) (uOr tA tB'):=let ⟨_,p,s⟩:=ha;let ⟨_,q,r⟩:=hb;⟨_,fun X h=>pw_or (p X h) (q X h),sim_or s r⟩
theorem ut_not (ha:PTU D a tA):PTU D (.UnaryOp .Not a pos) (uNot tA):=let ⟨_,p,s⟩:=ha;⟨_,fun X h=>pt_not (p X h),sim_not s⟩
theorem ue_one {op} (ha:PEU D a ta):PEU D (.BoolOp op [a] pos) ta:=let ⟨_,p,s⟩:=ha;⟨_,fun X h=>pe_one (p X h),s⟩
theorem ue_and (ha:PEU D a ta) (hb:PEU D (.BoolOp .And (b :: rest) pos) tb):PEU D (.BoolOp .And (a :: b :: rest) pos) (uAndV ta tb):=let ⟨_,p,s⟩:=ha;let ⟨_,q,r⟩:=hb;⟨_,fun X h=>pe_and (p X h) (q X h),sim_andV s r⟩
theorem ue_if (hc:PTU D c tA) (ha:PEU D a ta) (hb:PEU D b tb):PEU D (.IfExp c a b pos) (uIf tA ta tb):=let ⟨_,p,s⟩:=ha;let ⟨_,q,r⟩:=hb;let ⟨_,u,v⟩:=hc;⟨_,fun X h=>pe_ifExp (u X h) (p X h) (q X h),sim_if v s r⟩
variable {es:List Expr} {tas:UA}
theorem ua_nil:PAU D [] uNil:=⟨_,fun X h=>pa_nil,sim_nil⟩
theorem ua_cons (ha:PEU D e te) (hr:PAU D es tas) (hs:∀ env,starEach (e :: es) env=(false,eval e env) :: starEach es env:=by intro _;rfl):PAU D (e :: es) (uCons te tas):=let ⟨_,p,s⟩:=ha;let ⟨_,q,r⟩:=hr;⟨_,fun X h=>pa_cons (p X h) (q X h) (hs _),sim_cons s r⟩
theorem ue_tup {x1} (h:PAU D es tas):PEU D (.Tuple es x1 pos) (uTup tas):=let ⟨_,p,s⟩:=h;⟨_,fun X h=>pe_tup (p X h),sim_tup s⟩
theorem ue_lst (own:Bool:=false) (h:PAU D es tas):PEU D (.List es pos) (uLst own tas):=let ⟨_,p,s⟩:=h;⟨_,fun X h=>pe_lst (p X h),sim_lst s⟩
theorem ue_ix (ha:PEU D a ta) (hb:PEU D b tb) (hs:PlainIx b:=by intro _ _;rfl):PEU D (.Subscript a b pos) (uOp uIx ta tb):=by
  obtain ⟨x,p,s⟩:=ha;obtain ⟨y,q,r⟩:=hb
  refine ⟨_,fun X h=>?_,sim_op sim_ix s r⟩
  have:=pe_ix (pos:=pos) ix_seq (p X h) (q X h) hs
  rw [h.K] at this
  exact this
theorem uo_none:POU D none uNoPart:=⟨_,fun X h=>po_none,sim_noPart⟩
theorem uo_some (h:PEU D e te):POU D (some e) (uPart te):=let ⟨_,p,s⟩:=h;⟨_,fun X h=>po_some (p X h),sim_part s⟩
variable {st:Stmt} {sts body body2:List Stmt} {t u:US}
theorem uss_nil:PSsU D [] uNext:=⟨_,fun X h=>pss_nil,sim_next⟩
theorem uss_cons (h1:PSU D st t) (h2:PSsU D sts u):PSsU D (st :: sts) (uSeq t u):=let ⟨_,p,s⟩:=h1;let ⟨_,q,r⟩:=h2;⟨_,fun X h=>pss_cons (p X h) (q X h),sim_seq s r⟩
theorem uss_one (h1:PSU D st t):PSsU D [st] t:=let ⟨_,p,s⟩:=h1;⟨_,fun X h=>pss_one (p X h),s⟩
theorem us_expr (he:PEU D e te) (hs:∀ env,swapsWith e none pos.line env=pure false:=by intro _;rfl):PSU D (.Expr e pos) (uDrop te):=let ⟨_,p,s⟩:=he;⟨_,fun X h=>ps_expr (p X h) (hs _),sim_drop s⟩
theorem us_ret (he:PEU D e te):PSU D (.Return (some e) pos) (uRet te):=let ⟨_,p,s⟩:=he;⟨_,fun X h=>ps_ret (p X h),sim_ret s⟩
theorem us_if {c:Expr} {tc:UT} (hc:PTU D c tc) (ha:PSsU D body t) (hb:PSsU D body2 u):PSU D (.If c body body2 pos) (uIfS tc t u):=let ⟨_,p,s⟩:=ha;let ⟨_,q,r⟩:=hb;let ⟨_,x,y⟩:=hc;⟨_,fun X h=>ps_if (x X h) (p X h) (q X h),sim_ifS y s r⟩
theorem us_while {c:Expr} {tc:UT} (hc:PTU D c tc) (hb:PSsU D body t):PSU D (.While c body [] pos) (uWhile tc t):=by
  obtain ⟨_,p,s⟩:=hb;obtain ⟨_,x,y⟩:=hc
  exact ⟨_,fun X h=>ps_while (by rw [h.xe];exact PassesOwn.never) (x X h) (p X h),sim_while y s⟩
variable {k:Nat} {g:UG} {gs:UGs}
theorem ug_name (i:Nat) {x:Str} (hN:D.N.Nodup) (hi:D.N[i]?=some x:=by rfl) (hx:Loc D.sc x:=by first | exact Or.inl rfl | exact Or.inr rfl) (hik:i < k:=by decide) (hf:D.fn=true∨D.sc.names.lookup x=some .local:=by first | exact .inl rfl | exact .inr rfl):PGU D k (.Name x pos) (hName i) :=
  ⟨_,fun X h=>pg_name (i:=i) (by rw [h.N];exact hN) (by rw [h.N];exact hi) (by rw [h.sc];exact hx) (by rcases hf with z | z;exact .inl (h.fn z x);exact .inr (by rw [h.sc];exact z)),sim_gname i,gk_name hik,m_name⟩
theorem ugs_nil:PGsU D k [] hNil:=⟨_,fun X h=>pgs_nil,sim_gnil,gk_nil,m_nil⟩
theorem ugs_cons (h1:PGU D k e g) (h2:PGsU D k es gs) (hs:∀ env,(assignEach (e :: es) env).map (·.2)=assign e env :: (assignEach es env).map (·.2):=by intro _;rfl):PGsU D k (e :: es) (hCons g gs) :=
  let ⟨_,p,s,x,y⟩:=h1;let ⟨_,q,r,z,w⟩:=h2;⟨_,fun X h=>pgs_cons (p X h) (q X h) (hs _),sim_gcons s r,gk_cons x z w y,m_cons y w⟩
theorem ug_tup {kk:Nat} {n:Nat} (h:PGsU D k es gs) (hn:∀ env,(assignEach es env).length=n:=by intro _;rfl) (hst:∀ env,(assignEach es env).findIdx? (·.1)=none:=by intro _;rfl):PGU D k (.Tuple es kk pos) (hTup n gs):=by
  obtain ⟨_,p,s,x,y⟩:=h
  refine ⟨_,fun X h=>?_,sim_gtup s,gk_tup x,m_tup y⟩
  have:=pg_tup (pos:=pos) (k:=kk) h.calm (p X h) (hn _) (hst _)
  rw [h.K] at this
  exact this
theorem us_asg {tg:Expr} (he:PEU D e te) (hg:PGU D k tg g) (hs:∀ env,swapsWithSole [tg] e pos.line env=pure false:=by intro _;rfl) (hw:∀ env,swappedStores [tg] e env=pure none:=by intro _;rfl)
    (h1:∀ env,(assignEach [tg] env).map (·.2)=[assign tg env]:=by intro _;rfl):PSU D (.Assign [tg] e pos) (uAsg te g):=let ⟨_,p,s⟩:=he;let ⟨_,q,r,_⟩:=hg;⟨_,fun X h=>ps_asg (p X h) (q X h) (hs _) (hw _) (h1 _),sim_asg s r⟩
theorem us_set (i:Nat) {x:Str} {pos':Pos} (hN:D.N.Nodup) (he:PEU D e te) (hi:D.N[i]?=some x:=by rfl) (hx:Loc D.sc x:=by first | exact Or.inl rfl | exact Or.inr rfl) (hs:∀ env,swapsWith e (some (.Name x pos')) pos.line env=pure false:=by intro _;rfl)
    (hf:D.fn=true∨D.sc.names.lookup x=some .local:=by first | exact .inl rfl | exact .inr rfl):PSU D (.Assign [.Name x pos'] e pos) (uAsg te (hName i)):=by
  obtain ⟨_,p,s⟩:=he
  exact ⟨_,fun X h=>ps_set (i:=i) (by rw [h.N];exact hN) (by rw [h.N];exact hi) (by rw [h.sc];exact hx) (p X h) (hs _) (by rcases hf with z | z;exact .inl (h.fn z x);exact .inr (by rw [h.sc];exact z)),sim_asg s (sim_gname i)⟩
variable {tg iter:Expr} {wi:UI}
theorem ui_seq (h:PEU D e te):PIU D tg e (uIter te):=by
  obtain ⟨_,p,s⟩:=h
  refine ⟨_,fun X h=>?_,sim_iter s⟩
  have:=pi_seq (tg:=tg) (p X h)
  rw [h.K] at this
  exact this
theorem ui_rng1 {p:Pos} {ta:UA} (hm:D.mg "range"=none) (ha:PAU D [a] ta) (hg:D.sc.names.lookup ("range":Str)=some .globalImplicit:=by rfl) (hs:∀ env,starEach [a] env=[(false,eval a env)]:=by intro _;rfl):PIU D tg (.Call (.Name "range" p) [a] [] pos) (uRng1 ta):=by
  obtain ⟨_,q,s⟩:=ha
  exact ⟨_,fun X h=>pi_range1 (by show X.env.scope.names.lookup _=_;rw [h.sc];exact hg) (by rw [h.mg];exact hm) (q X h) (hs _),sim_rng1 s⟩
theorem us_for (hi:PIU D tg iter wi) (hg:PGU D k tg g) (hb:PSsU D body t) (hs:∀ env x,foldedSetIterable iter env x=pure x:=by intro _ _;rfl):PSU D (.For tg iter body [] pos) (uFor wi g t):=by
  obtain ⟨_,p,s⟩:=hi;obtain ⟨_,q,r,_⟩:=hg;obtain ⟨_,x,y⟩:=hb
  exact ⟨_,fun X h=>ps_for (by rw [h.xe];exact PassesOwn.never) h.calm (p X h) (q X h) (x X h) (hs _),sim_for s r y⟩
end
end U2
namespace U2
open PySem PySem.Spec PyProof.Rows L2
structure Callee (P:Program) (w:World) (K:PySem.W.Frag) (mg:Str→Option Value) (base:Heap) (j:Nat) (x:Str) (sp:USp) (dus:List U):Prop where
  ex:∃ f fd ps dvs ds,FnOk P w K mg base CX0 j f fd ps (liftSp K sp)∧mg x=some (.ref f)∧PySem.W.keepIn K (.ref f)=true∧Binds K fd ps ds∧Vals dvs ds∧∀ H M,RelUs K H M dus dvs
abbrev Cal (D:Dat):=Callee D.prog D.w D.K D.mg D.base
section
variable {D:Dat} {a b c e o:Expr} {ta tb tc te:UE} {pos p:Pos} {es:List Expr} {tas:UA} {x:Str}
theorem ue_call {sp:USp} {dus:List U} {j:Nat} (F:Cal D j x sp dus) (ha:PAU D (e :: es) tas) (hj:j≤D.k:=by first | exact Nat.le_refl _ | (dsimp only;omega) | omega | (dsimp only [compD];omega)) (hg:D.sc.names.lookup x=some .globalImplicit:=by rfl) (hdb:(x == ("__debug__":Str))=false:=by decide)
    (he:∀ env,starEach (e :: es) env=(false,eval e env) :: starEach es env:=by intro _;rfl) (hpl:∀ env,(backTo pos (starEach es env)).any (·.1)=false:=by intro _;rfl):PEU D (.Call (.Name x p) (e :: es) [] pos) (uCall sp dus tas):=by
  obtain ⟨f,fd,ps,dvs,ds,F,hm,kp,hb,hd,hr⟩:=F.ex
  obtain ⟨_,q,s⟩:=ha
  refine ⟨tCall (liftSp D.K sp) dvs E0 _,fun X h=>?_,sim_call hr s⟩
  have F':FnOk X.prog X.w X.K X.mg X.base CX0 j f fd ps (liftSp D.K sp):=by rw [h.prog,h.w,h.K,h.mg,h.base];exact F
  exact pe_call F' (h.room.mono hj) (by show X.env.scope.names.lookup x=_;rw [h.sc];exact hg) (by rw [h.mg];exact hm) (by rw [h.K];exact kp) (by rw [h.K];exact hb) hd pass0 (q X h) hdb (he _) (hpl _)
structure Blt (D:Dat) (f:Value) (r':List U→MHp→UK→Prop):Prop where
  ex:∃ r,(∀ X,Has D X→CallR X f r)∧SimCl D.K r r'
theorem ue_b {id:String} {r':List U→MHp→UK→Prop} (k:Blt D (.builtin id) r') (hm:D.mg x=none) (ha:PAU D (e :: es) tas) (hv:bootBuiltins x=some (.builtin id):=by kernel_rfl) (hg:D.sc.names.lookup x=some .globalImplicit:=by rfl) (hn:x≠"__name__":=by decide) (hdb:(x == ("__debug__":Str))=false:=by decide)
    (he:∀ env,starEach (e :: es) env=(false,eval e env) :: starEach es env:=by intro _;rfl) (hpl:∀ env,(backTo pos (starEach es env)).any (·.1)=false:=by intro _;rfl):PEU D (.Call (.Name x p) (e :: es) [] pos) (uCB r' tas):=by
  obtain ⟨r,h1,h2⟩:=k.ex
  obtain ⟨_,q,s⟩:=ha
  exact ⟨_,fun X h=>pe_callB (h1 X h) (by show X.env.scope.names.lookup x=_;rw [h.sc];exact hg) (by rw [h.mg];exact hm) hv (q X h) hn hdb (he _) (hpl _),sim_cb h2 s⟩
theorem ue_t {T:String} {r':List U→MHp→UK→Prop} (k:Blt D (.type T) r') (hm:D.mg x=none) (ha:PAU D (e :: es) tas) (hv:bootBuiltins x=some (.type T):=by kernel_rfl) (hg:D.sc.names.lookup x=some .globalImplicit:=by rfl) (hn:x≠"__name__":=by decide) (hdb:(x == ("__debug__":Str))=false:=by decide)
    (he:∀ env,starEach (e :: es) env=(false,eval e env) :: starEach es env:=by intro _;rfl) (hpl:∀ env,(backTo pos (starEach es env)).any (·.1)=false:=by intro _;rfl):PEU D (.Call (.Name x p) (e :: es) [] pos) (uCB r' tas):=by
  obtain ⟨r,h1,h2⟩:=k.ex
  obtain ⟨_,q,s⟩:=ha
  exact ⟨_,fun X h=>pe_callTy (h1 X h) (by show X.env.scope.names.lookup x=_;rw [h.sc];exact hg) (by rw [h.mg];exact hm) hv (q X h) hn hdb (he _) (hpl _),sim_cb h2 s⟩
theorem b_len:Blt D (.builtin "len") bLen:=⟨⟨_,fun X h=>by have:=call_len (X:=X);rw [h.K] at this;exact this,sim_len⟩⟩
theorem b_list (own:Bool:=false):Blt D (.type "list") (bList own):=⟨⟨_,fun X h=>by have:=call_list_of (X:=X);rw [h.K] at this;exact this,sim_list⟩⟩
theorem b_tuple:Blt D (.type "tuple") bTuple:=⟨⟨_,fun X h=>by have:=call_tuple_of (X:=X);rw [h.K] at this;exact this,sim_tuple⟩⟩
def isiTab:List (String × String × Bool):=[("NoneType","bool",false),("NoneType","int",false),("NoneType","str",false),("NoneType","tuple",false),("NoneType","list",false),("NoneType","dict",false),("bool","bool",true),("bool","int",true),("bool","str",false),("bool","tuple",false),("bool","list",false),("bool","dict",false),("int","bool",false),("int","int",true),("int","str",false),("int","tuple",false),("int","list",false),("int","dict",false),("str","bool",false),("str","int",false),("str","str",true),("str","tuple",false),("str","list",false),("str","dict",false),("tuple","bool",false),("tuple","int",false),("tuple","str",false),("tuple","tuple",true),("tuple","list",false),("tuple","dict",false),("list","bool",false),("list","int",false),("list","str",false),("list","tuple",false),("list","list",true),("list","dict",false),("dict","bool",false),("dict","int",false),("dict","str",false),("dict","tuple",false),("dict","list",false),("dict","dict",true)]
def under2 (t T:String):Option Bool:=(isiTab.find? fun r=>r.1 == t && r.2.1 == T).map (·.2.2)
def bIsi2:List U→MHp→UK→Prop:=fun us M Q=>match us with
  | [x,.ty T]=>match typU M x with
    | some t=>match under2 t T with
      | some b=>Q (.bl b) M
      | none=>False
    | none=>False
  | _=>False
def blsU:List U→Option (List Bool)
  | []=>some []
  | .bl b :: r=>(blsU r).map (b :: ·)
  | _=>none
def bAll:List U→MHp→UK→Prop:=fun us M Q=>match us with
  | [x]=>match view M x with
    | .lst ws=>match blsU ws with
      | some bs=>Q (.bl (bs.all fun b=>b)) M
      | none=>False
    | _=>False
  | _=>False
theorem blsU_rel {K:PySem.W.Frag} {H:Hp} {M:MHp}:∀ {us:List U} {vs:List V} {bs:List Bool},RelUs K H M us vs→blsU us=some bs→vs=bs.map V.bl
  | [],_,_,r,h=>by cases h;exact r.inv_nil
  | u :: us,_,bs,r,h=>by
    obtain ⟨v,vs',rfl,a,b⟩:=r.inv_cons
    cases u with
    | bl y =>
      simp only [blsU] at h
      cases e:blsU us with
      | none=>rw [e] at h;cases h
      | some cs =>
        rw [e] at h
        cases h
        rw [blsU_rel b e,a.bl];rfl
    | _=>cases h
theorem b_all:Blt D (.builtin "all") bAll:=⟨⟨_,fun X h=>by have:=call_allB (X:=X) h.calm;rw [h.K] at this;exact this,fun xs us H M Q' rm rus h Q c=>by
  unfold bAll at h
  split at h
  · rename_i x
    obtain ⟨v,rfl,a1⟩:=rus.one
    split at h
    · rename_i ws e
      split at h
      · rename_i bs e2
        obtain ⟨b,zvs,rfl,s2,r2⟩:=view_lst rm a1 e
        rw [blsU_rel r2 e2] at s2
        exact ⟨b,bs,rfl,s2,c.here rm relU_bl h⟩
      · exact h.elim
    · exact h.elim
  · exact h.elim⟩⟩
theorem ue_append {apos:Pos} (ho:PEU D o ta) (ha:PAU D [e] tas) (hbase:∀ env,attributeBase o "append" env (eval o env)=eval o env:=by intro _;rfl)
    (hfew:∀ env,((backTo pos (starEach [e] env)).all (fun x=>!x.1) && (backToKw pos (keywordEach [] env)).all (fun x=>x.1.isSome) && decide ([e].length + ([]:List Keyword).length + (if ([]:List Keyword).isEmpty then 0 else 1) < 30))=true:=by intro _;rfl)
    (hline:(apos.endLine == pos.line)=true:=by rfl) (hs:∀ env,starEach [e] env=[(false,eval e env)]:=by intro _;rfl):PEU D (.Call (.Attribute o "append" apos) [e] [] pos) (uBM mAppend ta tas):=by
  obtain ⟨_,p,s⟩:=ho;obtain ⟨_,q,r⟩:=ha
  refine ⟨_,fun X h=>?_,sim_bm sim_append s r⟩
  have:=pe_bm (cpos:=pos) (apos:=apos) PySem.F.plainAttrs_list PySem.F.slot_list_append PySem.F.type_list_append mt_append (p X h) (q X h) (hbase _) (hfew _) hline (hs _) (by rfl)
  rw [h.K] at this
  exact this
theorem ue_pop {apos:Pos} (ho:PEU D o ta) (hbase:∀ env,attributeBase o "pop" env (eval o env)=eval o env:=by intro _;rfl)
    (hline:(apos.endLine == pos.line)=true:=by rfl):PEU D (.Call (.Attribute o "pop" apos) [] [] pos) (uBM0 mPop ta):=by
  obtain ⟨_,p,s⟩:=ho
  refine ⟨_,fun X h=>?_,sim_bm0 sim_pop s⟩
  have:=pe_bm0 (cpos:=pos) (apos:=apos) PySem.F.plainAttrs_list PySem.F.slot_list_pop PySem.F.type_list_pop mt_pop (p X h) (hbase _) hline
  rw [h.K] at this
  exact this
def relabelSc (scope sc:Scope):Scope :=
  { scope with names:=scope.names.map fun (n,k)=>if (k == .free && sc.kind == .function && sc.names.lookup n == some .cell) then (n,.cell) else (n,k) }
def compD (D:Dat) (N:List Str) (scope:Scope):Dat:={ D with N:=N,sc:=relabelSc scope D.sc,fn:=false }
theorem Has.comp {X:Cx} (h:Has D X) (N:List Str) (scope:Scope) (cl:List (Str × Addr)) (C:Addr) (s:Shared) (H:Hp) (fp:List Addr):Has (compD D N scope) (compCx X N scope cl C s H fp) :=
  ⟨h.prog,h.w,h.K,h.mg,h.base,rfl,by show relabelSc scope X.env.scope=relabelSc scope D.sc;rw [h.sc],h.room,h.calm,rfl,fun z=>by cases z⟩
theorem uif_nil:PIfU D [] (fun _ M Q=>Q true M):=⟨tYes,fun X h=>pif_nil,fun σ τ H M Q' rs rm q Q c=>c true M H (Stp.refl _ _) rm q⟩
theorem uif_one {t:UT} (h:PTU D c t):PIfU D [c] t:=let ⟨_,p,s⟩:=h;⟨_,fun X h=>pif_one (p X h),s⟩
theorem ue_comp (own:Bool) (N:List Str) (k:Nat) (ix:List Nat) {scope:Scope} {tg iter elt:Expr} {ifs:List Expr} {wi:UI} {g:UG} {tcs:UT} (hi:PIU D tg iter wi) (hg:PGU (compD D N scope) k tg g) (hif:PIfU (compD D N scope) ifs tcs) (he:PEU (compD D N scope) elt te)
    (hk:scope.kind=.function:=by rfl) (hcell:∀ y∈scope.names,y.2≠.cell:=by first | decide +kernel | (dsimp only;decide +kernel) | (dsimp only [compD,relabelSc];decide +kernel)) (hnames:∀ y∈scope.names,y.2=.local→scope.names.lookup y.1=some .local:=by first | decide +kernel | (dsimp only;decide +kernel) | (dsimp only [compD,relabelSc];decide +kernel))
    (hfree:∀ y∈scope.names,y.2=.free→D.sc.names.lookup y.1=some .cell∨D.sc.names.lookup y.1=some .free:=by first | decide +kernel | (dsimp only;decide +kernel) | (dsimp only [compD,relabelSc];decide +kernel)) (hone:∀ y∈scope.names,y.2=.free→scope.names.lookup y.1=some .free:=by first | decide +kernel | (dsimp only;decide +kernel) | (dsimp only [compD,relabelSc];decide +kernel))
    (hN:ix.map (fun i=>D.N[i]?)=(N.drop k).map some:=by rfl) (hcap:∀ x∈N.drop k,scope.names.lookup x=some .free:=by first | decide +kernel | (dsimp only;decide +kernel) | (dsimp only [compD,relabelSc];decide +kernel)) (hlen:N.length=k + ix.length:=by rfl)
    (hs:∀ env x,foldedSetIterable iter env x=pure x:=by intro _ _;rfl):PEU D (.ListComp elt [⟨tg,iter,ifs,0⟩] scope pos) (uComp own k ix wi g tcs te):=by
  obtain ⟨_,p1,s1⟩:=hi;obtain ⟨_,p2,s2,gk,_⟩:=hg;obtain ⟨_,p3,s3⟩:=hif;obtain ⟨_,p4,s4⟩:=he
  have hN':∀ (j:Nat) x,N[k + j]?=some x→∃ i,ix[j]?=some i∧D.N[i]?=some x:=fun j x e=>by
    have e1:((N.drop k).map some)[j]?=some (some x):=by rw [List.getElem?_map,List.getElem?_drop,e];rfl
    rw [← hN,List.getElem?_map] at e1
    cases q:ix[j]? with
    | none=>rw [q] at e1;cases e1
    | some i=>rw [q] at e1;exact ⟨i,rfl,Option.some.inj e1⟩
  have hcap':∀ (j:Nat) x,N[k + j]?=some x→scope.names.lookup x=some .free:=fun j x e=>hcap x (List.mem_of_getElem? (i:=j) (by rw [List.getElem?_drop];exact e))
  refine ⟨_,fun X h=>pe_comp (N:=N) (k:=k) (ix:=ix) h.calm (p1 X h) gk hk hcell hnames (fun y hy e=>by show X.env.scope.names.lookup y.1=_∨X.env.scope.names.lookup y.1=_;rw [h.sc];exact hfree y hy e) hone (fun j x e=>by rw [h.N];exact hN' j x e) hcap' hlen
    (fun cl C s H fp=>p2 _ (h.comp N scope cl C s H fp)) (fun cl C s H fp=>p3 _ (h.comp N scope cl C s H fp)) (fun cl C s H fp=>p4 _ (h.comp N scope cl C s H fp)) (hs _),sim_comp s1 s2 s3 s4⟩
theorem swaps_of {elt:Expr} {gens:List Comprehension} {scope:Scope} {pos py:Pos} {y:Str} {line:Nat} {env:Env} (h1:env.scope.kind=.function) (h2:env.scope.names.lookup y=some .local) (h3:(py.line == pos.line && !(scope.names.any fun (n,k)=>n == y && (k == .local || k == .cell)))=true) :
    swapsWith (.ListComp elt gens scope pos) (some (.Name y py)) line env=pure true:=by
  have e1:(env.blockKind == .function)=true:=by first | (unfold Env.blockKind;rw [h1];rfl) | (unfold Env.blockKind;simp [h1])
  have e2:(env.kindOf y == some .local)=true:=by unfold Env.kindOf;rw [h2];rfl
  show pure (env.blockKind == .function && env.kindOf y == some .local && py.line == pos.line && !(scope.names.any fun (n,k)=>n == y && (k == .local || k == .cell)))=pure true
  rw [e1,e2]
  simp only [Bool.and_eq_true] at h3
  rw [h3.1,h3.2]
  rfl
theorem us_setC (i:Nat) {y:Str} {spos py:Pos} (hNd:D.N.Nodup) (own:Bool) (N:List Str) (k:Nat) (ix:List Nat) {scope:Scope} {tg iter elt:Expr} {ifs:List Expr} {wi:UI} {g:UG} {tcs:UT} (hi:PIU D tg iter wi) (hg:PGU (compD D N scope) k tg g) (hif:PIfU (compD D N scope) ifs tcs) (he:PEU (compD D N scope) elt te)
    (hk:scope.kind=.function:=by rfl) (hcell:∀ y∈scope.names,y.2≠.cell:=by first | decide +kernel | (dsimp only;decide +kernel) | (dsimp only [compD,relabelSc];decide +kernel)) (hnames:∀ y∈scope.names,y.2=.local→scope.names.lookup y.1=some .local:=by first | decide +kernel | (dsimp only;decide +kernel) | (dsimp only [compD,relabelSc];decide +kernel))
    (hfree:∀ y∈scope.names,y.2=.free→D.sc.names.lookup y.1=some .cell∨D.sc.names.lookup y.1=some .free:=by first | decide +kernel | (dsimp only;decide +kernel) | (dsimp only [compD,relabelSc];decide +kernel)) (hone:∀ y∈scope.names,y.2=.free→scope.names.lookup y.1=some .free:=by first | decide +kernel | (dsimp only;decide +kernel) | (dsimp only [compD,relabelSc];decide +kernel))
    (hN:ix.map (fun i=>D.N[i]?)=(N.drop k).map some:=by rfl) (hcap:∀ x∈N.drop k,scope.names.lookup x=some .free:=by first | decide +kernel | (dsimp only;decide +kernel) | (dsimp only [compD,relabelSc];decide +kernel)) (hlen:N.length=k + ix.length:=by rfl)
    (hs:∀ env x,foldedSetIterable iter env x=pure x:=by intro _ _;rfl) (hl1:D.sc.kind=.function:=by rfl) (hl2:D.sc.names.lookup y=some .local:=by rfl) (hl3:(py.line == pos.line && !(scope.names.any fun (n,k)=>n == y && (k == .local || k == .cell)))=true:=by decide +kernel)
    (hiy:D.N[i]?=some y:=by rfl) (hy:Loc D.sc y:=by first | exact Or.inl rfl | exact Or.inr rfl) (hf:D.fn=true∨D.sc.names.lookup y=some .local:=by first | exact .inl rfl | exact .inr rfl):PSU D (.Assign [.Name y py] (.ListComp elt [⟨tg,iter,ifs,0⟩] scope pos) spos) (uAsg (uComp own k ix wi g tcs te) (hName i)):=by
  obtain ⟨_,p1,s1⟩:=hi;obtain ⟨_,p2,s2,gk,_⟩:=hg;obtain ⟨_,p3,s3⟩:=hif;obtain ⟨_,p4,s4⟩:=he
  have hN':∀ (j:Nat) x,N[k + j]?=some x→∃ i,ix[j]?=some i∧D.N[i]?=some x:=fun j x e=>by
    have e1:((N.drop k).map some)[j]?=some (some x):=by rw [List.getElem?_map,List.getElem?_drop,e];rfl
    rw [← hN,List.getElem?_map] at e1
    cases q:ix[j]? with
    | none=>rw [q] at e1;cases e1
    | some i=>rw [q] at e1;exact ⟨i,rfl,Option.some.inj e1⟩
  have hcap':∀ (j:Nat) x,N[k + j]?=some x→scope.names.lookup x=some .free:=fun j x e=>hcap x (List.mem_of_getElem? (i:=j) (by rw [List.getElem?_drop];exact e))
  refine ⟨_,fun X h=>ps_comp (i:=i) (N:=N) (k:=k) (ix:=ix) h.calm (p1 X h) gk hk hcell hnames (fun y hy e=>by show X.env.scope.names.lookup y.1=_∨X.env.scope.names.lookup y.1=_;rw [h.sc];exact hfree y hy e) hone (fun j x e=>by rw [h.N];exact hN' j x e) hcap' hlen
    (fun cl C s H fp=>p2 _ (h.comp N scope cl C s H fp)) (fun cl C s H fp=>p3 _ (h.comp N scope cl C s H fp)) (fun cl C s H fp=>p4 _ (h.comp N scope cl C s H fp)) (hs _) (swaps_of (by rw [h.sc];exact hl1) (by rw [h.sc];exact hl2) hl3) (by rw [h.N];exact hNd) (by rw [h.N];exact hiy) (by rw [h.sc];exact hy) (by rcases hf with z | z;exact .inl (h.fn z y);exact .inr (by rw [h.sc];exact z)),sim_asg (sim_comp s1 s2 s3 s4) (sim_gname i)⟩
end
section
variable {P:Program} {w:World} {K:PySem.W.Frag} {mg:Str→Option Value} {base:Heap}
theorem start_rel {H:Hp} {M:MHp} {N:List Str} {us:List U} {vs:List V} (r:RelUs K H M us vs):RelS K H M (L2.start N vs) (startU N us):=by
  have hl:=r.length
  refine ⟨by simp [L2.start,startU,hl],fun i u e=>?_⟩
  unfold startU at e
  unfold L2.start
  by_cases hi:i < us.length
  · rw [List.getElem?_append_left (by simpa using hi),List.getElem?_map] at e
    cases q:us[i]? with
    | none=>rw [q] at e;cases e
    | some u' =>
      rw [q] at e
      cases e
      obtain ⟨v,h1,h2⟩:=r.get q
      exact ⟨v,by rw [List.getElem?_append_left (by rw [List.length_map];omega),List.getElem?_map,h1];rfl,h2⟩
  · rw [List.getElem?_append_right (by simpa using hi),List.getElem?_replicate] at e
    split at e <;> cases e
theorem fnok_of {x:Str} {st:Stmt} {f:Addr} {fd:FuncData} {N ps:List Str} {k:Nat} {sp:USp} {t:US} (F:Fun K x x st f fd) (S:FnScope N ps (defScope st))
    (len:∀ us M Q,sp us M Q→us.length=ps.length)
    (h:PSsU ⟨P,w,K,mg,base,N,defScope st,k,true⟩ (defBody st) t)
    (q:∀ us M Q,sp us M Q→t { nx:=fun _ M'=>rtU Q .non M',rt:=rtU Q } (startU N us) M):FnOk P w K mg base CX0 (k + 1) f fd ps (liftSp K sp):=by
  obtain ⟨t0,h1,h2⟩:=h
  refine F.ok S (fun vs H Q E ⟨us,M,Q',_,r,hs,_⟩=>by rw [← r.length];exact len us M Q' hs) (fun cdv A outer s H vs Q E hr ⟨us,M,Q',rm,r,hs,c⟩=>?_)
  refine ⟨t0,h1 _ ⟨rfl,rfl,rfl,rfl,rfl,rfl,rfl,hr,rfl,rfl,fun _ _=>rfl⟩,?_⟩
  refine h2 _ (startU N us) H M _ (start_rel r) rm (q us M Q' hs) _ ⟨fun σ τ H1 M1 s1 rm1 rs1 q1=>?_,fun u v H1 M1 s1 rm1 ru q1=>rtU.ok c s1 rm1 ru q1,fun _ _ _ _ _ _ _ z=>z.elim,fun _ _ _ _ _ _ _ z=>z.elim⟩
  exact rtU.ok c s1 rm1 relU_non q1
theorem callee_of {x:Str} {st:Stmt} {f:Addr} {fd:FuncData} {N ps:List Str} {k:Nat} {sp:USp} {t:US} (F:Fun K x x st f fd) (hm:mg x=some (.ref f)) (S:FnScope N ps (defScope st))
    (bind:∀ (kV doc pm:Value) (an:Option Addr) (cdv ct:Value) (us:List Value),us.length=ps.length→bindArgs (PySem.W.fnOf x x (defArgs st) (defBody st) (defScope st) .none kV doc pm an cdv ct) ⟨us,[]⟩=pure (ps.zip us))
    (len:∀ us M Q,sp us M Q→us.length=ps.length)
    (h:PSsU ⟨P,w,K,mg,base,N,defScope st,k,true⟩ (defBody st) t)
    (q:∀ us M Q,sp us M Q→t { nx:=fun _ M'=>rtU Q .non M',rt:=rtU Q } (startU N us) M):Callee P w K mg base (k + 1) x sp []:=by
  obtain ⟨t0,h1,h2⟩:=h
  refine ⟨f,fd,ps,[],[],F.ok S (fun vs H Q E ⟨us,M,Q',_,r,hs,_⟩=>by rw [← r.length];exact len us M Q' hs) (fun cdv A outer s H vs Q E hr ⟨us,M,Q',rm,r,hs,c⟩=>?_),hm,F.kp,F.binds bind,.nil,fun H M=>.nil⟩
  refine ⟨t0,h1 _ ⟨rfl,rfl,rfl,rfl,rfl,rfl,rfl,hr,rfl,rfl,fun _ _=>rfl⟩,?_⟩
  refine h2 _ (startU N us) H M _ (start_rel r) rm (q us M Q' hs) _ ⟨fun σ τ H1 M1 s1 rm1 rs1 q1=>?_,fun u v H1 M1 s1 rm1 ru q1=>rtU.ok c s1 rm1 ru q1,fun _ _ _ _ _ _ _ z=>z.elim,fun _ _ _ _ _ _ _ z=>z.elim⟩
  exact rtU.ok c s1 rm1 relU_non q1
end
end U2
namespace U2
open PySem L2
theorem isi_NoneType_bool:under2 "NoneType" "bool"=some false:=by decide +kernel
theorem isi_NoneType_int:under2 "NoneType" "int"=some false:=by decide +kernel
theorem isi_NoneType_str:under2 "NoneType" "str"=some false:=by decide +kernel
theorem isi_NoneType_tuple:under2 "NoneType" "tuple"=some false:=by decide +kernel
theorem isi_NoneType_list:under2 "NoneType" "list"=some false:=by decide +kernel
theorem isi_NoneType_dict:under2 "NoneType" "dict"=some false:=by decide +kernel
theorem isi_bool_bool:under2 "bool" "bool"=some true:=by decide +kernel
theorem isi_bool_int:under2 "bool" "int"=some true:=by decide +kernel
theorem isi_bool_str:under2 "bool" "str"=some false:=by decide +kernel
theorem isi_bool_tuple:under2 "bool" "tuple"=some false:=by decide +kernel
theorem isi_bool_list:under2 "bool" "list"=some false:=by decide +kernel
theorem isi_bool_dict:under2 "bool" "dict"=some false:=by decide +kernel
theorem isi_int_bool:under2 "int" "bool"=some false:=by decide +kernel
theorem isi_int_int:under2 "int" "int"=some true:=by decide +kernel
theorem isi_int_str:under2 "int" "str"=some false:=by decide +kernel
theorem isi_int_tuple:under2 "int" "tuple"=some false:=by decide +kernel
theorem isi_int_list:under2 "int" "list"=some false:=by decide +kernel
theorem isi_int_dict:under2 "int" "dict"=some false:=by decide +kernel
theorem isi_str_bool:under2 "str" "bool"=some false:=by decide +kernel
theorem isi_str_int:under2 "str" "int"=some false:=by decide +kernel
theorem isi_str_str:under2 "str" "str"=some true:=by decide +kernel
theorem isi_str_tuple:under2 "str" "tuple"=some false:=by decide +kernel
theorem isi_str_list:under2 "str" "list"=some false:=by decide +kernel
theorem isi_str_dict:under2 "str" "dict"=some false:=by decide +kernel
theorem isi_tuple_bool:under2 "tuple" "bool"=some false:=by decide +kernel
theorem isi_tuple_int:under2 "tuple" "int"=some false:=by decide +kernel
theorem isi_tuple_str:under2 "tuple" "str"=some false:=by decide +kernel
theorem isi_tuple_tuple:under2 "tuple" "tuple"=some true:=by decide +kernel
theorem isi_tuple_list:under2 "tuple" "list"=some false:=by decide +kernel
theorem isi_tuple_dict:under2 "tuple" "dict"=some false:=by decide +kernel
theorem isi_list_bool:under2 "list" "bool"=some false:=by decide +kernel
theorem isi_list_int:under2 "list" "int"=some false:=by decide +kernel
theorem isi_list_str:under2 "list" "str"=some false:=by decide +kernel
theorem isi_list_tuple:under2 "list" "tuple"=some false:=by decide +kernel
theorem isi_list_list:under2 "list" "list"=some true:=by decide +kernel
theorem isi_list_dict:under2 "list" "dict"=some false:=by decide +kernel
theorem isi_dict_bool:under2 "dict" "bool"=some false:=by decide +kernel
theorem isi_dict_int:under2 "dict" "int"=some false:=by decide +kernel
theorem isi_dict_str:under2 "dict" "str"=some false:=by decide +kernel
theorem isi_dict_tuple:under2 "dict" "tuple"=some false:=by decide +kernel
theorem isi_dict_list:under2 "dict" "list"=some false:=by decide +kernel
theorem isi_dict_dict:under2 "dict" "dict"=some true:=by decide +kernel
theorem rt_same {Q:UK} {u:U} {M:MHp} (q:Q u M):rtU Q u M:=⟨u,M,Sub.refl M,.inl rfl,q⟩
theorem uComp_pure {o:Bool} {k:Nat} {ix:List Nat} {wi:UI} {g:UG} {tc:UT} {te:UE} {τ:SU} {M M1:MHp} {Q:UK} {S:Src} (f:U→Option U) (hw:∀ R:Src→MHp→Prop,R S M1→wi τ M R) (hz:S.xs.length≤sizeLine) (hs:S.ok M1)
    (h:∀ x∈S.xs,∀ M,Sub M1 M→∀ R:Option U→MHp→Prop,R (f x) M→g x (capt k ix τ) M fun τ2 M2=>tc τ2 M2 fun ok M3=>if ok=true then te τ2 M3 fun y M4=>R (some y) M4 else R none M3)
    (q:mkL o (S.xs.filterMap f) M1 Q):uComp o k ix wi g tc te τ M Q:=hw _ (comp_pure (wi:=wi) f hz hs h q)
theorem for_by {wi:UI} {g:UG} {tb:US} {D:UEnds} {τ:SU} {M M1:MHp} {S:Src} (hw:∀ R:Src→MHp→Prop,R S M1→wi τ M R) (P:Nat→SU→MHp→Prop) (h0:P 0 τ M1) (hok:∀ i τ M,P i τ M→S.ok M)
    (turn:∀ i x τ M,S.xs[i]?=some x→P i τ M→g x τ M fun τ2 M2=>tb { D with nx:=P (i + 1),ct:=P (i + 1),bk:=D.nx } τ2 M2) (fin:∀ τ M,P S.xs.length τ M→D.nx τ M):uFor wi g tb D τ M:=hw _ ⟨P,h0,hok,turn,fin⟩
theorem while_by {c:UT} {tb:US} {D:UEnds} {τ:SU} {M:MHp} (P:SU→MHp→Prop) (μ:SU→MHp→Nat) (h0:P τ M)
    (turn:∀ τ M,P τ M→c τ M fun b M1=>if b=true then tb { D with nx:=fun τ' M'=>P τ' M'∧μ τ' M' < μ τ M,ct:=fun τ' M'=>P τ' M'∧μ τ' M' < μ τ M,bk:=D.nx } τ M1 else D.nx τ M1):uWhile c tb D τ M:=⟨P,μ,h0,turn⟩
theorem rangeU_get {lo:Int} {n i:Nat} {x:U} (h:(rangeU lo n)[i]?=some x):x=.int (lo + i)∧i < n:=by
  have hi:i < n:=by
    have:=(List.getElem?_eq_some_iff.mp h).1
    simpa [rangeU] using this
  simp only [rangeU,List.getElem?_map,List.getElem?_range hi,Option.map_some] at h
  exact ⟨(Option.some.inj h).symm,hi⟩
theorem rangeU_len (lo:Int) (n:Nat):(rangeU lo n).length=n:=by simp [rangeU]
end U2
namespace U2
open PySem PySem.Spec PyProof.Rows L2
inductive Fl where
  | int (i:Int) | str (x:Str)
def Fl.d:Fl→PyData
  | .int i=>.int i
  | .str x=>.str x
def Fl.u:Fl→U
  | .int i=>.int i
  | .str x=>.str x
def tabD (T:List (Str × Fl)):List (PyData × PyData):=T.map fun p=>(PyData.str p.1,p.2.d)
def tabGet:List (Str × Fl)→Str→Option Fl
  | [],_=>none
  | (a,b) :: r,z=>if a=z then some b else tabGet r z
structure IsTab (P:Program) (w:World) (K:PySem.W.Frag) (d:Addr) (T:List (Str × Fl)):Prop where
  at_:∀ h:Heap,K.In h→StrTab P w h d (tabD T)
theorem sameS (a b:Str):same (.str a) (.str b)=decide (a=b):=by
  by_cases h:a=b <;> simp [same,h]
theorem lookup_tab:∀ (T:List (Str × Fl)) (z:Str),PySem.Spec.lookup (.str z) (tabD T)=(tabGet T z).map Fl.d
  | [],_=>rfl
  | (a,b) :: r,z=>by
    have ih:=lookup_tab r z
    show (if same (.str a) (.str z)=true then some b.d else PySem.Spec.lookup (.str z) (tabD r))=((if a=z then some b else tabGet r z).map Fl.d)
    rw [sameS]
    by_cases e:a=z
    · rw [if_pos (decide_eq_true e),if_pos e];rfl
    · rw [if_neg (by simpa using e),if_neg e,ih]
def tabP (T:List (Str × Fl)):List (Str × PyData):=T.map fun p=>(p.1,p.2.d)
theorem tab_of {P:Program} {w:World} {K:PySem.W.Frag} {d:Addr} {T:List (Str × Fl)} (n:((tabP T).map (·.1)).Nodup) (e:KTD.tabLook KTD.flatLooks (fun b=>K.lookup b) d (tabP T)=true) (q:KTD.hashesOf (fun b=>K.lookup b) d=(tabP T).map fun p=>(PySem.strKind P w).hash p.1):IsTab P w K d T:=⟨fun h hK=>by
  have:=PySem.W.kt_tab_in P w hK e n q
  unfold tabP at this
  rw [List.map_map] at this
  exact this⟩
section
variable {X:Cx} {d:Addr} {T:List (Str × Fl)}
theorem op_inTab (t:IsTab X.prog X.w X.K d T):OpR X (compareOp .In) (fun x y H Q=>∃ z,x=.str z∧y=.ref d∧Q (.bl (tabGet T z).isSome) H):=by
  intro pins s σ H x y v u Q I rx ry h
  obtain ⟨z,rfl,rfl,q⟩:=h
  obtain ⟨tk,rfl⟩:=rx
  cases ry
  refine in_strTab (t.at_ _ I.kIn) ?_
  rw [lookup_tab,Option.isSome_map]
  exact ⟨.bl _,H,I.tok _,rfl,q⟩
end
section
variable {D:Dat} {d:Addr} {T:List (Str × Fl)}
abbrev Tab (D:Dat):=IsTab D.prog D.w D.K
def inTab (d:Addr) (T:List (Str × Fl)) (neg:Bool):UR2:=fun x y M Q=>match x with
  | .str z=>y=.ref d∧Q (.bl (if neg then !(tabGet T z).isSome else (tabGet T z).isSome)) M
  | _=>False
theorem k_inTab (t:Tab D d T):Cmp D .In (inTab d T false):=⟨⟨_,fun X h=>op_inTab (by rw [h.prog,h.w,h.K];exact t),fun x y u w H M Q' rm ru rw h Q c=>by
  cases u with
  | str z=>obtain ⟨rfl,h⟩:=h;exact ⟨z,ru.str,rw.ref,c.here rm relU_bl h⟩
  | _=>exact h.elim⟩⟩
def ixTab (d:Addr) (T:List (Str × Fl)):UR2:=fun x y M Q=>match y with
  | .str z=>x=.ref d∧match tabGet T z with
    | some f=>Q f.u M
    | none=>False
  | _=>False
def tCallV (i:Nat) (f:Addr) (sp:Sp) (t:TA):TE:=fun σ H Q=>tVar i σ H fun v H1=>v=.ref f∧t σ H1 fun vs H2=>sp vs H2 Q E0
theorem pe_callv {X:Cx} {x:Str} {p pos:Pos} {e:Expr} {es:List Expr} {i k:Nat} {f:Addr} {fd:FuncData} {ps:List Str} {sp:Sp} {t:TA} (hN:X.N[i]?=some x) (hv:Vis X.env.scope x) (F:FnOk X.prog X.w X.K X.mg X.base CX0 k f fd ps sp) (hr:Room k X.A) (hk:PySem.W.keepIn X.K (.ref f)=true) (hb:Binds X.K fd ps [])
    (ha:PA X (e :: es) t) (hd:(x == ("__debug__":Str))=false) (hcd:(x == ("__classdict__":Str))=false) (he:starEach (e :: es) X.env=(false,eval e X.env) :: starEach es X.env) (hpl:(backTo pos (starEach es X.env)).any (·.1)=false) :
    PE X (.Call (.Name x p) (e :: es) [] pos) (tCallV i f sp t):=by
  intro pins s σ H Q I h
  refine wpAny_Call_Name_kw (thn (pe_var (i:=i) hN hv hd hcd pins s σ H _ I h) fun v s1 ⟨x',H1,I1,r1,e1,q1⟩=>?_)
  subst e1
  cases r1
  refine PySem.W.callWith_K (h₀:=X.base) I1.ok.mod.kin hk (thn (ha pos pins s1 σ H1 _ I1 q1) fun us s2 ⟨vs,H2,I2,r,q⟩=>⟨I2.kIn,?_⟩) he hpl
  exact run_fn (dvs:=[]) F hr hb .nil pass0 I2 r (by rw [List.append_nil];exact q)
structure CalleeAt (P:Program) (w:World) (K:PySem.W.Frag) (mg:Str→Option Value) (base:Heap) (j:Nat) (f:Addr) (sp:USp):Prop where
  ex:∃ fd ps,FnOk P w K mg base CX0 j f fd ps (liftSp K sp)∧PySem.W.keepIn K (.ref f)=true∧Binds K fd ps []
def uCallV (i:Nat) (f:Addr) (sp:USp) (t:UA):UE:=fun τ M Q=>uVar i τ M fun v M1=>v=.ref f∧t τ M1 fun us M2=>sp us M2 Q
theorem ue_callv (i:Nat) {x:Str} {p pos:Pos} {e:Expr} {es:List Expr} {j:Nat} {f:Addr} {sp:USp} {tas:UA} (F:CalleeAt D.prog D.w D.K D.mg D.base j f sp) (ha:PAU D (e :: es) tas) (hN:D.N[i]?=some x:=by rfl) (hv:Vis D.sc x:=by first | exact Or.inl rfl | exact Or.inr (Or.inl rfl) | exact Or.inr (Or.inr rfl))
    (hj:j≤D.k:=by first | exact Nat.le_refl _ | (dsimp only;omega) | omega | (dsimp only [compD];omega)) (hd:(x == ("__debug__":Str))=false:=by decide) (hcd:(x == ("__classdict__":Str))=false:=by decide)
    (he:∀ env,starEach (e :: es) env=(false,eval e env) :: starEach es env:=by intro _;rfl) (hpl:∀ env,(backTo pos (starEach es env)).any (·.1)=false:=by intro _;rfl):PEU D (.Call (.Name x p) (e :: es) [] pos) (uCallV i f sp tas):=by
  obtain ⟨fd,ps,F,kp,hb⟩:=F.ex
  obtain ⟨t,q,s⟩:=ha
  refine ⟨tCallV i f (liftSp D.K sp) t,fun X h=>?_,fun σ τ H M Q' rs rm h Q c=>?_⟩
  · have F':FnOk X.prog X.w X.K X.mg X.base CX0 j f fd ps (liftSp D.K sp):=by rw [h.prog,h.w,h.K,h.mg,h.base];exact F
    exact pe_callv (by rw [h.N];exact hN) (by rw [h.sc];exact hv) F' (h.room.mono hj) (by rw [h.K];exact kp) (by rw [h.K];exact hb) (q X h) hd hcd (he _) (hpl _)
  · refine sim_var i σ τ H M _ rs rm h _ fun u v M1 H1 s1 rm1 ru h1=>?_
    obtain ⟨rfl,h1⟩:=h1
    refine ⟨ru.ref,s σ τ H1 M1 _ (rs.stp s1) rm1 h1 _ fun us vs M2 H2 s2 rm2 rus h2=>?_⟩
    exact ⟨us,M2,Q',rm2,rus,h2,Cont.stp c (s1.trans s2)⟩
end
end U2
namespace U2
open PySem PySem.Spec PyProof.Rows L2
def half (j:Int):Nat:=((j + 1) / 2).toNat
theorem size_two {j:Int} (h:0≤j):Builtin.Range.rangeSize 0 j 2=(half j:Nat):=by
  unfold Builtin.Range.rangeSize half
  simp only [show (2:Int) > 0 by decide,if_true]
  split <;> omega
def rangeU2 (n:Nat):List U:=(List.range n).map fun (k:Nat)=>U.int ((k:Int) * 2)
theorem rangeU2_len (n:Nat):(rangeU2 n).length=n:=by simp [rangeU2]
end U2
namespace U2
open PySem PySem.Spec PyProof.Rows L2
def strsU:List U→Option (List Str)
  | []=>some []
  | .str b :: r=>(strsU r).map (b :: ·)
  | _=>none
theorem strsU_rel {K:PySem.W.Frag} {H:Hp} {M:MHp}:∀ {us:List U} {vs:List V} {bs:List Str},RelUs K H M us vs→strsU us=some bs→vs=bs.map V.str
  | [],_,_,r,h=>by cases h;exact r.inv_nil
  | u :: us,_,bs,r,h=>by
    obtain ⟨v,vs',rfl,a,b⟩:=r.inv_cons
    cases u with
    | str y =>
      simp only [strsU] at h
      cases e:strsU us with
      | none=>rw [e] at h;cases h
      | some cs =>
        rw [e] at h
        cases h
        rw [strsU_rel b e,a.str];rfl
    | _=>cases h
end U2
namespace U2
open PySem L2
theorem at0 {α:Type} {a:α} {r:List α}:atI (a :: r) 0=some a:=atI_nat (j:=0) rfl
theorem at1 {α:Type} {a b:α} {r:List α}:atI (a :: b :: r) 1=some b:=atI_nat (j:=1) rfl
theorem at2 {α:Type} {a b c:α} {r:List α}:atI (a :: b :: c :: r) 2=some c:=atI_nat (j:=2) rfl
theorem at3 {α:Type} {a b c d:α} {r:List α}:atI (a :: b :: c :: d :: r) 3=some d:=atI_nat (j:=3) rfl
theorem atI_ex {α:Type} (l:List α) (i:Int) (h0:0≤i) (h1:i < l.length):∃ c,atI l i=some c:=by
  have hl:i.toNat < l.length:=by omega
  refine ⟨l[i.toNat],?_⟩
  have e:((i.toNat:Nat):Int)=i:=by omega
  have q:=atI_nat (xs:=l) (j:=i.toNat) (v:=l[i.toNat]) (by simp [hl])
  rw [e] at q
  exact q
theorem gl_1 {α:Type} (l:List α) (a:α):(l++[a]).getLast?=some a:=by simp
theorem dl_1 {α:Type} (l:List α) (a:α):(l++[a]).dropLast=l:=List.dropLast_concat
theorem cut1 {α:Type} (a:α) (r:List α):cutU (a :: r) (some 1) none=r:=by
  unfold cutU
  simp [HT.sIx]
  try omega
theorem vw_non {M:MHp}:view M .non=.non:=rfl
theorem vw_bl {M:MHp} {x:Bool}:view M (.bl x)=.bl x:=rfl
theorem vw_int {M:MHp} {x:Int}:view M (.int x)=.int x:=rfl
theorem vw_str {M:MHp} {x:Str}:view M (.str x)=.str x:=rfl
theorem vw_tup {M:MHp} {x:List U}:view M (.tup x)=.tup x:=rfl
theorem vw_lst {M:MHp} {x:List U}:view M (.lst x)=.lst x:=rfl
theorem vw_own {M:MHp} {p:Addr} {us:List U}:view (mup M p (.lst us)) (.ref p)=.lst us:=view_ref mup_same
theorem isL_own {M:MHp} {p:Addr} {us:List U}:isL (mup M p (.lst us)) (.ref p):=⟨us,vw_own⟩
theorem uComp_list {o:Bool} {k:Nat} {ix:List Nat} {wi:UI} {g:UG} {te:UE} {τ:SU} {M M1:MHp} {Q:UK} {S:Src} (zs:List U) (hw:∀ R:Src→MHp→Prop,R S M1→wi τ M R) (hl:zs.length=S.xs.length) (hz:S.xs.length≤sizeLine) (hs:S.ok M1)
    (h:∀ (i:Nat) x y,S.xs[i]?=some x→zs[i]?=some y→∀ M,Sub M1 M→∀ R:UK,R y M→g x (capt k ix τ) M fun τ2 M2=>te τ2 M2 R)
    (q:mkL o zs M1 Q):uComp o k ix wi g (fun _ M Q=>Q true M) te τ M Q:=by
  refine hw _ ⟨hz,fun D hD=>⟨fun i ys M=>ys=zs.take i∧M=mup M1 D (.lst ys)∧i≤S.xs.length,⟨by simp,rfl,Nat.zero_le _⟩,?_,?_,?_⟩⟩
  · rintro i ys M ⟨rfl,rfl,hi⟩
    refine ⟨fun a e=>?_,mup_same,?_⟩
    · have:=hs a e
      rw [mup_ne (fun z=>by subst z;rw [hD] at this;cases this)]
      exact this
    · rw [List.length_take];omega
  · rintro i x ys M e ⟨rfl,rfl,hi⟩
    have hlt:i < S.xs.length:=(List.getElem?_eq_some_iff.mp e).1
    have hy:zs[i]?=some zs[i]:=by simp [show i < zs.length by omega]
    have tk:zs.take (i + 1)=zs.take i++[zs[i]]:=by rw [List.take_add_one,hy];rfl
    refine h i x zs[i] e hy (mup M1 D (.lst (zs.take i))) ((Sub.refl M1).mup hD) (fun y M4=>M4 D=some (.lst (zs.take i))∧(zs.take i++[y]=zs.take (i + 1)∧mup M4 D (.lst (zs.take i++[y]))=mup M1 D (.lst (zs.take i++[y]))∧i + 1≤S.xs.length)) ?_
    exact ⟨mup_same,tk.symm,mup_mup,hlt⟩
  · rintro ys M ⟨rfl,rfl,hi⟩
    rw [show zs.take S.xs.length=zs by rw [← hl];exact List.take_length]
    cases o with
    | true=>exact q D hD
    | false=>exact ⟨M1,(Sub.refl M1).mup hD,hD,q⟩
end U2
namespace U2
open PySem PySem.Spec PyProof.Rows L2
section
variable {prog:Program} {w:World} {A:Around} {E:Value→Shared→Prop} {s:Shared}
theorem nextOf_tuple_item {it t:Addr} {i:Nat} {items} {x:Value} {Q:Value→Shared→Prop} (hit:s.heap.IsTupleIter it t i)
    (ht:s.heap.IsTuple t items) (hx:items[i]?=some x)
    (hQ:∀ h',h'.IsTupleIter it t (i + 1)→Heap.SameBut it s.heap h'→Q x { s with heap:=h' }) :
    wpAny (model prog w) A (Builtin.SmallTypes.nextOf (.ref it)) Q E s:=by
  obtain ⟨o,ho,hc,hd⟩:=id hit
  obtain ⟨ol,hol,_,nl,hdl⟩:=ht
  unfold Builtin.SmallTypes.nextOf
  refine wpAny_bind (wpAny_callSpecial?_slot (name:=Str.ofString "__next__") hit.typeIs PySem.F.slot_tuple_iterator_next
    (wpAny_call_entry PySem.F.slot_tuple_iterator_next hit.typeIs PySem.F.entry_tuple_iterator_next ?_ (PySem.F.args_tuple_iterator_next_1 _)))
  show wpAny _ _ (field (.ref it) 0 >>= _) _ _ s
  refine wpAny_bind (wpAny_field ho hd (x:=.ref t) rfl ?_)
  show wpAny _ _ (if (Value.ref t == Value.none)=true then _ else _) _ _ s
  rw [if_neg (show ¬ ((Value.ref t == Value.none)=true) from Bool.false_ne_true)]
  show wpAny _ _ (field (.ref it) 1 >>= _) _ _ s
  refine wpAny_bind (wpAny_field ho hd (x:=.int i 0) rfl ?_)
  show wpAny _ _ (seqItems? (.ref t) >>= _) _ _ s
  refine wpAny_bind (wpAny_seqItems hol hdl ?_)
  simp only [Int.toNat_natCast,hx]
  refine wpAny_bind (wpAny_setField ho hd (by simp) (wpAny_pure ⟨x,rfl,wpAny_pure (hQ _ ?_ (Heap.SameBut.update ..))⟩))
  exact ⟨_,Heap.get?_update_self _ ho (Obj.isFreed_of_fields (Obj.data_mapFields hd _)),(Obj.cls_mapFields ..).trans hc,by
    rw [Obj.data_mapFields hd];simp [rawInt]⟩
theorem nextOf_tuple_end {it t:Addr} {i:Nat} {items} {Q:Value→Shared→Prop} (hh:A.handled=none)
    (hit:s.heap.IsTupleIter it t i) (ht:s.heap.IsTuple t items) (hx:items[i]?=none)
    (hE:∀ h' e,Heap.ExtBut it s.heap h'→(∃ o,h'.get? e=some o∧o.cls=.type "StopIteration")→E (.ref e) { s with heap:=h' }) :
    wpAny (model prog w) A (Builtin.SmallTypes.nextOf (.ref it)) Q E s:=by
  obtain ⟨o,ho,hc,hd⟩:=id hit
  obtain ⟨ol,hol,_,nl,hdl⟩:=ht
  unfold Builtin.SmallTypes.nextOf
  refine wpAny_bind (wpAny_callSpecial?_slot (name:=Str.ofString "__next__") hit.typeIs PySem.F.slot_tuple_iterator_next
    (wpAny_call_entry PySem.F.slot_tuple_iterator_next hit.typeIs PySem.F.entry_tuple_iterator_next ?_ (PySem.F.args_tuple_iterator_next_1 _)))
  show wpAny _ _ (field (.ref it) 0 >>= _) _ _ s
  refine wpAny_bind (wpAny_field ho hd (x:=.ref t) rfl ?_)
  show wpAny _ _ (if (Value.ref t == Value.none)=true then _ else _) _ _ s
  rw [if_neg (show ¬ ((Value.ref t == Value.none)=true) from Bool.false_ne_true)]
  show wpAny _ _ (field (.ref it) 1 >>= _) _ _ s
  refine wpAny_bind (wpAny_field ho hd (x:=.int i 0) rfl ?_)
  show wpAny _ _ (seqItems? (.ref t) >>= _) _ _ s
  refine wpAny_bind (wpAny_seqItems hol hdl ?_)
  simp only [Int.toNat_natCast,hx]
  refine wpAny_bind (wpAny_rule (wpAny_bind (wpAny_setField ho hd (by simp) ?_)))
  show wpAny _ _ (newExc (.type "StopIteration") [] >>= _) _ _ _
  refine wpAny_bind ?_
  simp only [newExc,newTuple]
  refine wpAny_bind (wpAny_newObj_type ?_ (by size_fits))
  refine wpAny_bind (m:=firstArgMember _ _) (wpAny_of_eq (a:=Value.none) (by first | rfl | (simp only [firstArgMember];rfl)) ?_)
  refine wpAny_newObj_type ?_ (by size_fits)
  simp only [raiseNew]
  refine wpAny_bind (wpAny_handled ?_)
  first | rw [show A.in1.handled=none from hh] | rw [hh]
  refine wpAny_bind (wpAny_pure (wpAny_throw ?_))
  exact hE _ _ (((Heap.SameBut.update ..).extBut.push _).push _) ⟨_,Heap.get?_push_size _ rfl,rfl⟩
theorem draws_tuple {prog:Program} {w:World} {A:Around} (hh:A.handled=none) (it l:Addr) (hne:l≠it) (items:Array Value) :
    Draws prog w A it [it,l] items.size (fun i v=>items[i]?=some v) (fun i h=>h.IsTupleIter it l i∧h.IsTuple l items) where
  live:=fun _ _ st=>let ⟨o,ho,_⟩:=st.1;⟨o,ho⟩
  frame:=fun _ _ _ st hk=>⟨st.1.at fun o e=>hk it (by simp) o e,let ⟨o,ho,r⟩:=st.2;⟨o,hk l (by simp) o ho,r⟩⟩
  item:=fun i s Q E hi st hQ=>by
    refine nextOf_tuple_item st.1 st.2 (x:=items[i]) (by simp [hi]) fun h' hit' hs'=>?_
    exact hQ _ h' s.toks (by simp [hi]) ⟨hit',let ⟨o,ho,r⟩:=st.2;⟨o,hs'.extBut l o hne ho,r⟩⟩ hs'
  done:=fun s Q E st hE=>nextOf_tuple_end hh st.1 st.2 (by simp) hE
theorem meets_enum_tuple (l:Addr) (items:Array Value) (n:Nat) (dd:Option Addr) (sl:Array (Option Value)) :
    Meets (Builtin.«enumerate.__new__» ⟨[.type "enumerate",.ref l],[]⟩) (fun _ R s=>s.heap.get? l=some { cls:=.type "tuple",dict:=dd,data:=.seq items n,slots:=sl } ∧
      R (.ok (.ret (.ref (s.heap.push { cls:=.type "tuple_iterator",data:=.fields #[.ref l,.int 0 0] }).objs.size)))
        { s with heap:=(s.heap.push { cls:=.type "tuple_iterator",data:=.fields #[.ref l,.int 0 0] }).push { cls:=.type "enumerate",data:=.fields #[.none,.bool false,.ref s.heap.objs.size,rawInt 0,.none,.none] } }) :=
  .of_wp fun prog w A R s h=>by
    obtain ⟨hp,g,d,tk,os⟩:=s;obtain ⟨hl,h⟩:=h
    have hsub:=PySem.sub_enumerate
    have hL:Heap.IsTuple (Shared.heap ⟨hp,g,d,tk,os⟩) l items:=⟨_,hl,rfl,n,rfl⟩
    wp_walk using wpAny_loadPart' hl
    refine wpAny_stack_any fun st=>wpAny_pure ?_
    split
    · rename_i c _ _ _ _ _
      cases (c == Value.type "enumerate")
      · wp_walk using wpAny_loadPart' hl,wpAny_pyIter_tuple hL
        exact ⟨_,rfl,h⟩
      · wp_walk using wpAny_loadPart' hl,wpAny_pyIter_tuple hL
        exact ⟨_,rfl,h⟩
    · wp_walk using wpAny_loadPart' hl,wpAny_pyIter_tuple hL
      exact ⟨_,rfl,h⟩
end
theorem inv_turnedLaid {X:Cx} {pins:List (Addr × Obj)} {σ:L2.St} {H:Hp} {s:Shared} {h':Heap} {ch:List Addr} {T:Addr} {o:HO} {tk:Nat} (I:L2.Inv X pins σ H s) (hf:∀ b∈ch,FpOk X pins H b)
    (k:∀ b o,b ∉ ch→s.heap.get? b=some o→h'.get? b=some o) (hT:s.heap.objs.size≤T) (new:ObjOk X.prog X.w (upd H T o) h' T o):L2.Inv X pins σ (upd H T o) { s with heap:=h',toks:=tk }:=by
  have hn:H T=none:=I.hok.fresh hT
  refine I.call' (ch:=ch) (H':=upd H T o) rfl ⟨fun b u q n hb hx=>k b u hx q,fun b u q n hb hx=>⟨u.slots,k b u hx q⟩,fun b u q n hx=>?_,fun b u q hx=>⟨u,k b u hx q⟩,fun b xs q=>by rw [upd_ne (ne_of_none q hn)];exact q,fun b u xs q=>by rw [upd_ne (ne_of_none q hn)];exact q,
    fun b ps q=>⟨#[],by rw [upd_ne (ne_of_none q hn),q];simp⟩⟩ (fun a u e=>?_) I.bare fun b hb=>⟨(hf b hb).2.2.2.1,(hf b hb).2.1,(hf b hb).2.2.2.2.1,(hf b hb).2.2.2.2.2⟩
  · rw [upd_ne (Nat.ne_of_lt (Nat.lt_of_lt_of_le (Heap.lt_size q) hT))];exact n
  · by_cases ha:a=T
    · subst ha;rw [upd_same] at e;cases e;exact new
    · rw [upd_ne ha] at e
      refine (I.hok a u e).stay (fun b z hb q=>k b z (fun hc=>?_) q) (fun c q=>by rw [upd_ne (ne_of_none q hn)];exact q) fun c xs q=>by rw [upd_ne (ne_of_none q hn)];exact q
      have hnone:=(hf b hc).1
      rcases hb with rfl | hb
      · rw [hnone] at e;cases e
      · rw [hnone] at hb;cases hb
def Ite (K:PySem.W.Frag) (a:Addr):It :=
  ⟨fun i H=>∃ xs x,SqT K H a xs∧xs[i]?=some x,fun i H x H'=>∃ p v,(∀ xs,SqT K H a xs→xs[i]?=some v)∧H p=none∧x=.ref p∧H'=upd H p (.tup [.int i,v]),fun i H=>∃ xs,SqT K H a xs∧xs.length=i⟩
theorem turn_enum {P:Program} {w:World} {K:PySem.W.Frag} {elts:List Expr} {kk:Nat} {pos:Pos} (a it e:Addr):Turn P w K (.Tuple elts kk pos) (Ite K a) [e,it] e (fun i h=>(∃ old,IsEnum h e it i old)∧h.IsTupleIter it a i) where
  mem:=by simp
  obj:=fun i h st b hb=>by
    obtain ⟨⟨old,he⟩,o,ho,hc,hd⟩:=st
    have:b=e∨b=it:=by simpa using hb
    rcases this with rfl | rfl
    · exact ⟨_,he,fun v z=>by
        have z':Data.fields _=Data.cell v:=z
        cases z'⟩
    · exact ⟨o,ho,fun v z=>by rw [hd] at z;cases z⟩
  keep:=fun i h h' st k=>let ⟨⟨old,he⟩,hi⟩:=st;⟨⟨old,k e (by simp) _ he⟩,hi.at fun o q=>k it (by simp) o q⟩
  item:=by
    intro X hP hw hK hc i pins s σ H E I hf st hg
    subst hP hw hK
    obtain ⟨⟨old,he⟩,hit⟩:=st
    obtain ⟨xs,x,hq,hx⟩:=hg
    obtain ⟨its,rv,p,hz⟩:=I.tuple hq
    obtain ⟨u,hu,ru⟩:=rv.get hx
    have p':s.heap.IsTuple a its.toArray:=p
    obtain ⟨oi,hoi,hci,hdi⟩:=id hit
    obtain ⟨oa,hoa,hca,na,hda⟩:=id p'
    have n1:a≠it:=fun z=>by subst z;rw [hoa] at hoi;cases hoi;rw [hca] at hci;exact absurd (Value.type.inj hci) (by decide)
    have n2:e≠it:=fun z=>by subst z;rw [he] at hoi;cases hoi;exact absurd (Value.type.inj hci) (by decide)
    have n3:e≠a:=fun z=>by subst z;rw [he] at hoa;cases hoa;exact absurd (Value.type.inj hca) (by decide)
    have W:=WalksT.enumerateD (prog:=X.prog) (w:=X.w) (A:=X.A) (draws_tuple (A:=X.A.in1) (show X.A.in1.handled=none from I.ok.hd hc) it a n1 its.toArray) e n2 (by simp [n2,n3]) (by simp)
    have hlt:i < its.toArray.size:=by
      have:=(List.getElem?_eq_some_iff.mp hu).1
      simpa using this
    refine W.item i s _ E hlt ⟨⟨old,he⟩,hit,p'⟩ fun T vals h' tk hP hT hTup hMid hk=>?_
    refine ⟨.ref T,rfl,W.go elts kk pos i T _ _ E hMid fun h'' hSt hk2=>?_⟩
    obtain ⟨t,y,hy,rfl⟩:=hP
    have hy':y=u:=by
      have h3:its[i]?=some y:=by simpa using hy
      rw [hu] at h3;exact (Option.some.inj h3).symm
    subst hy'
    have hTT:h''.IsTuple T #[.int i t,y]:=let ⟨o,ho,r⟩:=hTup;⟨o,hk2 T o (W.apart i T _ hMid) ho,r⟩
    refine ⟨.ref T,upd H T (.tup [.int i,x]),inv_turnedLaid (s:=s) (h':=h'') (tk:=tk) (ch:=[e,it]) I hf (fun b o hb q=>hk2 b o (by simpa using hb) (hk b o (by simpa using hb) q)) hT ⟨by show 2≤sizeLine;decide,[.int i t,y],.cons ⟨t,rfl⟩ (.cons ru .nil),hTT⟩,rfl,⟨T,x,fun ys hy=>by rw [← I.tuple_inj hq hy];exact hx,I.hok.fresh hT,rfl,rfl⟩,⟨by simpa using hSt.1,hSt.2.1⟩,fun b hb=>?_⟩
    have hn:=(hf b hb).1
    rw [upd_ne (Nat.ne_of_lt (Nat.lt_of_lt_of_le ?_ hT))]
    · exact hn
    · have:b=e∨b=it:=by simpa using hb
      rcases this with rfl | rfl
      · exact Heap.lt_size he
      · exact Heap.lt_size hoi
  done:=by
    intro X hP hw hK hc i pins s σ H E I hf st hg
    subst hP hw hK
    obtain ⟨⟨old,he⟩,hit⟩:=st
    obtain ⟨xs,hq,hx⟩:=hg
    obtain ⟨its,rv,p,hz⟩:=I.tuple hq
    have p':s.heap.IsTuple a its.toArray:=p
    obtain ⟨oi,hoi,hci,hdi⟩:=id hit
    obtain ⟨oa,hoa,hca,na,hda⟩:=id p'
    have n1:a≠it:=fun z=>by subst z;rw [hoa] at hoi;cases hoi;rw [hca] at hci;exact absurd (Value.type.inj hci) (by decide)
    have n2:e≠it:=fun z=>by subst z;rw [he] at hoi;cases hoi;exact absurd (Value.type.inj hci) (by decide)
    have n3:e≠a:=fun z=>by subst z;rw [he] at hoa;cases hoa;exact absurd (Value.type.inj hca) (by decide)
    have W:=WalksT.enumerateD (prog:=X.prog) (w:=X.w) (A:=X.A) (draws_tuple (A:=X.A.in1) (show X.A.in1.handled=none from I.ok.hd hc) it a n1 its.toArray) e n2 (by simp [n2,n3]) (by simp)
    have hi:i=its.toArray.size:=by rw [List.size_toArray,← rv.length];exact hx.symm
    subst hi
    refine W.done s _ E ⟨⟨old,he⟩,hit,p'⟩ fun h' tk hk=>⟨rfl,?_⟩
    have:=I.call' (ch:=[e,it]) (H':=H) (s':={ s with heap:=h',toks:=tk }) rfl ⟨fun b u q n hb hx=>hk b u (by simpa using hx) q,fun b u q n hb hx=>⟨u.slots,hk b u (by simpa using hx) q⟩,fun b u q n hx=>n,fun b u q hx=>⟨u,hk b u (by simpa using hx) q⟩,fun b xs q=>q,fun b u xs q=>q,fun b ps q=>⟨#[],by rw [q];simp⟩⟩
      (fun a u e'=>?_) I.bare fun b hb=>⟨(hf b hb).2.2.2.1,(hf b hb).2.1,(hf b hb).2.2.2.2.1,(hf b hb).2.2.2.2.2⟩
    · exact this
    · refine (I.hok a u e').stay (fun b z hb q=>hk b z (fun hc=>?_) q) (fun _ q=>q) fun _ _ q=>q
      have hnone:=(hf b (by simpa using hc)).1
      rcases hb with rfl | hb
      · rw [hnone] at e';cases e'
      · rw [hnone] at hb;cases hb
  self:=fun _ _ _ _ _ st h=>let ⟨⟨old,he⟩,_⟩:=st;wpAny_pyIter_enum he h
theorem call_enum_tuple {prog:Program} {w:World} {A:Around} {E:Value→Shared→Prop} {s:Shared} {l:Addr} {items:Array Value} {Q:Value→Shared→Prop}
    (hl:s.heap.IsTuple l items)
    (h:∀ h',IsEnum h' (s.heap.objs.size + 1) s.heap.objs.size 0 .none→h'.IsTupleIter s.heap.objs.size l 0→h'.objs.size=s.heap.objs.size + 2 →
      (∀ b o,s.heap.get? b=some o→h'.get? b=some o)→Q (.ref (s.heap.objs.size + 1)) { s with heap:=h' }) :
    wpAny (model prog w) A (call (.type "enumerate") [.ref l]) Q E s:=by
  obtain ⟨⟨oc,od,odt,osl⟩,ho,hc,n,hd⟩:=hl
  have hc':oc=.type "tuple":=hc
  have hd':odt=.seq items n:=hd
  subst hc' hd'
  refine callType_new F.called_enumerate (by decide) (F.typeCall_enumerate_1 _) (F.newCall_enumerate_1 _) (fun obj=>F.args_object_init_2 obj _) F.entry_enumerate_new
    (meets_enum_tuple l items n od osl) ⟨ho,?_⟩
  have hz:(s.heap.push { cls:=.type "tuple_iterator",data:=.fields #[.ref l,.int 0 0] }).objs.size=s.heap.objs.size + 1:=Heap.size_push ..
  show _∧_
  rw [hz]
  have he:IsEnum ((s.heap.push { cls:=.type "tuple_iterator",data:=.fields #[.ref l,.int 0 0] }).push
      { cls:=.type "enumerate",data:=.fields #[.none,.bool false,.ref s.heap.objs.size,rawInt 0,.none,.none] }) (s.heap.objs.size + 1) s.heap.objs.size 0 .none:=by
    have:=Heap.get?_push_size (s.heap.push { cls:=.type "tuple_iterator",data:=.fields #[.ref l,.int 0 0] })
      (o:={ cls:=.type "enumerate",data:=.fields #[.none,.bool false,.ref s.heap.objs.size,rawInt 0,.none,.none] }) rfl
    rw [hz] at this;exact this
  refine ⟨⟨_,he,rfl⟩,h _ he ⟨_,Heap.get?_push_of_some _ (Heap.get?_push_size _ rfl),rfl,rfl⟩ (by rw [Heap.size_push,hz]) fun b o x=>Heap.get?_push_of_some _ (Heap.get?_push_of_some _ x)⟩
def iEnum (K:PySem.W.Frag) (ta:TA):TI:=fun σ H R=>ta σ H fun vs H1=>∃ a,vs=[.ref a]∧(∃ xs,SqT K H1 a xs)∧R (Ite K a) H1
theorem pi_enum {X:Cx} {elts:List Expr} {kk:Nat} {tpos:Pos} {a:Expr} {ta:TA} {p pos:Pos} (hg:Gl X "enumerate") (hm:X.mg "enumerate"=none) (ha:PA X [a] ta) (hs:starEach [a] X.env=[(false,eval a X.env)]) :
    PI X (.Tuple elts kk tpos) (.Call (.Name "enumerate" p) [a] [] pos) (iEnum X.K ta):=by
  intro pins s σ H R I h
  refine Call_ (ld_blt I hg hm boot_enumerate (PyProof.Rows.callWith_type1 (thn (ha pos pins s σ H _ I h) fun us s1 ⟨vs,H1,I1,r1,q1⟩=>?_) hs rfl))
  obtain ⟨a,e,⟨xs,hq⟩,q⟩:=q1
  subst e
  cases r1 with
  | cons r rr =>
    cases rr
    cases r
    obtain ⟨its,rv,p,hz⟩:=I1.tuple hq
    refine call_enum_tuple (show s1.heap.IsTuple a its.toArray from p) fun h' he hit hsz hk=>?_
    refine wpAny_pyIter_enum (s:={ s1 with heap:=h' }) he ?_
    have I2:L2.Inv X pins σ H1 { s1 with heap:=h',toks:=s1.toks }:=I1.kept hk
    refine ⟨s1.heap.objs.size + 1,[s1.heap.objs.size + 1,s1.heap.objs.size],_,_,H1,rfl,I2,turn_enum a s1.heap.objs.size (s1.heap.objs.size + 1),⟨⟨_,he⟩,hit⟩,fun b hb=>?_,q⟩
    have e:b=s1.heap.objs.size + 1∨b=s1.heap.objs.size:=by simpa using hb
    rcases e with rfl | rfl
    · exact I1.fpOk (Nat.le_succ _) (I1.hok.fresh (Nat.le_succ _))
    · exact I1.fpOk (Nat.le_refl _) (I1.hok.fresh (Nat.le_refl _))
def numbered (us:List U):List U:=us.zipIdx.map fun p=>.tup [.int (p.2:Nat),p.1]
theorem numbered_len (us:List U):(numbered us).length=us.length:=by simp [numbered]
theorem numbered_get {us:List U} {i:Nat} {x:U} (h:(numbered us)[i]?=some x):∃ u,us[i]?=some u∧x=.tup [.int i,u]:=by
  simp only [numbered,List.getElem?_map,List.getElem?_zipIdx] at h
  cases e:us[i]? with
  | none=>rw [e] at h;simp at h
  | some u=>rw [e] at h;simp at h;exact ⟨u,rfl,h.symm⟩
theorem walk_enum {K:PySem.W.Frag} {a:Addr} {us:List U} {vs:List V} {H:Hp} {M:MHp} (m:M a=none∧H a=some (.tup vs)) (r:RelUs K H M us vs):Walk K (Ite K a) ⟨none,numbered us⟩ H M:=by
  have sq:∀ H1 M1,Stp H M H1 M1→SqT K H1 a vs:=fun H1 M1 s=>by
    exact .inl (.inl (s a _ m.2 m.1).1)
  refine ⟨fun H1 M1 s rm _ i u e=>?_,fun H1 M1 s rm _=>⟨vs,sq H1 M1 s,by show vs.length=(numbered us).length;rw [numbered_len,r.length]⟩⟩
  obtain ⟨w,e1,rfl⟩:=numbered_get e
  obtain ⟨v,e2,ru⟩:=r.get e1
  refine ⟨⟨vs,v,sq H1 M1 s,e2⟩,fun x H2 y=>?_⟩
  obtain ⟨p,v',y,hp,rfl,rfl⟩:=y
  have:=y vs (sq _ M1 s)
  rw [e2] at this;cases this
  have st:=Stp.laid (o:=.tup [.int i,v]) rm hp
  have rr:RelUs K H1 M1 [.int i,w] [.int i,v]:=by
    simp only [RelUs]
    exact ⟨_,_,rfl,relU_int,_,_,rfl,ru.stp s,rfl⟩
  exact ⟨st,rm.laid hp,relU_tup (rm.no hp) upd_same (rr.stp st)⟩
def uEnum (ta:UA):UI:=fun τ M R=>ta τ M fun us M1=>match us with
  | [.tup us]=>R ⟨none,numbered us⟩ M1
  | _=>False
theorem sim_enum {K:PySem.W.Frag} {ta:TA} {ta':UA} (h:SimA K ta ta'):SimI K (iEnum K ta) (uEnum ta'):=fun σ τ H M R' rs rm q R c=>h σ τ H M _ rs rm q _ fun us vs M1 H1 s1 rm1 ru h1=>by
  split at h1
  · rename_i xs
    obtain ⟨v,rfl,a⟩:=ru.one
    simp only [RelU] at a
    obtain ⟨a,vs,rfl,m,r⟩:=a
    refine ⟨a,rfl,⟨vs,?_⟩,c _ _ M1 H1 s1 rm1 (walk_enum m r) h1⟩
    exact .inl (.inl m.2)
  · exact h1.elim
theorem ui_enumerate {D:Dat} {elts:List Expr} {kk:Nat} {tpos:Pos} {a:Expr} {p pos:Pos} {ta:UA} (hm:D.mg "enumerate"=none) (ha:PAU D [a] ta) (hg:D.sc.names.lookup ("enumerate":Str)=some .globalImplicit:=by rfl) (hs:∀ env,starEach [a] env=[(false,eval a env)]:=by intro _;rfl):PIU D (.Tuple elts kk tpos) (.Call (.Name "enumerate" p) [a] [] pos) (uEnum ta):=by
  obtain ⟨_,q,s⟩:=ha
  exact ⟨_,fun X h=>h.K ▸ pi_enum (by show X.env.scope.names.lookup _=_;rw [h.sc];exact hg) (by rw [h.mg];exact hm) (q X h) (hs _),sim_enum s⟩
end U2
namespace U2
open PySem PySem.Spec PyProof.Rows L2
mutual
def DatV (K:PySem.W.Frag) (H:Hp):PyData→V→Prop
  | .none,v=>v=.non
  | .bool b,v=>v=.bl b
  | .int i,v=>v=.int i
  | .str z,v=>v=.str z
  | .list ds,v=>∃ a xs,v=.ref a∧SqL K H a xs∧DatVs K H ds xs
  | .tuple ds,v=>∃ a xs,v=.ref a∧SqT K H a xs∧DatVs K H ds xs
  | .dict _,_=>False
def DatVs (K:PySem.W.Frag) (H:Hp):List PyData→List V→Prop
  | [],vs=>vs=[]
  | d :: ds,vs=>∃ v vs',vs=v :: vs'∧DatV K H d v∧DatVs K H ds vs'
end
mutual
theorem DatV.reads {X:Cx} {pins:List (Addr × Obj)} {σ:L2.St} {H:Hp} {s:Shared} (I:L2.Inv X pins σ H s):∀ {d:PyData} {v:V} {u:Value},DatV X.K H d v→RelV v u→∃ as,Reads s.heap u d as
  | .none,v,u,h,r=>by simp only [DatV] at h;subst h;cases r;exact ⟨_,.none⟩
  | .bool b,v,u,h,r=>by simp only [DatV] at h;subst h;cases r;exact ⟨_,.bool b⟩
  | .int i,v,u,h,r=>by simp only [DatV] at h;subst h;obtain ⟨t,rfl⟩:=r;exact ⟨_,.int i t⟩
  | .str z,v,u,h,r=>by simp only [DatV] at h;subst h;obtain ⟨t,rfl⟩:=r;exact ⟨_,.str z t⟩
  | .list ds,v,u,h,r=>by
    simp only [DatV] at h
    obtain ⟨a,xs,rfl,q,hs⟩:=h
    cases r
    obtain ⟨its,rv,p,hz⟩:=I.list q
    obtain ⟨as,ra⟩:=DatVs.reads I hs rv
    obtain ⟨o,h1,h2,n,h3⟩:=p.isList
    exact ⟨_,.list h1 h2 h3 (by simpa using ra)⟩
  | .tuple ds,v,u,h,r=>by
    simp only [DatV] at h
    obtain ⟨a,xs,rfl,q,hs⟩:=h
    cases r
    obtain ⟨its,rv,p,hz⟩:=I.tuple q
    obtain ⟨as,ra⟩:=DatVs.reads I hs rv
    obtain ⟨o,h1,h2,n,h3⟩:=(show s.heap.IsTuple a its.toArray from p)
    exact ⟨_,.tuple h1 h2 h3 (by simpa using ra)⟩
  | .dict _,v,u,h,r=>by simp only [DatV] at h
theorem DatVs.reads {X:Cx} {pins:List (Addr × Obj)} {σ:L2.St} {H:Hp} {s:Shared} (I:L2.Inv X pins σ H s):∀ {ds:List PyData} {vs:List V} {us:List Value},DatVs X.K H ds vs→Vals vs us→∃ as,ReadsAll s.heap us ds as
  | [],vs,us,h,r=>by simp only [DatVs] at h;subst h;cases r;exact ⟨_,.nil⟩
  | d :: ds,vs,us,h,r=>by
    simp only [DatVs] at h
    obtain ⟨v,vs',rfl,h1,h2⟩:=h
    cases r with
    | cons r rr =>
      obtain ⟨as,ra⟩:=DatV.reads I h1 r
      obtain ⟨bs,rb⟩:=DatVs.reads I h2 rr
      exact ⟨_,.cons ra rb⟩
end
def rEqD (K:PySem.W.Frag) (neg:Bool):R2:=fun x y H Q=>∃ d d',DatV K H d x∧DatV K H d' y∧d.canLay0=true∧d'.canLay0=true∧min d.depth d'.depth≤64∧Q (.bl (if neg then !PyData.eqv d d' else PyData.eqv d d')) H
theorem op_eqD {X:Cx} {k:Nat} (hr:Room k X.A):OpR X (compareOp .Eq) (rEqD X.K false):=by
  intro pins s σ H x y v u Q I rx ry h
  obtain ⟨d,d',h1,h2,c1,c2,hd,q⟩:=h
  obtain ⟨as,ra⟩:=h1.reads I rx
  obtain ⟨bs,rb⟩:=h2.reads I ry
  exact SeqAt.compareEq_reads ra rb c1 c2 (by have:=hr.units;omega) ⟨.bl _,H,I,rfl,q⟩
theorem op_neD {X:Cx} {k:Nat} (hr:Room k X.A):OpR X (compareOp .NotEq) (rEqD X.K true):=by
  intro pins s σ H x y v u Q I rx ry h
  obtain ⟨d,d',h1,h2,c1,c2,hd,q⟩:=h
  obtain ⟨as,ra⟩:=h1.reads I rx
  obtain ⟨bs,rb⟩:=h2.reads I ry
  exact SeqAt.compareNe_reads ra rb c1 c2 (by have:=hr.units;omega) ⟨.bl _,H,I,rfl,q⟩
mutual
def toD:U→Option PyData
  | .non=>some .none
  | .bl b=>some (.bool b)
  | .int i=>some (.int i)
  | .str z=>some (.str z)
  | .tup us=>(toDs us).map .tuple
  | .lst us=>(toDs us).map .list
  | .ty _=>none
  | .ref _=>none
  | .dic _ _ _=>none
def toDs:List U→Option (List PyData)
  | []=>some []
  | u :: us=>match toD u,toDs us with
    | some d,some ds=>some (d :: ds)
    | _,_=>none
end
def topD (M:MHp) (u:U):Option PyData:=match u with
  | .ref a=>match M a with
    | some (.lst us)=>(toDs us).map .list
    | _=>none
  | u=>toD u
mutual
theorem toD_rel {K:PySem.W.Frag} {H:Hp} {M:MHp}:∀ {u:U} {v:V} {d:PyData},RelU K H M u v→toD u=some d→DatV K H d v
  | .non,v,d,r,e=>by simp only [toD,Option.some.injEq] at e;subst e;simp only [DatV];exact r.non
  | .bl b,v,d,r,e=>by simp only [toD,Option.some.injEq] at e;subst e;simp only [DatV];exact r.bl
  | .int i,v,d,r,e=>by simp only [toD,Option.some.injEq] at e;subst e;simp only [DatV];exact r.int
  | .str i,v,d,r,e=>by simp only [toD,Option.some.injEq] at e;subst e;simp only [DatV];exact r.str
  | .tup us,v,d,r,e=>by
    simp only [toD] at e
    cases e2:toDs us with
    | none=>rw [e2] at e;simp at e
    | some ds =>
      rw [e2] at e;simp at e;subst e
      obtain ⟨a,vs,rfl,q,rs⟩:=r.tup
      simp only [DatV]
      exact ⟨a,vs,rfl,q,toDs_rel rs e2⟩
  | .lst us,v,d,r,e=>by
    simp only [toD] at e
    cases e2:toDs us with
    | none=>rw [e2] at e;simp at e
    | some ds =>
      rw [e2] at e;simp at e;subst e
      obtain ⟨a,vs,rfl,q,rs⟩:=r.lst
      simp only [DatV]
      exact ⟨a,vs,rfl,q,toDs_rel rs e2⟩
  | .ty _,v,d,r,e=>by simp [toD] at e
  | .ref _,v,d,r,e=>by simp [toD] at e
  | .dic _ _ _,v,d,r,e=>by simp [toD] at e
theorem toDs_rel {K:PySem.W.Frag} {H:Hp} {M:MHp}:∀ {us:List U} {vs:List V} {ds:List PyData},RelUs K H M us vs→toDs us=some ds→DatVs K H ds vs
  | [],vs,ds,r,e=>by simp only [toDs,Option.some.injEq] at e;subst e;simp only [DatVs];exact r.inv_nil
  | u :: us,vs,ds,r,e=>by
    obtain ⟨v,vs',rfl,a,b⟩:=r.inv_cons
    simp only [toDs] at e
    cases e1:toD u with
    | none=>rw [e1] at e;simp at e
    | some d =>
      cases e2:toDs us with
      | none=>rw [e1,e2] at e;simp at e
      | some ds' =>
        rw [e1,e2] at e;simp at e;subst e
        simp only [DatVs]
        exact ⟨v,vs',rfl,toD_rel a e1,toDs_rel b e2⟩
end
theorem topD_rel {K:PySem.W.Frag} {H:Hp} {M:MHp} {u:U} {v:V} {d:PyData} (rm:RelM K H M) (r:RelU K H M u v) (e:topD M u=some d):DatV K H d v:=by
  cases u with
  | ref a =>
    simp only [topD] at e
    split at e
    · rename_i us hM
      cases e2:toDs us with
      | none=>rw [e2] at e;simp at e
      | some ds =>
        rw [e2] at e;simp at e;subst e
        obtain ⟨vs,h1,rs⟩:=rm a _ hM
        cases r.ref
        simp only [DatV]
        exact ⟨a,vs,rfl,.inl (.inl h1),toDs_rel rs e2⟩
    · cases e
  | _=>exact toD_rel r (by simpa only [topD] using e)
def uEqD (neg:Bool):UR2:=fun x y M Q=>∃ d d',topD M x=some d∧topD M y=some d'∧d.canLay0=true∧d'.canLay0=true∧min d.depth d'.depth≤64∧Q (.bl (if neg then !PyData.eqv d d' else PyData.eqv d d')) M
theorem sim_eqD {K:PySem.W.Frag} {neg:Bool}:SimR2 K (rEqD K neg) (uEqD neg):=fun x y u w H M Q' rm ru rw h Q c=>by
  obtain ⟨d,d',e1,e2,c1,c2,hd,q⟩:=h
  exact ⟨d,d',topD_rel rm ru e1,topD_rel rm rw e2,c1,c2,hd,c.here rm relU_bl q⟩
variable {D:Dat}
def flatU:U→Bool
  | .non=>true
  | .bl _=>true
  | .int _=>true
  | .str _=>true
  | _=>false
def eqF:U→U→Bool
  | .non,.non=>true
  | .bl a,.bl b=>a == b
  | .bl a,.int j=>(if a then 1 else 0) == j
  | .int i,.bl b=>i == (if b then 1 else 0)
  | .int i,.int j=>i == j
  | .str x,.str y=>x == y
  | _,_=>false
def items (M:MHp):U→Option (List U)
  | .tup us=>some us
  | .lst us=>some us
  | .ref a=>match M a with
    | some (.lst us)=>some us
    | _=>none
  | _=>none
def uIn (neg:Bool):UR2:=fun x y M Q=>match items M y with
  | some us=>flatU x=true∧us.all flatU=true∧Q (.bl (if neg then !us.any (fun u=>eqF u x) else us.any (fun u=>eqF u x))) M
  | none=>False
theorem flat_rel {K:PySem.W.Frag} {H:Hp} {M:MHp} {u:U} {v:V} (r:RelU K H M u v) (f:flatU u=true):flatV v=true:=by
  cases u with
  | non=>cases r.non;rfl
  | bl b=>cases r.bl;rfl
  | int b=>cases r.int;rfl
  | str b=>cases r.str;rfl
  | _=>exact absurd (show false=true from f) Bool.false_ne_true
theorem eqF_rel {K:PySem.W.Frag} {H:Hp} {M:MHp} {u w:U} {v x:V} (r:RelU K H M u v) (r':RelU K H M w x) (f:flatU u=true) (f':flatU w=true):eqV v x=eqF u w:=by
  cases u <;> (first | (cases r.non) | (cases r.bl) | (cases r.int) | (cases r.str) | exact absurd (show false=true from f) Bool.false_ne_true) <;> cases w <;>
    (first | (cases r'.non) | (cases r'.bl) | (cases r'.int) | (cases r'.str) | exact absurd (show false=true from f') Bool.false_ne_true) <;> rfl
theorem flats_rel {K:PySem.W.Frag} {H:Hp} {M:MHp}:∀ {us:List U} {vs:List V},RelUs K H M us vs→us.all flatU=true→vs.all flatV=true
  | [],vs,r,_=>by cases r.inv_nil;rfl
  | u :: us,vs,r,f=>by
    obtain ⟨v,vs',rfl,a,b⟩:=r.inv_cons
    rw [List.all_cons,Bool.and_eq_true] at f ⊢
    exact ⟨flat_rel a f.1,flats_rel b f.2⟩
theorem inV_rel {K:PySem.W.Frag} {H:Hp} {M:MHp} {w:U} {x:V} (r':RelU K H M w x) (f':flatU w=true):∀ {us:List U} {vs:List V},RelUs K H M us vs→us.all flatU=true→inV x vs=us.any fun u=>eqF u w
  | [],vs,r,_=>by cases r.inv_nil;rfl
  | u :: us,vs,r,f=>by
    obtain ⟨v,vs',rfl,a,b⟩:=r.inv_cons
    rw [List.all_cons,Bool.and_eq_true] at f
    have:=inV_rel r' f' b f.2
    unfold inV at this ⊢
    rw [List.any_cons,List.any_cons,this,eqF_rel a r' f.1 f']
theorem items_rel {K:PySem.W.Frag} {H:Hp} {M:MHp} {u:U} {v:V} {us:List U} (rm:RelM K H M) (r:RelU K H M u v) (e:items M u=some us):∃ p xs,v=.ref p∧(SqL K H p xs∨SqT K H p xs)∧RelUs K H M us xs:=by
  cases u with
  | tup us'=>cases e;obtain ⟨a,vs,rfl,q,rs⟩:=r.tup;exact ⟨a,vs,rfl,.inr q,rs⟩
  | lst us'=>cases e;obtain ⟨a,vs,rfl,q,rs⟩:=r.lst;exact ⟨a,vs,rfl,.inl q,rs⟩
  | ref a =>
    simp only [items] at e
    split at e
    · rename_i us' hM
      cases e
      obtain ⟨vs,h1,rs⟩:=rm a _ hM
      exact ⟨a,vs,r.ref,.inl (.inl (.inl h1)),rs⟩
    · cases e
  | _=>cases e
theorem sim_in {K:PySem.W.Frag} {neg:Bool}:SimR2 K (rIn K neg) (uIn neg):=fun x y u w H M Q' rm ru rw h Q c=>by
  unfold uIn at h
  split at h
  · rename_i us e
    obtain ⟨f,fs,q⟩:=h
    obtain ⟨p,xs,rfl,hs,rs⟩:=items_rel rm rw e
    refine ⟨p,xs,rfl,hs,flat_rel ru f,flats_rel rs fs,?_⟩
    rw [inV_rel ru f rs fs]
    exact c.here rm relU_bl q
  · exact h.elim
theorem k_in:Cmp D .In (uIn false):=⟨⟨_,fun X h=>h.K ▸ op_in_seq,sim_in⟩⟩
def uEqX (neg:Bool):UR2:=fun x y M Q=>match eqS x y with
  | some b=>Q (.bl (if neg then !b else b)) M
  | none=>uEqD neg x y M Q
theorem k_eqX:Cmp D .Eq (uEqX false):=⟨⟨_,fun X h=>h.K ▸ op_eq.or (op_eqD h.room),fun x y u w H M Q' rm ru rw h Q c=>by
  unfold uEqX at h
  split at h
  · rename_i b e
    obtain ⟨h1,h2⟩:=eqS_rel ru rw e
    exact .inl ⟨h1,c.here rm (by rw [h2];exact relU_bl) h⟩
  · exact .inr (sim_eqD x y u w H M Q' rm ru rw h Q c)⟩⟩
theorem k_neX:Cmp D .NotEq (uEqX true):=⟨⟨_,fun X h=>h.K ▸ op_ne.or (op_neD h.room),fun x y u w H M Q' rm ru rw h Q c=>by
  unfold uEqX at h
  split at h
  · rename_i b e
    obtain ⟨h1,h2⟩:=eqS_rel ru rw e
    exact .inl ⟨h1,c.here rm (by rw [h2];exact relU_bl) h⟩
  · exact .inr (sim_eqD x y u w H M Q' rm ru rw h Q c)⟩⟩
end U2
namespace U2
open PySem PySem.Spec PyProof.Rows L2
structure Zp (z TI TO i1 i2:Addr) (f1 f2:List Addr):Prop where
  TIz:TI≠z
  TOz:TO≠z
  i1z:i1≠z
  i2z:i2≠z
  TITO:TI≠TO
  TIi1:TI≠i1
  TIi2:TI≠i2
  TOi1:TO≠i1
  TOi2:TO≠i2
  i12:i1≠i2
  zf1:z ∉ f1
  zf2:z ∉ f2
  Tf1:TO ∉ f1
  Tf2:TO ∉ f2
  if2:i1 ∉ f2
  if1:i2 ∉ f1
theorem Draws.same {prog:Program} {w:World} {A:Around} {it:Addr} {fp:List Addr} {n:Nat} {P:Nat→Value→Prop} {St:Nat→Heap→Prop} (D:Draws prog w A it fp n P St) {i:Nat} {h h':Heap} {c:Addr} (st:St i h) (sb:Heap.ExtBut c h h') (hc:c ∉ fp):St i h' :=
  D.frame _ _ _ st fun b hb o e=>sb b o (fun q=>hc (q ▸ hb)) e
section
variable {prog:Program} {w:World} {A:Around} {E:Value→Shared→Prop} {s:Shared} {z TI TO i1 i2:Addr} {f1 f2:List Addr} {n1 n2:Nat} {P1 P2:Nat→Value→Prop} {S1 S2:Nat→Heap→Prop} {i:Nat} {a b:Value}
theorem zip_item (Z:Zp z TI TO i1 i2 f1 f2) (D1:Draws prog w A i1 f1 n1 P1 S1) (D2:Draws prog w A i2 f2 n2 P2 S2) {Q:Value→Shared→Prop}
    (hz:IsZip s.heap z TI TO .none) (hTI:IsPair s.heap TI (.ref i1) (.ref i2)) (hTO:IsPair s.heap TO a b) (h1:S1 i s.heap) (h2:S2 i s.heap) (l1:i < n1) (l2:i < n2)
    (hQ:∀ x y h' tk,P1 i x→P2 i y→IsZip h' z TI TO (rawInt s.heap.objs.size)→IsPair h' TO x y→S1 (i + 1) h'→S2 (i + 1) h'→IsPair h' s.heap.objs.size x y →
      (∀ c o,c≠z→c≠TO→c≠i1→c≠i2→s.heap.get? c=some o→h'.get? c=some o)→Q (.ref s.heap.objs.size) { s with heap:=h',toks:=tk }) :
    wpAny (model prog w) A (Builtin.«zip.__next__» ⟨[.ref z],[]⟩) (fun fin s'=>∃ v,fin=.done (.ret v)∧Q v s') E s:=by
  show wpAny _ _ (field (.ref z) 2 >>= _) _ _ _
  refine wpAny_bind (wpAny_field hz rfl (x:=.bool false) rfl ?_)
  show wpAny _ _ (field (.ref z) 3 >>= _) _ _ _
  refine wpAny_bind (wpAny_field hz rfl (x:=.ref TI) rfl ?_)
  refine wpAny_bind (wpAny_seqItems hTI rfl ?_)
  show wpAny _ _ (Builtin.SmallTypes.ownedTupleIsFree (.ref z) >>= _) _ _ _
  refine wpAny_bind ?_
  unfold Builtin.SmallTypes.ownedTupleIsFree
  refine wpAny_bind (wpAny_field hz rfl (x:=.none) rfl (wpAny_pure ?_))
  simp only [if_true]
  refine wpAny_bind (wpAny_rule ?_)
  refine wpAny_bind (wpAny_field hz rfl (x:=.ref TO) rfl ?_)
  refine wpAny_bind (wpAny_setField_rec hz (by simp) fun g1 hz1 hs1=>?_)
  replace hz1:IsZip g1 z TI TO .ellipsis:=hz1
  refine wpAny_bind ?_
  simp only [List.zipIdx_cons,List.zipIdx_nil,List.forIn_cons,List.forIn_nil]
  refine wpAny_bind (wpAny_bind (wpAny_onRaise ?_))
  show wpAny _ _ (Builtin.SmallTypes.nextOf (.ref i1) >>= _) _ _ _
  refine wpAny_bind (D1.item i _ _ _ l1 (Draws.same D1 h1 hs1.extBut Z.zf1) fun x g2 tk2 px st2 hs2=>wpAny_pure ?_)
  have hTO2:IsPair g2 TO a b:=hs2.extBut _ _ Z.TOi1 (hs1.extBut _ _ Z.TOz hTO)
  refine wpAny_bind (wpAny_seqItems hTO2 rfl ?_)
  refine wpAny_bind (wpAny_updateSeq_pair hTO2 fun g3 hTO3 hs3=>?_)
  replace hTO3:IsPair g3 TO x b:=hTO3
  refine wpAny_bind (wpAny_letGo (wpAny_pure ?_))
  refine wpAny_bind (wpAny_bind (wpAny_onRaise ?_))
  show wpAny _ _ (Builtin.SmallTypes.nextOf (.ref i2) >>= _) _ _ _
  refine wpAny_bind (D2.item i _ _ _ l2 (Draws.same D2 (Draws.same D2 (Draws.same D2 h2 hs1.extBut Z.zf2) hs2.extBut Z.if2) hs3.extBut Z.Tf2) fun y g4 tk4 py st4 hs4=>wpAny_pure ?_)
  have hTO4:IsPair g4 TO x b:=hs4.extBut _ _ Z.TOi2 hTO3
  refine wpAny_bind (wpAny_seqItems hTO4 rfl ?_)
  refine wpAny_bind (wpAny_updateSeq_pair hTO4 fun g5 hTO5 hs5=>?_)
  replace hTO5:IsPair g5 TO x y:=hTO5
  refine wpAny_bind (wpAny_letGo (wpAny_pure (wpAny_pure ?_)))
  refine wpAny_bind (wpAny_seqItems hTO5 rfl ?_)
  refine wpAny_bind (wpAny_newTuple ?_)
  have hsz:g5.objs.size=s.heap.objs.size:=by rw [hs5.1,hs4.1,hs3.1,hs2.1,hs1.1]
  have hz5:IsZip g5 z TI TO .ellipsis:=hs5.extBut _ _ Z.TOz.symm (hs4.extBut _ _ Z.i2z.symm (hs3.extBut _ _ Z.TOz.symm (hs2.extBut _ _ Z.i1z.symm hz1)))
  have hk5:∀ c o,c≠z→c≠TO→c≠i1→c≠i2→s.heap.get? c=some o→g5.get? c=some o:=fun c o c1 c2 c3 c4 e =>
    hs5.extBut _ _ c2 (hs4.extBut _ _ c4 (hs3.extBut _ _ c2 (hs2.extBut _ _ c3 (hs1.extBut _ _ c1 e))))
  have h15:S1 (i + 1) g5:=Draws.same D1 (Draws.same D1 (Draws.same D1 st2 hs3.extBut Z.Tf1) hs4.extBut Z.if1) hs5.extBut Z.Tf1
  have h25:S2 (i + 1) g5:=Draws.same D2 st4 hs5.extBut Z.Tf2
  have hzlt:z < g5.objs.size:=Heap.lt_size hz5
  show wpAny _ _ (Builtin.SmallTypes.ownedTupleHandOut (.ref z) (.ref g5.objs.size) >>= _) _ _ _
  refine wpAny_bind ?_
  unfold Builtin.SmallTypes.ownedTupleHandOut
  have hz6:IsZip (g5.push { cls:=.type "tuple",data:=.seq #[x,y] }) z TI TO .ellipsis:=Heap.get?_push_of_some _ hz5
  refine wpAny_bind (wpAny_setField_rec hz6 (by simp) fun g7 hz7 hs7=>?_)
  replace hz7:IsZip g7 z TI TO (rawInt g5.objs.size):=hz7
  refine wpAny_setField_rec hz7 (by simp) fun g8 hz8 hs8=>?_
  replace hz8:IsZip g8 z TI TO (rawInt g5.objs.size):=hz8
  have up:∀ c o,c≠z→g5.get? c=some o→g8.get? c=some o:=fun c o c1 e=>hs8.extBut _ _ c1 (hs7.extBut _ _ c1 (Heap.get?_push_of_some _ e))
  have hT8:IsPair g8 g5.objs.size x y:=hs8.extBut _ _ (Nat.ne_of_gt hzlt) (hs7.extBut _ _ (Nat.ne_of_gt hzlt) (Heap.get?_push_size _ rfl))
  rw [hsz] at hz8 hT8
  refine wpAny_pure ⟨_,rfl,?_⟩
  show Q (.ref g5.objs.size) _
  rw [hsz]
  exact hQ x y g8 _ px py hz8 (up _ _ Z.TOz hTO5) (D1.frame _ _ _ h15 fun b hb o e=>up b o (fun q=>Z.zf1 (q ▸ hb)) e) (D2.frame _ _ _ h25 fun b hb o e=>up b o (fun q=>Z.zf2 (q ▸ hb)) e) hT8 fun c o c1 c2 c3 c4 e=>up c o c1 (hk5 c o c1 c2 c3 c4 e)
theorem zip_end (Z:Zp z TI TO i1 i2 f1 f2) (D1:Draws prog w A i1 f1 n1 P1 S1) (D2:Draws prog w A i2 f2 n2 P2 S2) {Q:Fin→Shared→Prop}
    (hz:IsZip s.heap z TI TO .none) (hTI:IsPair s.heap TI (.ref i1) (.ref i2)) (hTO:IsPair s.heap TO a b) (h1:S1 i s.heap) (h2:S2 i s.heap) (l1:i≤n1) (hi:i=min n1 n2)
    (hE:∀ h' e tk,(∀ c o,c≠z→c≠TO→c≠i1→c≠i2→s.heap.get? c=some o→h'.get? c=some o)→(∃ o,h'.get? e=some o∧o.cls=.type "StopIteration")→E (.ref e) { s with heap:=h',toks:=tk }) :
    wpAny (model prog w) A (Builtin.«zip.__next__» ⟨[.ref z],[]⟩) Q E s:=by
  show wpAny _ _ (field (.ref z) 2 >>= _) _ _ _
  refine wpAny_bind (wpAny_field hz rfl (x:=.bool false) rfl ?_)
  show wpAny _ _ (field (.ref z) 3 >>= _) _ _ _
  refine wpAny_bind (wpAny_field hz rfl (x:=.ref TI) rfl ?_)
  refine wpAny_bind (wpAny_seqItems hTI rfl ?_)
  show wpAny _ _ (Builtin.SmallTypes.ownedTupleIsFree (.ref z) >>= _) _ _ _
  refine wpAny_bind ?_
  unfold Builtin.SmallTypes.ownedTupleIsFree
  refine wpAny_bind (wpAny_field hz rfl (x:=.none) rfl (wpAny_pure ?_))
  simp only [if_true]
  refine wpAny_bind (wpAny_rule ?_)
  refine wpAny_bind (wpAny_field hz rfl (x:=.ref TO) rfl ?_)
  refine wpAny_bind (wpAny_setField_rec hz (by simp) fun g1 hz1 hs1=>?_)
  replace hz1:IsZip g1 z TI TO .ellipsis:=hz1
  refine wpAny_bind ?_
  simp only [List.zipIdx_cons,List.zipIdx_nil,List.forIn_cons,List.forIn_nil]
  refine wpAny_bind (wpAny_bind (wpAny_onRaise ?_))
  show wpAny _ _ (Builtin.SmallTypes.nextOf (.ref i1) >>= _) _ _ _
  have hA:S1 i g1:=Draws.same D1 h1 hs1.extBut Z.zf1
  by_cases hlt:i < n1
  · have hn2:i=n2:=by omega
    refine wpAny_bind (D1.item i _ _ _ hlt hA fun x g2 tk2 px st2 hs2=>wpAny_pure ?_)
    have hTO2:IsPair g2 TO a b:=hs2.extBut _ _ Z.TOi1 (hs1.extBut _ _ Z.TOz hTO)
    refine wpAny_bind (wpAny_seqItems hTO2 rfl ?_)
    refine wpAny_bind (wpAny_updateSeq_pair hTO2 fun g3 hTO3 hs3=>?_)
    refine wpAny_bind (wpAny_letGo (wpAny_pure ?_))
    refine wpAny_bind (wpAny_bind (wpAny_onRaise ?_))
    show wpAny _ _ (Builtin.SmallTypes.nextOf (.ref i2) >>= _) _ _ _
    refine wpAny_bind (D2.done _ _ _ (hn2 ▸ Draws.same D2 (Draws.same D2 (Draws.same D2 h2 hs1.extBut Z.zf2) hs2.extBut Z.if2) hs3.extBut Z.Tf2) fun g4 e hs4 he=>?_)
    obtain ⟨oe,hoe,hce⟩:=he
    have hz4:IsZip g4 z TI TO .ellipsis:=hs4 _ _ Z.i2z.symm (hs3.extBut _ _ Z.TOz.symm (hs2.extBut _ _ Z.i1z.symm hz1))
    have hez:e≠z:=fun x=>by subst x;rw [hz4] at hoe;cases hoe;simp at hce
    exact wpAny_setField_rec hz4 (by simp) fun g5 _ hs5=>hE g5 e _ (fun c o c1 c2 c3 c4 x=>hs5.extBut _ _ c1 (hs4 _ _ c4 (hs3.extBut _ _ c2 (hs2.extBut _ _ c3 (hs1.extBut _ _ c1 x))))) ⟨oe,hs5.extBut _ _ hez hoe,hce⟩
  · have hn1:i=n1:=by omega
    refine wpAny_bind (D1.done _ _ _ (hn1 ▸ hA) fun g2 e hs2 he=>?_)
    obtain ⟨oe,hoe,hce⟩:=he
    have hz2:IsZip g2 z TI TO .ellipsis:=hs2 _ _ Z.i1z.symm hz1
    have hez:e≠z:=fun x=>by subst x;rw [hz2] at hoe;cases hoe;simp at hce
    exact wpAny_setField_rec hz2 (by simp) fun g3 _ hs3=>hE g3 e _ (fun c o c1 _ c3 _ x=>hs3.extBut _ _ c1 (hs2 _ _ c3 (hs1.extBut _ _ c1 x))) ⟨oe,hs3.extBut _ _ hez hoe,hce⟩
theorem next_zip_item (Z:Zp z TI TO i1 i2 f1 f2) (D1:Draws prog w A.in1 i1 f1 n1 P1 S1) (D2:Draws prog w A.in1 i2 f2 n2 P2 S2) {Q:Option Value→Shared→Prop}
    (hz:IsZip s.heap z TI TO .none) (hTI:IsPair s.heap TI (.ref i1) (.ref i2)) (hTO:IsPair s.heap TO a b) (h1:S1 i s.heap) (h2:S2 i s.heap) (l1:i < n1) (l2:i < n2)
    (hQ:∀ x y h' tk,P1 i x→P2 i y→IsZip h' z TI TO (rawInt s.heap.objs.size)→IsPair h' TO x y→S1 (i + 1) h'→S2 (i + 1) h'→IsPair h' s.heap.objs.size x y →
      (∀ c o,c≠z→c≠TO→c≠i1→c≠i2→s.heap.get? c=some o→h'.get? c=some o)→Q (some (.ref s.heap.objs.size)) { s with heap:=h',toks:=tk }) :
    wpAny (model prog w) A (pyNext (.ref z)) Q E s:=by
  have hT:s.TypeIs (.ref z) "zip":=⟨_,hz,rfl⟩
  unfold pyNext
  exact wpAny_bind (wpAny_attempt (wpAny_callSpecial?_slot (name:=Str.ofString "__next__") hT PySem.F.slot_zip_next
    (wpAny_call_entry PySem.F.slot_zip_next hT PySem.F.entry_zip_next
      (zip_item Z D1 D2 hz hTI hTO h1 h2 l1 l2 fun x y h' tk a1 a2 a3 a4 a5 a6 a7 a8=>wpAny_pure (hQ x y h' tk a1 a2 a3 a4 a5 a6 a7 a8)) (PySem.F.args_zip_next_1 _))))
theorem next_zip_end (Z:Zp z TI TO i1 i2 f1 f2) (D1:Draws prog w A.in1 i1 f1 n1 P1 S1) (D2:Draws prog w A.in1 i2 f2 n2 P2 S2) {Q:Option Value→Shared→Prop}
    (hz:IsZip s.heap z TI TO .none) (hTI:IsPair s.heap TI (.ref i1) (.ref i2)) (hTO:IsPair s.heap TO a b) (h1:S1 i s.heap) (h2:S2 i s.heap) (l1:i≤n1) (hi:i=min n1 n2)
    (hQ:∀ h' tk,(∀ c o,c≠z→c≠TO→c≠i1→c≠i2→s.heap.get? c=some o→h'.get? c=some o)→Q none { s with heap:=h',toks:=tk }):wpAny (model prog w) A (pyNext (.ref z)) Q E s:=by
  have hT:s.TypeIs (.ref z) "zip":=⟨_,hz,rfl⟩
  unfold pyNext
  refine wpAny_bind (wpAny_attempt (wpAny_callSpecial?_slot (name:=Str.ofString "__next__") hT PySem.F.slot_zip_next
    (wpAny_call_entry PySem.F.slot_zip_next hT PySem.F.entry_zip_next (zip_end Z D1 D2 hz hTI hTO h1 h2 l1 hi fun h' e tk hk he=>?_) (PySem.F.args_zip_next_1 _))))
  obtain ⟨o,ho,hc⟩:=he
  refine wpAny_bind (wpAny_isInstance (T:="StopIteration") (b:=true) ⟨o,ho,hc⟩ isSubtype_stop ?_)
  exact wpAny_pure (hQ _ _ hk)
end
def Itz (K:PySem.W.Frag) (a c:Addr):It :=
  ⟨fun i H=>∃ xs ys x y,SqT K H a xs∧SqT K H c ys∧xs[i]?=some x∧ys[i]?=some y,
   fun i H v H'=>∃ p x y,(∀ xs,SqT K H a xs→xs[i]?=some x)∧(∀ ys,SqT K H c ys→ys[i]?=some y)∧H p=none∧v=.ref p∧H'=upd H p (.tup [x,y]),
   fun i H=>∃ xs ys,SqT K H a xs∧SqT K H c ys∧i=min xs.length ys.length⟩
theorem zp_of {h:Heap} {z TI TO i1 i2 a c:Addr} {f0 u v:Value} {k1 k2:Nat} {xs ys:Array Value} (hz:IsZip h z TI TO f0) (q:TI≠TO∧i1≠i2∧TO≠a∧TO≠c) (hTI:IsPair h TI (.ref i1) (.ref i2)) (hTO:IsPair h TO u v)
    (h1:h.IsTupleIter i1 a k1) (h2:h.IsTupleIter i2 c k2) (ha:h.IsTuple a xs) (hc:h.IsTuple c ys):Zp z TI TO i1 i2 [i1,a] [i2,c]:=by
  obtain ⟨o1,e1,c1,_⟩:=h1
  obtain ⟨o2,e2,c2,_⟩:=h2
  obtain ⟨o3,e3,c3,_⟩:=ha
  obtain ⟨o4,e4,c4,_⟩:=hc
  have cl:∀ {b b':Addr} {o o':Obj} {n n':String},h.get? b=some o→h.get? b'=some o'→o.cls=.type n→o'.cls=.type n'→n≠n'→b≠b':=fun x y p q ne z=>by
    subst z;rw [x] at y;cases y;rw [p] at q;exact ne (Value.type.inj q)
  have tz:=fun {b o} (x:h.get? b=some o) (p:o.cls=.type "tuple")=>cl x hz p rfl (by decide)
  have iz:=fun {b o} (x:h.get? b=some o) (p:o.cls=.type "tuple_iterator")=>cl x hz p rfl (by decide)
  have ti:=fun {b o b' o'} (x:h.get? b=some o) (p:o.cls=.type "tuple") (y:h.get? b'=some o') (r:o'.cls=.type "tuple_iterator")=>cl x y p r (by decide)
  refine ⟨tz hTI rfl,tz hTO rfl,iz e1 c1,iz e2 c2,q.1,ti hTI rfl e1 c1,ti hTI rfl e2 c2,ti hTO rfl e1 c1,ti hTO rfl e2 c2,q.2.1,?_,?_,?_,?_,?_,?_⟩
  · simp only [List.mem_cons,List.not_mem_nil,or_false,not_or];exact ⟨(iz e1 c1).symm,(tz e3 c3).symm⟩
  · simp only [List.mem_cons,List.not_mem_nil,or_false,not_or];exact ⟨(iz e2 c2).symm,(tz e4 c4).symm⟩
  · simp only [List.mem_cons,List.not_mem_nil,or_false,not_or];exact ⟨ti hTO rfl e1 c1,q.2.2.1⟩
  · simp only [List.mem_cons,List.not_mem_nil,or_false,not_or];exact ⟨ti hTO rfl e2 c2,q.2.2.2⟩
  · simp only [List.mem_cons,List.not_mem_nil,or_false,not_or];exact ⟨q.2.1,(ti e4 c4 e1 c1).symm⟩
  · simp only [List.mem_cons,List.not_mem_nil,or_false,not_or];exact ⟨q.2.1.symm,(ti e3 c3 e2 c2).symm⟩
theorem turn_zip {P:Program} {w:World} {K:PySem.W.Frag} {elts:List Expr} {kk:Nat} {pos:Pos} (a c z TI TO i1 i2:Addr) (q:TI≠TO∧i1≠i2∧TO≠a∧TO≠c) :
    Turn P w K (.Tuple elts kk pos) (Itz K a c) [z,TI,TO,i1,i2] z (fun i h=>IsZip h z TI TO .none∧IsPair h TI (.ref i1) (.ref i2)∧(∃ u v,IsPair h TO u v)∧h.IsTupleIter i1 a i∧h.IsTupleIter i2 c i) where
  mem:=by simp
  obj:=fun i h st b hb=>by
    obtain ⟨hz,hTI,⟨u,v,hTO⟩,⟨o1,e1,c1,d1⟩,⟨o2,e2,c2,d2⟩⟩:=st
    have:b=z∨b=TI∨b=TO∨b=i1∨b=i2:=by simpa using hb
    rcases this with rfl | rfl | rfl | rfl | rfl
    · exact ⟨_,hz,fun v x=>by
        have x':Data.fields _=Data.cell v:=x
        cases x'⟩
    · exact ⟨_,hTI,fun v x=>by
        have x':Data.seq _ _=Data.cell v:=x
        cases x'⟩
    · exact ⟨_,hTO,fun v x=>by
        have x':Data.seq _ _=Data.cell v:=x
        cases x'⟩
    · exact ⟨_,e1,fun v x=>by rw [d1] at x;cases x⟩
    · exact ⟨_,e2,fun v x=>by rw [d2] at x;cases x⟩
  keep:=fun i h h' st k=>let ⟨hz,hTI,⟨u,v,hTO⟩,h1,h2⟩:=st
    ⟨k z (by simp) _ hz,k TI (by simp) _ hTI,⟨u,v,k TO (by simp) _ hTO⟩,h1.at fun o e=>k i1 (by simp) o e,h2.at fun o e=>k i2 (by simp) o e⟩
  item:=by
    intro X hP hw hK hc i pins s σ H E I hf st hg
    subst hP hw hK
    obtain ⟨hz,hTI,⟨u,v,hTO⟩,h1,h2⟩:=st
    obtain ⟨xs,ys,x,y,hqx,hqy,hx,hy⟩:=hg
    obtain ⟨its,rv,p,_⟩:=I.tuple hqx
    obtain ⟨its',rv',p',_⟩:=I.tuple hqy
    obtain ⟨x',hu,ru⟩:=rv.get hx
    obtain ⟨y',hu',ru'⟩:=rv'.get hy
    have pa:s.heap.IsTuple a its.toArray:=p
    have pc:s.heap.IsTuple c its'.toArray:=p'
    have Z:=zp_of hz q hTI hTO h1 h2 pa pc
    have n1:a≠i1:=by
      obtain ⟨o1,e1,c1,_⟩:=h1
      obtain ⟨o3,e3,c3,_⟩:=pa
      intro e;subst e;rw [e1] at e3;cases e3;rw [c1] at c3;exact absurd (Value.type.inj c3) (by decide)
    have n2:c≠i2:=by
      obtain ⟨o1,e1,c1,_⟩:=h2
      obtain ⟨o3,e3,c3,_⟩:=pc
      intro e;subst e;rw [e1] at e3;cases e3;rw [c1] at c3;exact absurd (Value.type.inj c3) (by decide)
    have hd:X.A.in1.handled=none:=I.ok.hd hc
    have lt1:i < its.toArray.size:=by
      have:=(List.getElem?_eq_some_iff.mp hu).1
      simpa using this
    have lt2:i < its'.toArray.size:=by
      have:=(List.getElem?_eq_some_iff.mp hu').1
      simpa using this
    refine next_zip_item Z (draws_tuple hd i1 a n1 its.toArray) (draws_tuple hd i2 c n2 its'.toArray) hz hTI hTO ⟨h1,pa⟩ ⟨h2,pc⟩ lt1 lt2 fun x1 y1 h' tk px py hz' hTO' s1 s2 hT hk=>?_
    refine ⟨_,rfl,wpAny_letOwnedTupleGo_zip (s:={ s with heap:=h',toks:=tk }) hz' fun h'' hz'' hs''=>?_⟩
    have ex:x1=x':=by
      have h3:its[i]?=some x1:=by simpa using px
      rw [hu] at h3;exact (Option.some.inj h3).symm
    have ey:y1=y':=by
      have h3:its'[i]?=some y1:=by simpa using py
      rw [hu'] at h3;exact (Option.some.inj h3).symm
    subst ex ey
    have lt:∀ {b o},s.heap.get? b=some o→s.heap.objs.size≠b:=fun e=>Nat.ne_of_gt (Heap.lt_size e)
    have hTT:h''.IsTuple s.heap.objs.size #[x1,y1]:=⟨_,hs''.extBut _ _ (lt hz) hT,rfl,_,rfl⟩
    refine ⟨.ref s.heap.objs.size,upd H s.heap.objs.size (.tup [x,y]),inv_turnedLaid (s:=s) (h':=h'') (tk:=tk) (ch:=[z,TI,TO,i1,i2]) I hf (fun b o hb e=>?_) (Nat.le_refl _) ⟨by show 2≤sizeLine;decide,[x1,y1],.cons ru (.cons ru' .nil),hTT⟩,rfl,
      ⟨s.heap.objs.size,x,y,fun zs hz=>by rw [← I.tuple_inj hqx hz];exact hx,fun zs hz=>by rw [← I.tuple_inj hqy hz];exact hy,I.hok.fresh (Nat.le_refl _),rfl,rfl⟩,⟨hz'',?_,?_,?_,?_⟩,fun b hb=>?_⟩
    · have hb':¬ (b=z∨b=TI∨b=TO∨b=i1∨b=i2):=by simpa using hb
      simp only [not_or] at hb'
      exact hs''.extBut _ _ hb'.1 (hk b o hb'.1 hb'.2.2.1 hb'.2.2.2.1 hb'.2.2.2.2 e)
    · exact hs''.extBut _ _ Z.TIz (hk _ _ Z.TIz Z.TITO Z.TIi1 Z.TIi2 hTI)
    · exact ⟨_,_,hs''.extBut _ _ Z.TOz hTO'⟩
    · exact s1.1.at fun o e=>hs''.extBut _ _ Z.i1z e
    · exact s2.1.at fun o e=>hs''.extBut _ _ Z.i2z e
    · rw [upd_ne (fun e=>?_)]
      · exact (hf b hb).1
      · have:b=z∨b=TI∨b=TO∨b=i1∨b=i2:=by simpa using hb
        obtain ⟨o1,e1,_⟩:=h1
        obtain ⟨o2,e2,_⟩:=h2
        rcases this with rfl | rfl | rfl | rfl | rfl
        · exact lt hz e.symm
        · exact lt hTI e.symm
        · exact lt hTO e.symm
        · exact lt e1 e.symm
        · exact lt e2 e.symm
  done:=by
    intro X hP hw hK hc i pins s σ H E I hf st hg
    subst hP hw hK
    obtain ⟨hz,hTI,⟨u,v,hTO⟩,h1,h2⟩:=st
    obtain ⟨xs,ys,hqx,hqy,hi⟩:=hg
    obtain ⟨its,rv,p,_⟩:=I.tuple hqx
    obtain ⟨its',rv',p',_⟩:=I.tuple hqy
    have pa:s.heap.IsTuple a its.toArray:=p
    have pc:s.heap.IsTuple c its'.toArray:=p'
    have Z:=zp_of hz q hTI hTO h1 h2 pa pc
    have n1:a≠i1:=by
      obtain ⟨o1,e1,c1,_⟩:=h1
      obtain ⟨o3,e3,c3,_⟩:=pa
      intro e;subst e;rw [e1] at e3;cases e3;rw [c1] at c3;exact absurd (Value.type.inj c3) (by decide)
    have n2:c≠i2:=by
      obtain ⟨o1,e1,c1,_⟩:=h2
      obtain ⟨o3,e3,c3,_⟩:=pc
      intro e;subst e;rw [e1] at e3;cases e3;rw [c1] at c3;exact absurd (Value.type.inj c3) (by decide)
    have hd:X.A.in1.handled=none:=I.ok.hd hc
    have hi':i=min its.toArray.size its'.toArray.size:=by rw [List.size_toArray,List.size_toArray,← rv.length,← rv'.length];exact hi
    refine next_zip_end Z (draws_tuple hd i1 a n1 its.toArray) (draws_tuple hd i2 c n2 its'.toArray) hz hTI hTO ⟨h1,pa⟩ ⟨h2,pc⟩ (by omega) hi' fun h' tk hk=>⟨rfl,?_⟩
    have kk:∀ b o,b ∉ [z,TI,TO,i1,i2]→s.heap.get? b=some o→h'.get? b=some o:=fun b o hb e=>by
      have hb':¬ (b=z∨b=TI∨b=TO∨b=i1∨b=i2):=by simpa using hb
      simp only [not_or] at hb'
      exact hk b o hb'.1 hb'.2.2.1 hb'.2.2.2.1 hb'.2.2.2.2 e
    have:=I.call' (ch:=[z,TI,TO,i1,i2]) (H':=H) (s':={ s with heap:=h',toks:=tk }) rfl ⟨fun b u q n hb hx=>kk b u hx q,fun b u q n hb hx=>⟨u.slots,kk b u hx q⟩,fun b u q n hx=>n,fun b u q hx=>⟨u,kk b u hx q⟩,fun b xs q=>q,fun b u xs q=>q,fun b ps q=>⟨#[],by rw [q];simp⟩⟩
      (fun a u e'=>?_) I.bare fun b hb=>⟨(hf b hb).2.2.2.1,(hf b hb).2.1,(hf b hb).2.2.2.2.1,(hf b hb).2.2.2.2.2⟩
    · exact this
    · refine (I.hok a u e').stay (fun b z hb q=>kk b z (fun hc=>?_) q) (fun _ q=>q) fun _ _ q=>q
      have hnone:=(hf b hc).1
      rcases hb with rfl | hb
      · rw [hnone] at e';cases e'
      · rw [hnone] at hb;cases hb
  self:=fun _ _ _ _ _ st h=>wpAny_pyIter_zip st.1 h
abbrev zH1 (h:Heap) (a:Addr):Heap:=h.push { cls:=.type "tuple_iterator",data:=.fields #[.ref a,.int 0 0] }
abbrev zH2 (h:Heap) (a c:Addr):Heap:=(zH1 h a).push { cls:=.type "tuple_iterator",data:=.fields #[.ref c,.int 0 0] }
abbrev zH3 (h:Heap) (a c:Addr):Heap:=(zH2 h a c).push { cls:=.type "tuple",data:=.seq #[.ref h.objs.size,.ref (zH1 h a).objs.size] }
abbrev zH4 (h:Heap) (a c:Addr):Heap:=(zH3 h a c).push { cls:=.type "tuple",data:=.seq #[.none,.none] }
abbrev zH5 (h:Heap) (a c:Addr):Heap:=(zH4 h a c).push { cls:=.type "zip",data:=.fields #[.none,.bool false,.bool false,.ref (zH2 h a c).objs.size,.ref (zH3 h a c).objs.size] }
theorem meets_zip_tuples (a c:Addr) (xs ys:Array Value) :
    Meets (Builtin.«zip.__new__» ⟨[.type "zip",.ref a,.ref c],[]⟩) (fun _ R s=>s.heap.IsTuple a xs∧s.heap.IsTuple c ys ∧
      R (.ok (.ret (.ref (zH4 s.heap a c).objs.size))) { s with heap:=zH5 s.heap a c }) :=
  .of_wp fun prog w A R s h=>by
    obtain ⟨hp,g,d,tk,os⟩:=s;obtain ⟨h1,h2,h⟩:=h
    have hsub:=sub_zip
    have hL1:Heap.IsTuple (Shared.heap ⟨hp,g,d,tk,os⟩) a xs:=h1
    have hL2:Heap.IsTuple (Shared.heap ⟨hp.push { cls:=.type "tuple_iterator",data:=.fields #[.ref a,.int 0 0] },g,d,tk,os⟩) c ys:=Heap.IsTuple.push h2 _
    wp_walk using wpAny_pyIter_tuple hL1,wpAny_pyIter_tuple hL2
    exact ⟨_,rfl,h⟩
theorem call_zip_tuples {prog:Program} {w:World} {A:Around} {E:Value→Shared→Prop} {s:Shared} {a c:Addr} {xs ys:Array Value} {Q:Value→Shared→Prop} (h1:s.heap.IsTuple a xs) (h2:s.heap.IsTuple c ys)
    (h:∀ h',IsZip h' (s.heap.objs.size + 4) (s.heap.objs.size + 2) (s.heap.objs.size + 3) .none→IsPair h' (s.heap.objs.size + 2) (.ref s.heap.objs.size) (.ref (s.heap.objs.size + 1)) →
      IsPair h' (s.heap.objs.size + 3) .none .none→h'.IsTupleIter s.heap.objs.size a 0→h'.IsTupleIter (s.heap.objs.size + 1) c 0 →
      (∀ b o,s.heap.get? b=some o→h'.get? b=some o)→Q (.ref (s.heap.objs.size + 4)) { s with heap:=h' }) :
    wpAny (model prog w) A (call (.type "zip") [.ref a,.ref c]) Q E s:=by
  refine callType_new PySem.F.called_zip (by decide) (PySem.F.typeCall_zip_2 _ _) (PySem.F.newCall_zip_2 _ _) (fun obj=>PySem.F.args_object_init_3 obj _ _) PySem.F.entry_zip_new
    (meets_zip_tuples a c xs ys) ⟨h1,h2,?_⟩
  have z1:(zH1 s.heap a).objs.size=s.heap.objs.size + 1:=Heap.size_push ..
  have z2:(zH2 s.heap a c).objs.size=s.heap.objs.size + 2:=by rw [Heap.size_push,z1]
  have z3:(zH3 s.heap a c).objs.size=s.heap.objs.size + 3:=by rw [Heap.size_push,z2]
  have z4:(zH4 s.heap a c).objs.size=s.heap.objs.size + 4:=by rw [Heap.size_push,z3]
  have g5:(zH5 s.heap a c).get? (zH4 s.heap a c).objs.size=some _:=Heap.get?_push_size _ rfl
  have g4:(zH5 s.heap a c).get? (zH3 s.heap a c).objs.size=some _:=Heap.get?_push_of_some _ (Heap.get?_push_size _ rfl)
  have g3:(zH5 s.heap a c).get? (zH2 s.heap a c).objs.size=some _:=Heap.get?_push_of_some _ (Heap.get?_push_of_some _ (Heap.get?_push_size _ rfl))
  have g2:(zH5 s.heap a c).get? (zH1 s.heap a).objs.size=some _:=Heap.get?_push_of_some _ (Heap.get?_push_of_some _ (Heap.get?_push_of_some _ (Heap.get?_push_size _ rfl)))
  have g1:(zH5 s.heap a c).get? s.heap.objs.size=some _:=Heap.get?_push_of_some _ (Heap.get?_push_of_some _ (Heap.get?_push_of_some _ (Heap.get?_push_of_some _ (Heap.get?_push_size _ rfl))))
  show _∧_
  rw [z2,z3,z4] at g5
  rw [z1,z2] at g3
  rw [z3] at g4
  rw [z1] at g2
  rw [z4]
  exact ⟨⟨_,g5,rfl⟩,h _ g5 g3 g4 ⟨_,g1,rfl,rfl⟩ ⟨_,g2,rfl,rfl⟩ fun b o x =>
    Heap.get?_push_of_some _ (Heap.get?_push_of_some _ (Heap.get?_push_of_some _ (Heap.get?_push_of_some _ (Heap.get?_push_of_some _ x))))⟩
def iZip (K:PySem.W.Frag) (ta:TA):TI:=fun σ H R=>ta σ H fun vs H1=>∃ a c,vs=[.ref a,.ref c]∧(∃ xs,SqT K H1 a xs)∧(∃ ys,SqT K H1 c ys)∧R (Itz K a c) H1
theorem pi_zip {X:Cx} {elts:List Expr} {kk:Nat} {tpos:Pos} {a b:Expr} {ta:TA} {p pos:Pos} (hg:Gl X "zip") (hm:X.mg "zip"=none) (ha:PA X [a,b] ta) (hs:starEach [a,b] X.env=[(false,eval a X.env),(false,eval b X.env)]) (hs2:starEach [b] X.env=[(false,eval b X.env)]) :
    PI X (.Tuple elts kk tpos) (.Call (.Name "zip" p) [a,b] [] pos) (iZip X.K ta):=by
  intro pins s σ H R I h
  refine Call_ (ld_blt I hg hm boot_zip (PyProof.Rows.callWith_type1 (thn (ha pos pins s σ H _ I h) fun us s1 ⟨vs,H1,I1,r1,q1⟩=>?_) (by rw [hs,hs2]) (by rw [hs2];rfl)))
  obtain ⟨a,c,e,⟨xs,hq⟩,⟨ys,hq'⟩,q⟩:=q1
  subst e
  cases r1 with
  | cons r rr =>
    cases rr with
    | cons r' rr =>
      cases rr
      cases r
      cases r'
      obtain ⟨its,rv,p,hz⟩:=I1.tuple hq
      obtain ⟨its',rv',p',hz'⟩:=I1.tuple hq'
      have pa:s1.heap.IsTuple a its.toArray:=p
      have pc:s1.heap.IsTuple c its'.toArray:=p'
      have la:a < s1.heap.objs.size:=by obtain ⟨_,e,_⟩:=pa;exact Heap.lt_size e
      have lc:c < s1.heap.objs.size:=by obtain ⟨_,e,_⟩:=pc;exact Heap.lt_size e
      refine call_zip_tuples pa pc fun h' hz hTI hTO h1 h2 hk=>?_
      refine wpAny_pyIter_zip (s:={ s1 with heap:=h' }) hz ?_
      have I2:L2.Inv X pins σ H1 { s1 with heap:=h',toks:=s1.toks }:=I1.kept hk
      refine ⟨_,_,_,_,H1,rfl,I2,turn_zip a c (s1.heap.objs.size + 4) (s1.heap.objs.size + 2) (s1.heap.objs.size + 3) s1.heap.objs.size (s1.heap.objs.size + 1) ⟨Nat.ne_of_lt (Nat.lt_succ_self _),Nat.ne_of_lt (Nat.lt_succ_self _),Nat.ne_of_gt (Nat.lt_of_lt_of_le la (Nat.le_add_right _ _)),Nat.ne_of_gt (Nat.lt_of_lt_of_le lc (Nat.le_add_right _ _))⟩,⟨hz,hTI,⟨_,_,hTO⟩,h1,h2⟩,fun b hb=>?_,q⟩
      have le:s1.heap.objs.size≤b:=by
        have:b=s1.heap.objs.size + 4∨b=s1.heap.objs.size + 2∨b=s1.heap.objs.size + 3∨b=s1.heap.objs.size∨b=s1.heap.objs.size + 1:=by simpa using hb
        rcases this with e | e | e | e | e <;> rw [e]
        · exact Nat.le_add_right _ _
        · exact Nat.le_add_right _ _
        · exact Nat.le_add_right _ _
        · exact Nat.le_refl _
        · exact Nat.le_add_right _ _
      exact I1.fpOk le (I1.hok.fresh le)
def zipped:List U→List U→List U
  | u :: us,w :: ws=>.tup [u,w] :: zipped us ws
  | _,_=>[]
theorem zipped_len:∀ us ws:List U,(zipped us ws).length=min us.length ws.length
  | [],ws=>by simp [zipped]
  | _ :: _,[]=>by simp [zipped]
  | u :: us,w :: ws=>by simp only [zipped,List.length_cons,zipped_len us ws];omega
theorem zipped_get:∀ {us ws:List U} {i:Nat} {x:U},(zipped us ws)[i]?=some x→∃ u w,us[i]?=some u∧ws[i]?=some w∧x=.tup [u,w]
  | [],ws,i,x,h=>by simp [zipped] at h
  | _ :: _,[],i,x,h=>by simp [zipped] at h
  | u :: us,w :: ws,0,x,h=>by simp [zipped] at h;exact ⟨u,w,rfl,rfl,h.symm⟩
  | u :: us,w :: ws,i + 1,x,h=>by
    simp only [zipped,List.getElem?_cons_succ] at h ⊢
    exact zipped_get h
theorem sqT_of {K:PySem.W.Frag} {H H1:Hp} {M M1:MHp} {a:Addr} {vs:List V} (s:Stp H M H1 M1) (m:M a=none∧H a=some (.tup vs)):SqT K H1 a vs:=by
  exact .inl (.inl (s a _ m.2 m.1).1)
theorem walk_zip {K:PySem.W.Frag} {a c:Addr} {us ws:List U} {vs xs:List V} {H:Hp} {M:MHp} (m:M a=none∧H a=some (.tup vs)) (m':M c=none∧H c=some (.tup xs)) (r:RelUs K H M us vs) (r':RelUs K H M ws xs):Walk K (Itz K a c) ⟨none,zipped us ws⟩ H M:=by
  refine ⟨fun H1 M1 s rm _ i u e=>?_,fun H1 M1 s rm _=>⟨vs,xs,sqT_of s m,sqT_of s m',by show (zipped us ws).length=_;rw [zipped_len,r.length,r'.length]⟩⟩
  obtain ⟨u,w,e1,e1',rfl⟩:=zipped_get e
  obtain ⟨v,e2,ru⟩:=r.get e1
  obtain ⟨x,e2',ru'⟩:=r'.get e1'
  refine ⟨⟨vs,xs,v,x,sqT_of s m,sqT_of s m',e2,e2'⟩,fun y H2 y'=>?_⟩
  obtain ⟨p,v',x',y1,y2,hp,rfl,rfl⟩:=y'
  have:=y1 vs (sqT_of s m)
  rw [e2] at this;cases this
  have:=y2 xs (sqT_of s m')
  rw [e2'] at this;cases this
  have st:=Stp.laid (o:=.tup [v,x]) rm hp
  have rr:RelUs K H1 M1 [u,w] [v,x]:=by
    simp only [RelUs]
    exact ⟨_,_,rfl,ru.stp s,_,_,rfl,ru'.stp s,rfl⟩
  exact ⟨st,rm.laid hp,relU_tup (rm.no hp) upd_same (rr.stp st)⟩
def uZip (ta:UA):UI:=fun τ M R=>ta τ M fun us M1=>match us with
  | [.tup us,.tup ws]=>R ⟨none,zipped us ws⟩ M1
  | _=>False
theorem sim_zip {K:PySem.W.Frag} {ta:TA} {ta':UA} (h:SimA K ta ta'):SimI K (iZip K ta) (uZip ta'):=fun σ τ H M R' rs rm q R c=>h σ τ H M _ rs rm q _ fun us vs M1 H1 s1 rm1 ru h1=>by
  split at h1
  · obtain ⟨v,vs',rfl,a,b⟩:=ru.inv_cons
    obtain ⟨v2,rfl,a2⟩:=b.one
    simp only [RelU] at a a2
    obtain ⟨a,vs,rfl,m,r⟩:=a
    obtain ⟨a',vs',rfl,m',r'⟩:=a2
    exact ⟨a,a',rfl,⟨vs,sqT_of (Stp.refl _ _) m⟩,⟨vs',sqT_of (Stp.refl _ _) m'⟩,c _ _ M1 H1 s1 rm1 (walk_zip m m' r r') h1⟩
  · exact h1.elim
theorem ui_zip {D:Dat} {elts:List Expr} {kk:Nat} {tpos:Pos} {a b:Expr} {p pos:Pos} {ta:UA} (hm:D.mg "zip"=none) (ha:PAU D [a,b] ta) (hg:D.sc.names.lookup ("zip":Str)=some .globalImplicit:=by rfl) (hs:∀ env,starEach [a,b] env=[(false,eval a env),(false,eval b env)]:=by intro _;rfl) (hs2:∀ env,starEach [b] env=[(false,eval b env)]:=by intro _;rfl):PIU D (.Tuple elts kk tpos) (.Call (.Name "zip" p) [a,b] [] pos) (uZip ta):=by
  obtain ⟨_,q,s⟩:=ha
  exact ⟨_,fun X h=>h.K ▸ pi_zip (by show X.env.scope.names.lookup _=_;rw [h.sc];exact hg) (by rw [h.mg];exact hm) (q X h) (hs _) (hs2 _),sim_zip s⟩
end U2
namespace U2
open PySem PySem.Spec PyProof.Rows L2
theorem meets_extendL (l:Addr) (items:Array Value) (n:Nat) (b:Addr) (items2:Array Value) (n2:Nat) (dd:Option Addr) (sl:Array (Option Value)) (hc0:¬(!items.isEmpty && Builtin.List.listTooLong (items.size + items2.size))=true) (hc1:items.size≤sizeLine) (hs2:items.size + items2.size≤sizeLine + 1) :
    Meets (Builtin.«list.extend» ⟨[.ref l,.ref b],[]⟩) (fun _ R s=>s.heap.get? l=some { cls:=.type "list",dict:=none,data:=.seq items n,slots:=#[] }∧s.heap.get? b=some { cls:=.type "list",dict:=dd,data:=.seq items2 n2,slots:=sl }∧R (.ok (.ret Value.none)) { s with heap:=s.heap.update l (Obj.mapSeq fun x=>x++items2),toks:=s.toks }) :=
  .of_wp fun prog w A R s h=>by
    obtain ⟨hp,g,d,tk,os⟩:=s;obtain ⟨hl,hb,h⟩:=h
    have f1:=PySem.AutoSeq1.idx_int;have f2:=PySem.AutoSeq1.sub_tuple_tuple;have f3:=PySem.AutoSeq1.sub_list_list;have f4:=PySem.AutoSeq1.sub_tuple_list;have f5:=PySem.AutoSeq1.sub_list_tuple
    have hz':(items++items2).size≤sizeLine + 1:=by rw [Array.size_append];exact hs2
    wp_walk using (wpAny_updateSeq hl rfl (hz:=hc1) (_hz':=hz')),wpAny_loadPart' hl,wpAny_loadPart' hb
    exact ⟨_,rfl,h⟩
theorem mt_extendL {X:Cx}:MtM X "list.extend" (rExtendL X.K):=by
  intro pins s σ H x vs v us Q I rx rv h
  obtain ⟨l,b,xs,zs,rfl,rfl,hH,hB,hz,q⟩:=h
  cases rx
  obtain ⟨u,rfl,ru⟩:=rv.one
  cases ru
  obtain ⟨z,its,n,r,hl,e⟩:=I.lstM hH
  obtain ⟨its2,r2,⟨⟨oc,od,odt,osl⟩,n2,e2,hc,hd,hdt⟩,hl2⟩:=I.list hB
  have hc':oc=.type "list":=hc
  have hdt':odt=.seq its2.toArray n2:=hdt
  subst hc' hdt'
  have l2:=r2.length
  have hsz:its.toArray.size + its2.toArray.size≤sizeLine:=by rw [List.size_toArray,List.size_toArray];omega
  have hlong:¬ (!its.toArray.isEmpty && Builtin.List.listTooLong (its.toArray.size + its2.toArray.size))=true:=by
    rw [notLongL hsz,Bool.and_false]
    exact Bool.false_ne_true
  refine call_meets PySem.F.slot_list_extend ⟨_,e,rfl⟩ PySem.F.entry_list_extend (PySem.F.args_list_extend_2 _ _)
    (meets_extendL l its.toArray n b its2.toArray n2 od osl hlong (by rw [List.size_toArray];omega) (by omega)) ⟨e,e2,?_⟩
  refine ⟨.non,_,I.lset (its':=its++its2) hH e (by simp) (r.append r2) ?_,rfl,q⟩
  rw [List.length_append]
  omega
variable {D:Dat} {o e:Expr} {ta:UE} {tas:UA} {pos:Pos}
theorem ue_extend {apos:Pos} (ho:PEU D o ta) (ha:PAU D [e] tas) (hbase:∀ env,attributeBase o "extend" env (eval o env)=eval o env:=by intro _;rfl)
    (hfew:∀ env,((backTo pos (starEach [e] env)).all (fun x=>!x.1) && (backToKw pos (keywordEach [] env)).all (fun x=>x.1.isSome) && decide ([e].length + ([]:List Keyword).length + (if ([]:List Keyword).isEmpty then 0 else 1) < 30))=true:=by intro _;rfl)
    (hline:(apos.endLine == pos.line)=true:=by rfl) (hs:∀ env,starEach [e] env=[(false,eval e env)]:=by intro _;rfl):PEU D (.Call (.Attribute o "extend" apos) [e] [] pos) (uBM mExtend ta tas):=by
  obtain ⟨_,p,s⟩:=ho;obtain ⟨_,q,r⟩:=ha
  refine ⟨_,fun X h=>?_,sim_bm sim_extend s r⟩
  have:=pe_bm (cpos:=pos) (apos:=apos) PySem.F.plainAttrs_list PySem.F.slot_list_extend PySem.F.type_list_extend mt_extendL (p X h) (q X h) (hbase _) (hfew _) hline (hs _) (by rfl)
  rw [h.K] at this
  exact this
end U2
namespace U2
open PySem PySem.Spec PyProof.Rows L2
def intsOf:List U→Option (List Int)
  | []=>some []
  | .int i :: us=>(intsOf us).map (i :: ·)
  | _ :: _=>none
theorem intsOf_rel {K:PySem.W.Frag} {H:Hp} {M:MHp}:∀ {us:List U} {vs:List V} {xs:List Int},RelUs K H M us vs→intsOf us=some xs→vs=xs.map V.int
  | [],vs,xs,r,e=>by cases e;exact r.inv_nil
  | u :: us,vs,xs,r,e=>by
    obtain ⟨v,vs',rfl,a,b⟩:=r.inv_cons
    cases u with
    | int i =>
      simp only [intsOf] at e
      cases e2:intsOf us with
      | none=>rw [e2] at e;cases e
      | some ys=>rw [e2] at e;cases e;rw [a.int,intsOf_rel b e2];rfl
    | _=>cases e
def uLtX:UR2:=fun x y M Q=>match x,y with
  | .int i,.int j=>Q (.bl (decide (i < j))) M
  | .tup us,.tup ws=>∃ xs ys,intsOf us=some xs∧intsOf ws=some ys∧Q (.bl (HT.lexLt xs ys)) M
  | _,_=>False
variable {D:Dat}
theorem k_ltX:Cmp D .Lt uLtX:=⟨⟨_,fun X h=>h.K ▸ op_lt.or (op_ltT h.room.units0),fun x y u w H M Q' rm ru rw h Q c=>by
  unfold uLtX at h
  split at h
  · rename_i i j
    exact .inl (sim_bool2 (f:=fun i j=>decide (i < j)) x y (.int i) (.int j) H M Q' rm ru rw h Q c)
  · rename_i us ws
    obtain ⟨xs,ys,e1,e2,q⟩:=h
    obtain ⟨a,vs,rfl,s1,r1⟩:=ru.tup
    obtain ⟨a',vs',rfl,s2,r2⟩:=rw.tup
    cases intsOf_rel r1 e1
    cases intsOf_rel r2 e2
    exact .inr ⟨a,a',xs,ys,rfl,rfl,s1,s2,c.here rm relU_bl q⟩
  · exact h.elim⟩⟩
end U2
namespace U2
open PySem PySem.Spec PyProof.Rows L2
def maxI:Int→List Int→Int
  | m,[]=>m
  | m,n :: ns=>maxI (if n > m then n else m) ns
section
variable {X:Cx}
theorem call_sumL (hc:X.calm=true):CallR X (.builtin "sum") (fun xs H Q=>∃ p ns,xs=[.ref p]∧SqL X.K H p (ns.map V.int)∧PySem.SumFits ns∧Q (.int ns.sum) H):=by
  intro pins s σ H xs us Q I r h
  obtain ⟨p,ns,rfl,hq,hf,q⟩:=h
  obtain ⟨u,rfl,rx⟩:=vals1 r
  cases rx
  obtain ⟨its,r',pl,hz⟩:=I.list hq
  have hi:IntsAre its ns:=intsAre_of r'
  obtain ⟨ys,e⟩:=hi.allInts.items
  have hns:ns=ys.toList.map (·.1):=by
    rw [← hi.numsOf,← nums_intItems,← e]
  have hl:=pl.isList
  rw [e] at hl
  subst hns
  refine sum_intList (I.ok.hd hc) hl (fun j hj=>?_) fun h' tk t' hk=>?_
  · rw [numAt_eq,preSum_eq];exact hf j (by simpa using hj)
  · refine ⟨.int _,H,I.kept hk,⟨t',?_⟩,q⟩
    rw [preSum_eq,List.take_of_length_le (by simp)]
def bSum:List U→MHp→UK→Prop:=fun us M Q=>match us with
  | [x]=>match view M x with
    | .lst ws=>∃ ns,intsOf ws=some ns∧PySem.SumFits ns∧Q (.int ns.sum) M
    | _=>False
  | _=>False
theorem b_sum {D:Dat}:Blt D (.builtin "sum") bSum:=⟨⟨_,fun X h=>by
    have:=(call_sumL (X:=X) h.calm);rw [h.K] at this;exact this,fun xs us H M Q' rm rus h Q c=>by
  unfold bSum at h
  split at h
  · rename_i x
    obtain ⟨v,rfl,a1⟩:=rus.one
    split at h
    · rename_i ws e
      obtain ⟨ns,e2,hf,q⟩:=h
      obtain ⟨b,zvs,rfl,s2,r2⟩:=view_lst rm a1 e
      rw [intsOf_rel r2 e2] at s2
      exact ⟨b,ns,rfl,s2,hf,c.here rm relU_int q⟩
    · exact h.elim
  · exact h.elim⟩⟩
def bMax:List U→MHp→UK→Prop:=fun us M Q=>match us with
  | [.int i,.int j]=>Q (.int (if j > i then j else i)) M
  | [x]=>match view M x with
    | .lst ws=>∃ m ns,intsOf ws=some (m :: ns)∧Q (.int (maxI m ns)) M
    | _=>False
  | _=>False
end
end U2
namespace U2
open PySem PySem.Spec PyProof.Rows L2
section
variable {D:Dat} {a b c e o i:Expr} {ta tb tc te to ti:UE} {pos p:Pos} {es:List Expr} {tas:UA} {x:Str}
def uSetI (te to ti:UE):US:=fun D τ M=>te τ M fun v M1=>to τ M1 fun x M2=>ti τ M2 fun y M3=>match x,y with
  | .ref a,.int k=>match M3 a with
    | some (.lst us)=>∃ j,ixN us.length k=some j∧D.nx τ (mup M3 a (.lst (us.set j v)))
    | _=>False
  | _,_=>False
theorem us_asub {tpos:Pos} (he:PEU D e te) (ho:PEU D o to) (hi:PEU D i ti) (hs:∀ env,swapsWithSole [.Subscript o i tpos] e pos.line env=pure false:=by intro _;rfl) (hw:∀ env,swappedStores [.Subscript o i tpos] e env=pure none:=by intro _;rfl)
    (h1:∀ env,(assignEach [.Subscript o i tpos] env).map (·.2)=[assign (.Subscript o i tpos) env]:=by intro _;rfl)
    (ha:∀ env v,assign (.Subscript o i tpos) env v=(do
      let ov ← holding [v] (eval o env)
      let iv ← holding [v,ov] (eval i env)
      standAt tpos
      holding [v,ov,iv] (setItem ov iv v)
      release [v,ov,iv] []):=by intro _ _;rfl):PSU D (.Assign [.Subscript o i tpos] e pos) (uSetI te to ti):=by
  obtain ⟨_,p1,s1⟩:=he;obtain ⟨_,p2,s2⟩:=ho;obtain ⟨_,p3,s3⟩:=hi
  refine ⟨_,fun X h=>ps_asg (p1 X h) (pg_sub (p2 X h) (p3 X h) set_list (ha _)) (hs _) (hw _) (h1 _),fun σ τ H M D' rs rm h EE d=>?_⟩
  refine s1 σ τ H M _ rs rm h _ fun v vv M1 H1 st1 rm1 rv h1=>?_
  refine s2 σ τ H1 M1 _ (rs.stp st1) rm1 h1 _ fun x vx M2 H2 st2 rm2 rx h2=>?_
  refine s3 σ τ H2 M2 _ ((rs.stp st1).stp st2) rm2 h2 _ fun y vy M3 H3 st3 rm3 ry h3=>?_
  split at h3
  · rename_i a k
    split at h3
    · rename_i us e
      obtain ⟨j,hj,q⟩:=h3
      cases (rx.stp st3).ref
      cases ry.int
      obtain ⟨vs,hv,rus⟩:=rm3 a _ e
      have rv3:=(rv.stp st2).stp st3
      have st4:Stp H3 M3 (upd H3 a (.lst (vs.set j vv))) (mup M3 a (.lst (us.set j v))):=Stp.write e
      have rnew:RelM D.K (upd H3 a (.lst (vs.set j vv))) (mup M3 a (.lst (us.set j v))):=rm3.put st4 ⟨_,upd_same,(RelUs.set rv3 j rus).stp st4⟩
      refine ⟨a,vs,k,j,rfl,rfl,hv,by rw [← rus.length];exact hj,?_⟩
      exact d.nx _ _ _ _ (((st1.trans st2).trans st3).trans st4) rnew ((((rs.stp st1).stp st2).stp st3).stp st4) q
    · exact h3.elim
  · exact h3.elim
def mPopAt:U→List U→MHp→UK→Prop:=fun x ws M Q=>match x,ws with
  | .ref a,[.int i]=>match M a with
    | some (.lst us)=>-(2 ^ 63)≤i∧i < 2 ^ 63∧∃ k y,seqIndex? i us.length=some k∧us[k]?=some y∧Q y (mup M a (.lst (us.eraseIdx k)))
    | _=>False
  | _,_=>False
def bInt:List U→MHp→UK→Prop:=fun us M Q=>match us with
  | [.int i]=>Q (.int i) M
  | [.bl k]=>Q (.int (if k then 1 else 0)) M
  | _=>False
def CMulB (i j:Int):Prop:=CMul i j∨(Builtin.Int.intBits i≤60000000∧Builtin.Int.intBits j≤60000000)
theorem CMulB.ok {i j:Int} (h:CMulB i j):IntMulOk i j:=by
  rcases h with h | ⟨h1,h2⟩
  · exact h.ok
  · exact IntMulOk.of_le h1 h2 (by decide)
theorem op_mulB {X:Cx}:OpR X (binaryOp .Mult) (rI CMulB fun i j=>.int (i * j)):=opI fun _ _ _ _ _ _ _ hc q=>mul_int q hc.ok
def repS (z:Str) (n:Int):Str:=if n < 1 then Str.empty else if (n == 1 || z.length == 0)=true then z else ⟨(List.replicate n.toNat z.cps).foldl (·++·) #[]⟩
theorem op_repS {X:Cx}:OpR X (binaryOp .Mult) (fun x y H Q=>∃ z n,x=.str z∧y=.int n∧-(2 ^ 63)≤n∧n < 2 ^ 20∧z.length≤2 ^ 20∧z.length * n.toNat≤100000∧Q (.str (repS z n)) H):=by
  intro pins s σ H x y v u Q I rx ry h
  obtain ⟨z,n,rfl,rfl,h1,h2,h3,h4,q⟩:=h
  obtain ⟨t,rfl⟩:=rx
  obtain ⟨t',rfl⟩:=ry
  have e1:(decide (n < -(2 ^ 63:Int)) || decide (n ≥ 2 ^ 63))=false:=by
    rw [decide_eq_false (by omega),decide_eq_false (by omega)];rfl
  refine PySem.P.mul_str e1 (fun g1 g2=>?_) (fun g1 g2=>?_) ?_
  · intro hh
    have hn:(1:Int)≤n:=by omega
    have e3:(z.length:Int) * n=((z.length * n.toNat:Nat):Int):=by
      rw [Int.natCast_mul,Int.toNat_of_nonneg (by omega)]
    have:=Int.le_ediv_of_mul_le (show (0:Int) < n by omega) (show (z.length:Int) * n≤2 ^ 63 - 1 by rw [e3];omega)
    omega
  · unfold Builtin.Str.tooLong sizeLine
    exact decide_eq_false (by omega)
  · have hq:∀ (t2:Tok) k,EP X pins σ Q (.str (repS z n) t2) { s with toks:=k }:=fun t2 k=>⟨.str (repS z n),H,I.tok k,⟨t2,rfl⟩,q⟩
    unfold repS at hq
    by_cases g1:n < 1
    · rw [if_pos g1]
      simp only [if_pos g1] at hq
      exact ⟨by decide,hq _ _⟩
    · rw [if_neg g1]
      simp only [if_neg g1] at hq
      by_cases g2:(n == 1 || z.length == 0)=true
      · rw [if_pos g2]
        simp only [if_pos g2] at hq
        exact hq t s.toks
      · rw [if_neg g2]
        simp only [if_neg g2] at hq
        refine ⟨?_,hq _ _⟩
        have hsz:∀ (k:Nat) (acc:Array Nat),((List.replicate k z.cps).foldl (·++·) acc).size=acc.size + k * z.cps.size:=by
          intro k
          induction k with
          | zero=>intro acc;simp
          | succ k ih=>intro acc;rw [List.replicate_succ,List.foldl_cons,ih,Array.size_append,Nat.succ_mul];omega
        show ((List.replicate n.toNat z.cps).foldl (·++·) #[]).size≤sizeLine
        rw [hsz]
        have h5:n.toNat * z.cps.size≤100000:=by rw [Nat.mul_comm];exact h4
        have:(100000:Nat)≤sizeLine:=by decide
        simp only [Array.size_empty,Nat.zero_add]
        omega
def uMul (o:Bool):UR2:=fun x y M Q=>match x,y with
  | .int i,.int j=>CMulB i j∧Q (.int (i * j)) M
  | .str z,.int n=>-(2 ^ 63)≤n∧n < 2 ^ 20∧z.length≤2 ^ 20∧z.length * n.toNat≤100000∧Q (.str (repS z n)) M
  | .ref a,.int k=>match M a with
    | some (.lst us)=>-(2 ^ 63)≤k∧k < 2 ^ 63∧us.length * k.toNat≤sizeLine∧mkL o (List.replicate k.toNat us).flatten M Q
    | _=>False
  | _,_=>False
theorem RelUs.rep {K:PySem.W.Frag} {H:Hp} {M:MHp} {us:List U} {vs:List V} (r:RelUs K H M us vs):∀ k:Nat,RelUs K H M (List.replicate k us).flatten (List.replicate k vs).flatten
  | 0=>by simp only [List.replicate_zero,List.flatten_nil];exact .nil
  | k + 1=>by simp only [List.replicate_succ,List.flatten_cons];exact r.append (RelUs.rep r k)
theorem sim_mul {K:PySem.W.Frag} {o:Bool}:SimR2 K (fun x y H Q=>rI CMulB (fun i j=>.int (i * j)) x y H Q∨((∃ z n,x=.str z∧y=.int n∧-(2 ^ 63)≤n∧n < 2 ^ 20∧z.length≤2 ^ 20∧z.length * n.toNat≤100000∧Q (.str (repS z n)) H)∨rRep x y H Q)) (uMul o):=fun x y u w H M Q' rm ru rw h Q c=>by
  unfold uMul at h
  split at h
  · rename_i i j
    exact .inl (sim_int2c (C:=CMulB) (f:=fun i j=>i * j) x y (.int i) (.int j) H M Q' rm ru rw h Q c)
  · rename_i z n
    cases ru.str;cases rw.int
    exact .inr (.inl ⟨z,n,rfl,rfl,h.1,h.2.1,h.2.2.1,h.2.2.2.1,c.here rm relU_str h.2.2.2.2⟩)
  · rename_i a k
    split at h
    · rename_i us e
      obtain ⟨vs,hv,r⟩:=rm a _ e
      cases ru.ref;cases rw.int
      exact .inr (.inr ⟨a,k,vs,rfl,rfl,hv,h.1,h.2.1,by rw [← r.length];exact h.2.2.1,fun p hp=>c.lst rm (r.rep k.toNat) hp h.2.2.2⟩)
    · exact h.elim
  · exact h.elim
theorem ue_mulX (own:Bool:=false) (ha:PEU D a ta) (hb:PEU D b tb):PEU D (.BinOp a .Mult b pos) (uOp (uMul own) ta tb):=ue_op (fun _ _=>op_mulB.or (op_repS.or op_rep)) sim_mul ha hb
def CDivB (_ j:Int):Prop:=0 < j∧j < 2 ^ 64
theorem op_fdivB {X:Cx}:OpR X (binaryOp .FloorDiv) (rI CDivB fun i j=>.int (i / j)):=opI fun i j _ _ _ _ _ hc q=>by
  have h1:(0:Int) < j:=hc.1
  have h2:j.natAbs.log2 < 9000:=by
    have h3:j.natAbs < 2 ^ 64:=by have:=hc.2;omega
    by_cases h:j.natAbs=0
    · rw [h];decide
    · have:=(Nat.log2_lt h).mpr h3
      omega
  exact floordiv_int (by omega) (by rw [Int.fdiv_eq_ediv_of_nonneg i (by omega)];exact q) (.inl (PyProof.noPylong_of_log2 h2))
theorem ue_divX (ha:PEU D a ta) (hb:PEU D b tb):PEU D (.BinOp a .FloorDiv b pos) (uOp (uI CDivB fun i j=>.int (i / j)) ta tb):=ue_op (fun _ _=>op_fdivB) sim_int2c ha hb
end
end U2
namespace HT
open PySem PySem.Spec PyProof.Rows L2
variable {prog:Program} {w:World} {A:Around} {E:Value→Shared→Prop} {s:Shared}
theorem getItem_tuple_whole {t sl:Addr} {items:Array Value} {vl vu:Value} {lo hi:Option Int} {Q:Value→Shared→Prop} (ht:IsTup s.heap t items) (hs:s.heap.IsSliceOf sl vl vu .none) (pl:IsPart vl lo) (pu:IsPart vu hi)
    (hw:sIx items.size 0 lo=0∧sIx items.size items.size hi=items.size)
    (h:Q (.ref t) s):wpAny (model prog w) A (getItem (.ref t) (.ref sl)) Q E s:=by
  obtain ⟨os,hos,hcs,hds⟩:=id hs
  have hTs:s.TypeIs (.ref sl) "slice":=⟨os,hos,hcs⟩
  unfold getItem
  try with_reducible refine wpAny_holding ?_
  first | refine wpAny_bind (wpAny_pure ?_) | skip
  refine wpAny_bind (wpAny_sequenceKey ht.typeIs (by decide) ?_)
  refine wpAny_bind (wpAny_callSpecial?_slot (name:=Str.ofString "__getitem__") ht.typeIs PyProof.Rows.slot_tuple_getitem
    (wpAny_call_entry PyProof.Rows.slot_tuple_getitem ht.typeIs entry_tuple_getitem ?_ (args_tuple_getitem _ _)))
  show wpAny _ _ (Builtin.Tuple.tupleItemsOf (.ref t) >>= _) _ _ s
  refine wpAny_bind (tupleItemsOf_ ht ?_)
  refine wpAny_bind (wpAny_typeOf hTs ?_)
  rw [if_pos (by decide)]
  refine wpAny_bind (sliceApplied_gen hs pl pu ?_)
  have hyes:((((sIx items.size 0 lo:Nat):Int) == 0 && (1:Int) == 1 && (sIx items.size items.size hi - sIx items.size 0 lo) == items.size)=true):=by
    rw [hw.1,hw.2];simp
  show wpAny _ _ (if (((sIx items.size 0 lo:Nat):Int) == 0 && (1:Int) == 1 && (sIx items.size items.size hi - sIx items.size 0 lo) == items.size)=true then _ else _) _ _ s
  rw [if_pos hyes]
  unfold Builtin.Tuple.tupleIsExact
  refine wpAny_bind (wpAny_bind (wpAny_typeOf ht.typeIs (wpAny_pure ?_)))
  rw [if_pos (by decide)]
  refine wpAny_bind (wpAny_rule ?_)
  exact wpAny_pure ⟨_,rfl,wpAny_pure h⟩
end HT
namespace U2
open PySem PySem.Spec PyProof.Rows L2
def rSlW (K:PySem.W.Frag):V→Option Int→Option Int→Hp→VK→Prop:=fun x lo hi H Q=>∃ a xs,x=.ref a∧SqT K H a xs∧(HT.sIx xs.length 0 lo=0∧HT.sIx xs.length xs.length hi=xs.length)∧Q (.ref a) H
theorem sl_tupW {X:Cx}:SlR X (rSlW X.K):=by
  intro pins s σ H x v vl vu lo hi sl Q I rx hs pl pu h
  obtain ⟨a,xs,rfl,hx,hw,q⟩:=h
  cases rx
  obtain ⟨its,r,ht,hz⟩:=I.tuple hx
  have hlen:its.toArray.size=xs.length:=by rw [List.size_toArray];exact r.length.symm
  refine ⟨"tuple",_,PyProof.Rows.slot_tuple_getitem.lookup,ht.typeIs,?_⟩
  refine HT.getItem_tuple_whole ht hs pl pu (by rw [hlen];exact hw) ⟨.ref a,H,I,rfl,q⟩
def uSlX (o:Bool) (te:UE) (tl th:UO):UE:=fun τ M Q=>te τ M fun x M1=>tl τ M1 fun l M2=>th τ M2 fun h M3=>match view M3 x with
  | .lst us=>mkL o (cutU us l h) M3 Q
  | .tup us=>Q (.tup (cutU us l h)) M3
  | .str z=>z.length≤sizeLine∧Q (.str (Txt.slice z l h)) M3
  | _=>False
theorem sim_slX {K:PySem.W.Frag} {o:Bool} {te:TE} {te':UE} {tl th:TO} {tl' th':UO} (h0:SimE K te te') (h1:SimO K tl tl') (h2:SimO K th th'):SimE K (tSl (fun x lo hi H Q=>rSlA K x lo hi H Q∨rSlW K x lo hi H Q) te tl th) (uSlX o te' tl' th'):=fun σ τ H M Q' rs rm q Q c =>
  h0 σ τ H M _ rs rm q _ fun u v M1 H1 s1 rm1 ru q1=>h1 σ τ H1 M1 _ (rs.stp s1) rm1 q1 _ fun lo M2 H2 s2 rm2 q2=>h2 σ τ H2 M2 _ ((rs.stp s1).stp s2) rm2 q2 _ fun hi M3 H3 s3 rm3 q3=>by
    have c3:=Cont.stp c ((s1.trans s2).trans s3)
    have ru3:=ru.stp (s2.trans s3)
    split at q3
    · rename_i us e
      obtain ⟨a,xs,rfl,r1,r2⟩:=view_lst rm3 ru3 e
      exact .inl (.inl ⟨a,xs,rfl,r1,fun p hp=>c3.lst rm3 (cut_rel r2 lo hi) hp q3⟩)
    · rename_i us e
      have e':=view_tup e
      subst e'
      obtain ⟨a,xs,rfl,r1,r2⟩:=ru3.tup
      by_cases hw:HT.sIx xs.length 0 lo=0∧HT.sIx xs.length xs.length hi=xs.length
      · refine .inr ⟨a,xs,rfl,r1,hw,c3 _ _ M3 H3 (Stp.refl _ _) rm3 ?_ q3⟩
        have e4:cutU us lo hi=us:=by
          unfold cutU
          rw [r2.length,hw.1,hw.2,List.drop_zero,Nat.sub_zero,← r2.length,List.take_length]
        rw [e4]
        exact ru3
      · exact .inl (.inr (.inl ⟨a,xs,rfl,r1,hw,fun p hp=>c3.tup rm3 (cut_rel r2 lo hi) hp q3⟩))
    · rename_i z e
      have e':=view_str e
      subst e'
      exact .inl (.inr (.inr ⟨z,ru3.str,q3.1,c3 _ _ M3 H3 (Stp.refl _ _) rm3 relU_str q3.2⟩))
    · exact q3.elim
theorem ue_slX {D:Dat} {a:Expr} {ta:UE} {pos:Pos} (own:Bool:=false) {lo hi:Option Expr} {tl th:UO} {p2:Pos} (ha:PEU D a ta) (hl:POU D lo tl) (hh:POU D hi th):PEU D (.Subscript a (.Slice lo hi none p2) pos) (uSlX own ta tl th):=by
  obtain ⟨_,p,s⟩:=ha;obtain ⟨_,q,r⟩:=hl;obtain ⟨_,u,v⟩:=hh
  refine ⟨_,fun X h=>?_,sim_slX s r v⟩
  have:=pe_slice (pos:=pos) (p2:=p2) (sl_any.or sl_tupW) (p X h) (q X h) (u X h)
  rw [h.K] at this
  exact this
end U2
namespace U2
open PySem PySem.Spec PyProof.Rows L2
section
variable {prog:Program} {w:World} {A:Around} {E:Value→Shared→Prop} {s:Shared}
theorem meets_enum_list (l:Addr) (items:Array Value) (n:Nat) (dd:Option Addr) (sl:Array (Option Value)) :
    Meets (Builtin.«enumerate.__new__» ⟨[.type "enumerate",.ref l],[]⟩) (fun _ R s=>s.heap.get? l=some { cls:=.type "list",dict:=dd,data:=.seq items n,slots:=sl } ∧
      R (.ok (.ret (.ref (s.heap.push { cls:=.type "list_iterator",data:=.fields #[.ref l,.int 0 0] }).objs.size)))
        { s with heap:=(s.heap.push { cls:=.type "list_iterator",data:=.fields #[.ref l,.int 0 0] }).push { cls:=.type "enumerate",data:=.fields #[.none,.bool false,.ref s.heap.objs.size,rawInt 0,.none,.none] } }) :=
  .of_wp fun prog w A R s h=>by
    obtain ⟨hp,g,d,tk,os⟩:=s;obtain ⟨hl,h⟩:=h
    have hsub:=PySem.sub_enumerate
    have hL:Heap.IsList (Shared.heap ⟨hp,g,d,tk,os⟩) l items:=⟨_,hl,rfl,n,rfl⟩
    wp_walk using wpAny_loadPart' hl
    refine wpAny_stack_any fun st=>wpAny_pure ?_
    split
    · rename_i c _ _ _ _ _
      cases (c == Value.type "enumerate")
      · wp_walk using wpAny_loadPart' hl,wpAny_pyIter_list hL
        exact ⟨_,rfl,h⟩
      · wp_walk using wpAny_loadPart' hl,wpAny_pyIter_list hL
        exact ⟨_,rfl,h⟩
    · wp_walk using wpAny_loadPart' hl,wpAny_pyIter_list hL
      exact ⟨_,rfl,h⟩
end
def IteL (K:PySem.W.Frag) (a:Addr):It :=
  ⟨fun i H=>∃ xs x,SqL K H a xs∧xs[i]?=some x,fun i H x H'=>∃ p v,(∀ xs,SqL K H a xs→xs[i]?=some v)∧H p=none∧x=.ref p∧H'=upd H p (.tup [.int i,v]),fun i H=>∃ xs,SqL K H a xs∧xs.length=i⟩
theorem turn_enumL {P:Program} {w:World} {K:PySem.W.Frag} {elts:List Expr} {kk:Nat} {pos:Pos} (a it e:Addr):Turn P w K (.Tuple elts kk pos) (IteL K a) [e,it] e (fun i h=>(∃ old,IsEnum h e it i old)∧h.IsListIter it a i) where
  mem:=by simp
  obj:=fun i h st b hb=>by
    obtain ⟨⟨old,he⟩,o,ho,hc,hd⟩:=st
    have:b=e∨b=it:=by simpa using hb
    rcases this with rfl | rfl
    · exact ⟨_,he,fun v z=>by
        have z':Data.fields _=Data.cell v:=z
        cases z'⟩
    · exact ⟨o,ho,fun v z=>by rw [hd] at z;cases z⟩
  keep:=fun i h h' st k=>let ⟨⟨old,he⟩,hi⟩:=st;⟨⟨old,k e (by simp) _ he⟩,hi.at fun o q=>k it (by simp) o q⟩
  item:=by
    intro X hP hw hK hc i pins s σ H E I hf st hg
    subst hP hw hK
    obtain ⟨⟨old,he⟩,hit⟩:=st
    obtain ⟨xs,x,hq,hx⟩:=hg
    obtain ⟨its,rv,p,hz⟩:=I.list hq
    obtain ⟨u,hu,ru⟩:=rv.get hx
    have p':s.heap.IsList a its.toArray:=p.isList
    obtain ⟨oi,hoi,hci,hdi⟩:=id hit
    obtain ⟨oa,hoa,hca,na,hda⟩:=id p'
    have n1:a≠it:=fun z=>by subst z;rw [hoa] at hoi;cases hoi;rw [hca] at hci;exact absurd (Value.type.inj hci) (by decide)
    have n2:e≠it:=fun z=>by subst z;rw [he] at hoi;cases hoi;exact absurd (Value.type.inj hci) (by decide)
    have n3:e≠a:=fun z=>by subst z;rw [he] at hoa;cases hoa;exact absurd (Value.type.inj hca) (by decide)
    have W:=WalksT.enumerateD (prog:=X.prog) (w:=X.w) (A:=X.A) (Draws.list (A:=X.A.in1) (show X.A.in1.handled=none from I.ok.hd hc) it a n1 its.toArray) e n2 (by simp [n2,n3]) (by simp)
    have hlt:i < its.toArray.size:=by
      have:=(List.getElem?_eq_some_iff.mp hu).1
      simpa using this
    refine W.item i s _ E hlt ⟨⟨old,he⟩,hit,p'⟩ fun T vals h' tk hP hT hTup hMid hk=>?_
    refine ⟨.ref T,rfl,W.go elts kk pos i T _ _ E hMid fun h'' hSt hk2=>?_⟩
    obtain ⟨t,y,hy,rfl⟩:=hP
    have hy':y=u:=by
      have h3:its[i]?=some y:=by simpa using hy
      rw [hu] at h3;exact (Option.some.inj h3).symm
    subst hy'
    have hTT:h''.IsTuple T #[.int i t,y]:=let ⟨o,ho,r⟩:=hTup;⟨o,hk2 T o (W.apart i T _ hMid) ho,r⟩
    refine ⟨.ref T,upd H T (.tup [.int i,x]),inv_turnedLaid (s:=s) (h':=h'') (tk:=tk) (ch:=[e,it]) I hf (fun b o hb q=>hk2 b o (by simpa using hb) (hk b o (by simpa using hb) q)) hT ⟨by show 2≤sizeLine;decide,[.int i t,y],.cons ⟨t,rfl⟩ (.cons ru .nil),hTT⟩,rfl,⟨T,x,fun ys hy=>by rw [← I.list_inj hq hy];exact hx,I.hok.fresh hT,rfl,rfl⟩,⟨by simpa using hSt.1,hSt.2.1⟩,fun b hb=>?_⟩
    have hn:=(hf b hb).1
    rw [upd_ne (Nat.ne_of_lt (Nat.lt_of_lt_of_le ?_ hT))]
    · exact hn
    · have:b=e∨b=it:=by simpa using hb
      rcases this with rfl | rfl
      · exact Heap.lt_size he
      · exact Heap.lt_size hoi
  done:=by
    intro X hP hw hK hc i pins s σ H E I hf st hg
    subst hP hw hK
    obtain ⟨⟨old,he⟩,hit⟩:=st
    obtain ⟨xs,hq,hx⟩:=hg
    obtain ⟨its,rv,p,hz⟩:=I.list hq
    have p':s.heap.IsList a its.toArray:=p.isList
    obtain ⟨oi,hoi,hci,hdi⟩:=id hit
    obtain ⟨oa,hoa,hca,na,hda⟩:=id p'
    have n1:a≠it:=fun z=>by subst z;rw [hoa] at hoi;cases hoi;rw [hca] at hci;exact absurd (Value.type.inj hci) (by decide)
    have n2:e≠it:=fun z=>by subst z;rw [he] at hoi;cases hoi;exact absurd (Value.type.inj hci) (by decide)
    have n3:e≠a:=fun z=>by subst z;rw [he] at hoa;cases hoa;exact absurd (Value.type.inj hca) (by decide)
    have W:=WalksT.enumerateD (prog:=X.prog) (w:=X.w) (A:=X.A) (Draws.list (A:=X.A.in1) (show X.A.in1.handled=none from I.ok.hd hc) it a n1 its.toArray) e n2 (by simp [n2,n3]) (by simp)
    have hi:i=its.toArray.size:=by rw [List.size_toArray,← rv.length];exact hx.symm
    subst hi
    refine W.done s _ E ⟨⟨old,he⟩,hit,p'⟩ fun h' tk hk=>⟨rfl,?_⟩
    have:=I.call' (ch:=[e,it]) (H':=H) (s':={ s with heap:=h',toks:=tk }) rfl ⟨fun b u q n hb hx=>hk b u (by simpa using hx) q,fun b u q n hb hx=>⟨u.slots,hk b u (by simpa using hx) q⟩,fun b u q n hx=>n,fun b u q hx=>⟨u,hk b u (by simpa using hx) q⟩,fun b xs q=>q,fun b u xs q=>q,fun b ps q=>⟨#[],by rw [q];simp⟩⟩
      (fun a u e'=>?_) I.bare fun b hb=>⟨(hf b hb).2.2.2.1,(hf b hb).2.1,(hf b hb).2.2.2.2.1,(hf b hb).2.2.2.2.2⟩
    · exact this
    · refine (I.hok a u e').stay (fun b z hb q=>hk b z (fun hc=>?_) q) (fun _ q=>q) fun _ _ q=>q
      have hnone:=(hf b (by simpa using hc)).1
      rcases hb with rfl | hb
      · rw [hnone] at e';cases e'
      · rw [hnone] at hb;cases hb
  self:=fun _ _ _ _ _ st h=>let ⟨⟨old,he⟩,_⟩:=st;wpAny_pyIter_enum he h
theorem call_enum_list {prog:Program} {w:World} {A:Around} {E:Value→Shared→Prop} {s:Shared} {l:Addr} {items:Array Value} {Q:Value→Shared→Prop}
    (hl:s.heap.IsList l items)
    (h:∀ h',IsEnum h' (s.heap.objs.size + 1) s.heap.objs.size 0 .none→h'.IsListIter s.heap.objs.size l 0→h'.objs.size=s.heap.objs.size + 2 →
      (∀ b o,s.heap.get? b=some o→h'.get? b=some o)→Q (.ref (s.heap.objs.size + 1)) { s with heap:=h' }) :
    wpAny (model prog w) A (call (.type "enumerate") [.ref l]) Q E s:=by
  obtain ⟨⟨oc,od,odt,osl⟩,ho,hc,n,hd⟩:=hl
  have hc':oc=.type "list":=hc
  have hd':odt=.seq items n:=hd
  subst hc' hd'
  refine callType_new F.called_enumerate (by decide) (F.typeCall_enumerate_1 _) (F.newCall_enumerate_1 _) (fun obj=>F.args_object_init_2 obj _) F.entry_enumerate_new
    (meets_enum_list l items n od osl) ⟨ho,?_⟩
  have hz:(s.heap.push { cls:=.type "list_iterator",data:=.fields #[.ref l,.int 0 0] }).objs.size=s.heap.objs.size + 1:=Heap.size_push ..
  show _∧_
  rw [hz]
  have he:IsEnum ((s.heap.push { cls:=.type "list_iterator",data:=.fields #[.ref l,.int 0 0] }).push
      { cls:=.type "enumerate",data:=.fields #[.none,.bool false,.ref s.heap.objs.size,rawInt 0,.none,.none] }) (s.heap.objs.size + 1) s.heap.objs.size 0 .none:=by
    have:=Heap.get?_push_size (s.heap.push { cls:=.type "list_iterator",data:=.fields #[.ref l,.int 0 0] })
      (o:={ cls:=.type "enumerate",data:=.fields #[.none,.bool false,.ref s.heap.objs.size,rawInt 0,.none,.none] }) rfl
    rw [hz] at this;exact this
  refine ⟨⟨_,he,rfl⟩,h _ he ⟨_,Heap.get?_push_of_some _ (Heap.get?_push_size _ rfl),rfl,rfl⟩ (by rw [Heap.size_push,hz]) fun b o x=>Heap.get?_push_of_some _ (Heap.get?_push_of_some _ x)⟩
def iEnumL (K:PySem.W.Frag) (ta:TA):TI:=fun σ H R=>ta σ H fun vs H1=>∃ a,vs=[.ref a]∧(∃ xs,SqL K H1 a xs)∧R (IteL K a) H1
theorem pi_enumL {X:Cx} {elts:List Expr} {kk:Nat} {tpos:Pos} {a:Expr} {ta:TA} {p pos:Pos} (hg:Gl X "enumerate") (hm:X.mg "enumerate"=none) (ha:PA X [a] ta) (hs:starEach [a] X.env=[(false,eval a X.env)]) :
    PI X (.Tuple elts kk tpos) (.Call (.Name "enumerate" p) [a] [] pos) (iEnumL X.K ta):=by
  intro pins s σ H R I h
  refine Call_ (ld_blt I hg hm boot_enumerate (PyProof.Rows.callWith_type1 (thn (ha pos pins s σ H _ I h) fun us s1 ⟨vs,H1,I1,r1,q1⟩=>?_) hs rfl))
  obtain ⟨a,e,⟨xs,hq⟩,q⟩:=q1
  subst e
  cases r1 with
  | cons r rr =>
    cases rr
    cases r
    obtain ⟨its,rv,p,hz⟩:=I1.list hq
    refine call_enum_list p.isList fun h' he hit hsz hk=>?_
    refine wpAny_pyIter_enum (s:={ s1 with heap:=h' }) he ?_
    have I2:L2.Inv X pins σ H1 { s1 with heap:=h',toks:=s1.toks }:=I1.kept hk
    refine ⟨s1.heap.objs.size + 1,[s1.heap.objs.size + 1,s1.heap.objs.size],_,_,H1,rfl,I2,turn_enumL a s1.heap.objs.size (s1.heap.objs.size + 1),⟨⟨_,he⟩,hit⟩,fun b hb=>?_,q⟩
    have e:b=s1.heap.objs.size + 1∨b=s1.heap.objs.size:=by simpa using hb
    rcases e with rfl | rfl
    · exact I1.fpOk (Nat.le_succ _) (I1.hok.fresh (Nat.le_succ _))
    · exact I1.fpOk (Nat.le_refl _) (I1.hok.fresh (Nat.le_refl _))
theorem walk_enumL {K:PySem.W.Frag} {a:Addr} {us:List U} {vs:List V} {H:Hp} {M:MHp} (m:(M a=none∧Rd H a (.lst vs))∨KL K a vs) (r:RelUs K H M us vs):Walk K (IteL K a) ⟨none,numbered us⟩ H M:=by
  have sq:∀ H1 M1,Stp H M H1 M1→SqL K H1 a vs:=fun H1 M1 s=>by
    rcases m with ⟨m,h⟩ | k
    · exact .inl (Rd.stp s m h).2
    · exact .inr k
  refine ⟨fun H1 M1 s rm _ i u e=>?_,fun H1 M1 s rm _=>⟨vs,sq H1 M1 s,by show vs.length=(numbered us).length;rw [numbered_len,r.length]⟩⟩
  obtain ⟨w,e1,rfl⟩:=numbered_get e
  obtain ⟨v,e2,ru⟩:=r.get e1
  refine ⟨⟨vs,v,sq H1 M1 s,e2⟩,fun x H2 y=>?_⟩
  obtain ⟨p,v',y,hp,rfl,rfl⟩:=y
  have:=y vs (sq _ M1 s)
  rw [e2] at this;cases this
  have st:=Stp.laid (o:=.tup [.int i,v]) rm hp
  have rr:RelUs K H1 M1 [.int i,w] [.int i,v]:=by
    simp only [RelUs]
    exact ⟨_,_,rfl,relU_int,_,_,rfl,ru.stp s,rfl⟩
  exact ⟨st,rm.laid hp,relU_tup (rm.no hp) upd_same (rr.stp st)⟩
def uEnumL (ta:UA):UI:=fun τ M R=>ta τ M fun us M1=>match us with
  | [.lst us]=>R ⟨none,numbered us⟩ M1
  | _=>False
theorem sim_enumL {K:PySem.W.Frag} {ta:TA} {ta':UA} (h:SimA K ta ta'):SimI K (iEnumL K ta) (uEnumL ta'):=fun σ τ H M R' rs rm q R c=>h σ τ H M _ rs rm q _ fun us vs M1 H1 s1 rm1 ru h1=>by
  split at h1
  · rename_i xs
    obtain ⟨v,rfl,a⟩:=ru.one
    simp only [RelU] at a
    obtain ⟨a,vs,rfl,m,r⟩:=a
    refine ⟨a,rfl,⟨vs,?_⟩,c _ _ M1 H1 s1 rm1 (walk_enumL m r) h1⟩
    rcases m with ⟨_,m⟩ | k
    · exact .inl m
    · exact .inr k
  · exact h1.elim
theorem ui_enumerateL {D:Dat} {elts:List Expr} {kk:Nat} {tpos:Pos} {a:Expr} {p pos:Pos} {ta:UA} (hm:D.mg "enumerate"=none) (ha:PAU D [a] ta) (hg:D.sc.names.lookup ("enumerate":Str)=some .globalImplicit:=by rfl) (hs:∀ env,starEach [a] env=[(false,eval a env)]:=by intro _;rfl):PIU D (.Tuple elts kk tpos) (.Call (.Name "enumerate" p) [a] [] pos) (uEnumL ta):=by
  obtain ⟨_,q,s⟩:=ha
  exact ⟨_,fun X h=>h.K ▸ pi_enumL (by show X.env.scope.names.lookup _=_;rw [h.sc];exact hg) (by rw [h.mg];exact hm) (q X h) (hs _),sim_enumL s⟩
end U2
namespace U2
open PySem PySem.Spec PyProof.Rows L2
abbrev yH1 (h:Heap) (a:Addr):Heap:=h.push { cls:=.type "tuple_iterator",data:=.fields #[.ref a,.int 0 0] }
abbrev yH2 (h:Heap) (a c:Addr):Heap:=(yH1 h a).push { cls:=.type "list_iterator",data:=.fields #[.ref c,.int 0 0] }
abbrev yH3 (h:Heap) (a c:Addr):Heap:=(yH2 h a c).push { cls:=.type "tuple",data:=.seq #[.ref h.objs.size,.ref (yH1 h a).objs.size] }
abbrev yH4 (h:Heap) (a c:Addr):Heap:=(yH3 h a c).push { cls:=.type "tuple",data:=.seq #[.none,.none] }
abbrev yH5 (h:Heap) (a c:Addr):Heap:=(yH4 h a c).push { cls:=.type "zip",data:=.fields #[.none,.bool false,.bool false,.ref (yH2 h a c).objs.size,.ref (yH3 h a c).objs.size] }
theorem sqL_of {K:PySem.W.Frag} {H H1:Hp} {M M1:MHp} {a:Addr} {vs:List V} (s:Stp H M H1 M1) (m:(M a=none∧Rd H a (.lst vs))∨KL K a vs):SqL K H1 a vs:=by
  rcases m with ⟨m,h⟩ | k
  · exact .inl (Rd.stp s m h).2
  · exact .inr k
def uZipL (ta:UA):UI:=fun τ M R=>ta τ M fun us M1=>match us with
  | [.tup us,.lst ws]=>R ⟨none,zipped us ws⟩ M1
  | _=>False
end U2
namespace Att
open PySem PySem.Spec PyProof.Rows PySem.W Calls
end Att
namespace L2
open PySem PySem.Spec PyProof.Rows
end L2
namespace U2
open PySem PySem.Spec PyProof.Rows L2
def Itr (K:PySem.W.Frag) (n:Nat) (a:Addr):It :=
  ⟨fun i H=>∃ xs x,SqL K H a xs∧xs.length=n∧i < n∧xs[n - 1 - i]?=some x,fun i H x H'=>H'=H∧∀ xs,SqL K H a xs→xs[n - 1 - i]?=some x,fun i H=>i=n⟩
theorem turn_rev {P:Program} {w:World} {K:PySem.W.Frag} {tg:Expr} (n:Nat) (a it:Addr):Turn P w K tg (Itr K n a) [it] it (fun i h=>h.IsRevIter it a ((n:Int) - 1 - (i:Int))) where
  mem:=by simp
  obj:=fun i h st b hb=>by
    have e:b=it:=by simpa using hb
    subst e
    obtain ⟨o,e,c,d⟩:=st
    exact ⟨o,e,fun v z=>by rw [d] at z;cases z⟩
  keep:=fun i h h' st k=>st.at fun o e=>k it (by simp) o e
  item:=by
    intro X hP hw hK hc i pins s σ H E I hf st hg
    subst hP hw hK
    obtain ⟨xs,x,hq,hn,hi,hx⟩:=hg
    obtain ⟨its,rv,p,hz⟩:=I.list hq
    obtain ⟨u,hu,ru⟩:=rv.get hx
    obtain ⟨f0,f1,f2,f3,f4,f5⟩:=hf it (by simp)
    have e:(n:Int) - 1 - (i:Int)=((n - 1 - i:Nat):Int):=by omega
    have st0:=st
    rw [e] at st0
    refine wpAny_pyNext_rev_item st0 p.isList (x:=u) (by simpa using hu) fun h' st' sb=>?_
    have I1:Inv X pins σ H { s with heap:=h' }:=I.turned (t':=s.toks) (fun b o hb e=>(sb.2 b hb).trans e) f0 f1 f3 f4 f5
    have e2:((n - 1 - i:Nat):Int) - 1=(n:Int) - 1 - ((i + 1:Nat):Int):=by omega
    rw [e2] at st'
    obtain ⟨o,e,c,d⟩:=id st'
    exact ⟨u,rfl,go_of (s:={ s with heap:=h' }) e c d (by decide) ⟨x,H,I1,ru,⟨rfl,fun ys hy=>by rw [I.list_inj hy hq];exact hx⟩,st',fun b hb=>(hf b hb).1⟩⟩
  done:=by
    intro X hP hw hK hc i pins s σ H E I hf st hg
    subst hP hw hK
    have hg':i=n:=hg
    subst hg'
    obtain ⟨f0,f1,f2,f3,f4,f5⟩:=hf it (by simp)
    have e:(i:Int) - 1 - (i:Int)=-1:=by omega
    rw [e] at st
    exact wpAny_pyNext_rev_end (I.ok.hd hc) st fun h' eb=>⟨rfl,I.turned (t':=s.toks) (fun b o hb e=>eb b o hb e) f0 f1 f3 f4 f5⟩
  self:=fun _ _ _ _ _ st h=>wpAny_pyIter_revIter st h
def iRev (K:PySem.W.Frag) (ta:TA):TI:=fun σ H R=>ta σ H fun vs H1=>∃ a xs,vs=[.ref a]∧SqL K H1 a xs∧R (Itr K xs.length a) H1
theorem boot_reversed:bootBuiltins "reversed"=some (.type "reversed"):=by kernel_rfl
theorem pi_rev {X:Cx} {tg:Expr} {a:Expr} {ta:TA} {p pos:Pos} (hg:Gl X "reversed") (hm:X.mg "reversed"=none) (ha:PA X [a] ta) (hs:starEach [a] X.env=[(false,eval a X.env)]) :
    PI X tg (.Call (.Name "reversed" p) [a] [] pos) (iRev X.K ta):=by
  intro pins s σ H R I h
  refine Call_ (ld_blt I hg hm boot_reversed (PyProof.Rows.callWith_type1 (thn (ha pos pins s σ H _ I h) fun us s1 ⟨vs,H1,I1,r1,q1⟩=>?_) hs rfl))
  obtain ⟨a,xs,e,hq,q⟩:=q1
  subst e
  cases r1 with
  | cons r rr =>
    cases rr
    cases r
    obtain ⟨its,rv,p,hz⟩:=I1.list hq
    have hrev:Heap.IsRevIter (s1.heap.push (revObj a ((its.toArray.size:Int) - 1))) s1.heap.objs.size a ((xs.length:Int) - 1 - ((0:Nat):Int)):=by
      refine ⟨_,Heap.get?_push_size _ rfl,rfl,?_⟩
      have e1:((its.toArray.size:Nat):Int) - 1=(xs.length:Int) - 1 - ((0:Nat):Int):=by rw [List.size_toArray,← rv.length];omega
      rw [← e1];rfl
    refine call_reversed_list p.isList ?_
    refine wpAny_pyIter_revIter (s:={ s1 with heap:=s1.heap.push (revObj a ((its.toArray.size:Int) - 1)) }) hrev ?_
    have I2:L2.Inv X pins σ H1 { s1 with heap:=s1.heap.push (revObj a ((its.toArray.size:Int) - 1)),toks:=s1.toks }:=I1.kept fun b o e=>Heap.get?_push_of_some _ e
    refine ⟨s1.heap.objs.size,[s1.heap.objs.size],_,_,H1,rfl,I2,turn_rev xs.length a s1.heap.objs.size,hrev,fun b hb=>?_,q⟩
    have e:b=s1.heap.objs.size:=by simpa using hb
    subst e
    exact I1.fpOk (Nat.le_refl _) (I1.hok.fresh (Nat.le_refl _))
theorem walk_rev {K:PySem.W.Frag} {a:Addr} {us:List U} {vs:List V} {H:Hp} {M:MHp} (m:(M a=none∧Rd H a (.lst vs))∨KL K a vs) (r:RelUs K H M us vs):Walk K (Itr K vs.length a) ⟨none,us.reverse⟩ H M:=by
  have sq:∀ H1 M1,Stp H M H1 M1→SqL K H1 a vs:=fun H1 M1 s=>by
    rcases m with ⟨m,h⟩ | k
    · exact .inl (Rd.stp s m h).2
    · exact .inr k
  refine ⟨fun H1 M1 s rm _ i u e=>?_,fun H1 M1 s rm _=>by show us.reverse.length=vs.length;rw [List.length_reverse,r.length]⟩
  have e':us.reverse[i]?=some u:=e
  have hi:i < us.length:=by
    have:=(List.getElem?_eq_some_iff.mp e').1
    simpa using this
  rw [List.getElem?_reverse hi] at e'
  obtain ⟨v,e2,ru⟩:=r.get e'
  rw [r.length] at e2 hi
  refine ⟨⟨vs,v,sq H1 M1 s,rfl,hi,e2⟩,fun x H2 y=>?_⟩
  obtain ⟨rfl,y⟩:=y
  have:=y vs (sq _ M1 s)
  rw [e2] at this;cases this
  exact ⟨Stp.refl _ _,rm,ru.stp s⟩
def uRev (ta:UA):UI:=fun τ M R=>ta τ M fun us M1=>match us with
  | [.lst us]=>R ⟨none,us.reverse⟩ M1
  | _=>False
theorem sim_rev {K:PySem.W.Frag} {ta:TA} {ta':UA} (h:SimA K ta ta'):SimI K (iRev K ta) (uRev ta'):=fun σ τ H M R' rs rm q R c=>h σ τ H M _ rs rm q _ fun us vs M1 H1 s1 rm1 ru h1=>by
  split at h1
  · rename_i xs
    obtain ⟨v,rfl,a⟩:=ru.one
    simp only [RelU] at a
    obtain ⟨a,vs,rfl,m,r⟩:=a
    refine ⟨a,vs,rfl,?_,c _ _ M1 H1 s1 rm1 (walk_rev m r) h1⟩
    rcases m with ⟨_,m⟩ | k
    · exact .inl m
    · exact .inr k
  · exact h1.elim
theorem ui_reversed {D:Dat} {tg:Expr} {a:Expr} {p pos:Pos} {ta:UA} (hm:D.mg "reversed"=none) (ha:PAU D [a] ta) (hg:D.sc.names.lookup ("reversed":Str)=some .globalImplicit:=by rfl) (hs:∀ env,starEach [a] env=[(false,eval a env)]:=by intro _;rfl):PIU D tg (.Call (.Name "reversed" p) [a] [] pos) (uRev ta):=by
  obtain ⟨_,q,s⟩:=ha
  exact ⟨_,fun X h=>h.K ▸ pi_rev (by show X.env.scope.names.lookup _=_;rw [h.sc];exact hg) (by rw [h.mg];exact hm) (q X h) (hs _),sim_rev s⟩
end U2
namespace U2
open PySem PySem.Spec PyProof.Rows L2
theorem nolen_lri:typeLookup (.type "list_reverseiterator") "__len__"=pure none:=by rw [typeLookup_type,builtinLookup_eq_fast];kernel_rfl
theorem hint_lri:typeLookup (.type "list_reverseiterator") "__length_hint__"=pure (some (.builtin "list_reverseiterator.__length_hint__")):=by rw [typeLookup_type,builtinLookup_eq_fast];kernel_rfl
section
variable {prog:Program} {w:World} {A:Around} {E:Value→Shared→Prop} {s:Shared}
theorem extend_rev {R:Result→Shared→Prop} {it l:Addr} {items:Array Value} (hh:A.handled=none) (hit:s.heap.IsRevIter it l ((items.size:Int) - 1)) (hl:s.heap.IsList l items) (hne:l≠it) (hlen:items.size≤sizeLine) (S:Addr) (res:Value) (c₀:Nat)
    (hS:s.heap.get? S=some { cls:=.type "list",data:=.seq #[] c₀ }) (hSl:S≠l) (hSi:S≠it)
    (hR:∀ h' tk acc' c',(∀ b o,b≠S→b≠it→s.heap.get? b=some o→h'.get? b=some o)→h'.get? S=some { cls:=.type "list",dict:=none,data:=.seq acc' c',slots:=#[] } →
      ItemsOf (fun i v=>items[items.size - 1 - i]?=some v) acc' items.size→R (.ok (.ret res)) { s with heap:=h',toks:=tk }) :
    wpAny (model prog w) A.in1 (Builtin.List.listExtendWith (.ref S) (.ref it) res)
      (fun fin s'=>match fin with | .done f=>R (.ok f) s' | .again c'=>c'.quiet=true∧codeAny (model prog w) A c' R s') (fun e s'=>R (.error e) s') s:=by
  have hSf:S ∉ [it,l]:=fun hm=>by
    rcases List.mem_cons.mp hm with e | hm
    · exact hSi e
    · exact hSl (List.mem_singleton.mp hm)
  have W:=(Walks.listRev (prog:=prog) (w:=w) (A:=A.in1) hh it l hne items).toS
  have e0:((items.size:Int) - 1 - ((0:Nat):Int))=(items.size:Int) - 1:=by omega
  have hst:(0≤items.size∧s.heap.IsRevIter it l ((items.size:Int) - 1 - ((0:Nat):Int))∧s.heap.IsList l items):=⟨Nat.zero_le _,by rw [e0];exact hit,hl⟩
  have h1:Builtin.List.listSameRef (.ref S) (.ref it)=false:=by simp [Builtin.List.listSameRef,hSi]
  unfold Builtin.List.listExtendWith
  refine wpAny_bind (wpAny_typeOf hit.typeIs ?_)
  rw [if_neg (by rw [h1];decide)]
  refine wpAny_bind (wpAny_pyIter_revIter hit ?_)
  refine wpAny_bind (wpAny_holding ?_)
  unfold Builtin.List.listLengthHint
  refine wpAny_bind (wpAny_specialOf hit.typeIs nolen_lri ?_)
  show wpAny _ A.in1 (specialOf (Value.ref it) (Str.ofString "__length_hint__") >>= _) _ _ _
  refine wpAny_bind (wpAny_specialOf hit.typeIs hint_lri ?_)
  generalize hid:("list_reverseiterator.__length_hint__":String)=id0
  wp_delta
  rw [show splitId id0=some ("list_reverseiterator","__length_hint__") from by subst hid;decide +kernel]
  subst hid
  refine wpAny_bind (wpAny_isInstance (b:=true) hit.typeIs (by rw [isSubtype_type];kernel_rfl) ?_)
  refine wpAny_pure ?_
  rw [if_neg (by decide)]
  refine wpAny_pure ⟨plainId_quiet F.plain_extend_loop _,codeAny_extend_loopS W hlen S hSf res items.size 0 _ #[] c₀ rfl (Nat.zero_le _) hst hS (ItemsOf.nil _) fun s' acc' c' hm hS' hacc=>?_⟩
  rw [Moved.eq_with hm]
  refine hR s'.heap s'.toks acc' c' (fun b o hb hb2 e=>hm.heap b o (fun hmem=>?_) e) hS' hacc
  rcases List.mem_cons.mp hmem with e' | hmem
  · exact hb e'
  · exact hb2 (List.mem_singleton.mp hmem)
theorem list_init_rev {R:Result→Shared→Prop} {it l:Addr} {items:Array Value} (hh:A.handled=none) (hit:s.heap.IsRevIter it l ((items.size:Int) - 1)) (hl:s.heap.IsList l items) (hne:l≠it) (hlen:items.size≤sizeLine) (S:Addr)
    (hS:s.heap.get? S=some { cls:=.type "list",data:=.seq #[] }) (hSl:S≠l) (hSi:S≠it)
    (hR:∀ h' tk acc' c',(∀ b o,b≠S→b≠it→s.heap.get? b=some o→h'.get? b=some o)→h'.get? S=some { cls:=.type "list",dict:=none,data:=.seq acc' c',slots:=#[] } →
      ItemsOf (fun i v=>items[items.size - 1 - i]?=some v) acc' items.size→R (.ok (.ret .none)) { s with heap:=h',toks:=tk }) :
    wpAny (model prog w) A.in1 (Builtin.«list.__init__» ⟨[.ref S,.ref it],[]⟩)
      (fun fin s'=>match fin with | .done f=>R (.ok f) s' | .again c'=>c'.quiet=true∧codeAny (model prog w) A c' R s') (fun e s'=>R (.error e) s') s:=by
  show wpAny _ _ (do let old ← Builtin.List.listItems (.ref S);Builtin.List.listUpdate (.ref S) (fun _=>#[]);letGo old.toList.reverse;Builtin.List.listExtendWith (.ref S) (.ref it) .none) _ _ s
  refine wpAny_bind ?_
  unfold Builtin.List.listItems
  refine wpAny_bind (wpAny_seqItems hS rfl (wpAny_pure ?_))
  show wpAny _ _ (updateSeq S (fun _=>#[]) >>= fun _=>letGo (#[]:Array Value).toList.reverse >>= fun _=>Builtin.List.listExtendWith (.ref S) (.ref it) .none) _ _ s
  refine wpAny_bind (wpAny_updateSeq hS rfl ?_)
  have hS₂:=Heap.get?_update_self (Obj.mapSeq (fun _=>(#[]:Array Value))) hS rfl
  have oth:∀ b o,b≠S→s.heap.get? b=some o→(s.heap.update S (Obj.mapSeq (fun _=>(#[]:Array Value)))).get? b=some o :=
    fun b o hb e=>(Heap.get?_update_other _ _ (Ne.symm hb)).trans e
  refine wpAny_bind (wpAny_letGo ?_)
  refine extend_rev hh (hit.at fun o e=>oth it o (Ne.symm hSi) e) (hl.at fun o e=>oth l o (Ne.symm hSl) e) hne hlen S .none _ hS₂ hSl hSi fun h' tk acc' c' hk hS' hacc=>?_
  exact hR h' tk acc' c' (fun b o hb hb2 e=>hk b o hb hb2 (oth b o hb e)) hS' hacc
theorem call_list_rev {Q:Value→Shared→Prop} {it l:Addr} {items:Array Value} (hh:A.handled=none) (hit:s.heap.IsRevIter it l ((items.size:Int) - 1)) (hl:s.heap.IsList l items) (hne:l≠it) (hlen:items.size≤sizeLine)
    (hQ:∀ h' tk acc' c',(∀ b o,b≠it→s.heap.get? b=some o→h'.get? b=some o) →
      h'.get? s.heap.objs.size=some { cls:=.type "list",dict:=none,data:=.seq acc' c',slots:=#[] }→ItemsOf (fun i v=>items[items.size - 1 - i]?=some v) acc' items.size→Q (.ref s.heap.objs.size) { s with heap:=h',toks:=tk }) :
    wpAny (model prog w) A (call (.type "list") [.ref it]) Q E s:=by
  obtain ⟨oi,hoi,_⟩:=id hit
  obtain ⟨ol,hol,_⟩:=id hl
  refine callType_codes (Q₁:=fun obj s₁=>obj=.ref s.heap.objs.size∧s₁={ s with heap:=s.heap.push { cls:=.type "list",data:=.seq #[] } }) F.called_list (F.typeCall_list_1 _) F.entry_list_init
    (code_list_new _ ⟨rfl,rfl⟩) fun obj s₁ h₁=>?_
  obtain ⟨rfl,rfl⟩:=h₁
  have hS:(s.heap.push { cls:=.type "list",data:=.seq #[] }).get? s.heap.objs.size=some { cls:=.type "list",data:=.seq #[] }:=Heap.get?_push_size _ rfl
  refine ⟨⟨_,hS,rfl⟩,F.args_list_init_2 _ _,list_init_rev (A:=A.in1) hh (hit.at fun o e=>Heap.get?_push_of_some _ e) (hl.at fun o e=>Heap.get?_push_of_some _ e) hne hlen _ hS (fun z=>Nat.lt_irrefl _ (z ▸ Heap.lt_size hol)) (fun z=>Nat.lt_irrefl _ (z ▸ Heap.lt_size hoi)) fun h' tk acc' c' hk hS' hacc=>?_⟩
  exact ⟨rfl,hQ h' tk acc' c' (fun b o hb e=>hk b o (Nat.ne_of_lt (Heap.lt_size e)) hb (Heap.get?_push_of_some _ e)) hS' hacc⟩
end
theorem boot_list':bootBuiltins "list"=some (.type "list"):=by kernel_rfl
theorem items_rev {its:List Value} {acc:Array Value} (h:ItemsOf (fun i v=>its.toArray[its.toArray.size - 1 - i]?=some v) acc its.toArray.size):acc=its.reverse.toArray:=by
  obtain ⟨h1,h2⟩:=h
  have hs:its.toArray.size=its.length:=by simp
  rw [hs] at h1
  refine Array.ext (by simpa using h1) fun j hj hj2=>?_
  have:=h2 j acc[j] (by simp [hj])
  rw [hs] at this
  have h3:its[its.length - 1 - j]?=some acc[j]:=by simpa using this
  have h4:its.reverse[j]?=some acc[j]:=by rw [List.getElem?_reverse (by omega)];exact h3
  have h5:=(List.getElem?_eq_some_iff.mp h4).2
  simpa using h5.symm
def tListRev (K:PySem.W.Frag) (ta:TA):TE:=fun σ H Q=>ta σ H fun vs H1=>∃ a xs,vs=[.ref a]∧SqL K H1 a xs∧∀ p,H1 p=none→Q (.ref p) (upd H1 p (.lst xs.reverse))
theorem pe_listRev {X:Cx} {a:Expr} {ta:TA} {p1 p2 pos1 pos2:Pos} (hc:X.calm=true) (hgL:Gl X "list") (hmL:X.mg "list"=none) (hgR:Gl X "reversed") (hmR:X.mg "reversed"=none) (ha:PA X [a] ta) (hs:starEach [a] X.env=[(false,eval a X.env)])
    (hs2:starEach [.Call (.Name "reversed" p2) [a] [] pos2] X.env=[(false,eval (.Call (.Name "reversed" p2) [a] [] pos2) X.env)]) :
    PE X (.Call (.Name "list" p1) [.Call (.Name "reversed" p2) [a] [] pos2] [] pos1) (tListRev X.K ta):=by
  intro pins s σ H Q I h
  refine Call_ (ld_blt I hgL hmL boot_list' (PyProof.Rows.callWith_type1 ?_ hs2 rfl))
  rw [hs2]
  show wpAny _ _ (spliced ((false,eval (.Call (.Name "reversed" p2) [a] [] pos2) X.env) :: backTo pos1 [])) _ _ s
  refine Calls.spliced_cons (Call_ (ld_blt I hgR hmR boot_reversed (PyProof.Rows.callWith_type1 (thn (ha pos2 pins s σ H _ I h) fun us s1 ⟨vs,H1,I1,r1,q1⟩=>?_) hs rfl)))
  obtain ⟨b,xs,e,hq,q⟩:=q1
  subst e
  cases r1 with
  | cons r rr =>
    cases rr
    cases r
    obtain ⟨its,rv,pl,hz⟩:=I1.list hq
    have hl:=pl.isList
    obtain ⟨ol,hol,_⟩:=id hl
    refine call_reversed_list hl (Calls.spliced_nil ?_)
    have hrev:Heap.IsRevIter (s1.heap.push (revObj b ((its.toArray.size:Int) - 1))) s1.heap.objs.size b ((its.toArray.size:Int) - 1):=⟨_,Heap.get?_push_size _ rfl,rfl,rfl⟩
    refine call_list_rev (s:={ s1 with heap:=s1.heap.push (revObj b ((its.toArray.size:Int) - 1)) }) (I1.ok.hd hc) hrev (hl.at fun o e=>Heap.get?_push_of_some _ e) (Nat.ne_of_lt (Heap.lt_size hol)) (by rw [List.size_toArray,← rv.length];exact hz) fun h' tk acc' c' hk hS' hacc=>?_
    have hacc':=items_rev hacc
    subst hacc'
    have hsz:(s1.heap.push (revObj b ((its.toArray.size:Int) - 1))).objs.size=s1.heap.objs.size + 1:=Heap.size_push ..
    have hD:H1 (s1.heap.push (revObj b ((its.toArray.size:Int) - 1))).objs.size=none:=I1.hok.fresh (by rw [hsz];omega)
    refine ⟨.ref (s1.heap.push (revObj b ((its.toArray.size:Int) - 1))).objs.size,_,I1.laid (t':=tk) (o:=.lst xs.reverse) (fun c o e=>hk c o (Nat.ne_of_lt (Heap.lt_size e)) (Heap.get?_push_of_some _ e)) (by rw [hsz];omega) ⟨by rw [List.length_reverse];exact hz,its.reverse,c',rv.reverse,hS'⟩,rfl,q _ hD⟩
def uListRev (o:Bool) (ta:UA):UE:=fun τ M Q=>ta τ M fun us M1=>match us with
  | [x]=>match view M1 x with
    | .lst us=>mkL o us.reverse M1 Q
    | _=>False
  | _=>False
theorem sim_listRev {K:PySem.W.Frag} {o:Bool} {ta:TA} {ta':UA} (h:SimA K ta ta'):SimE K (tListRev K ta) (uListRev o ta'):=fun σ τ H M Q' rs rm q Q c=>h σ τ H M _ rs rm q _ fun us vs M1 H1 s1 rm1 ru h1=>by
  split at h1
  · rename_i x
    split at h1
    · rename_i ws e
      obtain ⟨v,rfl,a1⟩:=ru.one
      obtain ⟨a,zs,rfl,sq,r2⟩:=view_lst rm1 a1 e
      exact ⟨a,zs,rfl,sq,fun p hp=>(Cont.stp c s1).lst rm1 r2.reverse hp h1⟩
    · exact h1.elim
  · exact h1.elim
theorem ue_listRev {D:Dat} (own:Bool:=false) {a:Expr} {p1 p2 pos1 pos2:Pos} {ta:UA} (hmL:D.mg "list"=none) (hmR:D.mg "reversed"=none) (ha:PAU D [a] ta) (hgL:D.sc.names.lookup ("list":Str)=some .globalImplicit:=by rfl) (hgR:D.sc.names.lookup ("reversed":Str)=some .globalImplicit:=by rfl)
    (hs:∀ env,starEach [a] env=[(false,eval a env)]:=by intro _;rfl) (hs2:∀ env,starEach [.Call (.Name "reversed" p2) [a] [] pos2] env=[(false,eval (.Call (.Name "reversed" p2) [a] [] pos2) env)]:=by intro _;rfl) :
    PEU D (.Call (.Name "list" p1) [.Call (.Name "reversed" p2) [a] [] pos2] [] pos1) (uListRev own ta):=by
  obtain ⟨_,q,s⟩:=ha
  refine ⟨_,fun X h=>?_,sim_listRev s⟩
  have:=pe_listRev (X:=X) (p1:=p1) (p2:=p2) (pos1:=pos1) (pos2:=pos2) h.calm (by show X.env.scope.names.lookup _=_;rw [h.sc];exact hgL) (by rw [h.mg];exact hmL) (by show X.env.scope.names.lookup _=_;rw [h.sc];exact hgR) (by rw [h.mg];exact hmR) (q X h) (hs _) (hs2 _)
  rw [h.K] at this
  exact this
end U2
namespace U2
open PySem PySem.Spec PyProof.Rows L2
section
variable {prog:Program} {w:World} {A:Around} {E:Value→Shared→Prop} {s:Shared}
end
def uSetFrom (te to ti:UE):US:=fun D τ M=>te τ M fun v M1=>to τ M1 fun x M2=>ti τ M2 fun y M3=>match v,x,y with
  | .ref b,.ref l,.int a=>match M3 b,M3 l with
    | some (.lst ws),some (.lst us)=>l≠b∧0≤a∧a≤us.length∧us.length + ws.length≤sizeLine∧D.nx τ (mup M3 l (.lst (us.take a.toNat++ws)))
    | _,_=>False
  | _,_,_=>False
end U2
namespace U2
open PySem PySem.Spec PyProof.Rows L2
end U2
namespace U2
open PySem PySem.Spec PyProof.Rows L2
def ItzLL (K:PySem.W.Frag) (a c:Addr):It :=
  ⟨fun i H=>∃ xs ys x y,SqL K H a xs∧SqL K H c ys∧xs[i]?=some x∧ys[i]?=some y,
   fun i H v H'=>∃ p x y,(∀ xs,SqL K H a xs→xs[i]?=some x)∧(∀ ys,SqL K H c ys→ys[i]?=some y)∧H p=none∧v=.ref p∧H'=upd H p (.tup [x,y]),
   fun i H=>∃ xs ys,SqL K H a xs∧SqL K H c ys∧i=min xs.length ys.length⟩
theorem zp_ofLL {h:Heap} {z TI TO i1 i2 a c:Addr} {f0 u v:Value} {k1 k2:Nat} {xs ys:Array Value} (hz:IsZip h z TI TO f0) (q:TI≠TO∧i1≠i2∧TO≠a∧TO≠c) (hTI:IsPair h TI (.ref i1) (.ref i2)) (hTO:IsPair h TO u v)
    (h1:h.IsListIter i1 a k1) (h2:h.IsListIter i2 c k2) (ha:h.IsList a xs) (hc:h.IsList c ys):Zp z TI TO i1 i2 [i1,a] [i2,c]:=by
  obtain ⟨o1,e1,c1,_⟩:=h1
  obtain ⟨o2,e2,c2,_⟩:=h2
  obtain ⟨o3,e3,c3,_⟩:=ha
  obtain ⟨o4,e4,c4,_⟩:=hc
  have cl:∀ {b b':Addr} {o o':Obj} {n n':String},h.get? b=some o→h.get? b'=some o'→o.cls=.type n→o'.cls=.type n'→n≠n'→b≠b':=fun x y p q ne z=>by
    subst z;rw [x] at y;cases y;rw [p] at q;exact ne (Value.type.inj q)
  refine ⟨cl hTI hz rfl rfl (by decide),cl hTO hz rfl rfl (by decide),cl e1 hz c1 rfl (by decide),cl e2 hz c2 rfl (by decide),q.1,cl hTI e1 rfl c1 (by decide),cl hTI e2 rfl c2 (by decide),cl hTO e1 rfl c1 (by decide),cl hTO e2 rfl c2 (by decide),q.2.1,?_,?_,?_,?_,?_,?_⟩
  · simp only [List.mem_cons,List.not_mem_nil,or_false,not_or];exact ⟨(cl e1 hz c1 rfl (by decide)).symm,(cl e3 hz c3 rfl (by decide)).symm⟩
  · simp only [List.mem_cons,List.not_mem_nil,or_false,not_or];exact ⟨(cl e2 hz c2 rfl (by decide)).symm,(cl e4 hz c4 rfl (by decide)).symm⟩
  · simp only [List.mem_cons,List.not_mem_nil,or_false,not_or];exact ⟨cl hTO e1 rfl c1 (by decide),q.2.2.1⟩
  · simp only [List.mem_cons,List.not_mem_nil,or_false,not_or];exact ⟨cl hTO e2 rfl c2 (by decide),q.2.2.2⟩
  · simp only [List.mem_cons,List.not_mem_nil,or_false,not_or];exact ⟨q.2.1,(cl e4 e1 c4 c1 (by decide)).symm⟩
  · simp only [List.mem_cons,List.not_mem_nil,or_false,not_or];exact ⟨q.2.1.symm,(cl e3 e2 c3 c2 (by decide)).symm⟩
theorem turn_zipLL {P:Program} {w:World} {K:PySem.W.Frag} {elts:List Expr} {kk:Nat} {pos:Pos} (a c z TI TO i1 i2:Addr) (q:TI≠TO∧i1≠i2∧TO≠a∧TO≠c) :
    Turn P w K (.Tuple elts kk pos) (ItzLL K a c) [z,TI,TO,i1,i2] z (fun i h=>IsZip h z TI TO .none∧IsPair h TI (.ref i1) (.ref i2)∧(∃ u v,IsPair h TO u v)∧h.IsListIter i1 a i∧h.IsListIter i2 c i) where
  mem:=by simp
  obj:=fun i h st b hb=>by
    obtain ⟨hz,hTI,⟨u,v,hTO⟩,⟨o1,e1,c1,d1⟩,⟨o2,e2,c2,d2⟩⟩:=st
    have:b=z∨b=TI∨b=TO∨b=i1∨b=i2:=by simpa using hb
    rcases this with rfl | rfl | rfl | rfl | rfl
    · exact ⟨_,hz,fun v x=>by
        have x':Data.fields _=Data.cell v:=x
        cases x'⟩
    · exact ⟨_,hTI,fun v x=>by
        have x':Data.seq _ _=Data.cell v:=x
        cases x'⟩
    · exact ⟨_,hTO,fun v x=>by
        have x':Data.seq _ _=Data.cell v:=x
        cases x'⟩
    · exact ⟨_,e1,fun v x=>by rw [d1] at x;cases x⟩
    · exact ⟨_,e2,fun v x=>by rw [d2] at x;cases x⟩
  keep:=fun i h h' st k=>let ⟨hz,hTI,⟨u,v,hTO⟩,h1,h2⟩:=st
    ⟨k z (by simp) _ hz,k TI (by simp) _ hTI,⟨u,v,k TO (by simp) _ hTO⟩,h1.at fun o e=>k i1 (by simp) o e,h2.at fun o e=>k i2 (by simp) o e⟩
  item:=by
    intro X hP hw hK hc i pins s σ H E I hf st hg
    subst hP hw hK
    obtain ⟨hz,hTI,⟨u,v,hTO⟩,h1,h2⟩:=st
    obtain ⟨xs,ys,x,y,hqx,hqy,hx,hy⟩:=hg
    obtain ⟨its,rv,p,_⟩:=I.list hqx
    obtain ⟨its',rv',p',_⟩:=I.list hqy
    obtain ⟨x',hu,ru⟩:=rv.get hx
    obtain ⟨y',hu',ru'⟩:=rv'.get hy
    have pa:s.heap.IsList a its.toArray:=p.isList
    have pc:s.heap.IsList c its'.toArray:=p'.isList
    have Z:=zp_ofLL hz q hTI hTO h1 h2 pa pc
    have n1:a≠i1:=by
      obtain ⟨o1,e1,c1,_⟩:=h1
      obtain ⟨o3,e3,c3,_⟩:=pa
      intro e;subst e;rw [e1] at e3;cases e3;rw [c1] at c3;exact absurd (Value.type.inj c3) (by decide)
    have n2:c≠i2:=by
      obtain ⟨o1,e1,c1,_⟩:=h2
      obtain ⟨o3,e3,c3,_⟩:=pc
      intro e;subst e;rw [e1] at e3;cases e3;rw [c1] at c3;exact absurd (Value.type.inj c3) (by decide)
    have hd:X.A.in1.handled=none:=I.ok.hd hc
    have lt1:i < its.toArray.size:=by
      have:=(List.getElem?_eq_some_iff.mp hu).1
      simpa using this
    have lt2:i < its'.toArray.size:=by
      have:=(List.getElem?_eq_some_iff.mp hu').1
      simpa using this
    refine next_zip_item Z (Draws.list hd i1 a n1 its.toArray) (Draws.list hd i2 c n2 its'.toArray) hz hTI hTO ⟨h1,pa⟩ ⟨h2,pc⟩ lt1 lt2 fun x1 y1 h' tk px py hz' hTO' s1 s2 hT hk=>?_
    refine ⟨_,rfl,wpAny_letOwnedTupleGo_zip (s:={ s with heap:=h',toks:=tk }) hz' fun h'' hz'' hs''=>?_⟩
    have ex:x1=x':=by
      have h3:its[i]?=some x1:=by simpa using px
      rw [hu] at h3;exact (Option.some.inj h3).symm
    have ey:y1=y':=by
      have h3:its'[i]?=some y1:=by simpa using py
      rw [hu'] at h3;exact (Option.some.inj h3).symm
    subst ex ey
    have lt:∀ {b o},s.heap.get? b=some o→s.heap.objs.size≠b:=fun e=>Nat.ne_of_gt (Heap.lt_size e)
    have hTT:h''.IsTuple s.heap.objs.size #[x1,y1]:=⟨_,hs''.extBut _ _ (lt hz) hT,rfl,_,rfl⟩
    refine ⟨.ref s.heap.objs.size,upd H s.heap.objs.size (.tup [x,y]),inv_turnedLaid (s:=s) (h':=h'') (tk:=tk) (ch:=[z,TI,TO,i1,i2]) I hf (fun b o hb e=>?_) (Nat.le_refl _) ⟨by show 2≤sizeLine;decide,[x1,y1],.cons ru (.cons ru' .nil),hTT⟩,rfl,
      ⟨s.heap.objs.size,x,y,fun zs hz=>by rw [← I.list_inj hqx hz];exact hx,fun zs hz=>by rw [← I.list_inj hqy hz];exact hy,I.hok.fresh (Nat.le_refl _),rfl,rfl⟩,⟨hz'',?_,?_,?_,?_⟩,fun b hb=>?_⟩
    · have hb':¬ (b=z∨b=TI∨b=TO∨b=i1∨b=i2):=by simpa using hb
      simp only [not_or] at hb'
      exact hs''.extBut _ _ hb'.1 (hk b o hb'.1 hb'.2.2.1 hb'.2.2.2.1 hb'.2.2.2.2 e)
    · exact hs''.extBut _ _ Z.TIz (hk _ _ Z.TIz Z.TITO Z.TIi1 Z.TIi2 hTI)
    · exact ⟨_,_,hs''.extBut _ _ Z.TOz hTO'⟩
    · exact s1.1.at fun o e=>hs''.extBut _ _ Z.i1z e
    · exact s2.1.at fun o e=>hs''.extBut _ _ Z.i2z e
    · rw [upd_ne (fun e=>?_)]
      · exact (hf b hb).1
      · have:b=z∨b=TI∨b=TO∨b=i1∨b=i2:=by simpa using hb
        obtain ⟨o1,e1,_⟩:=h1
        obtain ⟨o2,e2,_⟩:=h2
        rcases this with rfl | rfl | rfl | rfl | rfl
        · exact lt hz e.symm
        · exact lt hTI e.symm
        · exact lt hTO e.symm
        · exact lt e1 e.symm
        · exact lt e2 e.symm
  done:=by
    intro X hP hw hK hc i pins s σ H E I hf st hg
    subst hP hw hK
    obtain ⟨hz,hTI,⟨u,v,hTO⟩,h1,h2⟩:=st
    obtain ⟨xs,ys,hqx,hqy,hi⟩:=hg
    obtain ⟨its,rv,p,_⟩:=I.list hqx
    obtain ⟨its',rv',p',_⟩:=I.list hqy
    have pa:s.heap.IsList a its.toArray:=p.isList
    have pc:s.heap.IsList c its'.toArray:=p'.isList
    have Z:=zp_ofLL hz q hTI hTO h1 h2 pa pc
    have n1:a≠i1:=by
      obtain ⟨o1,e1,c1,_⟩:=h1
      obtain ⟨o3,e3,c3,_⟩:=pa
      intro e;subst e;rw [e1] at e3;cases e3;rw [c1] at c3;exact absurd (Value.type.inj c3) (by decide)
    have n2:c≠i2:=by
      obtain ⟨o1,e1,c1,_⟩:=h2
      obtain ⟨o3,e3,c3,_⟩:=pc
      intro e;subst e;rw [e1] at e3;cases e3;rw [c1] at c3;exact absurd (Value.type.inj c3) (by decide)
    have hd:X.A.in1.handled=none:=I.ok.hd hc
    have hi':i=min its.toArray.size its'.toArray.size:=by rw [List.size_toArray,List.size_toArray,← rv.length,← rv'.length];exact hi
    refine next_zip_end Z (Draws.list hd i1 a n1 its.toArray) (Draws.list hd i2 c n2 its'.toArray) hz hTI hTO ⟨h1,pa⟩ ⟨h2,pc⟩ (by omega) hi' fun h' tk hk=>⟨rfl,?_⟩
    have kk:∀ b o,b ∉ [z,TI,TO,i1,i2]→s.heap.get? b=some o→h'.get? b=some o:=fun b o hb e=>by
      have hb':¬ (b=z∨b=TI∨b=TO∨b=i1∨b=i2):=by simpa using hb
      simp only [not_or] at hb'
      exact hk b o hb'.1 hb'.2.2.1 hb'.2.2.2.1 hb'.2.2.2.2 e
    have:=I.call' (ch:=[z,TI,TO,i1,i2]) (H':=H) (s':={ s with heap:=h',toks:=tk }) rfl ⟨fun b u q n hb hx=>kk b u hx q,fun b u q n hb hx=>⟨u.slots,kk b u hx q⟩,fun b u q n hx=>n,fun b u q hx=>⟨u,kk b u hx q⟩,fun b xs q=>q,fun b u xs q=>q,fun b ps q=>⟨#[],by rw [q];simp⟩⟩
      (fun a u e'=>?_) I.bare fun b hb=>⟨(hf b hb).2.2.2.1,(hf b hb).2.1,(hf b hb).2.2.2.2.1,(hf b hb).2.2.2.2.2⟩
    · exact this
    · refine (I.hok a u e').stay (fun b z hb q=>kk b z (fun hc=>?_) q) (fun _ q=>q) fun _ _ q=>q
      have hnone:=(hf b hc).1
      rcases hb with rfl | hb
      · rw [hnone] at e';cases e'
      · rw [hnone] at hb;cases hb
  self:=fun _ _ _ _ _ st h=>wpAny_pyIter_zip st.1 h
abbrev zlH1 (h:Heap) (a:Addr):Heap:=h.push { cls:=.type "list_iterator",data:=.fields #[.ref a,.int 0 0] }
abbrev zlH2 (h:Heap) (a c:Addr):Heap:=(zlH1 h a).push { cls:=.type "list_iterator",data:=.fields #[.ref c,.int 0 0] }
abbrev zlH3 (h:Heap) (a c:Addr):Heap:=(zlH2 h a c).push { cls:=.type "tuple",data:=.seq #[.ref h.objs.size,.ref (zlH1 h a).objs.size] }
abbrev zlH4 (h:Heap) (a c:Addr):Heap:=(zlH3 h a c).push { cls:=.type "tuple",data:=.seq #[.none,.none] }
abbrev zlH5 (h:Heap) (a c:Addr):Heap:=(zlH4 h a c).push { cls:=.type "zip",data:=.fields #[.none,.bool false,.bool false,.ref (zlH2 h a c).objs.size,.ref (zlH3 h a c).objs.size] }
theorem meets_zip_ll (a c:Addr) (xs ys:Array Value) :
    Meets (Builtin.«zip.__new__» ⟨[.type "zip",.ref a,.ref c],[]⟩) (fun _ R s=>s.heap.IsList a xs∧s.heap.IsList c ys ∧
      R (.ok (.ret (.ref (zlH4 s.heap a c).objs.size))) { s with heap:=zlH5 s.heap a c }) :=
  .of_wp fun prog w A R s h=>by
    obtain ⟨hp,g,d,tk,os⟩:=s;obtain ⟨h1,h2,h⟩:=h
    have hsub:=sub_zip
    have hL1:Heap.IsList (Shared.heap ⟨hp,g,d,tk,os⟩) a xs:=h1
    have hL2:Heap.IsList (Shared.heap ⟨hp.push { cls:=.type "list_iterator",data:=.fields #[.ref a,.int 0 0] },g,d,tk,os⟩) c ys:=Heap.IsList.push h2 _
    wp_walk using wpAny_pyIter_list hL1,wpAny_pyIter_list hL2
    exact ⟨_,rfl,h⟩
theorem call_zip_ll {prog:Program} {w:World} {A:Around} {E:Value→Shared→Prop} {s:Shared} {a c:Addr} {xs ys:Array Value} {Q:Value→Shared→Prop} (h1:s.heap.IsList a xs) (h2:s.heap.IsList c ys)
    (h:∀ h',IsZip h' (s.heap.objs.size + 4) (s.heap.objs.size + 2) (s.heap.objs.size + 3) .none→IsPair h' (s.heap.objs.size + 2) (.ref s.heap.objs.size) (.ref (s.heap.objs.size + 1)) →
      IsPair h' (s.heap.objs.size + 3) .none .none→h'.IsListIter s.heap.objs.size a 0→h'.IsListIter (s.heap.objs.size + 1) c 0 →
      (∀ b o,s.heap.get? b=some o→h'.get? b=some o)→Q (.ref (s.heap.objs.size + 4)) { s with heap:=h' }) :
    wpAny (model prog w) A (call (.type "zip") [.ref a,.ref c]) Q E s:=by
  refine callType_new PySem.F.called_zip (by decide) (PySem.F.typeCall_zip_2 _ _) (PySem.F.newCall_zip_2 _ _) (fun obj=>PySem.F.args_object_init_3 obj _ _) PySem.F.entry_zip_new
    (meets_zip_ll a c xs ys) ⟨h1,h2,?_⟩
  have z1:(zlH1 s.heap a).objs.size=s.heap.objs.size + 1:=Heap.size_push ..
  have z2:(zlH2 s.heap a c).objs.size=s.heap.objs.size + 2:=by rw [Heap.size_push,z1]
  have z3:(zlH3 s.heap a c).objs.size=s.heap.objs.size + 3:=by rw [Heap.size_push,z2]
  have z4:(zlH4 s.heap a c).objs.size=s.heap.objs.size + 4:=by rw [Heap.size_push,z3]
  have g5:(zlH5 s.heap a c).get? (zlH4 s.heap a c).objs.size=some _:=Heap.get?_push_size _ rfl
  have g4:(zlH5 s.heap a c).get? (zlH3 s.heap a c).objs.size=some _:=Heap.get?_push_of_some _ (Heap.get?_push_size _ rfl)
  have g3:(zlH5 s.heap a c).get? (zlH2 s.heap a c).objs.size=some _:=Heap.get?_push_of_some _ (Heap.get?_push_of_some _ (Heap.get?_push_size _ rfl))
  have g2:(zlH5 s.heap a c).get? (zlH1 s.heap a).objs.size=some _:=Heap.get?_push_of_some _ (Heap.get?_push_of_some _ (Heap.get?_push_of_some _ (Heap.get?_push_size _ rfl)))
  have g1:(zlH5 s.heap a c).get? s.heap.objs.size=some _:=Heap.get?_push_of_some _ (Heap.get?_push_of_some _ (Heap.get?_push_of_some _ (Heap.get?_push_of_some _ (Heap.get?_push_size _ rfl))))
  show _∧_
  rw [z2,z3,z4] at g5
  rw [z1,z2] at g3
  rw [z3] at g4
  rw [z1] at g2
  rw [z4]
  exact ⟨⟨_,g5,rfl⟩,h _ g5 g3 g4 ⟨_,g1,rfl,rfl⟩ ⟨_,g2,rfl,rfl⟩ fun b o x =>
    Heap.get?_push_of_some _ (Heap.get?_push_of_some _ (Heap.get?_push_of_some _ (Heap.get?_push_of_some _ (Heap.get?_push_of_some _ x))))⟩
def iZipLL (K:PySem.W.Frag) (ta:TA):TI:=fun σ H R=>ta σ H fun vs H1=>∃ a c,vs=[.ref a,.ref c]∧(∃ xs,SqL K H1 a xs)∧(∃ ys,SqL K H1 c ys)∧R (ItzLL K a c) H1
theorem pi_zipLL {X:Cx} {elts:List Expr} {kk:Nat} {tpos:Pos} {a b:Expr} {ta:TA} {p pos:Pos} (hg:Gl X "zip") (hm:X.mg "zip"=none) (ha:PA X [a,b] ta) (hs:starEach [a,b] X.env=[(false,eval a X.env),(false,eval b X.env)]) (hs2:starEach [b] X.env=[(false,eval b X.env)]) :
    PI X (.Tuple elts kk tpos) (.Call (.Name "zip" p) [a,b] [] pos) (iZipLL X.K ta):=by
  intro pins s σ H R I h
  refine Call_ (ld_blt I hg hm boot_zip (PyProof.Rows.callWith_type1 (thn (ha pos pins s σ H _ I h) fun us s1 ⟨vs,H1,I1,r1,q1⟩=>?_) (by rw [hs,hs2]) (by rw [hs2];rfl)))
  obtain ⟨a,c,e,⟨xs,hq⟩,⟨ys,hq'⟩,q⟩:=q1
  subst e
  cases r1 with
  | cons r rr =>
    cases rr with
    | cons r' rr =>
      cases rr
      cases r
      cases r'
      obtain ⟨its,rv,p,hz⟩:=I1.list hq
      obtain ⟨its',rv',p',hz'⟩:=I1.list hq'
      have pa:s1.heap.IsList a its.toArray:=p.isList
      have pc:s1.heap.IsList c its'.toArray:=p'.isList
      have la:a < s1.heap.objs.size:=by obtain ⟨_,e,_⟩:=pa;exact Heap.lt_size e
      have lc:c < s1.heap.objs.size:=by obtain ⟨_,e,_⟩:=pc;exact Heap.lt_size e
      refine call_zip_ll pa pc fun h' hz hTI hTO h1 h2 hk=>?_
      refine wpAny_pyIter_zip (s:={ s1 with heap:=h' }) hz ?_
      have I2:L2.Inv X pins σ H1 { s1 with heap:=h',toks:=s1.toks }:=I1.kept hk
      refine ⟨_,_,_,_,H1,rfl,I2,turn_zipLL a c (s1.heap.objs.size + 4) (s1.heap.objs.size + 2) (s1.heap.objs.size + 3) s1.heap.objs.size (s1.heap.objs.size + 1) ⟨Nat.ne_of_lt (Nat.lt_succ_self _),Nat.ne_of_lt (Nat.lt_succ_self _),Nat.ne_of_gt (Nat.lt_of_lt_of_le la (Nat.le_add_right _ _)),Nat.ne_of_gt (Nat.lt_of_lt_of_le lc (Nat.le_add_right _ _))⟩,⟨hz,hTI,⟨_,_,hTO⟩,h1,h2⟩,fun b hb=>?_,q⟩
      have le:s1.heap.objs.size≤b:=by
        have:b=s1.heap.objs.size + 4∨b=s1.heap.objs.size + 2∨b=s1.heap.objs.size + 3∨b=s1.heap.objs.size∨b=s1.heap.objs.size + 1:=by simpa using hb
        rcases this with e | e | e | e | e <;> rw [e]
        · exact Nat.le_add_right _ _
        · exact Nat.le_add_right _ _
        · exact Nat.le_add_right _ _
        · exact Nat.le_refl _
        · exact Nat.le_add_right _ _
      exact I1.fpOk le (I1.hok.fresh le)
theorem walk_zipLL {K:PySem.W.Frag} {a c:Addr} {us ws:List U} {vs xs:List V} {H:Hp} {M:MHp} (m:(M a=none∧Rd H a (.lst vs))∨KL K a vs) (m':(M c=none∧Rd H c (.lst xs))∨KL K c xs) (r:RelUs K H M us vs) (r':RelUs K H M ws xs):Walk K (ItzLL K a c) ⟨none,zipped us ws⟩ H M:=by
  refine ⟨fun H1 M1 s rm _ i u e=>?_,fun H1 M1 s rm _=>⟨vs,xs,sqL_of s m,sqL_of s m',by show (zipped us ws).length=_;rw [zipped_len,r.length,r'.length]⟩⟩
  obtain ⟨u,w,e1,e1',rfl⟩:=zipped_get e
  obtain ⟨v,e2,ru⟩:=r.get e1
  obtain ⟨x,e2',ru'⟩:=r'.get e1'
  refine ⟨⟨vs,xs,v,x,sqL_of s m,sqL_of s m',e2,e2'⟩,fun y H2 y'=>?_⟩
  obtain ⟨p,v',x',y1,y2,hp,rfl,rfl⟩:=y'
  have:=y1 vs (sqL_of s m)
  rw [e2] at this;cases this
  have:=y2 xs (sqL_of s m')
  rw [e2'] at this;cases this
  have st:=Stp.laid (o:=.tup [v,x]) rm hp
  have rr:RelUs K H1 M1 [u,w] [v,x]:=by
    simp only [RelUs]
    exact ⟨_,_,rfl,ru.stp s,_,_,rfl,ru'.stp s,rfl⟩
  exact ⟨st,rm.laid hp,relU_tup (rm.no hp) upd_same (rr.stp st)⟩
def uZipLL (ta:UA):UI:=fun τ M R=>ta τ M fun us M1=>match us with
  | [.lst us,.lst ws]=>R ⟨none,zipped us ws⟩ M1
  | _=>False
theorem sim_zipLL {K:PySem.W.Frag} {ta:TA} {ta':UA} (h:SimA K ta ta'):SimI K (iZipLL K ta) (uZipLL ta'):=fun σ τ H M R' rs rm q R c=>h σ τ H M _ rs rm q _ fun us vs M1 H1 s1 rm1 ru h1=>by
  split at h1
  · obtain ⟨v,vs',rfl,a,b⟩:=ru.inv_cons
    obtain ⟨v2,rfl,a2⟩:=b.one
    simp only [RelU] at a a2
    obtain ⟨a,vs,rfl,m,r⟩:=a
    obtain ⟨a',vs',rfl,m',r'⟩:=a2
    exact ⟨a,a',rfl,⟨vs,sqL_of (Stp.refl _ _) m⟩,⟨vs',sqL_of (Stp.refl _ _) m'⟩,c _ _ M1 H1 s1 rm1 (walk_zipLL m m' r r') h1⟩
  · exact h1.elim
theorem ui_zipLL {D:Dat} {elts:List Expr} {kk:Nat} {tpos:Pos} {a b:Expr} {p pos:Pos} {ta:UA} (hm:D.mg "zip"=none) (ha:PAU D [a,b] ta) (hg:D.sc.names.lookup ("zip":Str)=some .globalImplicit:=by rfl) (hs:∀ env,starEach [a,b] env=[(false,eval a env),(false,eval b env)]:=by intro _;rfl) (hs2:∀ env,starEach [b] env=[(false,eval b env)]:=by intro _;rfl):PIU D (.Tuple elts kk tpos) (.Call (.Name "zip" p) [a,b] [] pos) (uZipLL ta):=by
  obtain ⟨_,q,s⟩:=ha
  exact ⟨_,fun X h=>h.K ▸ pi_zipLL (by show X.env.scope.names.lookup _=_;rw [h.sc];exact hg) (by rw [h.mg];exact hm) (q X h) (hs _) (hs2 _),sim_zipLL s⟩
def uNotB:UR2:=fun x y M Q=>match x,y with
  | .bl i,.bl j=>Q (.bl (!decide (i=j))) M
  | _,_=>False
def uIsB2:UR2:=fun x y M Q=>match x,y with
  | .bl i,.bl j=>Q (.bl (decide (i=j))) M
  | _,_=>False
end U2
namespace U2
open PySem PySem.Spec PyProof.Rows L2
theorem vals_of:∀ {us:List Value} {ns:List Int},IntsAre us ns→Vals (ns.map V.int) us
  | _,_,.nil=>.nil
  | _,_,.cons n t r=>.cons ⟨t,rfl⟩ (vals_of r)
theorem call_sortedL {X:Cx}:CallR X (.builtin "sorted") (fun xs H Q=>∃ p ns,xs=[.ref p]∧SqL X.K H p (ns.map V.int)∧ns.length < 64∧∀ (ns':List Int) (q:Addr),ns'.Perm ns→ns'.Pairwise (·≤·)→H q=none→Q (.ref q) (upd H q (.lst (ns'.map V.int)))):=by
  intro pins s σ H xs us Q I r h
  obtain ⟨p,ns,rfl,hq,h64,q⟩:=h
  obtain ⟨u,rfl,rx⟩:=vals1 r
  cases rx
  obtain ⟨its,r',pl,hz⟩:=I.list hq
  have hi:IntsAre its ns:=intsAre_of r'
  have hlen:its.length=ns.length:=by have:=r'.length;rw [List.length_map] at this;exact this.symm
  refine sorted_ints pl.isList hi (by omega) fun out ns' a1 a2 a3=>?_
  obtain ⟨e,he⟩:=sortedAll_at s.heap its out
  have hD:H (s.heap.objs.size + 1)=none:=I.hok.fresh (Nat.le_succ _)
  have hl':ns'.length=ns.length:=a2.length_eq
  refine ⟨.ref (s.heap.objs.size + 1),_,I.laid (t':=s.toks) (o:=.lst (ns'.map V.int)) (fun c o e=>sortedAll_old e) (Nat.le_succ _) ⟨?_,out.toList,e,vals_of a1,?_⟩,rfl,q ns' _ a2 a3 hD⟩
  · rw [List.length_map,hl'];exact Nat.le_trans (Nat.le_of_lt h64) (by decide)
  · simpa using he
def bSorted (o:Bool):List U→MHp→UK→Prop:=fun us M Q=>match us with
  | [x]=>match view M x with
    | .lst ws=>∃ ns,intsOf ws=some ns∧ns.length < 64∧∀ ns':List Int,ns'.Perm ns→ns'.Pairwise (·≤·)→mkL o (ns'.map U.int) M Q
    | _=>False
  | _=>False
theorem relUs_ints {K:PySem.W.Frag} {H:Hp} {M:MHp}:∀ ns:List Int,RelUs K H M (ns.map U.int) (ns.map V.int)
  | []=>.nil
  | n :: ns=>by
    have:=relUs_ints (K:=K) (H:=H) (M:=M) ns
    simp only [List.map_cons,RelUs]
    exact ⟨_,_,rfl,relU_int,this⟩
theorem b_sorted (own:Bool:=false) {D:Dat}:Blt D (.builtin "sorted") (bSorted own):=⟨⟨_,fun X h=>by
    have:=(call_sortedL (X:=X));rw [h.K] at this;exact this,fun xs us H M Q' rm rus h Q c=>by
  unfold bSorted at h
  split at h
  · rename_i x
    obtain ⟨v,rfl,a1⟩:=rus.one
    split at h
    · rename_i ws e
      obtain ⟨ns,e2,h64,q⟩:=h
      obtain ⟨b,zvs,rfl,s2,r2⟩:=view_lst rm a1 e
      rw [intsOf_rel r2 e2] at s2
      exact ⟨b,ns,rfl,s2,h64,fun ns' q2 p1 p2 hq=>c.lst rm (relUs_ints ns') hq (q ns' p1 p2)⟩
    · exact h.elim
  · exact h.elim⟩⟩
theorem DatVs.len {K:PySem.W.Frag} {H:Hp}:∀ {ds:List PyData} {vs:List V},DatVs K H ds vs→ds.length=vs.length
  | [],vs,h=>by simp only [DatVs] at h;subst h;rfl
  | d :: ds,vs,h=>by
    simp only [DatVs] at h
    obtain ⟨v,vs',rfl,_,h2⟩:=h
    simp only [List.length_cons,DatVs.len h2]
open Classical in
def uInD (neg:Bool):UR2:=fun x y M Q=>∃ us ds d,items M y=some us∧toDs us=some ds∧topD M x=some d∧PyData.canLayAll0 ds=true∧d.canLay0=true∧d.depth≤60∧Q (.bl (if neg then !ds.any (fun e=>PyData.eqv e d) else ds.any (fun e=>PyData.eqv e d))) M
theorem list_mulW (l:Addr) (items:Array Value) (n:Nat) (dd:Option Addr) (sl:Array (Option Value)) (x:Int) (u:Tok) (hc0:¬(!Builtin.List.listFitsIndex x)=true) (hc1:¬items.size * x.toNat > (2 ^ 63 - 1) / 8) (hc2:¬Builtin.List.listTooLong (items.size * x.toNat)=true) :
    Meets (Builtin.«list.__mul__» ⟨[.ref l,.int x u],[]⟩) (fun _ R s=>s.heap.get? l=some { cls:=.type "list",dict:=dd,data:=.seq items n,slots:=sl }∧R (.ok (.ret (Value.ref s.heap.objs.size))) { s with heap:=s.heap.push { cls:=.type "list",data:=.seq (List.foldl (fun x1 x2=>x1++x2) #[] (List.replicate (if items.isEmpty=true then 0 else x.toNat) items)) 0 } }) :=
  .of_wp fun prog w A R s h=>by
    obtain ⟨hp,g,d,tk,os⟩:=s;obtain ⟨hl,h⟩:=h
    have hsz:=PySem.AutoListH.joined_fits hc2
    wp_walk;refine wpAny_ite_false (decide_eq_false (Nat.not_lt.mpr hsz)) ?_;wp_walk;exact ⟨_,rfl,h⟩
theorem int_rmulW (a:Int) (t:Tok) (l:Addr) (items:Array Value) (n:Nat) (dd:Option Addr) (sl:Array (Option Value)) :
    Meets (Builtin.«int.__rmul__» ⟨[.int a t,.ref l],[]⟩) (fun _ R s=>s.heap.get? l=some { cls:=.type "list",dict:=dd,data:=.seq items n,slots:=sl }∧R (.ok (.ret Value.notImplemented)) s) :=
  .of_wp fun prog w A R s h=>by obtain ⟨hp,g,d,tk,os⟩:=s;obtain ⟨hl,h⟩:=h;wp_walk;exact ⟨_,rfl,h⟩
def rRepL (K:PySem.W.Frag):R2:=fun x y H Q=>∃ l k xs,x=.ref l∧y=.int k∧SqL K H l xs∧-(2 ^ 63)≤k∧k < 2 ^ 63∧xs.length * k.toNat≤sizeLine ∧
  ∀ p,H p=none→Q (.ref p) (upd H p (.lst (List.replicate k.toNat xs).flatten))
theorem op_repL {X:Cx}:OpR X (binaryOp .Mult) (rRepL X.K):=by
  intro pins s σ H x y v u Q I rx ry h
  obtain ⟨l,k,xs,rfl,rfl,hH,h1,h2,hz,q⟩:=h
  cases rx
  obtain ⟨t,rfl⟩:=ry
  obtain ⟨its,r,p,hl'⟩:=I.list hH
  have hl:=r.length
  obtain ⟨⟨cls,dd,data,sl⟩,n,e,hc,_,hd⟩:=p
  simp only at hc hd
  subst hc hd
  have hlen:its.toArray.size * k.toNat≤sizeLine:=by rw [List.size_toArray,← hl];exact hz
  have hcap:¬ its.toArray.size * k.toNat > (2 ^ 63 - 1) / 8:=by
    have:(sizeLine:Nat)≤(2 ^ 63 - 1) / 8:=by decide
    omega
  have hfit:¬ (!Builtin.List.listFitsIndex k)=true:=by
    rw [fitsIndex_both h1 h2]
    exact Bool.false_ne_true
  have hlong:¬ Builtin.List.listTooLong (its.toArray.size * k.toNat)=true:=by
    rw [notLongL hlen]
    exact Bool.false_ne_true
  have hnew:List.foldl (fun x1 x2=>x1++x2) #[] (List.replicate (if its.toArray.isEmpty=true then 0 else k.toNat) its.toArray)=(List.replicate k.toNat its).flatten.toArray:=by
    have f0:∀ m:Nat,List.foldl (fun x1 x2=>x1++x2) #[] (List.replicate m its.toArray)=(List.replicate m its).flatten.toArray:=fun m=>by
      have:=foldl_rep its m []
      rw [List.nil_append] at this
      exact this
    rw [f0]
    cases its with
    | nil=>simp
    | cons a r'=>rw [if_neg (by simp)]
  refine wpAny_binaryOp_repeat_ref (T:="list") (U:="int") (by decide) ⟨_,e,rfl⟩ (fun s'=>typeIs_int s' k t) noFill_list_mul F.fills_int_mul F.slot_int_rmul repeat_list F.slot_int_index.lookup
    (call_meets F.slot_int_rmul (typeIs_int s k t) F.entry_int_rmul (F.args_int_rmul_2 _ _) (int_rmulW k t l its.toArray n dd sl)
      ⟨e,rfl,⟨_,e,rfl⟩,call_meets F.slot_list_mul ⟨_,e,rfl⟩ F.entry_list_mul (F.args_list_mul_2 _ _) (list_mulW l its.toArray n dd sl k t hfit hcap hlong) ⟨e,?_⟩⟩)
  rw [hnew]
  exact ⟨.ref _,_,I.lnew (t':=s.toks) (r.rep k.toNat) (by rw [len_rep,Nat.mul_comm];exact hz),rfl,q _ I.fresh⟩
def uRepL (o:Bool):UR2:=fun x y M Q=>match view M x,y with
  | .lst us,.int k=>-(2 ^ 63)≤k∧k < 2 ^ 63∧us.length * k.toNat≤sizeLine∧mkL o (List.replicate k.toNat us).flatten M Q
  | _,_=>False
theorem sim_repL {K:PySem.W.Frag} {o:Bool}:SimR2 K (rRepL K) (uRepL o):=fun x y u w H M Q' rm ru rw h Q c=>by
  unfold uRepL at h
  split at h
  · rename_i us k e
    obtain ⟨a,vs,rfl,s2,r2⟩:=view_lst rm ru e
    cases rw.int
    exact ⟨a,k,vs,rfl,rfl,s2,h.1,h.2.1,by rw [← r2.length];exact h.2.2.1,fun p hp=>c.lst rm (r2.rep k.toNat) hp h.2.2.2⟩
  · exact h.elim
theorem ue_repL {D:Dat} (own:Bool:=false) {a b:Expr} {ta tb:UE} {pos:Pos} (ha:PEU D a ta) (hb:PEU D b tb):PEU D (.BinOp a .Mult b pos) (uOp (uRepL own) ta tb):=ue_op (fun X h=>by have:=op_repL (X:=X);rw [h.K] at this;exact this) sim_repL ha hb
end U2
namespace U2
open PySem PySem.Spec PyProof.Rows L2
def NoKey (_:PySem.W.Frag):Prop:=True
def keyU:U→Option Key
  | .int i=>some (.inl i)
  | .str x=>some (.inr x)
  | _=>none
def keysU:List U→Option (List Key)
  | []=>some []
  | u :: us=>match keyU u,keysU us with
    | some k,some ks=>some (k :: ks)
    | _,_=>none
def kU:Key→U
  | .inl i=>.int i
  | .inr x=>.str x
theorem keyU_kU (k:Key):keyU (kU k)=some k:=by cases k <;> rfl
theorem keysU_kU:∀ ks:List Key,keysU (ks.map kU)=some ks
  | []=>rfl
  | k :: ks=>by simp only [List.map_cons,keysU,keyU_kU,keysU_kU ks]
theorem keyU_rel {K:PySem.W.Frag} {H:Hp} {M:MHp} {u:U} {v:V} {k:Key} (r:RelU K H M u v) (e:keyU u=some k):v=kV k:=by
  cases u with
  | int i=>cases e;exact r.int
  | str x=>cases e;exact r.str
  | _=>cases e
theorem keysU_rel {K:PySem.W.Frag} {H:Hp} {M:MHp}:∀ {us:List U} {vs:List V} {ks:List Key},RelUs K H M us vs→keysU us=some ks→vs=ks.map kV
  | [],_,_,r,e=>by cases e;exact r.inv_nil
  | u :: us,_,ks,r,e=>by
    obtain ⟨v,vs',rfl,a,b⟩:=r.inv_cons
    simp only [keysU] at e
    cases e1:keyU u with
    | none=>rw [e1] at e;cases e
    | some k =>
      cases e2:keysU us with
      | none=>rw [e1,e2] at e;cases e
      | some ks' =>
        rw [e1,e2] at e;cases e
        rw [keyU_rel a e1,keysU_rel b e2];rfl
section
variable {κ:Type} [DecidableEq κ]
def valU (kvs:List (κ × U)) (k:κ):Option U:=(kvs.find? fun kv=>decide (kv.1=k)).map (·.2)
def putU (kvs:List (κ × U)) (k:κ) (u:U):List (κ × U) :=
  if (kvs.any fun kv=>decide (kv.1=k))=true then kvs.map (fun kv=>if kv.1=k then (kv.1,u) else kv) else kvs++[(k,u)]
theorem valU_pos {p:κ × U} {r:List (κ × U)} {k:κ} (e:p.1=k):valU (p :: r) k=some p.2:=by simp [valU,List.find?_cons,e]
theorem valU_neg {p:κ × U} {r:List (κ × U)} {k:κ} (e:¬ p.1=k):valU (p :: r) k=valU r k:=by simp [valU,List.find?_cons,e]
theorem valU_any (k:κ):∀ kvs:List (κ × U),(kvs.any fun kv=>decide (kv.1=k))=(valU kvs k).isSome
  | []=>rfl
  | p :: r=>by
    rw [List.any_cons]
    by_cases e:p.1=k
    · simp only [valU_pos e,decide_eq_true e,Bool.true_or,Option.isSome_some]
    · rw [valU_neg e,decide_eq_false e,Bool.false_or];exact valU_any k r
theorem putU_new {kvs:List (κ × U)} {k:κ} {u:U} (h:valU kvs k=none):putU kvs k u=kvs++[(k,u)]:=by
  unfold putU
  rw [valU_any,h]
  exact if_neg (by decide)
variable {K:PySem.W.Frag} {H:Hp} {M:MHp}
theorem RelKv.any {kvs:List (κ × U)} {ws:List (κ × V)} (r:RelKv K H M kvs ws) (k:κ):(kvs.any fun kv=>decide (kv.1=k))=ws.any fun kv=>decide (kv.1=k):=by
  unfold RelKv at r
  induction r with
  | nil=>rfl
  | cons h t ih=>rw [List.any_cons,List.any_cons,ih,h.1]
def RelOU (K:PySem.W.Frag) (H:Hp) (M:MHp):Option U→Option V→Prop
  | none,none=>True
  | some u,some v=>RelU K H M u v
  | _,_=>False
theorem RelKv.val {kvs:List (κ × U)} {ws:List (κ × V)} (r:RelKv K H M kvs ws) (k:κ):RelOU K H M (valU kvs k) (valV ws k):=by
  unfold RelKv at r
  induction r with
  | nil=>exact True.intro
  | @cons p q ps qs h t ih =>
    obtain ⟨h1,h2⟩:=h
    by_cases e:p.1=k
    · rw [valU_pos e,valV_pos (h1.symm.trans e)];exact h2
    · rw [valU_neg e,valV_neg (fun z=>e (h1.trans z))];exact ih
theorem RelKv.repl {kvs:List (κ × U)} {ws:List (κ × V)} (r:RelKv K H M kvs ws) (k:κ) {u:U} {v:V} (ru:RelU K H M u v):RelKv K H M (kvs.map fun kv=>if kv.1=k then (kv.1,u) else kv) (ws.map fun kv=>if kv.1=k then (kv.1,v) else kv):=by
  unfold RelKv at r ⊢
  induction r with
  | nil=>exact .nil
  | @cons p q ps qs h t ih =>
    rw [List.map_cons,List.map_cons]
    refine .cons ?_ ih
    obtain ⟨h1,h2⟩:=h
    by_cases e:p.1=k
    · rw [if_pos e,if_pos (h1.symm.trans e)];exact ⟨h1,ru⟩
    · rw [if_neg e,if_neg (fun z=>e (h1.trans z))];exact ⟨h1,h2⟩
theorem RelKv.put {kvs:List (κ × U)} {ws:List (κ × V)} (r:RelKv K H M kvs ws) (k:κ) {u:U} {v:V} (ru:RelU K H M u v):RelKv K H M (putU kvs k u) (putK ws k v):=by
  unfold putU putK
  rw [r.any k]
  split
  · exact r.repl k ru
  · exact Paired.snoc r ⟨rfl,ru⟩
theorem RelKv.length {kvs:List (κ × U)} {ws:List (κ × V)} (r:RelKv K H M kvs ws):kvs.length=ws.length:=Paired.length r
theorem dic_kv:∀ {ws:List (κ × V)} {us:List U},RelUs K H M us (ws.map (·.2))→RelKv K H M ((ws.map (·.1)).zip us) ws
  | [],us,r=>by
    have:=r.length
    cases us with
    | nil=>exact .nil
    | cons _ _=>simp at this
  | w :: ws,us,r=>by
    cases us with
    | nil=>have:=r.length;simp at this
    | cons u us =>
      obtain ⟨v,vs',e,a,b⟩:=r.inv_cons
      rw [List.map_cons] at e
      cases e
      exact .cons ⟨rfl,a⟩ (dic_kv b)
end
def hd1:List Key→Key
  | [k]=>k
  | _=>.inl 0
def dvw (M:MHp):U→Option MO
  | .ref a=>M a
  | .dic ks true us=>some (.dT (ks.zip us))
  | .dic ks false us=>some (.dK ((ks.map hd1).zip us))
  | _=>none
section
variable {K:PySem.W.Frag} {H:Hp} {M:MHp} {x y:U} {v u:V}
theorem dvw_K {kvs:List (Key × U)} (rm:RelM K H M) (r:RelU K H M x v) (e:dvw M x=some (.dK kvs)):∃ a ws,v=.ref a∧H a=some (.dK ws)∧RelKv K H M kvs ws:=by
  cases x with
  | ref a=>obtain ⟨ws,h1,h2⟩:=rm a _ e;exact ⟨a,ws,r.ref,h1,h2⟩
  | dic ks tk us =>
    cases tk with
    | true=>cases e
    | false =>
      simp only [dvw] at e
      cases e
      simp only [RelU] at r
      obtain ⟨a,vs,rfl,m,⟨ws,h1,rfl,rfl⟩,ru⟩:=r
      refine ⟨a,ws,rfl,h1,?_⟩
      have e1:(ws.map (fun p=>[p.1])).map hd1=ws.map (·.1):=by rw [List.map_map];rfl
      rw [e1];exact dic_kv ru
  | _=>cases e
theorem dvw_T {kvs:List (List Key × U)} (rm:RelM K H M) (r:RelU K H M x v) (e:dvw M x=some (.dT kvs)):∃ a ws,v=.ref a∧H a=some (.dT ws)∧RelKv K H M kvs ws:=by
  cases x with
  | ref a=>obtain ⟨ws,h1,h2⟩:=rm a _ e;exact ⟨a,ws,r.ref,h1,h2⟩
  | dic ks tk us =>
    cases tk with
    | false=>cases e
    | true =>
      simp only [dvw] at e
      cases e
      simp only [RelU] at r
      obtain ⟨a,vs,rfl,m,⟨ws,h1,rfl,rfl⟩,ru⟩:=r
      exact ⟨a,ws,rfl,h1,dic_kv ru⟩
  | _=>cases e
theorem key_tup {ys:List U} {ks:List Key} (hk:NoKey K) (r:RelU K H M (.tup ys) u) (e:keysU ys=some ks):∃ b,u=.ref b∧H b=some (.tup (ks.map kV)):=by
  simp only [RelU] at r
  obtain ⟨b,vs,rfl,h,ru⟩:=r
  have:=keysU_rel ru e
  subst this
  exact ⟨b,rfl,h.2⟩
def dLook (tk:Bool) (M:MHp) (x y:U):Option (Option U):=match tk with
  | false=>match dvw M x,keyU y with
    | some (.dK kvs),some k=>some (valU kvs k)
    | _,_=>none
  | true=>match dvw M x,y with
    | some (.dT kvs),.tup ys=>(keysU ys).map (valU kvs)
    | _,_=>none
theorem dLook_rel {tk:Bool} {o:Option U} (hk:tk=true→NoKey K) (rm:RelM K H M) (rx:RelU K H M x v) (ry:RelU K H M y u) (e:dLook tk M x y=some o):∃ a ov,v=.ref a∧DGet H a u ov∧RelOU K H M o ov:=by
  cases tk with
  | false =>
    simp only [dLook] at e
    split at e
    · rename_i kvs k e1 e2
      cases e
      obtain ⟨a,ws,rfl,h1,h2⟩:=dvw_K rm rx e1
      have:=keyU_rel ry e2
      subst this
      exact ⟨a,_,rfl,.k h1,h2.val k⟩
    · cases e
  | true =>
    simp only [dLook] at e
    split at e
    · rename_i kvs ys e1
      obtain ⟨a,ws,rfl,h1,h2⟩:=dvw_T rm rx e1
      cases e3:keysU ys with
      | none=>rw [e3] at e;cases e
      | some ks =>
        rw [e3] at e;cases e
        obtain ⟨b,rfl,hb⟩:=key_tup (hk rfl) ry e3
        exact ⟨a,_,rfl,.t h1 hb,h2.val ks⟩
    · cases e
end
def uDGet (tk:Bool):UR2:=fun x y M Q=>match dLook tk M x y with
  | some (some u)=>Q u M
  | _=>False
def rDGet:R2:=fun x y H Q=>∃ a v,x=.ref a∧DGet H a y (some v)∧Q v H
theorem sim_dget {K:PySem.W.Frag} {tk:Bool} (hk:tk=true→NoKey K):SimR2 K rDGet (uDGet tk):=fun x y u w H M Q' rm ru rw h Q c=>by
  unfold uDGet at h
  split at h
  · rename_i z e
    obtain ⟨a,ov,rfl,g,r⟩:=dLook_rel hk rm ru rw e
    cases ov with
    | none=>exact r.elim
    | some v=>exact ⟨a,v,rfl,g,c.here rm r h⟩
  · exact h.elim
section
variable {D:Dat} {a b c e o i:Expr} {ta tb tc te to ti:UE} {pos p:Pos} {es:List Expr} {tas:UA} {x:Str}
theorem nokF {K:PySem.W.Frag}:false=true→NoKey K:=fun h=>by cases h
theorem ue_dget (tk:Bool) (hk:tk=true→NoKey D.K) (ha:PEU D a ta) (hb:PEU D b tb) (hs:NoSl b:=by intro _ _;rfl):PEU D (.Subscript a b pos) (uOp (uDGet tk) ta tb):=by
  obtain ⟨_,p,s⟩:=ha;obtain ⟨_,q,r⟩:=hb
  exact ⟨tOp rDGet _ _,fun X h=>pe_dget (hu_of h.room) (p X h) (q X h) hs,sim_op (sim_dget hk) s r⟩
def rDIn (neg:Bool):R2:=fun y x H Q=>∃ a o,x=.ref a∧DGet H a y o∧Q (.bl (if neg then !o.isSome else o.isSome)) H
def uDIn (tk neg:Bool):UR2:=fun y x M Q=>match dLook tk M x y with
  | some o=>Q (.bl (if neg then !o.isSome else o.isSome)) M
  | none=>False
theorem RelOU.isSome_eq {K:PySem.W.Frag} {H:Hp} {M:MHp} {o:Option U} {ov:Option V} (r:RelOU K H M o ov):o.isSome=ov.isSome:=by
  cases o <;> cases ov <;> first | rfl | exact r.elim
theorem sim_din {K:PySem.W.Frag} {tk neg:Bool} (hk:tk=true→NoKey K):SimR2 K (rDIn neg) (uDIn tk neg):=fun x y u w H M Q' rm ru rw h Q c=>by
  unfold uDIn at h
  split at h
  · rename_i o e
    obtain ⟨a,ov,rfl,g,r⟩:=dLook_rel hk rm rw ru e
    refine ⟨a,ov,rfl,g,?_⟩
    rw [← r.isSome_eq]
    exact c.here rm relU_bl h
  · exact h.elim
theorem op_din {X:Cx} {k:Nat} (hr:Room k X.A):OpR X (compareOp .In) (rDIn false):=by
  intro pins s σ H x y v u Q I rx ry h
  obtain ⟨a,o,rfl,g,q⟩:=h
  cases ry
  exact d_in (hu_of hr) I g rx fun s' I'=>⟨.bl o.isSome,H,I',rfl,q⟩
theorem op_dnotin {X:Cx} {k:Nat} (hr:Room k X.A):OpR X (compareOp .NotIn) (rDIn true):=by
  intro pins s σ H x y v u Q I rx ry h
  obtain ⟨a,o,rfl,g,q⟩:=h
  cases ry
  exact d_notIn (hu_of hr) I g rx fun s' I'=>⟨.bl (!o.isSome),H,I',rfl,q⟩
theorem k_din (tk:Bool) (hk:tk=true→NoKey D.K):Cmp D .In (uDIn tk false):=⟨⟨_,fun X h=>op_din h.room,sim_din hk⟩⟩
theorem k_dnotin (tk:Bool) (hk:tk=true→NoKey D.K):Cmp D .NotIn (uDIn tk true):=⟨⟨_,fun X h=>op_dnotin h.room,sim_din hk⟩⟩
def mD0 (tk:Bool):MO:=if tk then .dT [] else .dK []
def uDNew (tk:Bool):UE:=fun _ M Q=>∀ p,M p=none→Q (.ref p) (mup M p (mD0 tk))
theorem ue_dnew (tk:Bool):PEU D (.Dict [] [] pos) (uDNew tk):=by
  cases tk with
  | false =>
    refine ⟨tDNewK,fun X h=>pe_dnewK,fun σ τ H M Q' rs rm h Q c p hp=>?_⟩
    have st:Stp H M (upd H p (.dK [])) (mup M p (.dK [])):=Stp.own rm hp
    exact c (.ref p) _ _ _ st (rm.put st ⟨[],upd_same,.nil⟩) relU_ref (h p (rm.no hp))
  | true =>
    refine ⟨tDNewT,fun X h=>pe_dnewT,fun σ τ H M Q' rs rm h Q c p hp=>?_⟩
    have st:Stp H M (upd H p (.dT [])) (mup M p (.dT [])):=Stp.own rm hp
    exact c (.ref p) _ _ _ st (rm.put st ⟨[],upd_same,.nil⟩) relU_ref (h p (rm.no hp))
def uDPut (tk:Bool) (te to ti:UE):US:=fun D τ M=>te τ M fun v M1=>to τ M1 fun x M2=>ti τ M2 fun y M3=>match x with
  | .ref a=>match tk with
    | false=>match M3 a,keyU y with
      | some (.dK kvs),some k=>kvs.length < sizeLine∧D.nx τ (mup M3 a (.dK (putU kvs k v)))
      | _,_=>False
    | true=>match M3 a,y with
      | some (.dT kvs),.tup ys=>match keysU ys with
        | some ks=>kvs.length < sizeLine∧D.nx τ (mup M3 a (.dT (putU kvs ks v)))
        | none=>False
      | _,_=>False
  | _=>False
theorem us_dput (tk:Bool) (hk:tk=true→NoKey D.K) {tpos:Pos} (he:PEU D e te) (ho:PEU D o to) (hi:PEU D i ti) (hs:∀ env,swapsWith e (some (.Subscript o i tpos)) pos.line env=pure false:=by intro _;rfl):PSU D (.Assign [.Subscript o i tpos] e pos) (uDPut tk te to ti):=by
  obtain ⟨_,p1,s1⟩:=he;obtain ⟨_,p2,s2⟩:=ho;obtain ⟨_,p3,s3⟩:=hi
  refine ⟨_,fun X h=>ps_dput (hu_of h.room) (p2 X h) (p3 X h) (p1 X h) (hs _),fun σ τ H M D' rs rm h EE d=>?_⟩
  refine s1 σ τ H M _ rs rm h _ fun v vv M1 H1 st1 rm1 rv h1=>?_
  refine s2 σ τ H1 M1 _ (rs.stp st1) rm1 h1 _ fun x vx M2 H2 st2 rm2 rx h2=>?_
  refine s3 σ τ H2 M2 _ ((rs.stp st1).stp st2) rm2 h2 _ fun y vy M3 H3 st3 rm3 ry h3=>?_
  have rv3:=(rv.stp st2).stp st3
  have rs3:=((rs.stp st1).stp st2).stp st3
  cases x with
  | ref a =>
    cases (rx.stp st3).ref
    cases tk with
    | false =>
      dsimp only at h3
      split at h3
      · rename_i kvs k e1 e2
        obtain ⟨hl,q⟩:=h3
        obtain ⟨ws,hv,r⟩:=rm3 a _ e1
        have:=keyU_rel ry e2
        subst this
        have st4:Stp H3 M3 (upd H3 a (.dK (putK ws k vv))) (mup M3 a (.dK (putU kvs k v))):=Stp.write e1
        have rnew:RelM D.K (upd H3 a (.dK (putK ws k vv))) (mup M3 a (.dK (putU kvs k v))):=rm3.put st4 ⟨_,upd_same,(r.put k rv3).stp st4⟩
        exact ⟨a,_,rfl,.k hv (by rw [← r.length];exact hl),d.nx _ _ _ _ (((st1.trans st2).trans st3).trans st4) rnew (rs3.stp st4) q⟩
      · exact h3.elim
    | true =>
      dsimp only at h3
      split at h3
      · rename_i kvs ys e1
        split at h3
        · rename_i ks e2
          obtain ⟨hl,q⟩:=h3
          obtain ⟨ws,hv,r⟩:=rm3 a _ e1
          obtain ⟨b,rfl,hb⟩:=key_tup (hk rfl) ry e2
          have st4:Stp H3 M3 (upd H3 a (.dT (putK ws ks vv))) (mup M3 a (.dT (putU kvs ks v))):=Stp.write e1
          have rnew:RelM D.K (upd H3 a (.dT (putK ws ks vv))) (mup M3 a (.dT (putU kvs ks v))):=rm3.put st4 ⟨_,upd_same,(r.put ks rv3).stp st4⟩
          exact ⟨a,_,rfl,.t hv hb (by rw [← r.length];exact hl),d.nx _ _ _ _ (((st1.trans st2).trans st3).trans st4) rnew (rs3.stp st4) q⟩
        · exact h3.elim
      · exact h3.elim
  | _=>exact h3.elim
def isDb (M:MHp) (x:U):Bool:=match dvw M x with
  | some (.dK _)=>true
  | some (.dT _)=>true
  | _=>false
theorem isDb_rel {K:PySem.W.Frag} {H:Hp} {M:MHp} {x:U} {v:V} (rm:RelM K H M) (r:RelU K H M x v) (e:isDb M x=true):∃ a,v=.ref a∧IsD H a:=by
  unfold isDb at e
  split at e
  · rename_i kvs h
    obtain ⟨a,ws,rfl,h1,_⟩:=dvw_K rm r h
    exact ⟨a,rfl,.inl ⟨ws,.inl h1⟩⟩
  · rename_i kvs h
    obtain ⟨a,ws,rfl,h1,_⟩:=dvw_T rm r h
    exact ⟨a,rfl,.inr ⟨ws,.inl h1⟩⟩
  · cases e
theorem RelOU.getD {K:PySem.W.Frag} {H:Hp} {M:MHp} {o:Option U} {ov:Option V} {u:U} {v:V} (r:RelOU K H M o ov) (q:RelU K H M u v):RelU K H M (o.getD u) (ov.getD v):=by
  cases o <;> cases ov <;> first | exact q | exact r | exact r.elim
def uDGet1 (tk:Bool) (to ti:UE):UE:=fun τ M Q=>to τ M fun x M1=>isDb M1 x=true∧ti τ M1 fun y M2=>match dLook tk M2 x y with
  | some o=>Q (o.getD .non) M2
  | none=>False
theorem ue_dget1 (tk:Bool) (hk:tk=true→NoKey D.K) {apos:Pos} (ho:PEU D o to) (hi:PEU D e te) (hbase:∀ env,attributeBase o "get" env (eval o env)=eval o env:=by intro _;rfl)
    (hfew:∀ env,((backTo pos (starEach [e] env)).all (fun x=>!x.1) && (backToKw pos (keywordEach [] env)).all (fun x=>x.1.isSome) && decide ([e].length + ([]:List Keyword).length + (if ([]:List Keyword).isEmpty then 0 else 1) < 30))=true:=by intro _;rfl)
    (hline:(apos.endLine == pos.line)=true:=by rfl) (hs:∀ env,backTo pos (starEach [e] env)=[(false,eval e env)]:=by intro _;rfl):PEU D (.Call (.Attribute o "get" apos) [e] [] pos) (uDGet1 tk to te):=by
  obtain ⟨_,p1,s1⟩:=ho;obtain ⟨_,p2,s2⟩:=hi
  refine ⟨_,fun X h=>pe_dget1 (hu_of h.room) (p1 X h) (p2 X h) ⟨hbase _,hfew _,hline,hs _⟩,fun σ τ H M Q' rs rm h Q c=>?_⟩
  refine s1 σ τ H M _ rs rm h _ fun x vx M1 H1 st1 rm1 rx h1=>?_
  obtain ⟨hd,h1⟩:=h1
  obtain ⟨a,rfl,hd⟩:=isDb_rel rm1 rx hd
  refine ⟨a,rfl,hd,s2 σ τ H1 M1 _ (rs.stp st1) rm1 h1 _ fun y vy M2 H2 st2 rm2 ry h2=>?_⟩
  split at h2
  · rename_i o e
    obtain ⟨a',ov,e',g,r⟩:=dLook_rel hk rm2 (rx.stp st2) ry e
    cases e'
    exact ⟨ov,g,c _ _ M2 H2 (st1.trans st2) rm2 (r.getD relU_non) h2⟩
  · exact h2.elim
end
end U2
namespace U2
open PySem PySem.Spec PyProof.Rows L2
theorem newEnv_cell {M:Model} {A:Around} {E:Value→Shared→Prop} {s:Shared} {scope:Scope} {env:Env} {cl:List (Str × Addr)} {x0:Str} {g:Addr} {q:Str} {Q:Env→Shared→Prop} (hcf:∀ a cl,cellsFrom a scope.names cl=(x0,a) :: cl) (hpc:∀ h,pushCells h scope.names=h.push { cls:=.type "cell",data:=.cell none })
    (hQ:Q { scope:=scope,locals:=s.heap.objs.size,globals:=g,cells:=(x0,s.heap.objs.size + 1) :: cl,qual:=q,func:=none,code:=env.code,frame:=env.frame,builtins:=env.builtins } { s with heap:=(s.heap.push { cls:=.type "dict",data:=.dict #[] }).push { cls:=.type "cell",data:=.cell none } }) :
    wpAny M A (newFunctionEnv scope g cl [] q none .none (some env)) Q E s:=by
  simp only [newFunctionEnv,Option.isSome_some,if_true]
  refine wpAny_bind (wpAny_alloc ?_)
  refine wpAny_bind (wpAny_layCells _ (fun name kind cells=>by cases hkc:kind == NameKind.cell <;> simp [hkc]) _ _ _ _ ?_)
  rw [hcf,hpc]
  have hz:(s.heap.push { cls:=.type "dict",data:=.dict #[] }).objs.size=s.heap.objs.size + 1:=Heap.size_push ..
  simp only [List.forIn_nil]
  refine wpAny_bind (wpAny_pure (wpAny_pure ?_))
  rw [show ({ s with heap:=s.heap.push { cls:=.type "dict",data:=.dict #[] } }:Shared).heap.objs.size=s.heap.objs.size + 1 from hz]
  exact hQ
def compCxC (X:Cx) (N:List Str) (scope:Scope) (cl:List (Str × Addr)) (C:Addr) (s:Shared) (H:Hp) (fp:List Addr) (x0:Str):Cx:={ compCx X N scope cl C s H fp with fn:=fun y=>decide (y=x0) }
theorem comp_coreC {X:Cx} {x0:Str} {tg elt iter:Expr} {ifs:List Expr} {scope:Scope} {pos:Pos} {N:List Str} {k:Nat} {ix:List Nat} {wi:TI} {g:TG} {tc:TT} {te:TE}
    (hc:X.calm=true) (hi:PI X tg iter wi) (gk:GK k g)
    (hk:scope.kind=.function) (hcell:∀ y∈scope.names,y.2=.cell→y.1=x0) (hx0:scope.names.lookup x0=some .cell) (hcf:∀ a cl,cellsFrom a scope.names cl=(x0,a) :: cl) (hpc:∀ h,pushCells h scope.names=h.push { cls:=.type "cell",data:=.cell none }) (hnames:∀ y∈scope.names,y.2=.local→scope.names.lookup y.1=some .local)
    (hfree:∀ y∈scope.names,y.2=.free→X.env.kindOf y.1=some .cell∨X.env.kindOf y.1=some .free)
    (hone:∀ y∈scope.names,y.2=.free→scope.names.lookup y.1=some .free)
    (hN:∀ (j:Nat) x,N[k + j]?=some x→∃ i,ix[j]?=some i∧X.N[i]?=some x)
    (hcap:∀ (j:Nat) x,N[k + j]?=some x→scope.names.lookup x=some .free)
    (hlen:N.length=k + ix.length)
    (hg:∀ cl C s H fp,PG (compCxC X N scope cl C s H fp x0) tg g)
    (hif:∀ cl C s H fp,PIf (compCxC X N scope cl C s H fp x0) ifs tc)
    (he:∀ cl C s H fp,PE (compCxC X N scope cl C s H fp x0) elt te)
    (hs:∀ x,foldedSetIterable iter X.env x=pure x) {pins:List (Addr × Obj)} {s:Shared} {σ:L2.St} {H:Hp} {Q:VK} (I:L2.Inv X pins σ H s) (h:tComp k ix wi g tc te σ H Q) {pos':Pos} {use:Option (Value→Sem Unit)} {QQ:Value→Shared→Prop}
    (end_:∀ (D C:Addr) (H3:Hp) (s4:Shared),L2.Inv X pins σ H3 s4→(∃ m,s4.heap.Ns C m)→H3 C=none→C≠X.env.locals→X.s₀.heap.objs.size≤C→(∀ x c,X.env.cells.lookup x=some c→c≠C)→(∀ p∈X.pn++pins,p.1≠C) →
      (∀ h':Heap,Heap.SameBut C s4.heap h'→L2.Inv X pins σ H3 { s4 with heap:=h' })→Q (.ref D) H3→compPost (model X.prog X.w) X.A X.xe use QQ (.ref D) C (.ok .next) s4) :
    wpAny (model X.prog X.w) X.A (comprehension (.ListComp elt [⟨tg,iter,ifs,0⟩] scope pos) scope X.env pos' (newList []) false (eval iter X.env) use) QQ X.xe s:=by
  obtain ⟨cl,hclos,hcl,hcl2⟩:=closure_of (env:=X.env) (scope:=scope) (fun x hx e=>I.ok.has x.1 (hfree x hx e))
  refine wpAny_comprehension_free (use:=use) rfl hs hclos hk hnames (thn (hi pins s σ H _ I h) fun v s1 h1=>thn h1 fun itv s2 h2=>?_)
  obtain ⟨it,fp,tn,J,H2,rfl,I2,T,st2,f2,h2⟩:=h2
  refine wpAny_newObj_type (newEnv_cell hcf hpc ?_)
  dsimp only
  generalize hP:s2.heap.push { cls:=.type "list",dict:=none,data:=.seq ([]:List Value).toArray }=P2
  have hns₀:(P2.push { cls:=.type "dict",data:=.dict #[] }).Ns P2.objs.size (fun _=>none):=Heap.Ns.new P2 (.type "dict")
  have hsz0:(P2.push { cls:=.type "dict",data:=.dict #[] }).objs.size=P2.objs.size + 1:=Heap.size_push ..
  generalize hh₁:(P2.push { cls:=.type "dict",data:=.dict #[] }).push { cls:=.type "cell",data:=.cell none }=h₁
  have hns₁:h₁.Ns P2.objs.size (fun _=>none):=by rw [← hh₁];exact hns₀.keeps fun b o e=>Heap.get?_push_of_some _ e
  have hcel:h₁.get? (P2.objs.size + 1)=some { cls:=.type "cell",data:=.cell none }:=by
    rw [← hh₁,← hsz0];exact Heap.get?_push_size _ rfl
  have ext:∀ b o,P2.get? b=some o→h₁.get? b=some o:=fun b o e=>by rw [← hh₁];exact Heap.get?_push_of_some _ (Heap.get?_push_of_some _ e)
  have hCs:P2.objs.size=s2.heap.objs.size + 1:=by rw [← hP,Heap.size_push]
  have below:∀ b,b < s2.heap.objs.size→b≠P2.objs.size:=fun b hb=>by rw [hCs];omega
  have old:∀ b o,s2.heap.get? b=some o→h₁.get? b=some o:=fun b o e=>ext b o (hP ▸ Heap.get?_push_of_some _ e)
  have below':∀ b,b < s2.heap.objs.size→b≠P2.objs.size + 1:=fun b hb=>by rw [hCs];omega
  have cls:∀ x c,((x0,P2.objs.size + 1) :: cl).lookup x=some c→(x=x0∧c=P2.objs.size + 1)∨(x≠x0∧cl.lookup x=some c):=fun x c e=>by
    rw [List.lookup_cons] at e
    by_cases h:x=x0
    · subst h;simp only [beq_self_eq_true] at e;exact .inl ⟨rfl,(Option.some.inj e).symm⟩
    · have hb:(x == x0)=false:=by simpa using h
      rw [hb] at e;exact .inr ⟨h,e⟩
  have clne:∀ x,x≠x0→((x0,P2.objs.size + 1) :: cl).lookup x=cl.lookup x:=fun x h=>by
    have hb:(x == x0)=false:=by simpa using h
    rw [List.lookup_cons,hb]
  have hacc:h₁.get? s2.heap.objs.size=some { cls:=.type "list",dict:=none,data:=.seq ([]:List Value).toArray }:=ext _ _ (hP ▸ Heap.get?_push_size _ rfl)
  obtain ⟨W,⟨m0,w0⟩,turn⟩:=h2 s2.heap.objs.size (I2.hok.fresh (Nat.le_refl _))
  have fpl:∀ b∈fp,b < s2.heap.objs.size:=fun b hb=>let ⟨o,e,_⟩:=T.obj _ _ st2 b hb;Heap.lt_size e
  have σl:(capt k ix σ).length=N.length:=by rw [hlen];simp [capt]
  have i2:=I2.ok
  -- the block's context is in order
  have ok':(compCxC X N scope ((x0,P2.objs.size + 1) :: cl) P2.objs.size s2 H2 fp x0).Ok:=by
    refine ⟨i2.mod,hk,i2.glob,i2.blt,(by show s2.heap.objs.size≤P2.objs.size;rw [hCs];exact Nat.le_succ _),(fun x y c e1 e2=>?inj),fun x hx=>?_,(fun x c e e2=>?cab),i2.hd,i2.frames,.inl rfl,fun b hb=>?_,fun b o e=>I2.bs b o e,Nat.le_trans i2.bsz I2.sz,fun b o e hb=>?_,fun b hb hb2=>?_,I2.stack,I2.stkFree⟩
    case inj =>
      rcases cls x c e1 with ⟨a1,b1⟩ | ⟨a1,b1⟩ <;> rcases cls y c e2 with ⟨a2,b2⟩ | ⟨a2,b2⟩
      · rw [a1,a2]
      · exfalso
        obtain ⟨v,o,ho,_⟩:=I2.cell y c (hcl y c b2)
        exact below' c (Heap.lt_size ho) b1
      · exfalso
        obtain ⟨v,o,ho,_⟩:=I2.cell x c (hcl x c b1)
        exact below' c (Heap.lt_size ho) b2
      · exact i2.inj x y c (hcl x c b1) (hcl y c b2)
    case cab =>
      rcases cls x c e2 with ⟨a1,b1⟩ | ⟨a1,b1⟩
      · rw [b1];show s2.heap.objs.size≤_;rw [hCs];omega
      · exact absurd (of_decide_eq_true e) a1
    · -- a cell of the block's
      have hx':(relabel scope X.env).names.lookup x=some .cell∨(relabel scope X.env).names.lookup x=some .free:=hx
      have key:∀ (names:List (Str × NameKind)),(∀ y∈names,y.2=.cell→y.1=x0)→((names.map fun (n,k)=>if (k == NameKind.free && X.env.scope.kind == .function && X.env.kindOf n == some .cell) then (n,NameKind.cell) else (n,k)).lookup x=some .cell ∨
          (names.map fun (n,k)=>if (k == NameKind.free && X.env.scope.kind == .function && X.env.kindOf n == some .cell) then (n,NameKind.cell) else (n,k)).lookup x=some .free)→x=x0∨(x,NameKind.free)∈names:=by
        intro names
        induction names with
        | nil=>intro _ h;rcases h with h | h <;> cases h
        | cons y r ih =>
          obtain ⟨n,kd⟩:=y
          intro hnc h
          by_cases hxn:x=n
          · subst hxn
            by_cases hkc0:kd=.cell
            · exact .inl (hnc (x,kd) List.mem_cons_self hkc0)
            have hkc:kd≠.cell:=hkc0
            by_cases hkf:kd=.free
            · subst hkf;exact .inr List.mem_cons_self
            · exfalso
              have hb:(kd == NameKind.free)=false:=by simpa using hkf
              simp only [List.map_cons,hb,Bool.false_and,Bool.false_eq_true,if_false,List.lookup_cons,beq_self_eq_true] at h
              rcases h with h | h
              · exact hkc (Option.some.inj h)
              · exact hkf (Option.some.inj h)
          · have hb:(x == n)=false:=by simpa using hxn
            refine (ih (fun y hy=>hnc y (List.mem_cons_of_mem _ hy)) ?_).imp_right fun z=>List.mem_cons_of_mem _ z
            have e1:∀ z:NameKind,List.lookup x (((n,z)) :: (r.map fun (n,k)=>if (k == NameKind.free && X.env.scope.kind == .function && X.env.kindOf n == some .cell) then (n,NameKind.cell) else (n,k)))=List.lookup x (r.map fun (n,k)=>if (k == NameKind.free && X.env.scope.kind == .function && X.env.kindOf n == some .cell) then (n,NameKind.cell) else (n,k)):=fun z=>by rw [List.lookup_cons,hb]
            rw [List.map_cons] at h
            dsimp only at h
            split at h
            · rw [e1] at h;exact h
            · rw [e1] at h;exact h
      rcases key scope.names hcell hx' with hxx | hxx
      · exact ⟨P2.objs.size + 1,by show ((x0,P2.objs.size + 1) :: cl).lookup x=_;rw [hxx,List.lookup_cons];simp⟩
      · by_cases hne:x=x0
        · exact ⟨P2.objs.size + 1,by show ((x0,P2.objs.size + 1) :: cl).lookup x=_;rw [hne,List.lookup_cons];simp⟩
        · obtain ⟨c,hc⟩:=hcl2 x hxx
          exact ⟨c,by show ((x0,P2.objs.size + 1) :: cl).lookup x=_;rw [clne x hne];exact hc⟩
    · exact ⟨below b (fpl b hb),fun x c e=>by
        rcases cls x c e with ⟨_,b1⟩ | ⟨_,b1⟩
        · rw [b1];exact fun z=>below' b (fpl b hb) z.symm
        · exact (f2 b hb).2.2.2.2.1 x c (hcl x c b1)⟩
    · rcases (f2 b hb).2.2.2.1 with z | z
      · exact i2.noex b o e z
      · exact absurd (Nat.lt_of_lt_of_le (Heap.lt_size e) (Nat.le_trans i2.bsz z)) (Nat.lt_irrefl _)
    · rcases List.mem_cons.mp (I2.stkSub b hb2) with z | z
      · exact (f2 b hb).2.1 z
      · exact (f2 b hb).2.2.1 z
  have stat:∀ {H':Hp},(∀ b∈fp,H' b=none)→∀ b∈fp,FpOk (compCxC X N scope ((x0,P2.objs.size + 1) :: cl) P2.objs.size s2 H2 fp x0) [] H' b:=fun hn b hb =>
    ⟨hn b hb,below b (fpl b hb),fun z=>ok'.exfs b hb z,.inl hb,fun x c e=>by
        rcases cls x c e with ⟨_,b1⟩ | ⟨_,b1⟩
        · rw [b1];exact fun z=>below' b (fpl b hb) z.symm
        · exact (f2 b hb).2.2.2.2.1 x c (hcl x c b1),(fun p hp=>by cases hp)⟩
  have hD:H2 s2.heap.objs.size=none:=I2.hok.fresh (Nat.le_refl _)
  have relf:∀ x,scope.names.lookup x=some .free→(X.env.kindOf x=some .cell∨X.env.kindOf x=some .free)→((relabel scope X.env).names.lookup x=some .cell∨(relabel scope X.env).names.lookup x=some .free):=by
    intro x hx hkx
    have key:∀ (names:List (Str × NameKind)),names.lookup x=some .free→((names.map fun (n,k)=>if (k == NameKind.free && X.env.scope.kind == .function && X.env.kindOf n == some .cell) then (n,NameKind.cell) else (n,k)).lookup x=some .cell ∨
        (names.map fun (n,k)=>if (k == NameKind.free && X.env.scope.kind == .function && X.env.kindOf n == some .cell) then (n,NameKind.cell) else (n,k)).lookup x=some .free):=by
      intro names
      induction names with
      | nil=>intro h;cases h
      | cons y r ih =>
        obtain ⟨n,kd⟩:=y
        intro h
        rw [List.lookup_cons] at h
        by_cases hxn:x=n
        · subst hxn
          simp only [beq_self_eq_true] at h
          cases h
          rw [List.map_cons]
          dsimp only
          split
          · left;simp [List.lookup_cons]
          · right;simp [List.lookup_cons]
        · have hb:(x == n)=false:=by simpa using hxn
          rw [hb] at h
          have:=ih h
          rw [List.map_cons]
          dsimp only
          split
          · rw [List.lookup_cons,hb];exact this
          · rw [List.lookup_cons,hb];exact this
    exact key scope.names hx
  have Istart:∀ tk,Inv (compCxC X N scope ((x0,P2.objs.size + 1) :: cl) P2.objs.size s2 H2 fp x0) [] (capt k ix σ) (upd H2 s2.heap.objs.size (.lst [])) { s2 with heap:=h₁,toks:=tk }:=fun tk=>by
    refine ⟨ok',rfl,I2.bare,Un.laid old (Nat.le_refl _) hD,⟨_,hns₁,fun i x v e1 e2 e3=>?_⟩,fun x c e=>?_,?_,fun x c e=>?_,(fun p hp=>by cases hp),I2.hok.laid old (Nat.le_refl _) ⟨Nat.zero_le _,[],_,.nil,hacc⟩,σl⟩
    · by_cases hik:i < k
      · exfalso
        unfold capt at e2
        rw [List.getElem?_append_left (by simpa using hik),List.getElem?_replicate] at e2
        split at e2 <;> cases e2
      · have ej:i=k + (i - k):=by omega
        have e1':N[k + (i - k)]?=some x:=by rw [← ej];exact e1
        obtain ⟨i0,hi0,hXN⟩:=hN (i - k) x e1'
        have hfx:=hcap (i - k) x e1'
        have hmem:(x,NameKind.free)∈scope.names:=PySem.mem_of_lookup hfx
        have hkx:=hfree _ hmem rfl
        have e4:σ[i0]?=some (some v):=by
          unfold capt at e2
          rw [List.getElem?_append_right (by simpa using Nat.le_of_not_lt hik),List.getElem?_map] at e2
          simp only [List.length_replicate,hi0,Option.map_some,Option.some.injEq] at e2
          cases z:σ[i0]? with
          | none=>rw [z] at e2;cases e2
          | some y=>rw [z] at e2;simp only [Option.getD_some] at e2;rw [e2]
        obtain ⟨m2,hn2,hl2⟩:=I2.loc
        obtain ⟨u,ru,lk⟩:=hl2 i0 x v hXN e4 (by rcases hkx with z | z;exact .inr (.inl z);exact .inr (.inr z))
        rcases lk with ⟨z,_⟩ | ⟨_,c,hc1,hc2⟩
        · exfalso
          have z':X.env.kindOf x=some .local:=z
          rcases hkx with y | y <;> (rw [z'] at y;cases y)
        · obtain ⟨c',hc'⟩:=hcl2 x hmem
          have e5:=hcl x c' hc'
          rw [hc1] at e5;cases e5
          obtain ⟨o,ho,hd⟩:=hc2
          have hne:x≠x0:=fun z=>by rw [z,hx0] at hfx;cases hfx
          exact ⟨u,ru,.inr ⟨relf x hfx hkx,c,by show ((x0,P2.objs.size + 1) :: cl).lookup x=_;rw [clne x hne];exact hc',o,old _ _ ho,hd⟩⟩
    · rcases cls x c e with ⟨_,b1⟩ | ⟨_,b1⟩
      · rw [b1];exact ⟨none,_,hcel,rfl⟩
      · obtain ⟨v,o,ho,hd⟩:=I2.cell x c (hcl x c b1)
        exact ⟨v,o,old _ _ ho,hd⟩
    · show upd H2 s2.heap.objs.size (.lst []) P2.objs.size=none
      rw [upd_ne (show P2.objs.size≠s2.heap.objs.size by rw [hCs];exact Nat.succ_ne_self _)]
      exact I2.hok.fresh (show s2.heap.objs.size≤P2.objs.size by rw [hCs];exact Nat.le_succ _)
    · rcases cls x c e with ⟨_,b1⟩ | ⟨_,b1⟩
      · have hne:P2.objs.size + 1≠s2.heap.objs.size:=by rw [hCs];omega
        have hle:s2.heap.objs.size≤P2.objs.size + 1:=by rw [hCs];omega
        rw [b1,upd_ne hne]
        exact I2.hok.fresh hle
      · have e':=hcl x c b1
        obtain ⟨v,o,ho,hd⟩:=I2.cell x c e'
        rw [upd_ne (Nat.ne_of_lt (Heap.lt_size ho))]
        exact I2.freeC x c e'
  have st1:tn 0 h₁:=T.keep 0 _ _ st2 fun b hb o e=>old b o e
  have fr1:∀ b∈fp,upd H2 s2.heap.objs.size (.lst []) b=none:=fun b hb=>by rw [upd_ne (Nat.ne_of_lt (fpl b hb))];exact (f2 b hb).1
  -- behind the block
  have fin:∀ (H3:Hp) (s4:Shared),Inv (compCxC X N scope ((x0,P2.objs.size + 1) :: cl) P2.objs.size s2 H2 fp x0) [] (capt k ix σ) H3 s4→∀ h':Heap,Heap.SameBut P2.objs.size s4.heap h'→Inv X pins σ H3 { s4 with heap:=h' }:=fun H3 s4 I4 h' sb=>by
    have kp:∀ b o,b < s2.heap.objs.size→s4.heap.get? b=some o→h'.get? b=some o:=fun b o hb e=>sb.extBut b o (below b hb) e
    have u:Un (frs X.stack) fp H2 H3 s2.heap s4.heap:=I4.base
    refine I2.call' (ch:=fp) (H':=H3) I4.os ⟨fun b o q n hb hx=>kp b o (Heap.lt_size q) (u.keep b o q n hb hx),fun b o q n hb hx=>?_,u.free,fun b o q hx=>?_,u.tups,u.frzs,u.tbls⟩ (fun a o e=>?_) I4.bare fun b hb=>⟨(f2 b hb).2.2.2.1,(f2 b hb).2.1,(f2 b hb).2.2.2.2.1,(f2 b hb).2.2.2.2.2⟩
    · obtain ⟨sl,e⟩:=u.slot b o q n hb hx
      exact ⟨sl,kp b _ (Heap.lt_size q) e⟩
    · obtain ⟨o',e⟩:=u.there b o q hx
      exact ⟨o',kp b _ (Heap.lt_size q) e⟩
    · have nC:H3 P2.objs.size=none:=I4.free
      refine (I4.hok a o e).stay (fun b z hb q=>sb.extBut b z ?_ q) (fun _ q=>q) fun _ _ q=>q
      rcases hb with rfl | hb
      · exact ne_of_none e nC
      · exact ne_of_none hb nC
  have loop:∀ tk,codeAny (model X.prog X.w) X.A (.compLoop (.ListComp elt [⟨tg,iter,ifs,0⟩] scope pos) 0 (.ref it) (.ref s2.heap.objs.size) (compEnvC scope ((x0,P2.objs.size + 1) :: cl) P2.objs.size X.env))
      (compPost (model X.prog X.w) X.A X.xe use QQ (.ref s2.heap.objs.size) P2.objs.size) { s2 with heap:=h₁,toks:=tk }:=fun tk=>by
    refine compLoop_tg (fun n s'=>∃ i H',Inv (compCxC X N scope ((x0,P2.objs.size + 1) :: cl) P2.objs.size s2 H2 fp x0) [] (capt k ix σ) H' s'∧tn i s'.heap∧(∀ b∈fp,H' b=none)∧W i n H') ?_ m0 ⟨0,_,Istart tk,st1,fr1,w0⟩
    rintro n s3 ⟨i,H3,I3,st3,fr3,w3⟩
    rcases turn i n H3 w3 with ⟨stop,q⟩ | ⟨go,step⟩
    · refine thn (T.done (compCxC X N scope ((x0,P2.objs.size + 1) :: cl) P2.objs.size s2 H2 fp x0) rfl rfl rfl hc i [] s3 _ H3 (fun _ _=>False) I3 (stat fr3) st3 stop) fun r s4 ⟨hr,I4⟩=>?_
      subst hr
      obtain ⟨m,hn,_⟩:=I4.loc
      refine end_ s2.heap.objs.size P2.objs.size H3 s4 (fin H3 s4 I4 s4.heap (Heap.SameBut.refl ..)) ⟨m,hn⟩ I4.free (Ne.symm (below _ I2.lt)) (Nat.le_trans I2.sz (show s2.heap.objs.size≤P2.objs.size by rw [hCs];exact Nat.le_succ _)) (fun x c e=>?_) (fun p hp=>below _ (Heap.lt_size (I2.pin p hp).1)) (fin H3 s4 I4) q
      obtain ⟨v,o,ho,_⟩:=I2.cell x c e
      exact below _ (Heap.lt_size ho)
    · refine thn (T.item (compCxC X N scope ((x0,P2.objs.size + 1) :: cl) P2.objs.size s2 H2 fp x0) rfl rfl rfl hc i [] s3 _ H3 (fun _ _=>False) I3 (stat fr3) st3 go) fun r s4 ⟨u,hr,h4⟩=>?_
      subst hr
      refine thn h4 fun _ s5 ⟨x,H5,I5,r5,y5,st5,fr5⟩=>?_
      have I5':=I5.pinned (stat fr5) (T.obj _ _ st5)
      refine thn (hg ((x0,P2.objs.size + 1) :: cl) P2.objs.size s2 H2 fp _ s5 _ H5 x u _ I5' r5 (gk _ _ _ _ (step x H5 y5))) fun _ s6 ⟨σ6,H6,I6,ag,q6⟩=>?_
      have again:∀ {s7:Shared} {H7:Hp} {m':Nat},Inv (compCxC X N scope ((x0,P2.objs.size + 1) :: cl) P2.objs.size s2 H2 fp x0) ([]++pinsAt fp s5.heap) σ6 H7 s7→m' < n→W (i + 1) m' H7→∃ m,m < n∧∃ i H',Inv (compCxC X N scope ((x0,P2.objs.size + 1) :: cl) P2.objs.size s2 H2 fp x0) [] (capt k ix σ) H' s7∧tn i s7.heap∧(∀ b∈fp,H' b=none)∧W i m H':=fun {s7 H7 m'} I7 hm w7=>by
        refine ⟨m',hm,i + 1,H7,(I7.unpinned).weak (by rw [σl];exact (I7.len).symm) (fun j v e=>?_),T.keep _ _ _ st5 fun b hb o e=>(I7.pin (b,o) (List.mem_append_right _ (List.mem_append_right _ (mem_pinsAt hb e)))).1,fun b hb=>?_,w7⟩
        · by_cases hj:j < k
          · exfalso
            unfold capt at e
            rw [List.getElem?_append_left (by simpa using hj),List.getElem?_replicate] at e
            split at e <;> cases e
          · rw [ag j (by omega)];exact e
        · obtain ⟨o,e,d⟩:=T.obj _ _ st5 b hb
          exact (I7.pin (b,o) (List.mem_append_right _ (List.mem_append_right _ (mem_pinsAt hb e)))).2.1
      refine thn (hif ((x0,P2.objs.size + 1) :: cl) P2.objs.size s2 H2 fp _ s6 σ6 H6 _ I6 q6) fun ok s7 ⟨H7,I7,q7⟩=>?_
      cases ok with
      | false =>
        obtain ⟨m',hm,w7⟩:=q7
        exact again I7 hm w7
      | true =>
        refine thn (he ((x0,P2.objs.size + 1) :: cl) P2.objs.size s2 H2 fp _ s7 σ6 H7 _ I7 q7) fun y s8 ⟨yv,H8,I8,r8,ys,hD8,hz8,m',hm,w8⟩=>?_
        refine thn (mt_append _ s8 σ6 H8 (.ref s2.heap.objs.size) [yv] (.ref s2.heap.objs.size) [y] (fun v H9=>H9=upd H8 s2.heap.objs.size (.lst (ys++[yv]))) I8 rfl (.cons r8 .nil) ⟨_,ys,yv,rfl,rfl,hD8,hz8,rfl⟩) fun _ s9 ⟨_,H9,I9,_,e9⟩=>?_
        subst e9
        exact again I9 hm w8
  exact codeAny_compStart_list (loop _) (T.self _ 0 _ _ _ st1 (loop _))
theorem Has.compC {D:Dat} {X:Cx} (h:Has D X) (N:List Str) (scope:Scope) (cl:List (Str × Addr)) (C:Addr) (s:Shared) (H:Hp) (fp:List Addr) (x0:Str):Has (compD D N scope) (compCxC X N scope cl C s H fp x0) :=
  ⟨h.prog,h.w,h.K,h.mg,h.base,rfl,by show relabelSc scope X.env.scope=relabelSc scope D.sc;rw [h.sc],h.room,h.calm,rfl,fun z=>by cases z⟩
theorem ue_compC {D:Dat} {pos px:Pos} {te:UE} (own:Bool) (N:List Str) (ix:List Nat) {x0:Str} {scope:Scope} {iter elt:Expr} {wi:UI} (hi:PIU D (.Name x0 px) iter wi) (he:PEU (compD D N scope) elt te) (hN0:N[0]?=some x0:=by rfl) (hNd:N.Nodup:=by decide +kernel)
    (hk:scope.kind=.function:=by rfl) (hcell:∀ y∈scope.names,y.2=.cell→y.1=x0:=by decide +kernel) (hx0:scope.names.lookup x0=some .cell:=by rfl) (hcf:∀ a cl,cellsFrom a scope.names cl=(x0,a) :: cl:=by intros;rfl) (hpc:∀ h,pushCells h scope.names=h.push { cls:=.type "cell",data:=.cell none }:=by intros;rfl)
    (hnames:∀ y∈scope.names,y.2=.local→scope.names.lookup y.1=some .local:=by first | decide +kernel | (dsimp only;decide +kernel) | (dsimp only [compD,relabelSc];decide +kernel))
    (hfree:∀ y∈scope.names,y.2=.free→D.sc.names.lookup y.1=some .cell∨D.sc.names.lookup y.1=some .free:=by first | decide +kernel | (dsimp only;decide +kernel) | (dsimp only [compD,relabelSc];decide +kernel)) (hone:∀ y∈scope.names,y.2=.free→scope.names.lookup y.1=some .free:=by first | decide +kernel | (dsimp only;decide +kernel) | (dsimp only [compD,relabelSc];decide +kernel))
    (hN:ix.map (fun i=>D.N[i]?)=(N.drop 1).map some:=by rfl) (hcap:∀ x∈N.drop 1,scope.names.lookup x=some .free:=by first | decide +kernel | (dsimp only;decide +kernel) | (dsimp only [compD,relabelSc];decide +kernel)) (hlen:N.length=1 + ix.length:=by rfl)
    (hloc:Loc (relabelSc scope D.sc) x0:=by first | exact Or.inr rfl | exact Or.inr (by decide +kernel))
    (hs:∀ env x,foldedSetIterable iter env x=pure x:=by intro _ _;rfl):PEU D (.ListComp elt [⟨.Name x0 px,iter,[],0⟩] scope pos) (uComp own 1 ix wi (hName 0) (fun _ M Q=>Q true M) te):=by
  obtain ⟨_,p1,s1⟩:=hi;obtain ⟨_,p4,s4⟩:=he
  have hN':∀ (j:Nat) x,N[1 + j]?=some x→∃ i,ix[j]?=some i∧D.N[i]?=some x:=fun j x e=>by
    have e1:((N.drop 1).map some)[j]?=some (some x):=by rw [List.getElem?_map,List.getElem?_drop,e];rfl
    rw [← hN,List.getElem?_map] at e1
    cases q:ix[j]? with
    | none=>rw [q] at e1;cases e1
    | some i=>rw [q] at e1;exact ⟨i,rfl,Option.some.inj e1⟩
  have hcap':∀ (j:Nat) x,N[1 + j]?=some x→scope.names.lookup x=some .free:=fun j x e=>hcap x (List.mem_of_getElem? (i:=j) (by rw [List.getElem?_drop];exact e))
  refine ⟨tComp 1 ix _ (gName 0) tYes _,fun X h=>?_,sim_comp s1 (sim_gname 0) (fun σ τ H M Q' rs rm q Q c=>c true M H (Stp.refl _ _) rm q) s4⟩
  intro pins s σ H Q I q
  rw [eval_ListComp]
  refine comp_coreC (use:=none) (x0:=x0) h.calm (p1 X h) (gk_name (by decide)) hk hcell hx0 hcf hpc hnames (fun y hy e=>by show X.env.scope.names.lookup y.1=_∨X.env.scope.names.lookup y.1=_;rw [h.sc];exact hfree y hy e) hone (fun j x e=>by rw [h.N];exact hN' j x e) hcap' hlen
    (fun cl C s H fp=>pg_name (i:=0) hNd hN0 (by show Loc (relabelSc scope X.env.scope) x0;rw [h.sc];exact hloc) (.inl (decide_eq_true rfl))) (fun cl C s H fp=>pif_nil) (fun cl C s H fp=>p4 _ (h.compC N scope cl C s H fp x0)) (hs _) I q fun D' C H3 s4 I4 ⟨m,hn⟩ _ _ _ _ _ fin q=>?_
  exact ⟨m,hn,fun h' sb=>⟨.ref D',H3,fin h' sb,rfl,q⟩⟩
end U2
namespace U2
open PySem PySem.Spec PyProof.Rows L2
theorem owner_rvd:Manifest.owners.lookup (String.ofList ['d','e','s','r','e','v','e','r'].reverse)=some Manifest.sig_reversed:=by kernel_rfl
theorem slot_rvd_next:Slot "reversed" "__next__" "reversed.__next__" :=
  .of (owner:="reversed") (n:="__next__") (by rw [typeLookup_type,builtinLookup_eq_fast];kernel_rfl) (by decide +kernel) (by decide +kernel) (by decide +kernel)
    (by first | exact .inl (by decide +kernel) | exact .inr (by decide +kernel)) (by rw [isSubtype_type];kernel_rfl)
theorem entry_rvd_next:entryFor table "reversed.__next__"=some Builtin.«reversed.__next__»:=entryFor_of_tree (by kernel_rfl)
theorem args_rvd_next (a:Value):argsOk "reversed.__next__" ⟨[a],[]⟩:=by
  unfold argsOk;rw [signature?_of (id:="reversed.__next__") (n:=['_','_','t','x','e','n','_','_']) (o:=['d','e','s','r','e','v','e','r']) (by kernel_rfl) owner_rvd];kernel_rfl
theorem slot_rvd_iter:Slot "reversed" "__iter__" "reversed.__iter__" :=
  .of (owner:="reversed") (n:="__iter__") (by rw [typeLookup_type,builtinLookup_eq_fast];kernel_rfl) (by decide +kernel) (by decide +kernel) (by decide +kernel)
    (by first | exact .inl (by decide +kernel) | exact .inr (by decide +kernel)) (by rw [isSubtype_type];kernel_rfl)
theorem args_rvd_iter (a:Value):argsOk "reversed.__iter__" ⟨[a],[]⟩:=by
  unfold argsOk;rw [signature?_of (id:="reversed.__iter__") (n:=['_','_','r','e','t','i','_','_']) (o:=['d','e','s','r','e','v','e','r']) (by kernel_rfl) owner_rvd];kernel_rfl
theorem entry_rvd_iter:entryFor table "reversed.__iter__"=some Builtin.«dict_keyiterator.__iter__» :=
  entryFor_alias (id':="dict_keyiterator.__iter__") (by kernel_rfl) (by first | rfl | decide +kernel | (unfold String.splitOn;simp +decide [String.splitOnAux])) (by decide +kernel) (by kernel_rfl)
theorem nolen_rvd:typeLookup (.type "reversed") "__len__"=pure none:=by rw [typeLookup_type,builtinLookup_eq_fast];kernel_rfl
theorem slot_rvd_hint:Slot "reversed" "__length_hint__" "reversed.__length_hint__" :=
  .of (owner:="reversed") (n:="__length_hint__") (by rw [typeLookup_type,builtinLookup_eq_fast];kernel_rfl) (by decide +kernel) (by decide +kernel) (by decide +kernel)
    (by first | exact .inl (by decide +kernel) | exact .inr (by decide +kernel)) (by rw [isSubtype_type];kernel_rfl)
theorem entry_rvd_hint:entryFor table "reversed.__length_hint__"=some Builtin.«reversed.__length_hint__»:=entryFor_of_tree (by kernel_rfl)
theorem args_rvd_hint (a:Value):argsOk "reversed.__length_hint__" ⟨[a],[]⟩:=by
  unfold argsOk;rw [signature?_of (id:="reversed.__length_hint__") (n:="__length_hint__".toList.reverse) (o:=['d','e','s','r','e','v','e','r']) (by kernel_rfl) owner_rvd];kernel_rfl
theorem norev_tuple:typeLookup (.type "tuple") "__reversed__"=pure none:=by rw [typeLookup_type,builtinLookup_eq_fast];kernel_rfl
theorem slot_rvd_init:Slot "reversed" "__init__" "object.__init__" :=
  .of (owner:="object") (n:="__init__") (by rw [typeLookup_type,builtinLookup_eq_fast];kernel_rfl) (by decide +kernel) (by decide +kernel) (by decide +kernel)
    (by first | exact .inl (by decide +kernel) | exact .inr (by decide +kernel)) (by rw [isSubtype_type];kernel_rfl)
theorem called_rvd:TypeCalled "reversed" "reversed.__new__" "object.__init__" :=
  ⟨by decide +kernel,F.create_reversed,⟨_,_,F.mro_reversed⟩,F.made_reversed,by decide +kernel,F.sub_reversed_self,slot_rvd_init⟩
def rvdObj (t:Addr) (i:Int):Obj:={ cls:=.type "reversed",data:=.fields #[.ref t,rawInt i] }
def IsRvd (h:Heap) (a t:Addr) (i:Int):Prop:=∃ o,h.get? a=some o∧o.cls=.type "reversed"∧o.data=.fields #[.ref t,rawInt i]
theorem IsRvd.typeIs {s:Shared} {a l:Addr} {i:Int} (x:IsRvd s.heap a l i):s.TypeIs (.ref a) "reversed":=let ⟨o,ho,hc,_⟩:=x;⟨o,ho,hc⟩
theorem IsRvd.at {h h':Heap} {a l:Addr} {i:Int} (x:IsRvd h a l i) (e:∀ o,h.get? a=some o→h'.get? a=some o):IsRvd h' a l i:=let ⟨o,ho,r⟩:=x;⟨o,e _ ho,r⟩
section
variable {prog:Program} {w:World} {A:Around} {E:Value→Shared→Prop} {s:Shared}
theorem nodict_tuple:isSubtype (.type "tuple") (.type "dict")=pure false:=by rw [isSubtype_type];kernel_rfl
theorem code_rvd_new {t:Addr} {items:Array Value} {Q₁:Value→Shared→Prop} (ht:IsTup s.heap t items) (hz:(items.size:Int) < 2 ^ 63)
    (h:∀ tk,Q₁ (.ref s.heap.objs.size) { s with heap:=s.heap.push (rvdObj t ((items.size:Int) - 1)),toks:=tk }) :
    codeAny (model prog w) A (.call (.builtin "reversed.__new__") ⟨[.type "reversed",.ref t],[]⟩) (wants Q₁ E) s:=by
  refine codeAny_of_tree ?_
  show wpAny _ A.in1 (do checkBuiltinCall "reversed.__new__" ⟨[.type "reversed",.ref t],[]⟩;again (.builtin "reversed.__new__" ⟨[.type "reversed",.ref t],[]⟩)) _ _ s
  refine wpAny_bind (wpAny_of_eq (F.newCall_reversed_1 _) (wpAny_pure ⟨plainId_quiet F.plain_reversed_new _,codeAny_builtin F.entry_reversed_new ?_⟩))
  rw [Around.under_plainId F.plain_reversed_new _]
  unfold Builtin.«reversed.__new__»
  refine wpAny_bind (wpAny_of_eq (newClass_reversed _) ?_)
  try dsimp only
  refine wpAny_bind (wpAny_of_eq (a:=()) (by first | rfl | kernel_rfl) ?_)
  refine wpAny_bind (wpAny_of_eq (a:=()) (by first | rfl | kernel_rfl) ?_)
  try dsimp only
  refine wpAny_bind (wpAny_specialOf ht.typeIs norev_tuple ?_)
  try dsimp only
  refine wpAny_bind ?_
  show wpAny _ _ (isInstance (.ref t) (.type "dict") >>= _) _ _ _
  refine wpAny_bind (wpAny_isInstance (b:=false) ht.typeIs nodict_tuple ?_)
  show wpAny _ _ (specialOf (.ref t) (Str.ofString "__getitem__") >>= _) _ _ _
  refine wpAny_bind (wpAny_specialOf ht.typeIs slot_tuple_getitem.lookup ?_)
  dsimp only
  rw [if_pos (by decide +kernel)]
  refine wpAny_pure ?_
  rw [if_neg (by decide)]
  refine wpAny_bind (len_tuple ht hz ?_)
  refine wpAny_bind (m:=asInt? (.int items.size _)) (wpAny_pure ?_)
  dsimp only
  unfold Builtin.SmallTypes.newRecord
  refine wpAny_bind (wpAny_newObj_type ?_)
  exact wpAny_pure (h _)
theorem call_reversed_tuple {t:Addr} {items:Array Value} {Q:Value→Shared→Prop} (ht:IsTup s.heap t items) (hz:(items.size:Int) < 2 ^ 63)
    (h:∀ tk,Q (.ref s.heap.objs.size) { s with heap:=s.heap.push (rvdObj t ((items.size:Int) - 1)),toks:=tk }):wpAny (model prog w) A (call (.type "reversed") [.ref t]) Q E s:=by
  refine callType_codes (Q₁:=fun obj s₁=>s₁.TypeIs obj "reversed"∧Q obj s₁) called_rvd (F.typeCall_reversed_1 _) F.entry_object_init
    (code_rvd_new ht hz fun tk=>⟨⟨_,Heap.get?_push_size _ rfl,rfl⟩,h tk⟩) fun obj s₁ h₁=>?_
  exact ⟨h₁.1,F.args_object_init_2 obj _,object_init_meets called_rvd.init.lookup called_rvd.made (by decide) prog w A.in1 _ s₁ ⟨h₁.1,rfl,h₁.2⟩⟩
theorem pyIter_rvd {it l:Addr} {i:Int} {Q:Value→Shared→Prop} (hit:IsRvd s.heap it l i) (h:Q (.ref it) s):wpAny (model prog w) A (pyIter (.ref it)) Q E s:=by
  refine wpAny_pyIter_slot hit.typeIs slot_rvd_iter (wpAny_call_entry slot_rvd_iter hit.typeIs entry_rvd_iter ?_ (args_rvd_iter _))
  show wpAny _ _ (ret (.ref it)) _ _ s
  exact wpAny_pure ⟨_,rfl,"reversed",_,hit.typeIs,slot_rvd_next.lookup,h⟩
theorem pyNext_rvd_item {it t:Addr} {i:Nat} {items:Array Value} {x:Value} {Q:Option Value→Shared→Prop} (hit:IsRvd s.heap it t (i:Int)) (ht:IsTup s.heap t items) (hne:t≠it) (hz:(items.size:Int) < 2 ^ 63) (hx:items[i]?=some x)
    (hQ:∀ h' tk,IsRvd h' it t ((i:Int) - 1)→Heap.SameBut it s.heap h'→s.toks≤tk→Q (some x) { s with heap:=h',toks:=tk }):wpAny (model prog w) A (pyNext (.ref it)) Q E s:=by
  obtain ⟨o,ho,hc,hd⟩:=id hit
  have hi:i < items.size:=(Array.getElem?_eq_some_iff.mp hx).1
  unfold pyNext
  refine wpAny_bind (wpAny_attempt (wpAny_callSpecial?_slot (name:=Str.ofString "__next__") hit.typeIs slot_rvd_next
    (wpAny_call_entry slot_rvd_next hit.typeIs entry_rvd_next ?_ (args_rvd_next _))))
  unfold Builtin.«reversed.__next__»
  refine wpAny_bind (wpAny_of_eq (a:=(Value.ref it,[])) rfl ?_)
  try dsimp only
  refine wpAny_bind (wpAny_field ho hd (x:=.ref t) rfl ?_)
  refine wpAny_bind (wpAny_field ho hd (x:=rawInt (i:Int)) rfl ?_)
  show wpAny _ _ (if (i:Int) < 0 then _ else _) _ _ s
  rw [if_neg (by omega)]
  show wpAny _ _ (specialOf (.ref t) (Str.ofString "__getitem__") >>= _) _ _ _
  refine wpAny_bind (wpAny_specialOf ht.typeIs slot_tuple_getitem.lookup ?_)
  rw [if_neg (by simp)]
  refine wpAny_bind (wpAny_mkInt ?_)
  refine wpAny_bind (wpAny_attempt (PyProof.Rows.getItem_tuple ht (by omega) (by omega) (j:=i) (x:=x) ?_ hx ?_))
  · unfold seqIndex?;simp;omega
  dsimp only
  refine wpAny_bind (wpAny_field ho hd (x:=rawInt (i:Int)) rfl ?_)
  show wpAny _ _ (setField (.ref it) 1 (rawInt ((i:Int) - 1)) >>= _) _ _ _
  refine wpAny_bind (wpAny_setField ho hd (by simp) ?_)
  refine wpAny_pure ⟨x,rfl,wpAny_pure (hQ _ _ ?_ (Heap.SameBut.update ..) (Nat.le_succ _))⟩
  exact ⟨_,Heap.get?_update_self _ ho (Obj.isFreed_of_fields (Obj.data_mapFields hd _)),(Obj.cls_mapFields ..).trans hc,by
    rw [Obj.data_mapFields hd];simp⟩
theorem pyNext_rvd_end {it l:Addr} {Q:Option Value→Shared→Prop} (hh:A.handled=none) (hit:IsRvd s.heap it l (-1))
    (hQ:∀ h',Heap.ExtBut it s.heap h'→Q none { s with heap:=h' }):wpAny (model prog w) A (pyNext (.ref it)) Q E s:=by
  obtain ⟨o,ho,hc,hd⟩:=id hit
  unfold pyNext
  refine wpAny_bind (wpAny_attempt (wpAny_callSpecial?_slot (name:=Str.ofString "__next__") hit.typeIs slot_rvd_next
    (wpAny_call_entry slot_rvd_next hit.typeIs entry_rvd_next ?_ (args_rvd_next _))))
  unfold Builtin.«reversed.__next__»
  refine wpAny_bind (wpAny_of_eq (a:=(Value.ref it,[])) rfl ?_)
  try dsimp only
  refine wpAny_bind (wpAny_field ho hd (x:=.ref l) rfl ?_)
  refine wpAny_bind (wpAny_field ho hd (x:=rawInt (-1)) rfl ?_)
  show wpAny _ _ (if (-1:Int) < 0 then _ else _) _ _ s
  rw [if_pos (by decide)]
  refine wpAny_bind (wpAny_rule ?_)
  refine wpAny_bind ?_
  show wpAny _ _ (setField (.ref it) 1 (rawInt (-1)) >>= _) _ _ _
  refine wpAny_bind (wpAny_setField ho hd (by simp) ?_)
  generalize hf1:(Obj.mapFields fun x=>x.setIfInBounds 1 (rawInt (-1)))=f1
  have hd1:(f1 o).data=.fields #[.ref l,rawInt (-1)]:=by rw [← hf1,Obj.data_mapFields hd];simp
  have ho2:=Heap.get?_update_self (h:=s.heap) (a:=it) f1 ho (Obj.isFreed_of_fields hd1)
  refine wpAny_setField (s:={ s with heap:=s.heap.update it f1 }) ho2 hd1 (by simp) ?_
  generalize hf2:(Obj.mapFields fun x=>x.setIfInBounds 0 Value.none)=f2
  have hex:Heap.ExtBut it s.heap ((s.heap.update it f1).update it f2):=fun b o hb e=>(Heap.get?_update_other _ _ (Ne.symm hb)).trans ((Heap.get?_update_other _ _ (Ne.symm hb)).trans e)
  refine wpAny_bind ?_
  show wpAny _ _ (newExc (.type "StopIteration") [] >>= _) _ _ { s with heap:=(s.heap.update it f1).update it f2 }
  generalize (s.heap.update it f1).update it f2=h2 at hex
  refine wpAny_bind ?_
  simp only [newExc,newTuple]
  refine wpAny_bind (wpAny_newObj_type ?_ (by size_fits))
  refine wpAny_bind (m:=firstArgMember _ _) (wpAny_of_eq (a:=Value.none) (by first | rfl | (simp only [firstArgMember];rfl)) ?_)
  refine wpAny_newObj_type ?_ (by size_fits)
  simp only [raiseNew]
  refine wpAny_bind (wpAny_handled ?_)
  first | rw [show A.in1.handled=none from hh] | rw [hh]
  refine wpAny_bind (wpAny_pure (wpAny_throw ?_))
  refine wpAny_bind (wpAny_isInstance (T:="StopIteration") (b:=true) ⟨_,Heap.get?_push_size _ rfl,rfl⟩ isSubtype_stop ?_)
  exact wpAny_pure (hQ _ ((hex.push _).push _))
end
theorem walks_rvd {prog:Program} {w:World} {A:Around} (hh:A.handled=none) (I l:Addr) (hne:l≠I) (items:Array Value) (hz:(items.size:Int) < 2 ^ 63) :
    Walks prog w A I [I,l] [I] items.size (fun i v=>items[items.size - 1 - i]?=some v) (fun i h=>i≤items.size∧IsRvd h I l ((items.size:Int) - 1 - (i:Int))∧IsTup h l items) where
  sub:=fun b hb=>by simp at hb;simp [hb]
  frame:=fun _ _ _ x hk=>⟨x.1,x.2.1.at fun o e=>hk I (by simp) o e,let ⟨o,ho,r⟩:=x.2.2;⟨o,hk l (by simp) o ho,r⟩⟩
  item:=fun i s Q E hi x hQ=>by
    have e:(items.size:Int) - 1 - (i:Int)=((items.size - 1 - i:Nat):Int):=by omega
    have hit:=x.2.1
    rw [e] at hit
    have hx:items[items.size - 1 - i]?=some (items[items.size - 1 - i]'(by omega)):=Array.getElem?_eq_getElem (by omega)
    refine pyNext_rvd_item hit x.2.2 hne hz hx fun h' tk hit' hs' _=>?_
    have e2:((items.size - 1 - i:Nat):Int) - 1=(items.size:Int) - 1 - ((i + 1:Nat):Int):=by omega
    rw [e2] at hit'
    exact hQ _ h' tk hx ⟨hi,hit',let ⟨o,ho,r⟩:=x.2.2;⟨o,(hs'.2 l hne).trans ho,r⟩⟩ fun b o hb eo=>hs'.extBut b o (fun h=>hb (by simp [h])) eo
  done:=fun s Q E x hQ=>by
    have e:(items.size:Int) - 1 - (items.size:Int)=-1:=by omega
    have hit:=x.2.1
    rw [e] at hit
    exact pyNext_rvd_end hh hit fun h' he'=>hQ h' s.toks fun b o hb eo=>he' b o (fun h=>hb (by simp [h])) eo
  self:=fun _ _ _ _ x hQ=>pyIter_rvd x.2.1 hQ
section
variable {prog:Program} {w:World} {A:Around} {E:Value→Shared→Prop} {s:Shared}
theorem hint_rvd {it t:Addr} {items:Array Value} {Q:Value→Shared→Prop} (hit:IsRvd s.heap it t ((items.size:Int) - 1)) (ht:IsTup s.heap t items) (hz:(items.size:Int) < 2 ^ 63)
    (hQ:∀ tk u,s.toks≤tk→Q (.int items.size u) { s with toks:=tk }):wpAny (model prog w) A (call (.builtin "reversed.__length_hint__") [.ref it]) Q E s:=by
  obtain ⟨o,ho,hc,hd⟩:=id hit
  refine wpAny_call_entry slot_rvd_hint hit.typeIs entry_rvd_hint ?_ (args_rvd_hint _)
  unfold Builtin.«reversed.__length_hint__»
  refine wpAny_bind (wpAny_of_eq (a:=Value.ref it) rfl ?_)
  refine wpAny_bind (wpAny_field ho hd (x:=.ref t) rfl ?_)
  rw [if_neg (show ¬ ((Value.ref t == Value.none)=true) from Bool.false_ne_true)]
  refine wpAny_bind (len_tuple ht hz ?_)
  refine wpAny_bind (m:=asInt? (.int items.size _)) (wpAny_pure ?_)
  dsimp only
  refine wpAny_bind (wpAny_field ho hd (x:=rawInt ((items.size:Int) - 1)) rfl ?_)
  show wpAny _ _ (if (items.size:Int) < (items.size:Int) - 1 + 1 then _ else _) _ _ _
  rw [if_neg (by omega)]
  refine wpAny_bind (wpAny_mkInt (wpAny_pure ⟨_,rfl,?_⟩))
  rw [show (items.size:Int) - 1 + 1=items.size by omega]
  exact hQ _ _ (by show s.toks≤s.toks + 1 + 1 + 1;omega)
theorem collect_rvd {I l:Addr} {items:Array Value} {Q:List Value→Shared→Prop} (hh:A.handled=none) (hit:IsRvd s.heap I l ((items.size:Int) - 1)) (ht:IsTup s.heap l items) (hne:l≠I) (hn:items.size≤sizeLine)
    (hQ:∀ h' tk acc,s.heap.objs.size < h'.objs.size→(∀ b o,b≠I→s.heap.get? b=some o→h'.get? b=some o)→ItemsOf (fun i v=>items[items.size - 1 - i]?=some v) acc items.size→Q acc.toList { s with heap:=h',toks:=tk }):wpAny (model prog w) A (collect (.ref I)) Q E s:=by
  have hz:(items.size:Int) < 2 ^ 63:=by have:sizeLine=2 ^ 24:=rfl;omega
  have W:=(walks_rvd (prog:=prog) (w:=w) (A:=A.in1) hh I l hne items hz).toS
  obtain ⟨oi,hoi,_⟩:=id hit
  obtain ⟨ol,hol,_⟩:=id ht
  have hfp:∀ b∈[I,l],b < s.heap.objs.size:=fun b hb=>by
    rcases List.mem_cons.mp hb with rfl | hb
    · exact Heap.lt_size hoi
    · cases List.mem_singleton.mp hb;exact Heap.lt_size hol
  have e0:((items.size:Int) - 1 - ((0:Nat):Int))=(items.size:Int) - 1:=by omega
  have hst:(0≤items.size∧IsRvd s.heap I l ((items.size:Int) - 1 - ((0:Nat):Int))∧IsTup s.heap l items):=⟨Nat.zero_le _,by rw [e0];exact hit,ht⟩
  have hSf:s.heap.objs.size ∉ [I,l]:=fun hm=>Nat.lt_irrefl _ (hfp _ hm)
  have hSI:s.heap.objs.size≠I:=fun e=>hSf (by rw [e];exact List.mem_cons_self)
  unfold collect
  refine wpAny_bind (wpAny_runValue (codeAny_builtin F.entry_proto_collect ?_))
  rw [Around.under_plainId F.plain_proto_collect _]
  show wpAny _ A.in1 (newList [] >>= fun l=>again (.builtin "list.__iadd__" ⟨[l,.ref I],[]⟩)) _ _ s
  refine wpAny_bind (wpAny_newObj_type ?_)
  refine wpAny_pure ⟨plainId_quiet F.plain_list_iadd _,codeAny_builtin F.entry_list_iadd ?_⟩
  rw [Around.under_plainId F.plain_list_iadd _]
  have hst₁:=W.frame 0 s (s.heap.push { cls:=.type "list",data:=.seq ([]:List Value).toArray }) s.toks hst (Nat.le_refl _) fun b _ o e=>Heap.get?_push_of_some _ e
  have hS₁:(s.heap.push { cls:=.type "list",data:=.seq ([]:List Value).toArray }).get? s.heap.objs.size=some { cls:=.type "list",data:=.seq ([]:List Value).toArray }:=Heap.get?_push_size _ rfl
  have hT:∀ (s:Shared),IsRvd s.heap I l ((items.size:Int) - 1 - ((0:Nat):Int))→s.TypeIs (.ref I) "reversed":=fun s h=>h.typeIs
  have hT1:=hT _ hst₁.2.1
  show wpAny _ A.in1 (Builtin.List.listExtendWith (.ref s.heap.objs.size) (.ref I) (.ref s.heap.objs.size)) _ _ _
  unfold Builtin.List.listExtendWith
  refine wpAny_bind (wpAny_typeOf hT1 ?_)
  have h1:Builtin.List.listSameRef (.ref s.heap.objs.size) (.ref I)=false:=by simp [Builtin.List.listSameRef,hSI]
  have h2:(Value.type "reversed" == Value.type "list")=false:=by decide
  have h3:(Value.type "reversed" == Value.type "tuple")=false:=by decide
  simp only [h1,h2,h3,Bool.or_false,Bool.false_eq_true,if_false]
  refine wpAny_bind (W.self 0 _ _ _ hst₁ ?_)
  refine wpAny_bind (wpAny_holding ?_)
  unfold Builtin.List.listLengthHint
  refine wpAny_bind (wpAny_specialOf hT1 nolen_rvd ?_)
  show wpAny _ A.in1 (specialOf (Value.ref I) (Str.ofString "__length_hint__") >>= _) _ _ _
  refine wpAny_bind (wpAny_specialOf hT1 slot_rvd_hint.lookup ?_)
  generalize hid:("reversed.__length_hint__":String)=id0
  wp_delta
  rw [show splitId id0=some ("reversed","__length_hint__") from by subst hid;decide +kernel]
  subst hid
  refine wpAny_bind (wpAny_isInstance (b:=true) hT1 F.sub_reversed_self ?_)
  rw [if_neg (by decide)]
  show wpAny _ A.in1 (if PySem.Builtin.List.listTooLong 0=true then _ else _) _ _ _
  rw [if_neg (by decide)]
  refine wpAny_bind (wpAny_rule ?_)
  refine wpAny_bind (wpAny_of_eq (slot_rvd_hint.bind _) ?_)
  dsimp only
  refine wpAny_bind (wpAny_attempt (hint_rvd (items:=items) (by have:=hst₁.2.1;rw [e0] at this;exact this) hst₁.2.2 hz fun tk u htk=>?_))
  dsimp only
  have f1:Builtin.List.listFitsIndex (items.size:Int)=true:=by unfold Builtin.List.listFitsIndex;simp;omega
  have f2:¬ (items.size:Int) < 0:=by omega
  have f3:Builtin.List.listTooLong (items.size:Int).toNat=false:=by rw [Int.toNat_natCast];unfold Builtin.List.listTooLong;simp;omega
  have hst₂:=W.frame 0 _ _ tk hst₁ htk fun b _ o e=>e
  generalize hnn:(items.size:Int)=nn at f1 f2 f3
  clear hnn
  refine wpAny_bind (wpAny_of_eq (a:=some nn) rfl ?_)
  dsimp only
  rw [if_neg (by rw [f1];decide),if_neg f2,if_neg (by rw [f3];decide)]
  refine wpAny_pure ?_
  generalize (nn != 0)=bb
  cases bb with
  | false =>
    rw [if_neg (by decide)]
    refine wpAny_pure ⟨plainId_quiet F.plain_extend_loop _,codeAny_extend_loopS W hn _ hSf _ items.size 0 _ _ _ rfl (Nat.zero_le _) hst₂ hS₁ (ItemsOf.nil _) fun s' acc' c' hm hS' hacc=>?_⟩
    show wpAny _ A (load s.heap.objs.size >>= _) _ _ s'
    refine wpAny_bind (wpAny_load hS' ?_)
    have hm2:=Moved.drop_new (o:={ cls:=.type "list",data:=.seq ([]:List Value).toArray }) (tk:=tk) hm htk
    rw [Moved.eq_with hm2]
    exact wpAny_pure (hQ s'.heap s'.toks acc' (Heap.lt_size hS') (fun b o hb e=>hm2.heap b o (fun z=>hb (List.mem_singleton.mp z)) e) hacc)
  | true =>
    rw [if_pos (by decide)]
    refine wpAny_bind (wpAny_rule ?_)
    refine wpAny_bind ?_
    show wpAny _ A.in1 (updateSeq s.heap.objs.size (·.push .none) >>= fun _=>updateSeq s.heap.objs.size (·.pop)) _ _ _
    refine wpAny_bind (wpAny_updateSeq hS₁ rfl ?_)
    have hS₂:=Heap.get?_update_self (Obj.mapSeq (·.push Value.none)) hS₁ rfl
    refine wpAny_updateSeq hS₂ rfl ?_
    have hS₃:=Heap.get?_update_self (Obj.mapSeq (·.pop)) hS₂ rfl
    have oth:∀ b o,b≠s.heap.objs.size→(s.heap.push { cls:=.type "list",data:=.seq ([]:List Value).toArray }).get? b=some o →
        (((s.heap.push { cls:=.type "list",data:=.seq ([]:List Value).toArray }).update s.heap.objs.size (Obj.mapSeq (·.push Value.none))).update s.heap.objs.size (Obj.mapSeq (·.pop))).get? b=some o :=
      fun b o hb e=>(Heap.get?_update_other _ _ (Ne.symm hb)).trans ((Heap.get?_update_other _ _ (Ne.symm hb)).trans e)
    refine wpAny_pure ⟨plainId_quiet F.plain_extend_loop _,codeAny_extend_loopS W hn _ hSf _ items.size 0 _ _ _ rfl (Nat.zero_le _)
      (W.frame 0 ({ s with heap:=s.heap.push { cls:=.type "list",data:=.seq ([]:List Value).toArray },toks:=tk }:Shared) _ tk hst₂ (Nat.le_refl _) fun b hb o e=>oth b o (fun h=>hSf (h ▸ hb)) e) hS₃ (ItemsOf.nil _) fun s' acc' c' hm hS' hacc=>?_⟩
    show wpAny _ A (load s.heap.objs.size >>= _) _ _ s'
    refine wpAny_bind (wpAny_load hS' ?_)
    have hm0:Moved (s.heap.objs.size :: [I]) (fun a b=>b=a) ({ s with heap:=(s.heap.push { cls:=.type "list",data:=.seq ([]:List Value).toArray }),toks:=tk }:Shared) { s with heap:=((s.heap.push { cls:=.type "list",data:=.seq ([]:List Value).toArray }).update s.heap.objs.size (Obj.mapSeq (·.push Value.none))).update s.heap.objs.size (Obj.mapSeq (·.pop)),toks:=tk } :=
      ⟨fun b o hb e=>oth b o (fun h=>hb (by rw [h];exact List.mem_cons_self)) e,rfl,rfl,rfl,Nat.le_refl _⟩
    have hm2:=Moved.drop_new (o:={ cls:=.type "list",data:=.seq ([]:List Value).toArray }) (tk:=tk) (Moved.trans W.gtrans hm0 hm) htk
    rw [Moved.eq_with hm2]
    exact wpAny_pure (hQ s'.heap s'.toks acc' (Heap.lt_size hS') (fun b o hb e=>hm2.heap b o (fun z=>hb (List.mem_singleton.mp z)) e) hacc)
theorem call_tuple_rvd {I l:Addr} {items:Array Value} {Q:Value→Shared→Prop} (hh:A.handled=none) (hit:IsRvd s.heap I l ((items.size:Int) - 1)) (ht:IsTup s.heap l items) (hne:l≠I) (hn:items.size≤sizeLine)
    (hQ:∀ (h':Heap) tk acc,s.heap.objs.size < h'.objs.size→(∀ b o,b≠I→s.heap.get? b=some o→h'.get? b=some o)→ItemsOf (fun i v=>items[items.size - 1 - i]?=some v) acc items.size→Q (.ref h'.objs.size) { s with heap:=h'.push { cls:=.type "tuple",data:=.seq acc },toks:=tk }) :
    wpAny (model prog w) A (call (.type "tuple") [.ref I]) Q E s:=by
  have hnew:codeAny (model prog w) A.in1 (.call (.builtin "tuple.__new__") ⟨[.type "tuple",.ref I],[]⟩) (wants (fun obj s₁=>s₁.TypeIs obj "tuple"∧Q obj s₁) E) s:=by
    refine codeAny_of_tree ?_
    show wpAny _ A.in1.in1 (do checkBuiltinCall "tuple.__new__" ⟨[.type "tuple",.ref I],[]⟩;again (.builtin "tuple.__new__" ⟨[.type "tuple",.ref I],[]⟩)) _ _ s
    refine wpAny_bind (wpAny_of_eq (F.newCall_tuple_1 _) (wpAny_pure ⟨plainId_quiet F.plain_tuple_new _,codeAny_builtin F.entry_tuple_new ?_⟩))
    rw [Around.under_plainId F.plain_tuple_new _]
    have hsub:=sub_tuple_self
    have hinit:=init_tuple_lookup
    have hmh:=madeHere_tuple
    have hTI:=hit.typeIs
    have hh1:A.in1.in1.in1.handled=none:=hh
    have hh2:A.in1.in1.handled=none:=hh
    wp_walk using wpAny_typeOf hTI,collect_rvd (A:=A.in1.in1) hh2 hit ht hne hn
    intro h' tk acc hlt hk hacc
    show wpAny _ _ (Builtin.Tuple.tupleExact acc.toList.toArray >>= fun v=>ret v) _ _ _
    unfold Builtin.Tuple.tupleExact
    refine wpAny_bind (wpAny_newObj_type ?_ (by show acc.toList.toArray.size≤sizeLine;simp only [Array.toArray_toList];rw [hacc.1];exact hn))
    refine wpAny_pure ?_
    have e:acc.toList.toArray=acc:=by simp
    rw [e]
    exact ⟨⟨_,Heap.get?_push_size _ rfl,rfl⟩,hQ h' tk acc hlt hk hacc⟩
  refine callType_codes (Q₁:=fun obj s₁=>s₁.TypeIs obj "tuple"∧Q obj s₁) F.called_tuple (F.typeCall_tuple_1 _) F.entry_object_init hnew fun obj s₁ h₁=>?_
  exact ⟨h₁.1,F.args_object_init_2 obj _,object_init_meets F.called_tuple.init.lookup F.called_tuple.made (by decide) prog w A.in1 _ s₁ ⟨h₁.1,rfl,h₁.2⟩⟩
end
theorem boot_tuple':bootBuiltins "tuple"=some (.type "tuple"):=by kernel_rfl
def tTupRev (K:PySem.W.Frag) (ta:TA):TE:=fun σ H Q=>ta σ H fun vs H1=>∃ a xs,vs=[.ref a]∧SqT K H1 a xs∧∀ p,H1 p=none→Q (.ref p) (upd H1 p (.tup xs.reverse))
theorem pe_tupRev {X:Cx} {a:Expr} {ta:TA} {p1 p2 pos1 pos2:Pos} (hc:X.calm=true) (hgL:Gl X "tuple") (hmL:X.mg "tuple"=none) (hgR:Gl X "reversed") (hmR:X.mg "reversed"=none) (ha:PA X [a] ta) (hs:starEach [a] X.env=[(false,eval a X.env)])
    (hs2:starEach [.Call (.Name "reversed" p2) [a] [] pos2] X.env=[(false,eval (.Call (.Name "reversed" p2) [a] [] pos2) X.env)]) :
    PE X (.Call (.Name "tuple" p1) [.Call (.Name "reversed" p2) [a] [] pos2] [] pos1) (tTupRev X.K ta):=by
  intro pins s σ H Q I h
  refine Call_ (ld_blt I hgL hmL boot_tuple' (PyProof.Rows.callWith_type1 ?_ hs2 rfl))
  rw [hs2]
  show wpAny _ _ (spliced ((false,eval (.Call (.Name "reversed" p2) [a] [] pos2) X.env) :: backTo pos1 [])) _ _ s
  refine Calls.spliced_cons (Call_ (ld_blt I hgR hmR boot_reversed (PyProof.Rows.callWith_type1 (thn (ha pos2 pins s σ H _ I h) fun us s1 ⟨vs,H1,I1,r1,q1⟩=>?_) hs rfl)))
  obtain ⟨b,xs,e,hq,q⟩:=q1
  subst e
  cases r1 with
  | cons r rr =>
    cases rr
    cases r
    obtain ⟨its,rv,pl,hz⟩:=I1.tuple hq
    have hz2:its.toArray.size≤sizeLine:=by rw [List.size_toArray,← rv.length];exact hz
    obtain ⟨ol,hol,_⟩:=id pl
    refine call_reversed_tuple pl (by have:sizeLine=2 ^ 24:=rfl;omega) fun tk0=>Calls.spliced_nil ?_
    have hrev:IsRvd (s1.heap.push (rvdObj b ((its.toArray.size:Int) - 1))) s1.heap.objs.size b ((its.toArray.size:Int) - 1):=⟨_,Heap.get?_push_size _ rfl,rfl,rfl⟩
    refine call_tuple_rvd (s:={ s1 with heap:=s1.heap.push (rvdObj b ((its.toArray.size:Int) - 1)),toks:=tk0 }) (I1.ok.hd hc) hrev (pl.push _) (Nat.ne_of_lt (Heap.lt_size hol)) hz2 fun h' tk acc' hlt hk hacc=>?_
    have hacc':=items_rev hacc
    subst hacc'
    have hsz:s1.heap.objs.size≤h'.objs.size:=by
      have e1:(s1.heap.push (rvdObj b ((its.toArray.size:Int) - 1))).objs.size=s1.heap.objs.size + 1:=Heap.size_push ..
      have e2:(s1.heap.push (rvdObj b ((its.toArray.size:Int) - 1))).objs.size < h'.objs.size:=hlt
      omega
    have hD:H1 h'.objs.size=none:=I1.hok.fresh hsz
    refine ⟨.ref h'.objs.size,_,I1.laid (t':=tk) (o:=.tup xs.reverse) (fun c o e=>Heap.get?_push_of_some _ (hk c o (Nat.ne_of_lt (Heap.lt_size e)) (Heap.get?_push_of_some _ e))) hsz ⟨by rw [List.length_reverse];exact hz,its.reverse,rv.reverse,IsTup.new _ _⟩,rfl,q _ hD⟩
def uTupRev (ta:UA):UE:=fun τ M Q=>ta τ M fun us M1=>match us with
  | [.tup us]=>Q (.tup us.reverse) M1
  | _=>False
theorem sim_tupRev {K:PySem.W.Frag} {ta:TA} {ta':UA} (h:SimA K ta ta'):SimE K (tTupRev K ta) (uTupRev ta'):=fun σ τ H M Q' rs rm q Q c=>h σ τ H M _ rs rm q _ fun us vs M1 H1 s1 rm1 ru h1=>by
  split at h1
  · rename_i ws
    obtain ⟨v,rfl,a1⟩:=ru.one
    obtain ⟨a,zs,rfl,sq,r2⟩:=a1.tup
    exact ⟨a,zs,rfl,sq,fun p hp=>(Cont.stp c s1).tup rm1 r2.reverse hp h1⟩
  · exact h1.elim
theorem ue_tupRev {D:Dat} {a:Expr} {p1 p2 pos1 pos2:Pos} {ta:UA} (hmL:D.mg "tuple"=none) (hmR:D.mg "reversed"=none) (ha:PAU D [a] ta) (hgL:D.sc.names.lookup ("tuple":Str)=some .globalImplicit:=by rfl) (hgR:D.sc.names.lookup ("reversed":Str)=some .globalImplicit:=by rfl)
    (hs:∀ env,starEach [a] env=[(false,eval a env)]:=by intro _;rfl) (hs2:∀ env,starEach [.Call (.Name "reversed" p2) [a] [] pos2] env=[(false,eval (.Call (.Name "reversed" p2) [a] [] pos2) env)]:=by intro _;rfl) :
    PEU D (.Call (.Name "tuple" p1) [.Call (.Name "reversed" p2) [a] [] pos2] [] pos1) (uTupRev ta):=by
  obtain ⟨_,q,s⟩:=ha
  refine ⟨_,fun X h=>?_,sim_tupRev s⟩
  have:=pe_tupRev (X:=X) (p1:=p1) (p2:=p2) (pos1:=pos1) (pos2:=pos2) h.calm (by show X.env.scope.names.lookup _=_;rw [h.sc];exact hgL) (by rw [h.mg];exact hmL) (by show X.env.scope.names.lookup _=_;rw [h.sc];exact hgR) (by rw [h.mg];exact hmR) (q X h) (hs _) (hs2 _)
  rw [h.K] at this
  exact this
def rCount (K:PySem.W.Frag):V→List V→Hp→VK→Prop:=fun x vs H Q=>∃ p xs y,x=.ref p∧vs=[y]∧SqL K H p xs∧flatV y=true∧xs.all flatV=true∧Q (.int (xs.countP fun z=>eqV z y:Nat)) H
theorem countP_get {α β:Type} (f:α→Bool) (g:β→Bool):∀ (l:List α) (m:List β),l.length=m.length→(∀ (i:Nat) a b,l[i]?=some a→m[i]?=some b→f a=g b)→l.countP f=m.countP g
  | [],[],_,_=>rfl
  | [],_ :: _,h,_=>by cases h
  | _ :: _,[],h,_=>by cases h
  | a :: l,b :: m,h,k=>by
    rw [List.countP_cons,List.countP_cons,k 0 a b rfl rfl,countP_get f g l m (by simpa using h) fun i a b h1 h2=>k (i + 1) a b h1 h2]
theorem mt_count {X:Cx}:MtM X "list.count" (rCount X.K):=by
  intro pins s σ H x vs v us Q I rx rv h
  obtain ⟨p,xs,y,rfl,rfl,hq,fy,fs,q⟩:=h
  cases rx
  obtain ⟨u,rfl,ru⟩:=rv.one
  obtain ⟨its,r,pl,hz⟩:=I.list hq
  obtain ⟨⟨cls,dd,data,sl⟩,n,ho,hc,_,hd⟩:=pl
  simp only at hc hd
  subst hc hd
  refine call_meets F.slot_list_count ⟨_,ho,rfl⟩ F.entry_list_count (F.args_list_count_2 _ _)
    (SeqAt.list_countAt p its.toArray n dd sl u (eqU y)) ⟨ho,fun w' hw=>mem_eqAt ru fy r fs w' (by simpa using hw),?_⟩
  have e:(its.toArray.toList.countP (eqU y):Nat)=xs.countP fun z=>eqV z y:=by
    refine countP_get _ _ _ _ (by simp [r.length]) fun i a b h1 h2=>?_
    have h1':its[i]?=some a:=by simpa using h1
    obtain ⟨w',h3,h4⟩:=r.get h2
    rw [h1'] at h3;cases h3
    exact eqU_of h4 (List.all_eq_true.mp fs b (List.mem_of_getElem? h2))
  rw [e]
  exact ⟨.int _,H,I.tok _,⟨_,rfl⟩,q⟩
def intsU:List U→Option (List Int)
  | []=>some []
  | .int b :: r=>(intsU r).map (b :: ·)
  | _=>none
theorem intsU_rel {K:PySem.W.Frag} {H:Hp} {M:MHp}:∀ {us:List U} {vs:List V} {bs:List Int},RelUs K H M us vs→intsU us=some bs→vs=bs.map V.int
  | [],_,_,r,h=>by cases h;exact r.inv_nil
  | u :: us,_,bs,r,h=>by
    obtain ⟨v,vs',rfl,a,b⟩:=r.inv_cons
    cases u with
    | int y =>
      simp only [intsU] at h
      cases e:intsU us with
      | none=>rw [e] at h;cases h
      | some cs =>
        rw [e] at h
        cases h
        rw [intsU_rel b e,a.int];rfl
    | _=>cases h
theorem intsU_map:∀ l:List Int,intsU (l.map U.int)=some l
  | []=>rfl
  | a :: l=>by simp only [List.map_cons,intsU,intsU_map l,Option.map_some]
def mCount:U→List U→MHp→UK→Prop:=fun x ws M Q=>match view M x,ws with
  | .lst us,[.int w]=>∃ ns:List Int,intsU us=some ns∧Q (.int (ns.countP (· == w):Nat)) M
  | _,_=>False
theorem sim_count {K:PySem.W.Frag}:SimMt K (rCount K) mCount:=fun x xs u us H M Q' rm ru rus h Q c=>by
  unfold mCount at h
  split at h
  · rename_i ws w e
    obtain ⟨ss,h1,h4⟩:=h
    obtain ⟨a,vs,rfl,s2,r2⟩:=view_lst rm ru e
    rw [intsU_rel r2 h1] at s2
    obtain ⟨v,rfl,a1⟩:=rus.one
    cases a1.int
    refine ⟨a,_,_,rfl,rfl,s2,rfl,by simp [flatV],?_⟩
    have e3:((ss.map V.int).countP fun z=>eqV z (.int w))=ss.countP (· == w):=by
      rw [List.countP_map]
      refine List.countP_congr fun z _=>?_
      simp [eqV]
    rw [e3]
    exact c.here rm relU_int h4
  · exact h.elim
theorem ue_count {D:Dat} {o e:Expr} {ta:UE} {tas:UA} {pos apos:Pos} (ho:PEU D o ta) (ha:PAU D [e] tas) (hbase:∀ env,attributeBase o "count" env (eval o env)=eval o env:=by intro _;rfl)
    (hfew:∀ env,((backTo pos (starEach [e] env)).all (fun x=>!x.1) && (backToKw pos (keywordEach [] env)).all (fun x=>x.1.isSome) && decide ([e].length + ([]:List Keyword).length + (if ([]:List Keyword).isEmpty then 0 else 1) < 30))=true:=by intro _;rfl)
    (hline:(apos.endLine == pos.line)=true:=by rfl) (hs:∀ env,starEach [e] env=[(false,eval e env)]:=by intro _;rfl):PEU D (.Call (.Attribute o "count" apos) [e] [] pos) (uBM mCount ta tas):=by
  obtain ⟨_,p,s⟩:=ho;obtain ⟨_,q,r⟩:=ha
  refine ⟨_,fun X h=>?_,sim_bm sim_count s r⟩
  have:=pe_bm (cpos:=pos) (apos:=apos) PySem.F.plainAttrs_list PySem.F.slot_list_count PySem.F.type_list_count mt_count (p X h) (q X h) (hbase _) (hfew _) hline (hs _) (by rfl)
  rw [h.K] at this
  exact this
end U2
namespace K35
open PySem L2 U2
def top (i:Nat):Stmt:=PySem.Challenge.pw_rowsmith_k35_whole_a_tile_more_costs_no.main.body.getD i (.Pass ⟨0,0,0,0⟩)
abbrev s_parts_of:Stmt:=top 2
theorem sc_parts_of:FnScope ["shape"] ["shape"] (defScope s_parts_of):=⟨rfl,rfl,rfl,by decide +kernel,rfl,by decide +kernel,by decide +kernel⟩
abbrev s_places_of:Stmt:=top 3
theorem sc_places_of:FnScope ["shape","found","number","part"] ["shape"] (defScope s_places_of):=⟨rfl,rfl,rfl,by decide +kernel,rfl,by decide +kernel,by decide +kernel⟩
abbrev s_shape_at:Stmt:=top 4
theorem sc_shape_at:FnScope ["shape","place","here","number"] ["shape","place"] (defScope s_shape_at):=⟨rfl,rfl,rfl,by decide +kernel,rfl,by decide +kernel,by decide +kernel⟩
abbrev s_lies_on_leaf:Stmt:=top 5
theorem sc_lies_on_leaf:FnScope ["pattern","tree"] ["pattern","tree"] (defScope s_lies_on_leaf):=⟨rfl,rfl,rfl,by decide +kernel,rfl,by decide +kernel,by decide +kernel⟩
abbrev s_parts:Stmt:=top 7
theorem sc_parts:FnScope ["tree"] ["tree"] (defScope s_parts):=⟨rfl,rfl,rfl,by decide +kernel,rfl,by decide +kernel,by decide +kernel⟩
abbrev s_places:Stmt:=top 8
theorem sc_places:FnScope ["tree"] ["tree"] (defScope s_places):=⟨rfl,rfl,rfl,by decide +kernel,rfl,by decide +kernel,by decide +kernel⟩
abbrev s_tree_at:Stmt:=top 9
theorem sc_tree_at:FnScope ["tree","place"] ["tree","place"] (defScope s_tree_at):=⟨rfl,rfl,rfl,by decide +kernel,rfl,by decide +kernel,by decide +kernel⟩
abbrev s_holes:Stmt:=top 11
theorem sc_holes:FnScope ["pattern","found"] ["pattern"] (defScope s_holes):=⟨rfl,rfl,rfl,by decide +kernel,rfl,by decide +kernel,by decide +kernel⟩
abbrev s_lies:Stmt:=top 13
theorem sc_lies:FnScope ["pattern","tree"] ["pattern","tree"] (defScope s_lies):=⟨rfl,rfl,rfl,by decide +kernel,rfl,by decide +kernel,by decide +kernel⟩
abbrev s_tiles_at:Stmt:=top 15
theorem sc_tiles_at:FnScope ["table","tree","place","here","found","number","tile","spots"] ["table","tree","place"] (defScope s_tiles_at):=⟨rfl,rfl,rfl,by decide +kernel,rfl,by decide +kernel,by decide +kernel⟩
abbrev s_join_spots:Stmt:=top 16
theorem sc_join_spots:FnScope ["price","spots","values","joined","had"] ["price","spots","values","joined"] (defScope s_join_spots):=⟨rfl,rfl,rfl,by decide +kernel,rfl,by decide +kernel,by decide +kernel⟩
abbrev s_fill_least:Stmt:=top 17
theorem sc_fill_least:FnScope ["tiles","place","values","choices","joined","lowered","number","cls","price","spots","value"] ["tiles","place","values","choices","joined"] (defScope s_fill_least):=⟨rfl,rfl,rfl,by decide +kernel,rfl,by decide +kernel,by decide +kernel⟩
abbrev s_least_of_all:Stmt:=top 18
theorem sc_least_of_all:FnScope ["table","tree","joined","values","choices","place"] ["table","tree","joined"] (defScope s_least_of_all):=⟨rfl,rfl,rfl,by decide +kernel,rfl,by decide +kernel,by decide +kernel⟩
abbrev s_chosen_cover:Stmt:=top 19
theorem sc_chosen_cover:FnScope ["choices","cls","cover","waiting","spot","choice"] ["choices","cls"] (defScope s_chosen_cover):=⟨rfl,rfl,rfl,by decide +kernel,rfl,by decide +kernel,by decide +kernel⟩
abbrev s_as_paper:Stmt:=top 20
theorem sc_as_paper:FnScope ["table","tree","values"] ["table","tree","values"] (defScope s_as_paper):=⟨rfl,rfl,rfl,by decide +kernel,rfl,by decide +kernel,by decide +kernel⟩
abbrev s_joined_price:Stmt:=top 22
theorem sc_joined_price:FnScope ["price","prices"] ["price","prices"] (defScope s_joined_price):=⟨rfl,rfl,rfl,by decide +kernel,rfl,by decide +kernel,by decide +kernel⟩
abbrev s_labels:Stmt:=top 23
theorem sc_labels:FnScope ["table","tree"] ["table","tree"] (defScope s_labels):=⟨rfl,rfl,rfl,by decide +kernel,rfl,by decide +kernel,by decide +kernel⟩
abbrev s_least:Stmt:=top 25
theorem sc_least:FnScope ["table","tree","cls","choices"] ["table","tree","cls"] (defScope s_least):=⟨rfl,rfl,rfl,by decide +kernel,rfl,by decide +kernel,by decide +kernel⟩
abbrev s_law_draw:Stmt:=top 27
theorem sc_law_draw:FnScope ["tape","many","spot","cell","some","rest"] ["tape","many"] (defScope s_law_draw):=⟨rfl,rfl,rfl,by decide +kernel,rfl,by decide +kernel,by decide +kernel⟩
abbrev s_law_number:Stmt:=top 28
theorem sc_law_number:FnScope ["tape","some","way"] ["tape"] (defScope s_law_number):=⟨rfl,rfl,rfl,by decide +kernel,rfl,by decide +kernel,by decide +kernel⟩
abbrev s_law_pattern:Stmt:=top 29
theorem sc_law_pattern:FnScope ["tape","classes","left","room","way","ends","one","sign"] ["tape","classes","left","room"] (defScope s_law_pattern):=⟨rfl,rfl,rfl,by decide +kernel,rfl,by decide +kernel,by decide +kernel⟩
abbrev s_law_tile:Stmt:=top 30
theorem sc_law_tile:FnScope ["tape","classes","cls","pattern","cost"] ["tape","classes"] (defScope s_law_tile):=⟨rfl,rfl,rfl,by decide +kernel,rfl,by decide +kernel,by decide +kernel⟩
abbrev s_law_plain:Stmt:=top 31
theorem sc_law_plain:FnScope ["tape","classes","cls","here","some","found","pattern"] ["tape","classes"] (defScope s_law_plain):=⟨rfl,rfl,rfl,by decide +kernel,rfl,by decide +kernel,by decide +kernel⟩
abbrev s_law_table:Stmt:=top 32
theorem sc_law_table:FnScope ["tape","pool","at","many","classes","tiles","k","spot","names","found","tile","name"] ["tape"] (defScope s_law_table):=⟨rfl,rfl,rfl,by decide +kernel,rfl,by decide +kernel,by decide +kernel⟩
abbrev s_law_tree:Stmt:=top 33
theorem sc_law_tree:FnScope ["tape","left","room","way","one","sign"] ["tape","left","room"] (defScope s_law_tree):=⟨rfl,rfl,rfl,by decide +kernel,rfl,by decide +kernel,by decide +kernel⟩
abbrev s_law_under:Stmt:=top 34
theorem sc_law_under:FnScope ["low","high","one","other"] ["low","high"] (defScope s_law_under):=⟨rfl,rfl,rfl,by decide +kernel,rfl,by decide +kernel,by decide +kernel⟩
abbrev s_law_dearer:Stmt:=top 35
theorem sc_law_dearer:FnScope ["tape","table","tree","told","at","more","name","cls","pattern","cost","tile","dear","label","k","kind","uses"] ["tape","table","tree","told"] (defScope s_law_dearer):=⟨rfl,rfl,rfl,by decide +kernel,rfl,by decide +kernel,by decide +kernel⟩
abbrev s_law:Stmt:=top 36
theorem sc_law:FnScope ["script","tape","table","tree","told","some","spot","tiles","more","one","other","place","label"] ["script"] (defScope s_law):=⟨rfl,rfl,rfl,by decide +kernel,rfl,by decide +kernel,by decide +kernel⟩
inductive Op where
  | sum | less | by_
def Op.word:Op→Str
  | .sum=>"sum" | .less=>"less" | .by_=>"by"
inductive Tr where
  | num (n:Int) | name (x:Str) | turn (a:Tr) | two (o:Op) (a b:Tr)
def Tr.toU:Tr→U
  | .num n=>.tup [.str "num",.int n]
  | .name x=>.tup [.str "name",.str x]
  | .turn a=>.tup [.str "turn",a.toU]
  | .two o a b=>.tup [.str o.word,a.toU,b.toU]
def Tr.ok:Tr→Prop
  | .num _=>True
  | .name x=>PyData.strOk x=true∧x.length≤100
  | .turn a=>a.ok
  | .two _ a b=>a.ok∧b.ok
def Tr.dep:Tr→Nat
  | .num _=>1
  | .name _=>1
  | .turn a=>a.dep + 1
  | .two _ a b=>max a.dep b.dep + 1
inductive Pt where
  | hole (c:Str) | any | fr (l h:Int) | turn (a:Pt) | two (o:Op) (a b:Pt)
def Pt.toU:Pt→U
  | .hole c=>.tup [.str "at",.str c]
  | .any=>.tup [.str "any"]
  | .fr l h=>.tup [.str "from",.int l,.int h]
  | .turn a=>.tup [.str "turn",a.toU]
  | .two o a b=>.tup [.str o.word,a.toU,b.toU]
def Pt.ok:Pt→Prop
  | .hole c=>PyData.strOk c=true
  | .any=>True
  | .fr l h=>0≤l∧l≤h
  | .turn a=>a.ok
  | .two _ a b=>a.ok∧b.ok
def Pt.dep:Pt→Nat
  | .hole _=>1
  | .any=>1
  | .fr _ _=>1
  | .turn a=>a.dep + 1
  | .two _ a b=>max a.dep b.dep + 1
def Pt.holes:Pt→Nat
  | .hole _=>1
  | .any=>0
  | .fr _ _=>0
  | .turn a=>a.holes
  | .two _ a b=>a.holes + b.holes
def Pt.leafy:Pt→Bool
  | .turn _=>false
  | .two _ _ _=>false
  | _=>true
def Pt.ends:Pt→List Pt
  | .turn a=>a.ends
  | .two _ a b=>a.ends++b.ends
  | p=>[p]
instance:DecidableEq Op:=fun a b=>by cases a <;> cases b <;> first | exact isTrue rfl | exact isFalse (fun h=>nomatch h)
def lieF:Pt→Tr→Bool
  | .hole _,_=>true
  | .any,.name _=>true
  | .any,_=>false
  | .fr l h,.num n=>decide (l≤n) && decide (n≤h)
  | .fr _ _,_=>false
  | .turn p,.turn a=>lieF p a
  | .turn _,_=>false
  | .two o p q,.two o' a b=>decide (o=o') && (lieF p a && lieF q b)
  | .two _ _ _,_=>false
theorem Op.word_inj {a b:Op}:a.word=b.word ↔ a=b:=by
  cases a <;> cases b <;> first | exact ⟨fun _=>rfl,fun _=>rfl⟩ | exact ⟨fun h=>absurd h (by decide +kernel),fun h=>nomatch h⟩
def SIGNS:List (Str × Fl):=[("turn",.int 1),("sum",.int 2),("less",.int 2),("by",.int 2)]
theorem app_toList (x y:Str):(x++y).cps.toList=x.cps.toList++y.cps.toList:=by
  show (x.cps++y.cps).toList=_
  simp
theorem atI_mem {α:Type} {l:List α} {i:Int} {c:α} (h:atI l i=some c):c∈l:=by
  unfold atI at h
  cases e:ixN l.length i with
  | none=>rw [e] at h;cases h
  | some j=>rw [e] at h;exact List.mem_of_getElem? h
theorem small {n:Nat} (h:n≤100000):n≤sizeLine:=Nat.le_trans h (by decide)
theorem szl {n:Nat} (h:n≤100000):(n≤sizeLine)=True:=eq_true (small h)
theorem w_at_any:(Str.ofString "at"=Str.ofString "any")=False:=eq_false (by decide +kernel)
theorem w_at_from:(Str.ofString "at"=Str.ofString "from")=False:=eq_false (by decide +kernel)
theorem w_at_turn:(Str.ofString "at"=Str.ofString "turn")=False:=eq_false (by decide +kernel)
theorem w_at_num:(Str.ofString "at"=Str.ofString "num")=False:=eq_false (by decide +kernel)
theorem w_at_name:(Str.ofString "at"=Str.ofString "name")=False:=eq_false (by decide +kernel)
theorem w_any_at:(Str.ofString "any"=Str.ofString "at")=False:=eq_false (by decide +kernel)
theorem w_any_from:(Str.ofString "any"=Str.ofString "from")=False:=eq_false (by decide +kernel)
theorem w_any_turn:(Str.ofString "any"=Str.ofString "turn")=False:=eq_false (by decide +kernel)
theorem w_any_num:(Str.ofString "any"=Str.ofString "num")=False:=eq_false (by decide +kernel)
theorem w_any_name:(Str.ofString "any"=Str.ofString "name")=False:=eq_false (by decide +kernel)
theorem w_from_at:(Str.ofString "from"=Str.ofString "at")=False:=eq_false (by decide +kernel)
theorem w_from_any:(Str.ofString "from"=Str.ofString "any")=False:=eq_false (by decide +kernel)
theorem w_from_turn:(Str.ofString "from"=Str.ofString "turn")=False:=eq_false (by decide +kernel)
theorem w_from_num:(Str.ofString "from"=Str.ofString "num")=False:=eq_false (by decide +kernel)
theorem w_from_name:(Str.ofString "from"=Str.ofString "name")=False:=eq_false (by decide +kernel)
theorem w_turn_at:(Str.ofString "turn"=Str.ofString "at")=False:=eq_false (by decide +kernel)
theorem w_turn_any:(Str.ofString "turn"=Str.ofString "any")=False:=eq_false (by decide +kernel)
theorem w_turn_from:(Str.ofString "turn"=Str.ofString "from")=False:=eq_false (by decide +kernel)
theorem w_turn_num:(Str.ofString "turn"=Str.ofString "num")=False:=eq_false (by decide +kernel)
theorem w_turn_name:(Str.ofString "turn"=Str.ofString "name")=False:=eq_false (by decide +kernel)
theorem w_num_at:(Str.ofString "num"=Str.ofString "at")=False:=eq_false (by decide +kernel)
theorem w_num_any:(Str.ofString "num"=Str.ofString "any")=False:=eq_false (by decide +kernel)
theorem w_num_from:(Str.ofString "num"=Str.ofString "from")=False:=eq_false (by decide +kernel)
theorem w_num_turn:(Str.ofString "num"=Str.ofString "turn")=False:=eq_false (by decide +kernel)
theorem w_num_name:(Str.ofString "num"=Str.ofString "name")=False:=eq_false (by decide +kernel)
theorem w_name_at:(Str.ofString "name"=Str.ofString "at")=False:=eq_false (by decide +kernel)
theorem w_name_any:(Str.ofString "name"=Str.ofString "any")=False:=eq_false (by decide +kernel)
theorem w_name_from:(Str.ofString "name"=Str.ofString "from")=False:=eq_false (by decide +kernel)
theorem w_name_turn:(Str.ofString "name"=Str.ofString "turn")=False:=eq_false (by decide +kernel)
theorem w_name_num:(Str.ofString "name"=Str.ofString "num")=False:=eq_false (by decide +kernel)
theorem w_o_at (o:Op):(o.word=Str.ofString "at")=False:=eq_false (by cases o <;> decide +kernel)
theorem w_o_any (o:Op):(o.word=Str.ofString "any")=False:=eq_false (by cases o <;> decide +kernel)
theorem w_o_from (o:Op):(o.word=Str.ofString "from")=False:=eq_false (by cases o <;> decide +kernel)
theorem w_o_turn (o:Op):(o.word=Str.ofString "turn")=False:=eq_false (by cases o <;> decide +kernel)
theorem w_o_num (o:Op):(o.word=Str.ofString "num")=False:=eq_false (by cases o <;> decide +kernel)
theorem w_o_name (o:Op):(o.word=Str.ofString "name")=False:=eq_false (by cases o <;> decide +kernel)
theorem w_at_o (o:Op):(Str.ofString "at"=o.word)=False:=eq_false (by cases o <;> decide +kernel)
theorem w_any_o (o:Op):(Str.ofString "any"=o.word)=False:=eq_false (by cases o <;> decide +kernel)
theorem w_from_o (o:Op):(Str.ofString "from"=o.word)=False:=eq_false (by cases o <;> decide +kernel)
theorem w_turn_o (o:Op):(Str.ofString "turn"=o.word)=False:=eq_false (by cases o <;> decide +kernel)
theorem w_num_o (o:Op):(Str.ofString "num"=o.word)=False:=eq_false (by cases o <;> decide +kernel)
theorem w_name_o (o:Op):(Str.ofString "name"=o.word)=False:=eq_false (by cases o <;> decide +kernel)
theorem ww:(Str.ofString "at"=Str.ofString "any")=False∧(Str.ofString "at"=Str.ofString "from")=False∧(Str.ofString "at"=Str.ofString "turn")=False∧(Str.ofString "at"=Str.ofString "num")=False∧(Str.ofString "at"=Str.ofString "name")=False∧(Str.ofString "any"=Str.ofString "at")=False∧(Str.ofString "any"=Str.ofString "from")=False∧(Str.ofString "any"=Str.ofString "turn")=False∧(Str.ofString "any"=Str.ofString "num")=False∧(Str.ofString "any"=Str.ofString "name")=False∧(Str.ofString "from"=Str.ofString "at")=False∧(Str.ofString "from"=Str.ofString "any")=False∧(Str.ofString "from"=Str.ofString "turn")=False∧(Str.ofString "from"=Str.ofString "num")=False∧(Str.ofString "from"=Str.ofString "name")=False∧(Str.ofString "turn"=Str.ofString "at")=False∧(Str.ofString "turn"=Str.ofString "any")=False∧(Str.ofString "turn"=Str.ofString "from")=False∧(Str.ofString "turn"=Str.ofString "num")=False∧(Str.ofString "turn"=Str.ofString "name")=False∧(Str.ofString "num"=Str.ofString "at")=False∧(Str.ofString "num"=Str.ofString "any")=False∧(Str.ofString "num"=Str.ofString "from")=False∧(Str.ofString "num"=Str.ofString "turn")=False∧(Str.ofString "num"=Str.ofString "name")=False∧(Str.ofString "name"=Str.ofString "at")=False∧(Str.ofString "name"=Str.ofString "any")=False∧(Str.ofString "name"=Str.ofString "from")=False∧(Str.ofString "name"=Str.ofString "turn")=False∧(Str.ofString "name"=Str.ofString "num")=False∧(∀ o:Op,(o.word=Str.ofString "at")=False)∧(∀ o:Op,(o.word=Str.ofString "any")=False)∧(∀ o:Op,(o.word=Str.ofString "from")=False)∧(∀ o:Op,(o.word=Str.ofString "turn")=False)∧(∀ o:Op,(o.word=Str.ofString "num")=False)∧(∀ o:Op,(o.word=Str.ofString "name")=False)∧(∀ o:Op,(Str.ofString "at"=o.word)=False)∧(∀ o:Op,(Str.ofString "any"=o.word)=False)∧(∀ o:Op,(Str.ofString "from"=o.word)=False)∧(∀ o:Op,(Str.ofString "turn"=o.word)=False)∧(∀ o:Op,(Str.ofString "num"=o.word)=False)∧(∀ o:Op,(Str.ofString "name"=o.word)=False):=⟨w_at_any,w_at_from,w_at_turn,w_at_num,w_at_name,w_any_at,w_any_from,w_any_turn,w_any_num,w_any_name,w_from_at,w_from_any,w_from_turn,w_from_num,w_from_name,w_turn_at,w_turn_any,w_turn_from,w_turn_num,w_turn_name,w_num_at,w_num_any,w_num_from,w_num_turn,w_num_name,w_name_at,w_name_any,w_name_from,w_name_turn,w_name_num,w_o_at,w_o_any,w_o_from,w_o_turn,w_o_num,w_o_name,w_at_o,w_any_o,w_from_o,w_turn_o,w_num_o,w_name_o⟩
section
variable {P:Program} {w:World} {K:PySem.W.Frag} {mg:Str→Option Value} {base:Heap} {f d d2 fl:Addr} {fd:FuncData}
theorem eqX_int {neg:Bool} {i j:Int} {M:MHp} {Q:UK}:uEqX neg (.int i) (.int j) M Q=Q (.bl (if neg then !decide (i=j) else decide (i=j))) M:=rfl
theorem eqX_str {neg:Bool} {i j:Str} {M:MHp} {Q:UK}:uEqX neg (.str i) (.str j) M Q=Q (.bl (if neg then !decide (i=j) else decide (i=j))) M:=rfl
theorem big {k:Nat} (h:k < 100000):k < sizeLine:=Nat.lt_of_lt_of_le h (by decide)
def spPartsG:USp:=fun us M Q=>∃ (z:Str) (r:List U) (b:Bool),us=[.tup (.str z :: r)]∧(tabGet SIGNS z).isSome=b∧r.length≤1000∧Q (.tup (if b then r else [])) M
local macro_rules | `(tactic| simp_all! only [$xs,*]) => `(tactic| simp only [$xs,*, Bool.false_eq_true, Bool.not_false, Bool.not_true, List.append_nil, List.cons_append, List.getElem?_cons_succ, List.getElem?_cons_zero, List.length_cons, List.length_nil, List.map_cons, List.map_nil, List.nil_append, List.replicate, List.set_cons_succ, List.set_cons_zero, Nat.add_sub_cancel, Nat.reduceAdd, Nat.reduceLeDiff, Nat.reduceSub, Nat.sub_self, Option.getD_some, Option.some.injEq, and_true, at0, at1, at2, at3, bAll, bInt, bInt1, bInt2, bIsi2, bLen, bList, bMax, bSum, bTuple, cGe, cGt, cLe, cLt, capt, decide_false, decide_true, eqX_int, eqX_str, exists_eq_left', hCons, hName, hNil, hTup, if_false, if_true, inSt, inTab, isNon, isi_NoneType_bool, isi_NoneType_dict, isi_NoneType_int, isi_NoneType_list, isi_NoneType_str, isi_NoneType_tuple, isi_bool_bool, isi_bool_dict, isi_bool_int, isi_bool_list, isi_bool_str, isi_bool_tuple, isi_dict_bool, isi_dict_dict, isi_dict_int, isi_dict_list, isi_dict_str, isi_dict_tuple, isi_int_bool, isi_int_dict, isi_int_int, isi_int_list, isi_int_str, isi_int_tuple, isi_list_bool, isi_list_dict, isi_list_int, isi_list_list, isi_list_str, isi_list_tuple, isi_str_bool, isi_str_dict, isi_str_int, isi_str_list, isi_str_str, isi_str_tuple, isi_tuple_bool, isi_tuple_dict, isi_tuple_int, isi_tuple_list, isi_tuple_str, isi_tuple_tuple, items, ixTab, mAppend, mClear, mExtend, mPop, mPopAt, mkL, mup_mup, mup_same, reduceCtorEq, startU, szl, true_and, typU, uAdd, uAddL, uAnd, uAndV, uAsg, uBM, uBM0, uBreak, uC, uCB, uCall, uCallV, uChain, uCons, uCont, uDrop, uEnum, uEnumL, uEqS, uI, uI0, uIf, uIfS, uIn, uIsN, uIter, uIx, uLst, uLtX, uMul, uNeS, uNext, uNil, uNoPart, uNot, uNotN, uNotV, uOp, uOr, uOrV, uPart, uRet, uRetN, uRng1, uRng2, uSeq, uSetI, uSlX, uTest, uTru, uTup, uUn, uVar, uZip, vw_bl, vw_int, vw_lst, vw_non, vw_own, vw_str, vw_tup])
theorem ok_parts_of (F:Fun K "parts_of" "parts_of" s_parts_of f fd) (hm:mg "parts_of"=some (.ref f)) (T_SIGNS:IsTab P w K d SIGNS) (g_SIGNS:mg "SIGNS"=some (.ref d)):Callee P w K mg base 1 "parts_of" spPartsG []:=by
  refine callee_of F hm sc_parts_of (fun _ _ _ _ _ _ us hl=>match us,hl with | [_],_=>rfl) (fun us M Q h=>by obtain ⟨x,y,b,rfl,_⟩:=h;rfl) (uss_one (us_ret (ue_if (ut_c (k_inTab T_SIGNS) (ue_ix (uv 0) un_) (ug_ref g_SIGNS)) (ue_slX (own:=false) (uv 0) (uo_some un_) uo_none) (ue_tup ua_nil)))) ?_
  rintro us M Q ⟨z,r,b,rfl,hb,hl,q⟩
  simp_all! only [hb]
  cases b with
  | true =>
    simp_all! only [cut1]
    exact rt_same q
  | false =>
    simp_all! only [true_and]
    exact rt_same q
theorem ok_parts (F:Fun K "parts" "parts" s_parts f fd) (hm:mg "parts"=some (.ref f)) (C_parts_of:Callee P w K mg base 1 "parts_of" spPartsG []):Callee P w K mg base 2 "parts" spPartsG []:=by
  refine callee_of F hm sc_parts (fun _ _ _ _ _ _ us hl=>match us,hl with | [_],_=>rfl) (fun us M Q h=>by obtain ⟨x,y,b,rfl,_⟩:=h;rfl) (uss_one (us_ret (ue_call C_parts_of (ua_cons (uv 0) ua_nil)))) ?_
  rintro us M Q ⟨z,r,b,rfl,hb,hl,q⟩
  simp_all! only [true_and]
  exact ⟨z,r,b,rfl,hb,hl,rt_same q⟩
theorem sg_turn:(tabGet SIGNS (Str.ofString "turn")).isSome=true:=by decide +kernel
theorem sg_two (o:Op):(tabGet SIGNS o.word).isSome=true:=by cases o <;> decide +kernel
def spOnLeaf:USp:=fun us M Q=>∃ (p:Pt) (t:Tr),us=[p.toU,t.toU]∧(p=.any∨∃ l h,p=.fr l h)∧Q (.bl (lieF p t)) M
theorem ok_lies_on_leaf (F:Fun K "lies_on_leaf" "lies_on_leaf" s_lies_on_leaf f fd) (hm:mg "lies_on_leaf"=some (.ref f)):Callee P w K mg base 1 "lies_on_leaf" spOnLeaf []:=by
  refine callee_of F hm sc_lies_on_leaf (fun _ _ _ _ _ _ us hl=>match us,hl with | [_,_],_=>rfl) (fun us M Q h=>by obtain ⟨x,y,rfl,_⟩:=h;rfl) (uss_cons (us_if (ut_c k_eqX (ue_ix (uv 0) un_) us_)
  (uss_one (us_ret (ue_c k_eqX (ue_ix (uv 1) un_) us_)))
  uss_nil)
  (uss_one (us_ret (ue_and (ue_c k_eqX (ue_ix (uv 1) un_) us_) (ue_one (ue_ch k_le k_le (ue_ix (uv 0) un_) (ue_ix (uv 1) un_) (ue_ix (uv 0) un_))))))) ?_
  rintro us M Q ⟨p,t,rfl,hp,q⟩
  rcases hp with rfl | ⟨l,h,rfl⟩
  · cases t <;> (simp only [Pt.toU,Tr.toU,lieF,ww,eqX_int,eqX_str,capt,hTup,hCons,hNil,uLtX,uIn,items,uEnum,uZip,mExtend,mClear,at0,at1,at2,at3,Option.some.injEq,exists_eq_left',true_and,and_true,uBM,uBM0,mAppend,mPop,uCallV,inTab,ixTab,bMax,bSum,cLt,cLe,cGt,cGe,uAddL,startU,uSeq,uIfS,uOr,uAnd,uNot,uTru,uTest,uCB,uCons,uVar,uC,uNil,uNext,uRet,uRetN,uAsg,hName,uOp,uUn,uChain,uI0,uI,uAndV,uOrV,uNotV,uIf,uTup,uLst,mkL,uDrop,uCall,bIsi2,bLen,bAll,bInt1,bInt2,bList,bTuple,vw_non,vw_bl,vw_int,vw_str,vw_tup,vw_lst,vw_own,mup_same,mup_mup,typU,uEqS,uNeS,uIsN,uNotN,isNon,uAdd,uIx,uSlX,uNoPart,uPart,inSt,uIter,uRng1,uRng2,uBreak,uCont,List.map_cons,List.map_nil,List.length_cons,List.length_nil,List.cons_append,List.nil_append,List.replicate,List.getElem?_cons_zero,List.getElem?_cons_succ,List.set_cons_zero,List.set_cons_succ,List.append_nil,Nat.reduceAdd,Nat.reduceSub,Nat.sub_self,Nat.add_sub_cancel,Bool.not_false,Bool.not_true,if_true,if_false,Bool.false_eq_true,reduceCtorEq,decide_true,decide_false,isi_NoneType_bool,isi_NoneType_int,isi_NoneType_str,isi_NoneType_tuple,isi_NoneType_list,isi_NoneType_dict,isi_bool_bool,isi_bool_int,isi_bool_str,isi_bool_tuple,isi_bool_list,isi_bool_dict,isi_int_bool,isi_int_int,isi_int_str,isi_int_tuple,isi_int_list,isi_int_dict,isi_str_bool,isi_str_int,isi_str_str,isi_str_tuple,isi_str_list,isi_str_dict,isi_tuple_bool,isi_tuple_int,isi_tuple_str,isi_tuple_tuple,isi_tuple_list,isi_tuple_dict,isi_list_bool,isi_list_int,isi_list_str,isi_list_tuple,isi_list_list,isi_list_dict,isi_dict_bool,isi_dict_int,isi_dict_str,isi_dict_tuple,isi_dict_list,isi_dict_dict,uMul,bInt,mPopAt,uSetI,uEnumL,szl,Nat.reduceLeDiff,Option.getD_some] at q ⊢;exact rt_same q)
  · cases t with
    | num n =>
      simp only [Pt.toU,Tr.toU,lieF,ww,eqX_int,eqX_str,capt,hTup,hCons,hNil,uLtX,uIn,items,uEnum,uZip,mExtend,mClear,at0,at1,at2,at3,Option.some.injEq,exists_eq_left',true_and,and_true,uBM,uBM0,mAppend,mPop,uCallV,inTab,ixTab,bMax,bSum,cLt,cLe,cGt,cGe,uAddL,startU,uSeq,uIfS,uOr,uAnd,uNot,uTru,uTest,uCB,uCons,uVar,uC,uNil,uNext,uRet,uRetN,uAsg,hName,uOp,uUn,uChain,uI0,uI,uAndV,uOrV,uNotV,uIf,uTup,uLst,mkL,uDrop,uCall,bIsi2,bLen,bAll,bInt1,bInt2,bList,bTuple,vw_non,vw_bl,vw_int,vw_str,vw_tup,vw_lst,vw_own,mup_same,mup_mup,typU,uEqS,uNeS,uIsN,uNotN,isNon,uAdd,uIx,uSlX,uNoPart,uPart,inSt,uIter,uRng1,uRng2,uBreak,uCont,List.map_cons,List.map_nil,List.length_cons,List.length_nil,List.cons_append,List.nil_append,List.replicate,List.getElem?_cons_zero,List.getElem?_cons_succ,List.set_cons_zero,List.set_cons_succ,List.append_nil,Nat.reduceAdd,Nat.reduceSub,Nat.sub_self,Nat.add_sub_cancel,Bool.not_false,Bool.not_true,if_true,if_false,Bool.false_eq_true,reduceCtorEq,decide_true,decide_false,isi_NoneType_bool,isi_NoneType_int,isi_NoneType_str,isi_NoneType_tuple,isi_NoneType_list,isi_NoneType_dict,isi_bool_bool,isi_bool_int,isi_bool_str,isi_bool_tuple,isi_bool_list,isi_bool_dict,isi_int_bool,isi_int_int,isi_int_str,isi_int_tuple,isi_int_list,isi_int_dict,isi_str_bool,isi_str_int,isi_str_str,isi_str_tuple,isi_str_list,isi_str_dict,isi_tuple_bool,isi_tuple_int,isi_tuple_str,isi_tuple_tuple,isi_tuple_list,isi_tuple_dict,isi_list_bool,isi_list_int,isi_list_str,isi_list_tuple,isi_list_list,isi_list_dict,isi_dict_bool,isi_dict_int,isi_dict_str,isi_dict_tuple,isi_dict_list,isi_dict_dict,uMul,bInt,mPopAt,uSetI,uEnumL,szl,Nat.reduceLeDiff,Option.getD_some] at q ⊢
      by_cases h1:l≤n
      · rw [if_pos (decide_eq_true h1)]
        rw [decide_eq_true h1,Bool.true_and] at q
        exact rt_same q
      · rw [if_neg (by simpa using h1)]
        rw [decide_eq_false h1,Bool.false_and] at q
        exact rt_same q
    | _=>simp only [Pt.toU,Tr.toU,lieF,ww,eqX_int,eqX_str,capt,hTup,hCons,hNil,uLtX,uIn,items,uEnum,uZip,mExtend,mClear,at0,at1,at2,at3,Option.some.injEq,exists_eq_left',true_and,and_true,uBM,uBM0,mAppend,mPop,uCallV,inTab,ixTab,bMax,bSum,cLt,cLe,cGt,cGe,uAddL,startU,uSeq,uIfS,uOr,uAnd,uNot,uTru,uTest,uCB,uCons,uVar,uC,uNil,uNext,uRet,uRetN,uAsg,hName,uOp,uUn,uChain,uI0,uI,uAndV,uOrV,uNotV,uIf,uTup,uLst,mkL,uDrop,uCall,bIsi2,bLen,bAll,bInt1,bInt2,bList,bTuple,vw_non,vw_bl,vw_int,vw_str,vw_tup,vw_lst,vw_own,mup_same,mup_mup,typU,uEqS,uNeS,uIsN,uNotN,isNon,uAdd,uIx,uSlX,uNoPart,uPart,inSt,uIter,uRng1,uRng2,uBreak,uCont,List.map_cons,List.map_nil,List.length_cons,List.length_nil,List.cons_append,List.nil_append,List.replicate,List.getElem?_cons_zero,List.getElem?_cons_succ,List.set_cons_zero,List.set_cons_succ,List.append_nil,Nat.reduceAdd,Nat.reduceSub,Nat.sub_self,Nat.add_sub_cancel,Bool.not_false,Bool.not_true,if_true,if_false,Bool.false_eq_true,reduceCtorEq,decide_true,decide_false,isi_NoneType_bool,isi_NoneType_int,isi_NoneType_str,isi_NoneType_tuple,isi_NoneType_list,isi_NoneType_dict,isi_bool_bool,isi_bool_int,isi_bool_str,isi_bool_tuple,isi_bool_list,isi_bool_dict,isi_int_bool,isi_int_int,isi_int_str,isi_int_tuple,isi_int_list,isi_int_dict,isi_str_bool,isi_str_int,isi_str_str,isi_str_tuple,isi_str_list,isi_str_dict,isi_tuple_bool,isi_tuple_int,isi_tuple_str,isi_tuple_tuple,isi_tuple_list,isi_tuple_dict,isi_list_bool,isi_list_int,isi_list_str,isi_list_tuple,isi_list_list,isi_list_dict,isi_dict_bool,isi_dict_int,isi_dict_str,isi_dict_tuple,isi_dict_list,isi_dict_dict,uMul,bInt,mPopAt,uSetI,uEnumL,szl,Nat.reduceLeDiff,Option.getD_some] at q ⊢;exact rt_same q
theorem in_af (z:Str):([U.str (Str.ofString "any"),U.str (Str.ofString "from")].any fun u=>eqF u (.str z))=(decide (Str.ofString "any"=z) || decide (Str.ofString "from"=z)):=by
  have e:∀ a:Str,eqF (.str a) (.str z)=decide (a=z):=fun a=>by
    show (a == z)=_
    by_cases h:a=z
    · subst h;simp
    · simp [h]
  simp only [List.any_cons,List.any_nil,e,Bool.or_false]
def spLies (n:Nat):USp:=fun us M Q=>∃ (p:Pt) (t:Tr),us=[p.toU,t.toU]∧p.dep≤n∧Q (.bl (lieF p t)) M
set_option maxHeartbeats 2000000 in
theorem ok_lies {n:Nat} (F:Fun K "lies" "lies" s_lies f fd) (hm:mg "lies"=some (.ref f)) (m_all:mg "all"=none) (m_zip:mg "zip"=none) (C_lies_on_leaf:Callee P w K mg base 1 "lies_on_leaf" spOnLeaf []) (C_parts_of:Callee P w K mg base 1 "parts_of" spPartsG []) (C_parts:Callee P w K mg base 2 "parts" spPartsG [])
    (C_lies:Callee P w K mg base (n + 3) "lies" (spLies n) []):Callee P w K mg base (n + 4) "lies" (spLies (n + 1)) []:=by
  refine callee_of F hm sc_lies (fun _ _ _ _ _ _ us hl=>match us,hl with | [_,_],_=>rfl) (fun us M Q h=>by obtain ⟨x,y,rfl,_⟩:=h;rfl) (uss_cons (us_if (ut_c k_eqX (ue_ix (uv 0) un_) us_)
  (uss_one (us_ret ub_))
  uss_nil)
  (uss_cons (us_if (ut_c k_in (ue_ix (uv 0) un_) (ue_tup (ua_cons us_ (ua_cons us_ ua_nil))))
  (uss_one (us_ret (ue_call C_lies_on_leaf (ua_cons (uv 0) (ua_cons (uv 1) ua_nil)))))
  uss_nil)
  (uss_cons (us_if (ut_c k_neX (ue_ix (uv 0) un_) (ue_ix (uv 1) un_))
  (uss_one (us_ret ub_))
  uss_nil)
  (uss_one (us_ret (ue_b b_all m_all (ua_cons (ue_comp false ["inner","part"] 2 [] (ui_zip m_zip (ua_cons (ue_call C_parts_of (ua_cons (uv 0) ua_nil)) (ua_cons (ue_call C_parts (ua_cons (uv 1) ua_nil)) ua_nil))) (ug_tup (n:=2) (ugs_cons (ug_name (k:=2) 0 (by dsimp only [compD];decide +kernel)) (ugs_cons (ug_name (k:=2) 1 (by dsimp only [compD];decide +kernel)) ugs_nil))) uif_nil (ue_call C_lies (ua_cons (uv 0) (ua_cons (uv 1) ua_nil)))) ua_nil))))))) ?_
  rintro us M Q ⟨p,t,rfl,hd,q⟩
  have fl:∀ z:Str,flatU (.str z)=true:=fun _=>rfl
  have fl2:[U.str (Str.ofString "any"),U.str (Str.ofString "from")].all flatU=true:=rfl
  cases p with
  | hole c =>
    simp only [Pt.toU,lieF,ww,eqX_int,eqX_str,capt,hTup,hCons,hNil,uLtX,uIn,items,uEnum,uZip,mExtend,mClear,at0,at1,at2,at3,Option.some.injEq,exists_eq_left',true_and,and_true,uBM,uBM0,mAppend,mPop,uCallV,inTab,ixTab,bMax,bSum,cLt,cLe,cGt,cGe,uAddL,startU,uSeq,uIfS,uOr,uAnd,uNot,uTru,uTest,uCB,uCons,uVar,uC,uNil,uNext,uRet,uRetN,uAsg,hName,uOp,uUn,uChain,uI0,uI,uAndV,uOrV,uNotV,uIf,uTup,uLst,mkL,uDrop,uCall,bIsi2,bLen,bAll,bInt1,bInt2,bList,bTuple,vw_non,vw_bl,vw_int,vw_str,vw_tup,vw_lst,vw_own,mup_same,mup_mup,typU,uEqS,uNeS,uIsN,uNotN,isNon,uAdd,uIx,uSlX,uNoPart,uPart,inSt,uIter,uRng1,uRng2,uBreak,uCont,List.map_cons,List.map_nil,List.length_cons,List.length_nil,List.cons_append,List.nil_append,List.replicate,List.getElem?_cons_zero,List.getElem?_cons_succ,List.set_cons_zero,List.set_cons_succ,List.append_nil,Nat.reduceAdd,Nat.reduceSub,Nat.sub_self,Nat.add_sub_cancel,Bool.not_false,Bool.not_true,if_true,if_false,Bool.false_eq_true,reduceCtorEq,decide_true,decide_false,isi_NoneType_bool,isi_NoneType_int,isi_NoneType_str,isi_NoneType_tuple,isi_NoneType_list,isi_NoneType_dict,isi_bool_bool,isi_bool_int,isi_bool_str,isi_bool_tuple,isi_bool_list,isi_bool_dict,isi_int_bool,isi_int_int,isi_int_str,isi_int_tuple,isi_int_list,isi_int_dict,isi_str_bool,isi_str_int,isi_str_str,isi_str_tuple,isi_str_list,isi_str_dict,isi_tuple_bool,isi_tuple_int,isi_tuple_str,isi_tuple_tuple,isi_tuple_list,isi_tuple_dict,isi_list_bool,isi_list_int,isi_list_str,isi_list_tuple,isi_list_list,isi_list_dict,isi_dict_bool,isi_dict_int,isi_dict_str,isi_dict_tuple,isi_dict_list,isi_dict_dict,uMul,bInt,mPopAt,uSetI,uEnumL,szl,Nat.reduceLeDiff,Option.getD_some] at q ⊢
    exact rt_same q
  | any =>
    simp_all! only [Pt.toU,ww,in_af,fl,fl2,Bool.true_or,Bool.or_true]
    exact ⟨.any,t,rfl,.inl rfl,rt_same q⟩
  | fr l h =>
    simp_all! only [Pt.toU,ww,in_af,fl,fl2,Bool.true_or,Bool.or_true]
    exact ⟨.fr l h,t,rfl,.inr ⟨l,h,rfl⟩,rt_same q⟩
  | turn a =>
    have hda:a.dep≤n:=by simp only [Pt.dep] at hd;omega
    cases t with
    | turn b =>
      simp only [Pt.toU,Tr.toU,lieF,ww,in_af,fl,fl2,Bool.or_false,eqX_int,eqX_str,capt,hTup,hCons,hNil,uLtX,uIn,items,uEnum,uZip,mExtend,mClear,at0,at1,at2,at3,Option.some.injEq,exists_eq_left',true_and,and_true,uBM,uBM0,mAppend,mPop,uCallV,inTab,ixTab,bMax,bSum,cLt,cLe,cGt,cGe,uAddL,startU,uSeq,uIfS,uOr,uAnd,uNot,uTru,uTest,uCB,uCons,uVar,uC,uNil,uNext,uRet,uRetN,uAsg,hName,uOp,uUn,uChain,uI0,uI,uAndV,uOrV,uNotV,uIf,uTup,uLst,mkL,uDrop,uCall,bIsi2,bLen,bAll,bInt1,bInt2,bList,bTuple,vw_non,vw_bl,vw_int,vw_str,vw_tup,vw_lst,vw_own,mup_same,mup_mup,typU,uEqS,uNeS,uIsN,uNotN,isNon,uAdd,uIx,uSlX,uNoPart,uPart,inSt,uIter,uRng1,uRng2,uBreak,uCont,List.map_cons,List.map_nil,List.length_cons,List.length_nil,List.cons_append,List.nil_append,List.replicate,List.getElem?_cons_zero,List.getElem?_cons_succ,List.set_cons_zero,List.set_cons_succ,List.append_nil,Nat.reduceAdd,Nat.reduceSub,Nat.sub_self,Nat.add_sub_cancel,Bool.not_false,Bool.not_true,if_true,if_false,Bool.false_eq_true,reduceCtorEq,decide_true,decide_false,isi_NoneType_bool,isi_NoneType_int,isi_NoneType_str,isi_NoneType_tuple,isi_NoneType_list,isi_NoneType_dict,isi_bool_bool,isi_bool_int,isi_bool_str,isi_bool_tuple,isi_bool_list,isi_bool_dict,isi_int_bool,isi_int_int,isi_int_str,isi_int_tuple,isi_int_list,isi_int_dict,isi_str_bool,isi_str_int,isi_str_str,isi_str_tuple,isi_str_list,isi_str_dict,isi_tuple_bool,isi_tuple_int,isi_tuple_str,isi_tuple_tuple,isi_tuple_list,isi_tuple_dict,isi_list_bool,isi_list_int,isi_list_str,isi_list_tuple,isi_list_list,isi_list_dict,isi_dict_bool,isi_dict_int,isi_dict_str,isi_dict_tuple,isi_dict_list,isi_dict_dict,uMul,bInt,mPopAt,uSetI,uEnumL,szl,Nat.reduceLeDiff,Option.getD_some] at q ⊢
      refine uComp_list (S:=⟨none,zipped [a.toU] [b.toU]⟩) (M1:=M) [.bl (lieF a b)] (fun R r=>?_) rfl (show 1≤sizeLine by decide) (fun a e=>by cases e) ?_ ?_
      · simp_all! only [true_and]
        refine ⟨_,_,true,rfl,sg_turn,by simp,⟨_,_,true,rfl,sg_turn,by simp,?_⟩⟩
        simp_all! only [true_and]
        exact r
      · intro j x y hx hy M' _ R r'
        match j,hx,hy with
        | 0,hx,hy =>
          cases hx;cases hy
          simp_all! only [true_and]
          exact ⟨a,b,rfl,hda,r'⟩
        | j + 1,hx,hy=>cases hy
      · simp_all! only [blsU,Option.map_some,List.all_cons,List.all_nil,Bool.and_true]
        exact rt_same q
    | _=>simp only [Pt.toU,Tr.toU,lieF,ww,in_af,fl,fl2,Bool.or_false,eqX_int,eqX_str,capt,hTup,hCons,hNil,uLtX,uIn,items,uEnum,uZip,mExtend,mClear,at0,at1,at2,at3,Option.some.injEq,exists_eq_left',true_and,and_true,uBM,uBM0,mAppend,mPop,uCallV,inTab,ixTab,bMax,bSum,cLt,cLe,cGt,cGe,uAddL,startU,uSeq,uIfS,uOr,uAnd,uNot,uTru,uTest,uCB,uCons,uVar,uC,uNil,uNext,uRet,uRetN,uAsg,hName,uOp,uUn,uChain,uI0,uI,uAndV,uOrV,uNotV,uIf,uTup,uLst,mkL,uDrop,uCall,bIsi2,bLen,bAll,bInt1,bInt2,bList,bTuple,vw_non,vw_bl,vw_int,vw_str,vw_tup,vw_lst,vw_own,mup_same,mup_mup,typU,uEqS,uNeS,uIsN,uNotN,isNon,uAdd,uIx,uSlX,uNoPart,uPart,inSt,uIter,uRng1,uRng2,uBreak,uCont,List.map_cons,List.map_nil,List.length_cons,List.length_nil,List.cons_append,List.nil_append,List.replicate,List.getElem?_cons_zero,List.getElem?_cons_succ,List.set_cons_zero,List.set_cons_succ,List.append_nil,Nat.reduceAdd,Nat.reduceSub,Nat.sub_self,Nat.add_sub_cancel,Bool.not_false,Bool.not_true,if_true,if_false,Bool.false_eq_true,reduceCtorEq,decide_true,decide_false,isi_NoneType_bool,isi_NoneType_int,isi_NoneType_str,isi_NoneType_tuple,isi_NoneType_list,isi_NoneType_dict,isi_bool_bool,isi_bool_int,isi_bool_str,isi_bool_tuple,isi_bool_list,isi_bool_dict,isi_int_bool,isi_int_int,isi_int_str,isi_int_tuple,isi_int_list,isi_int_dict,isi_str_bool,isi_str_int,isi_str_str,isi_str_tuple,isi_str_list,isi_str_dict,isi_tuple_bool,isi_tuple_int,isi_tuple_str,isi_tuple_tuple,isi_tuple_list,isi_tuple_dict,isi_list_bool,isi_list_int,isi_list_str,isi_list_tuple,isi_list_list,isi_list_dict,isi_dict_bool,isi_dict_int,isi_dict_str,isi_dict_tuple,isi_dict_list,isi_dict_dict,uMul,bInt,mPopAt,uSetI,uEnumL,szl,Nat.reduceLeDiff,Option.getD_some] at q ⊢;exact rt_same q
  | two o a c =>
    have hda:a.dep≤n∧c.dep≤n:=by simp only [Pt.dep] at hd;omega
    cases t with
    | two o' b e =>
      simp only [Pt.toU,Tr.toU,lieF,ww,in_af,fl,fl2,Bool.or_false,Op.word_inj,eqX_int,eqX_str,capt,hTup,hCons,hNil,uLtX,uIn,items,uEnum,uZip,mExtend,mClear,at0,at1,at2,at3,Option.some.injEq,exists_eq_left',true_and,and_true,uBM,uBM0,mAppend,mPop,uCallV,inTab,ixTab,bMax,bSum,cLt,cLe,cGt,cGe,uAddL,startU,uSeq,uIfS,uOr,uAnd,uNot,uTru,uTest,uCB,uCons,uVar,uC,uNil,uNext,uRet,uRetN,uAsg,hName,uOp,uUn,uChain,uI0,uI,uAndV,uOrV,uNotV,uIf,uTup,uLst,mkL,uDrop,uCall,bIsi2,bLen,bAll,bInt1,bInt2,bList,bTuple,vw_non,vw_bl,vw_int,vw_str,vw_tup,vw_lst,vw_own,mup_same,mup_mup,typU,uEqS,uNeS,uIsN,uNotN,isNon,uAdd,uIx,uSlX,uNoPart,uPart,inSt,uIter,uRng1,uRng2,uBreak,uCont,List.map_cons,List.map_nil,List.length_cons,List.length_nil,List.cons_append,List.nil_append,List.replicate,List.getElem?_cons_zero,List.getElem?_cons_succ,List.set_cons_zero,List.set_cons_succ,List.append_nil,Nat.reduceAdd,Nat.reduceSub,Nat.sub_self,Nat.add_sub_cancel,Bool.not_false,Bool.not_true,if_true,if_false,Bool.false_eq_true,reduceCtorEq,decide_true,decide_false,isi_NoneType_bool,isi_NoneType_int,isi_NoneType_str,isi_NoneType_tuple,isi_NoneType_list,isi_NoneType_dict,isi_bool_bool,isi_bool_int,isi_bool_str,isi_bool_tuple,isi_bool_list,isi_bool_dict,isi_int_bool,isi_int_int,isi_int_str,isi_int_tuple,isi_int_list,isi_int_dict,isi_str_bool,isi_str_int,isi_str_str,isi_str_tuple,isi_str_list,isi_str_dict,isi_tuple_bool,isi_tuple_int,isi_tuple_str,isi_tuple_tuple,isi_tuple_list,isi_tuple_dict,isi_list_bool,isi_list_int,isi_list_str,isi_list_tuple,isi_list_list,isi_list_dict,isi_dict_bool,isi_dict_int,isi_dict_str,isi_dict_tuple,isi_dict_list,isi_dict_dict,uMul,bInt,mPopAt,uSetI,uEnumL,szl,Nat.reduceLeDiff,Option.getD_some] at q ⊢
      by_cases ho:o=o'
      · subst ho
        simp only [Bool.true_and,eqX_int,eqX_str,capt,hTup,hCons,hNil,uLtX,uIn,items,uEnum,uZip,mExtend,mClear,at0,at1,at2,at3,Option.some.injEq,exists_eq_left',true_and,and_true,uBM,uBM0,mAppend,mPop,uCallV,inTab,ixTab,bMax,bSum,cLt,cLe,cGt,cGe,uAddL,startU,uSeq,uIfS,uOr,uAnd,uNot,uTru,uTest,uCB,uCons,uVar,uC,uNil,uNext,uRet,uRetN,uAsg,hName,uOp,uUn,uChain,uI0,uI,uAndV,uOrV,uNotV,uIf,uTup,uLst,mkL,uDrop,uCall,bIsi2,bLen,bAll,bInt1,bInt2,bList,bTuple,vw_non,vw_bl,vw_int,vw_str,vw_tup,vw_lst,vw_own,mup_same,mup_mup,typU,uEqS,uNeS,uIsN,uNotN,isNon,uAdd,uIx,uSlX,uNoPart,uPart,inSt,uIter,uRng1,uRng2,uBreak,uCont,List.map_cons,List.map_nil,List.length_cons,List.length_nil,List.cons_append,List.nil_append,List.replicate,List.getElem?_cons_zero,List.getElem?_cons_succ,List.set_cons_zero,List.set_cons_succ,List.append_nil,Nat.reduceAdd,Nat.reduceSub,Nat.sub_self,Nat.add_sub_cancel,Bool.not_false,Bool.not_true,if_true,if_false,Bool.false_eq_true,reduceCtorEq,decide_true,decide_false,isi_NoneType_bool,isi_NoneType_int,isi_NoneType_str,isi_NoneType_tuple,isi_NoneType_list,isi_NoneType_dict,isi_bool_bool,isi_bool_int,isi_bool_str,isi_bool_tuple,isi_bool_list,isi_bool_dict,isi_int_bool,isi_int_int,isi_int_str,isi_int_tuple,isi_int_list,isi_int_dict,isi_str_bool,isi_str_int,isi_str_str,isi_str_tuple,isi_str_list,isi_str_dict,isi_tuple_bool,isi_tuple_int,isi_tuple_str,isi_tuple_tuple,isi_tuple_list,isi_tuple_dict,isi_list_bool,isi_list_int,isi_list_str,isi_list_tuple,isi_list_list,isi_list_dict,isi_dict_bool,isi_dict_int,isi_dict_str,isi_dict_tuple,isi_dict_list,isi_dict_dict,uMul,bInt,mPopAt,uSetI,uEnumL,szl,Nat.reduceLeDiff,Option.getD_some] at q ⊢
        refine uComp_list (S:=⟨none,zipped [a.toU,c.toU] [b.toU,e.toU]⟩) (M1:=M) [.bl (lieF a b),.bl (lieF c e)] (fun R r=>?_) rfl (show 2≤sizeLine by decide) (fun a e=>by cases e) ?_ ?_
        · simp_all! only [true_and]
          refine ⟨_,_,true,rfl,sg_two o,by simp,⟨_,_,true,rfl,sg_two o,by simp,?_⟩⟩
          simp_all! only [true_and]
          exact r
        · intro j x y hx hy M' _ R r'
          match j,hx,hy with
          | 0,hx,hy =>
            cases hx;cases hy
            simp_all! only [true_and]
            exact ⟨a,b,rfl,hda.1,r'⟩
          | 1,hx,hy =>
            cases hx;cases hy
            simp_all! only [true_and]
            exact ⟨c,e,rfl,hda.2,r'⟩
          | j + 2,hx,hy=>cases hy
        · simp_all! only [blsU,Option.map_some,List.all_cons,List.all_nil,Bool.and_true]
          exact rt_same q
      · simp only [ho,Bool.false_and,eqX_int,eqX_str,capt,hTup,hCons,hNil,uLtX,uIn,items,uEnum,uZip,mExtend,mClear,at0,at1,at2,at3,Option.some.injEq,exists_eq_left',true_and,and_true,uBM,uBM0,mAppend,mPop,uCallV,inTab,ixTab,bMax,bSum,cLt,cLe,cGt,cGe,uAddL,startU,uSeq,uIfS,uOr,uAnd,uNot,uTru,uTest,uCB,uCons,uVar,uC,uNil,uNext,uRet,uRetN,uAsg,hName,uOp,uUn,uChain,uI0,uI,uAndV,uOrV,uNotV,uIf,uTup,uLst,mkL,uDrop,uCall,bIsi2,bLen,bAll,bInt1,bInt2,bList,bTuple,vw_non,vw_bl,vw_int,vw_str,vw_tup,vw_lst,vw_own,mup_same,mup_mup,typU,uEqS,uNeS,uIsN,uNotN,isNon,uAdd,uIx,uSlX,uNoPart,uPart,inSt,uIter,uRng1,uRng2,uBreak,uCont,List.map_cons,List.map_nil,List.length_cons,List.length_nil,List.cons_append,List.nil_append,List.replicate,List.getElem?_cons_zero,List.getElem?_cons_succ,List.set_cons_zero,List.set_cons_succ,List.append_nil,Nat.reduceAdd,Nat.reduceSub,Nat.sub_self,Nat.add_sub_cancel,Bool.not_false,Bool.not_true,if_true,if_false,Bool.false_eq_true,reduceCtorEq,decide_true,decide_false,isi_NoneType_bool,isi_NoneType_int,isi_NoneType_str,isi_NoneType_tuple,isi_NoneType_list,isi_NoneType_dict,isi_bool_bool,isi_bool_int,isi_bool_str,isi_bool_tuple,isi_bool_list,isi_bool_dict,isi_int_bool,isi_int_int,isi_int_str,isi_int_tuple,isi_int_list,isi_int_dict,isi_str_bool,isi_str_int,isi_str_str,isi_str_tuple,isi_str_list,isi_str_dict,isi_tuple_bool,isi_tuple_int,isi_tuple_str,isi_tuple_tuple,isi_tuple_list,isi_tuple_dict,isi_list_bool,isi_list_int,isi_list_str,isi_list_tuple,isi_list_list,isi_list_dict,isi_dict_bool,isi_dict_int,isi_dict_str,isi_dict_tuple,isi_dict_list,isi_dict_dict,uMul,bInt,mPopAt,uSetI,uEnumL,szl,Nat.reduceLeDiff,Option.getD_some] at q ⊢
        exact rt_same q
    | _=>simp only [Pt.toU,Tr.toU,lieF,ww,in_af,fl,fl2,Bool.or_false,eqX_int,eqX_str,capt,hTup,hCons,hNil,uLtX,uIn,items,uEnum,uZip,mExtend,mClear,at0,at1,at2,at3,Option.some.injEq,exists_eq_left',true_and,and_true,uBM,uBM0,mAppend,mPop,uCallV,inTab,ixTab,bMax,bSum,cLt,cLe,cGt,cGe,uAddL,startU,uSeq,uIfS,uOr,uAnd,uNot,uTru,uTest,uCB,uCons,uVar,uC,uNil,uNext,uRet,uRetN,uAsg,hName,uOp,uUn,uChain,uI0,uI,uAndV,uOrV,uNotV,uIf,uTup,uLst,mkL,uDrop,uCall,bIsi2,bLen,bAll,bInt1,bInt2,bList,bTuple,vw_non,vw_bl,vw_int,vw_str,vw_tup,vw_lst,vw_own,mup_same,mup_mup,typU,uEqS,uNeS,uIsN,uNotN,isNon,uAdd,uIx,uSlX,uNoPart,uPart,inSt,uIter,uRng1,uRng2,uBreak,uCont,List.map_cons,List.map_nil,List.length_cons,List.length_nil,List.cons_append,List.nil_append,List.replicate,List.getElem?_cons_zero,List.getElem?_cons_succ,List.set_cons_zero,List.set_cons_succ,List.append_nil,Nat.reduceAdd,Nat.reduceSub,Nat.sub_self,Nat.add_sub_cancel,Bool.not_false,Bool.not_true,if_true,if_false,Bool.false_eq_true,reduceCtorEq,decide_true,decide_false,isi_NoneType_bool,isi_NoneType_int,isi_NoneType_str,isi_NoneType_tuple,isi_NoneType_list,isi_NoneType_dict,isi_bool_bool,isi_bool_int,isi_bool_str,isi_bool_tuple,isi_bool_list,isi_bool_dict,isi_int_bool,isi_int_int,isi_int_str,isi_int_tuple,isi_int_list,isi_int_dict,isi_str_bool,isi_str_int,isi_str_str,isi_str_tuple,isi_str_list,isi_str_dict,isi_tuple_bool,isi_tuple_int,isi_tuple_str,isi_tuple_tuple,isi_tuple_list,isi_tuple_dict,isi_list_bool,isi_list_int,isi_list_str,isi_list_tuple,isi_list_list,isi_list_dict,isi_dict_bool,isi_dict_int,isi_dict_str,isi_dict_tuple,isi_dict_list,isi_dict_dict,uMul,bInt,mPopAt,uSetI,uEnumL,szl,Nat.reduceLeDiff,Option.getD_some] at q ⊢;exact rt_same q
theorem pdep_pos:∀ p:Pt,1≤p.dep
  | .hole _=>Nat.le_refl _
  | .any=>Nat.le_refl _
  | .fr _ _=>Nat.le_refl _
  | .turn a=>by simp only [Pt.dep];omega
  | .two o a b=>by simp only [Pt.dep];omega
theorem tdep_pos:∀ p:Tr,1≤p.dep
  | .num _=>Nat.le_refl _
  | .name _=>Nat.le_refl _
  | .turn a=>by simp only [Tr.dep];omega
  | .two o a b=>by simp only [Tr.dep];omega
theorem lies_all (F:Fun K "lies" "lies" s_lies f fd) (hm:mg "lies"=some (.ref f)) (m_all:mg "all"=none) (m_zip:mg "zip"=none) (C_lies_on_leaf:Callee P w K mg base 1 "lies_on_leaf" spOnLeaf []) (C_parts_of:Callee P w K mg base 1 "parts_of" spPartsG []) (C_parts:Callee P w K mg base 2 "parts" spPartsG []):∀ n,Callee P w K mg base (n + 3) "lies" (spLies n) []
  | 0=>by
    have no:∀ us M Q,¬ spLies 0 us M Q:=fun us M Q h=>by
      obtain ⟨p,t,_,h,_⟩:=h
      have:=pdep_pos p
      omega
    refine ⟨f,fd,["pattern","tree"],[],[],⟨fun vs H Q E h=>?_,fun A outer s H args us vs Q E _ _ _ _ h=>?_⟩,hm,F.kp,F.binds (fun _ _ _ _ _ _ us hl=>match us,hl with | [_,_],_=>rfl),.nil,fun H M=>.nil⟩
    · obtain ⟨us,M,Q',_,_,h,_⟩:=h;exact absurd h (no us M Q')
    · obtain ⟨us,M,Q',_,_,h,_⟩:=h;exact absurd h (no us M Q')
  | n + 1=>ok_lies F hm m_all m_zip C_lies_on_leaf C_parts_of C_parts (lies_all F hm m_all m_zip C_lies_on_leaf C_parts_of C_parts n)
theorem mulL {i j:Int} (h1:-(2 ^ 64) < i) (h2:i < 2 ^ 64):CMulB i j:=.inl (.inl ⟨h1,h2⟩)
def sortsU (l:List Str):U:=.tup (l.map .str)
def datP:Pt→PyData
  | .hole c=>.tuple [.str "at",.str c]
  | .any=>.tuple [.str "any"]
  | .fr l h=>.tuple [.str "from",.int l,.int h]
  | .turn a=>.tuple [.str "turn",datP a]
  | .two o a b=>.tuple [.str o.word,datP a,datP b]
theorem toD_P:∀ p:Pt,toD p.toU=some (datP p)
  | .hole c=>by simp [Pt.toU,toD,toDs,datP]
  | .any=>by simp [Pt.toU,toD,toDs,datP]
  | .fr l h=>by simp [Pt.toU,toD,toDs,datP]
  | .turn a=>by simp [Pt.toU,toD,toDs,datP,toD_P a]
  | .two o a b=>by simp [Pt.toU,toD,toDs,datP,toD_P a,toD_P b]
theorem layP:∀ p:Pt,p.ok→(datP p).canLay0=true
  | .hole c,h=>by
    have h':PyData.strOk c=true:=h
    simp only [datP,PyData.canLay0,PyData.canLayAll0,h'];decide +kernel
  | .any,_=>by decide +kernel
  | .fr l h,_=>by simp only [datP,PyData.canLay0,PyData.canLayAll0];decide +kernel
  | .turn a,h=>by simp only [datP,PyData.canLay0,PyData.canLayAll0,layP a h];decide +kernel
  | .two o a b,h=>by
    have:PyData.strOk o.word=true:=by cases o <;> decide +kernel
    simp only [datP,PyData.canLay0,PyData.canLayAll0,layP a h.1,layP b h.2,this];decide +kernel
def datT:Tr→PyData
  | .num n=>.tuple [.str "num",.int n]
  | .name x=>.tuple [.str "name",.str x]
  | .turn a=>.tuple [.str "turn",datT a]
  | .two o a b=>.tuple [.str o.word,datT a,datT b]
theorem toD_T:∀ p:Tr,toD p.toU=some (datT p)
  | .num c=>by simp [Tr.toU,toD,toDs,datT]
  | .name c=>by simp [Tr.toU,toD,toDs,datT]
  | .turn a=>by simp [Tr.toU,toD,toDs,datT,toD_T a]
  | .two o a b=>by simp [Tr.toU,toD,toDs,datT,toD_T a,toD_T b]
theorem layT:∀ p:Tr,p.ok→(datT p).canLay0=true
  | .num c,h=>by simp only [datT,PyData.canLay0,PyData.canLayAll0];decide +kernel
  | .name c,h=>by
    have h':PyData.strOk c=true:=h.1
    simp only [datT,PyData.canLay0,PyData.canLayAll0,h'];decide +kernel
  | .turn a,h=>by simp only [datT,PyData.canLay0,PyData.canLayAll0,layT a h];decide +kernel
  | .two o a b,h=>by
    have:PyData.strOk o.word=true:=by cases o <;> decide +kernel
    simp only [datT,PyData.canLay0,PyData.canLayAll0,layT a h.1,layT b h.2,this];decide +kernel
def entP (p:Pt):U:=.tup [p.toU,.int (p.dep:Nat)]
def sumH:List Pt→Nat
  | []=>0
  | p :: r=>p.holes + sumH r
theorem sumH_app:∀ l r:List Pt,sumH (l++r)=sumH l + sumH r
  | [],_=>by simp [sumH]
  | t :: l,r=>by simp [sumH,sumH_app l r];omega
def op3 (n:Int):Op:=if n % 3=0 then .sum else if n % 3=1 then .less else .by_
theorem seq_gen {u v:US} {D:UEnds} {τ:SU} {M:MHp} (h:∀ V:SU→MHp→Prop,V=v D→u { D with nx:=V } τ M):uSeq u v D τ M:=h _ rfl
theorem if_gen {c:UT} {t u:US} {D:UEnds} {τ:SU} {M:MHp} (h:∀ A B:MHp→Prop,A=t D τ→B=u D τ→c τ M fun b M1=>if b=true then A M1 else B M1):uIfS c t u D τ M:=h _ _ rfl rfl
def placeU (p:List Nat):U:=.tup (p.map fun (n:Nat)=>.int (n:Int))
def entE (x:List Nat × Pt):U:=.tup [placeU x.1,x.2.toU]
def endsP:Pt→List Nat→List (List Nat × Pt)
  | .turn a,pl=>endsP a (pl++[0])
  | .two _ a b,pl=>endsP a (pl++[0])++endsP b (pl++[1])
  | p,pl=>[(pl,p)]
theorem endsP_ends:∀ (p:Pt) (pl:List Nat),(endsP p pl).map (·.2)=p.ends
  | .turn a,pl=>by simp only [endsP,Pt.ends,endsP_ends a]
  | .two _ a b,pl=>by simp only [endsP,Pt.ends,List.map_append,endsP_ends a,endsP_ends b]
  | .hole _,pl=>rfl
  | .any,pl=>rfl
  | .fr _ _,pl=>rfl
def bearF:Pt→Tr→List U
  | .any,.name x=>[.str x]
  | .fr _ _,.num n=>[.int n]
  | .turn p,.turn a=>bearF p a
  | .two _ p q,.two _ a b=>bearF p a++bearF q b
  | _,_=>[]
theorem eqX_bl {neg:Bool} {i j:Bool} {M:MHp} {Q:UK}:uEqX neg (.bl i) (.bl j) M Q=Q (.bl (if neg then !decide (i=j) else decide (i=j))) M:=rfl
theorem at_draw (l:List Int) (k:Nat) (h:k < l.length):atI (l.map U.int) (k:Int)=some (.int l[k]):=atI_nat (by rw [List.getElem?_map,List.getElem?_eq_getElem h];rfl)
def uIsB:UR2:=fun x y M Q=>match x,y with
  | .bl i,.bl j=>Q (.bl (decide (i=j))) M
  | _,_=>False
def Pt.parts:Pt→List Pt
  | .turn a=>[a]
  | .two _ a b=>[a,b]
  | _=>[]
def subsP:Pt→List Nat→List (List Nat × Pt)
  | .turn a,pl=>(pl,.turn a) :: subsP a (pl++[0])
  | .two o a b,pl=>(pl,.two o a b) :: (subsP a (pl++[0])++subsP b (pl++[1]))
  | p,pl=>[(pl,p)]
def Pt.places:Pt→List (List Nat)
  | .turn a=>[] :: a.places.map (0 :: ·)
  | .two _ a b=>[] :: (a.places.map (0 :: ·)++b.places.map (1 :: ·))
  | _=>[[]]
theorem subs_places:∀ (p:Pt) (pl:List Nat),(subsP p pl).map (·.1)=p.places.map (pl++·)
  | .turn a,pl=>by simp [subsP,Pt.places,subs_places a]
  | .two o a b,pl=>by
    simp only [subsP,Pt.places,List.map_cons,List.map_append,subs_places a,subs_places b,List.map_map,List.append_nil]
    simp [Function.comp_def]
  | .hole _,pl=>by simp [subsP,Pt.places]
  | .any,pl=>by simp [subsP,Pt.places]
  | .fr _ _,pl=>by simp [subsP,Pt.places]
theorem places_len:∀ p:Pt,p.places.length < 2 ^ p.dep
  | .turn a=>by have:=places_len a;simp only [Pt.places,Pt.dep,List.length_cons,List.length_map,Nat.pow_succ];omega
  | .two _ a b=>by
    have h1:=places_len a
    have h2:=places_len b
    have h3:2 ^ a.dep≤2 ^ max a.dep b.dep:=Nat.pow_le_pow_right (by decide) (Nat.le_max_left _ _)
    have h4:2 ^ b.dep≤2 ^ max a.dep b.dep:=Nat.pow_le_pow_right (by decide) (Nat.le_max_right _ _)
    simp only [Pt.places,Pt.dep,Nat.pow_succ,List.length_cons,List.length_append,List.length_map];omega
  | .hole _=>by simp [Pt.places,Pt.dep]
  | .any=>by simp [Pt.places,Pt.dep]
  | .fr _ _=>by simp [Pt.places,Pt.dep]
theorem place_short:∀ (p:Pt) (pl:List Nat),pl∈p.places→pl.length < p.dep
  | .turn a,pl,h=>by
    simp only [Pt.places,List.mem_cons,List.mem_map] at h
    rcases h with rfl | ⟨q,hq,rfl⟩
    · simp [Pt.dep]
    · have:=place_short a q hq;simp only [Pt.dep,List.length_cons];omega
  | .two o a b,pl,h=>by
    simp only [Pt.places,List.mem_cons,List.mem_append,List.mem_map] at h
    rcases h with rfl | ⟨q,hq,rfl⟩ | ⟨q,hq,rfl⟩
    · simp [Pt.dep]
    · have:=place_short a q hq;simp only [Pt.dep,List.length_cons];omega
    · have:=place_short b q hq;simp only [Pt.dep,List.length_cons];omega
  | .hole _,pl,h=>by simp [Pt.places] at h;subst h;simp [Pt.dep]
  | .any,pl,h=>by simp [Pt.places] at h;subst h;simp [Pt.dep]
  | .fr _ _,pl,h=>by simp [Pt.places] at h;subst h;simp [Pt.dep]
def spPlaces (n:Nat):USp:=fun us M Q=>∃ p:Pt,us=[p.toU]∧p.dep≤n∧n≤10∧Q (.lst (p.places.map placeU)) M
theorem s_at:(tabGet SIGNS (Str.ofString "at")).isSome=false:=by decide +kernel
theorem s_any:(tabGet SIGNS (Str.ofString "any")).isSome=false:=by decide +kernel
theorem s_from:(tabGet SIGNS (Str.ofString "from")).isSome=false:=by decide +kernel
theorem head_sign (p:Pt):∃ z r,p.toU=.tup (.str z :: r)∧(tabGet SIGNS z).isSome=!p.leafy∧(p.leafy=false→r=p.parts.map Pt.toU)∧r.length≤3:=by
  cases p with
  | hole c=>exact ⟨_,_,rfl,s_at,(fun h=>by cases h),by simp⟩
  | any=>exact ⟨_,_,rfl,s_any,(fun h=>by cases h),by simp⟩
  | fr l h=>exact ⟨_,_,rfl,s_from,(fun h=>by cases h),by simp⟩
  | turn a=>exact ⟨_,_,rfl,sg_turn,fun _=>rfl,by simp⟩
  | two o a b=>exact ⟨_,_,rfl,sg_two o,fun _=>rfl,by simp⟩
theorem parts_leaf {p:Pt} (h:p.leafy=true):p.parts=[]:=by cases p <;> first | rfl | cases h
def innerP:Nat→List Pt→List (List Nat)
  | _,[]=>[]
  | k,a :: r=>a.places.map (k :: ·)++innerP (k + 1) r
theorem places_eq (p:Pt):p.places=[] :: innerP 0 p.parts:=by cases p <;> simp [Pt.places,Pt.parts,innerP]
theorem inner_snoc (l:List Pt) (a:Pt):∀ k,innerP k (l++[a])=innerP k l++a.places.map ((k + l.length) :: ·):=by
  induction l with
  | nil=>intro k;simp [innerP]
  | cons b l ih=>intro k;simp only [List.cons_append,innerP,ih,List.length_cons,List.append_assoc];rw [show k + 1 + l.length=k + (l.length + 1) by omega]
theorem inner_le (p:Pt) (i:Nat):(innerP 0 (p.parts.take i)).length + 1≤p.places.length:=by
  have:∀ (l:List Pt) (k j:Nat),(innerP k (l.take j)).length≤(innerP k l).length:=by
    intro l
    induction l with
    | nil=>intro k j;simp [innerP]
    | cons a l ih =>
      intro k j
      cases j with
      | zero=>simp [innerP]
      | succ j=>simp only [List.take_succ_cons,innerP,List.length_append];have:=ih (k + 1) j;omega
  have h1:=this p.parts 0 i
  rw [places_eq p,List.length_cons]
  omega
theorem part_dep {p a:Pt} {i:Nat} (h:p.parts[i]?=some a):a.dep < p.dep:=by
  have hm:=List.mem_of_getElem? h
  cases p with
  | turn b =>
    have:a=b:=by simpa [Pt.parts] using hm
    subst this;simp only [Pt.dep];omega
  | two o b c =>
    have:a=b∨a=c:=by simpa [Pt.parts] using hm
    simp only [Pt.dep]
    rcases this with rfl | rfl <;> omega
  | _=>cases hm
theorem ok_places_of {n:Nat} (F:Fun K "places_of" "places_of" s_places_of f fd) (hm:mg "places_of"=some (.ref f)) (m_enumerate:mg "enumerate"=none)
    (C_parts_of:Callee P w K mg base 1 "parts_of" spPartsG []) (C_places_of:Callee P w K mg base (n + 1) "places_of" (spPlaces n) []):Callee P w K mg base (n + 2) "places_of" (spPlaces (n + 1)) []:=by
  refine callee_of F hm sc_places_of (fun _ _ _ _ _ _ us hl=>match us,hl with | [_],_=>rfl) (fun us M Q h=>by obtain ⟨x,rfl,_⟩:=h;rfl) (uss_cons (us_set 1 sc_places_of.nd (ue_lst (own:=true) (ua_cons (ue_tup ua_nil) ua_nil)))
  (uss_cons (us_for (ui_enumerate m_enumerate (ua_cons (ue_call C_parts_of (ua_cons (uv 0) ua_nil)) ua_nil)) (ug_tup (n:=2) (ugs_cons (ug_name (k:=1000) 2 sc_places_of.nd) (ugs_cons (ug_name (k:=1000) 3 sc_places_of.nd) ugs_nil)))
  (uss_one (us_expr (ue_extend (uv 1) (ua_cons (ue_comp false ["place","number"] 1 [2] (ui_seq (ue_call C_places_of (ua_cons (uv 3) ua_nil))) (ug_name (k:=1) 0 (by dsimp only [compD];decide +kernel)) uif_nil (ue_add (own:=false) (ue_tup (ua_cons (uv 1) ua_nil)) (uv 0))) ua_nil)))))
  (uss_one (us_ret (uv 1))))) ?_
  rintro us M Q ⟨t,rfl,hd,hz,q⟩
  have hbig:∀ a:Pt,a.dep≤10→a.places.length≤1024:=fun a ha=>by
    have h1:=places_len a
    have h2:2 ^ a.dep≤2 ^ 10:=Nat.pow_le_pow_right (by decide) ha
    omega
  simp_all! only [uZipL,uIsB]
  refine fun p hp=>?_
  refine for_by (S:=⟨none,numbered (t.parts.map Pt.toU)⟩) (M1:=mup M p (.lst [.tup []])) (fun R r=>?_)
    (fun i τ Mi=>∃ b c,τ=[some t.toU,some (.ref p),b,c]∧Mi=mup M p (.lst (([] :: innerP 0 (t.parts.take i)).map placeU))) ⟨none,none,rfl,rfl⟩ (fun i τ M' _ a e=>by cases e) ?_ ?_
  · obtain ⟨z,rr,e,e1,e2,e3⟩:=head_sign t
    refine ⟨z,rr,!t.leafy,by rw [← e];rfl,e1,by omega,?_⟩
    cases hl:t.leafy with
    | true=>simp only [hl,Bool.not_true,Bool.false_eq_true,if_false];rw [parts_leaf hl] at r;exact r
    | false=>simp only [hl,Bool.not_false,if_true];rw [e2 hl];exact r
  · rintro i x τ Mi e ⟨b,c,rfl,rfl⟩
    obtain ⟨u,hu,rfl⟩:=numbered_get e
    rw [List.getElem?_map] at hu
    cases hp':t.parts[i]? with
    | none=>rw [hp'] at hu;cases hu
    | some a =>
      rw [hp'] at hu
      cases hu
      have ha:=part_dep hp'
      have hin:innerP 0 (t.parts.take (i + 1))=innerP 0 (t.parts.take i)++a.places.map (i :: ·):=by
        have hlt:=(List.getElem?_eq_some_iff.mp hp').1
        rw [List.take_add_one,hp']
        have:=inner_snoc (t.parts.take i) a 0
        rw [List.length_take,Nat.min_eq_left (Nat.le_of_lt hlt),Nat.zero_add] at this
        exact this
      have hb1:=hbig a (by omega)
      simp_all! only [uZipL,uIsB]
      refine ⟨isL_own,uComp_list (S:=⟨none,a.places.map placeU⟩) (M1:=mup M p (MO.lst (placeU [] :: List.map placeU (innerP 0 (List.take i t.parts))))) (a.places.map fun pl=>placeU (i :: pl)) (fun R r'=>⟨a,rfl,by omega,by omega,r'⟩) (by simp) ?_ (fun a e=>by cases e) ?_ ?_⟩
      · show (a.places.map placeU).length≤sizeLine
        rw [List.length_map]
        exact small (by omega)
      · intro j x y hx hy M' _ R r'
        have hx':(a.places.map placeU)[j]?=some x:=hx
        rw [List.getElem?_map] at hx' hy
        cases hpl:a.places[j]? with
        | none=>rw [hpl] at hx';cases hx'
        | some pl =>
          rw [hpl] at hx' hy
          cases hx'
          cases hy
          have h1:=place_short a pl (List.mem_of_getElem? hpl)
          simp_all! only [placeU,uZipL,uIsB]
          refine ⟨small ?_,?_⟩
          · simp only [List.length_cons,List.length_nil,List.length_map];omega
          · simpa [placeU] using r'
      · have h1:=inner_le t i
        have h2:=hbig t (by omega)
        simp_all! only [uZipL,uIsB]
        refine ⟨small ?_,_,_,rfl,?_⟩
        · simp only [List.length_map];omega
        · rw [hin,List.map_append,List.map_map];rfl
  · rintro τ Mi ⟨b,c,rfl,rfl⟩
    rw [numbered_len,List.length_map,List.take_length,← places_eq]
    simp_all! only [uZipL,uIsB]
    exact ⟨_,M,(Sub.refl M).mup hp,.inr ⟨p,_,rfl,mup_same,hp,rfl⟩,q⟩
theorem places_all (F:Fun K "places_of" "places_of" s_places_of f fd) (hm:mg "places_of"=some (.ref f)) (m_enumerate:mg "enumerate"=none) (C_parts_of:Callee P w K mg base 1 "parts_of" spPartsG []):∀ n,Callee P w K mg base (n + 1) "places_of" (spPlaces n) []
  | 0=>by
    have no:∀ us M Q,¬ spPlaces 0 us M Q:=fun us M Q h=>by
      obtain ⟨p,_,h,_⟩:=h
      have:=pdep_pos p
      omega
    refine ⟨f,fd,["shape"],[],[],⟨fun vs H Q E h=>?_,fun A outer s H args us vs Q E _ _ _ _ h=>?_⟩,hm,F.kp,F.binds (fun _ _ _ _ _ _ us hl=>match us,hl with | [_],_=>rfl),.nil,fun H M=>.nil⟩
    · obtain ⟨us,M,Q',_,_,h,_⟩:=h;exact absurd h (no us M Q')
    · obtain ⟨us,M,Q',_,_,h,_⟩:=h;exact absurd h (no us M Q')
  | n + 1=>ok_places_of F hm m_enumerate C_parts_of (places_all F hm m_enumerate C_parts_of n)
def stepU:U→Nat→Option U
  | .tup (.str z :: r),k=>if (tabGet SIGNS z).isSome then (if r.length≤1000 then r[k]? else none) else none
  | _,_=>none
def atU:U→List Nat→Option U
  | u,[]=>some u
  | u,k :: pl=>(stepU u k).bind fun v=>atU v pl
theorem step_inv {h w:U} {k:Nat} (e:stepU h k=some w):∃ z r,h=.tup (.str z :: r)∧(tabGet SIGNS z).isSome=true∧r.length≤1000∧r[k]?=some w:=by
  match h,e with
  | .tup (.str z :: r),e =>
    simp only [stepU] at e
    split at e
    · rename_i h1
      split at e
      · rename_i h2
        exact ⟨z,r,rfl,h1,h2,e⟩
      · cases e
    · cases e
  | .tup [],e=>cases e
  | .tup (.non :: _),e=>cases e
  | .tup (.bl _ :: _),e=>cases e
  | .tup (.int _ :: _),e=>cases e
  | .tup (.ty _ :: _),e=>cases e
  | .tup (.ref _ :: _),e=>cases e
  | .tup (.tup _ :: _),e=>cases e
  | .tup (.lst _ :: _),e=>cases e
  | .non,e=>cases e
  | .bl _,e=>cases e
  | .int _,e=>cases e
  | .str _,e=>cases e
  | .ty _,e=>cases e
  | .ref _,e=>cases e
  | .lst _,e=>cases e
theorem atU_snoc:∀ (l:List Nat) (u:U) (k:Nat),atU u (l++[k])=(atU u l).bind fun v=>stepU v k
  | [],u,k=>by simp only [List.nil_append,atU,Option.bind_some];cases stepU u k <;> rfl
  | j :: l,u,k=>by
    simp only [List.cons_append,atU]
    cases stepU u j with
    | none=>rfl
    | some v=>exact atU_snoc l v k
theorem atU_none:∀ (l r:List Nat) (u:U),atU u l=none→atU u (l++r)=none
  | [],r,u,z=>by cases z
  | j :: l,r,u,z=>by
    simp only [List.cons_append,atU] at z ⊢
    cases hj:stepU u j with
    | none=>rfl
    | some v=>rw [hj] at z;exact atU_none l r v z
def spAtU:USp:=fun us M Q=>∃ (u v:U) (pl:List Nat),us=[u,placeU pl]∧atU u pl=some v∧Q v M
theorem ok_shape_at (F:Fun K "shape_at" "shape_at" s_shape_at f fd) (hm:mg "shape_at"=some (.ref f)) (C_parts_of:Callee P w K mg base 1 "parts_of" spPartsG []):Callee P w K mg base 2 "shape_at" spAtU []:=by
  refine callee_of F hm sc_shape_at (fun _ _ _ _ _ _ us hl=>match us,hl with | [_,_],_=>rfl) (fun us M Q h=>by obtain ⟨x,y,z,rfl,_⟩:=h;rfl) (uss_cons (us_set 2 sc_shape_at.nd (uv 0))
  (uss_cons (us_for (ui_seq (uv 1)) (ug_name (k:=1000) 3 sc_shape_at.nd)
  (uss_one (us_set 2 sc_shape_at.nd (ue_ix (ue_call C_parts_of (ua_cons (uv 2) ua_nil)) (uv 3)))))
  (uss_one (us_ret (uv 2))))) ?_
  rintro us M Q ⟨u,v,pl,rfl,hpl,q⟩
  simp_all! only [uZipL,uIsB]
  refine for_by (S:=⟨none,pl.map fun (n:Nat)=>U.int (n:Int)⟩) (M1:=M) (fun R r=>r)
    (fun i τ Mi=>∃ (h:U) (c:Option U),τ=[some u,some (placeU pl),some h,c]∧Mi=M∧atU u (pl.take i)=some h) ⟨u,none,rfl,rfl,rfl⟩ (fun i τ M' _ a e=>by cases e) ?_ ?_
  · rintro i x τ Mi e ⟨h,c,rfl,rfl,hh⟩
    have e':(pl.map fun (n:Nat)=>U.int (n:Int))[i]?=some x:=e
    rw [List.getElem?_map] at e'
    cases hk:pl[i]? with
    | none=>rw [hk] at e';cases e'
    | some k =>
      rw [hk] at e'
      cases e'
      have hnx:atU u (pl.take (i + 1))=stepU h k:=by
        rw [List.take_add_one,hk]
        show atU u (pl.take i++[k])=_
        rw [atU_snoc,hh];rfl
      cases hs:stepU h k with
      | none =>
        rw [hs] at hnx
        have:=atU_none (pl.take (i + 1)) (pl.drop (i + 1)) u hnx
        rw [List.take_append_drop,hpl] at this
        cases this
      | some w' =>
        rw [hs] at hnx
        obtain ⟨z,r,rfl,hz,hr,hs'⟩:=step_inv hs
        simp_all! only [uZipL,uIsB]
        refine ⟨z,r,true,rfl,hz,hr,?_⟩
        simp_all! only [uZipL,uIsB]
        exact ⟨w',atI_nat hs',w',_,rfl,hnx⟩
  · rintro τ Mi ⟨h,c,rfl,rfl,hh⟩
    simp only [List.length_map,List.take_length] at hh
    rw [hpl] at hh
    cases hh
    simp_all! only [uZipL,uIsB]
    exact rt_same q
theorem ok_tree_at (F:Fun K "tree_at" "tree_at" s_tree_at f fd) (hm:mg "tree_at"=some (.ref f)) (C_shape_at:Callee P w K mg base 2 "shape_at" spAtU []):Callee P w K mg base 3 "tree_at" spAtU []:=by
  refine callee_of F hm sc_tree_at (fun _ _ _ _ _ _ us hl=>match us,hl with | [_,_],_=>rfl) (fun us M Q h=>by obtain ⟨x,y,z,rfl,_⟩:=h;rfl) (uss_one (us_ret (ue_call C_shape_at (ua_cons (uv 0) (ua_cons (uv 1) ua_nil))))) ?_
  rintro us M Q ⟨u,v,pl,rfl,hpl,q⟩
  simp_all! only [uZipL,uIsB]
  exact ⟨u,v,pl,rfl,hpl,rt_same q⟩
theorem st_turn (a:U):stepU (.tup [.str (Str.ofString "turn"),a]) 0=some a:=by
  simp only [stepU];rw [if_pos sg_turn,if_pos (by simp)];rfl
theorem st_two0 (o:Op) (a b:U):stepU (.tup [.str o.word,a,b]) 0=some a:=by
  simp only [stepU];rw [if_pos (sg_two o),if_pos (by simp)];rfl
theorem st_two1 (o:Op) (a b:U):stepU (.tup [.str o.word,a,b]) 1=some b:=by
  simp only [stepU];rw [if_pos (sg_two o),if_pos (by simp)];rfl
theorem subs_at:∀ (p:Pt) (pre:List Nat) (e:List Nat × Pt),e∈subsP p pre→∃ s,e.1=pre++s∧atU p.toU s=some e.2.toU
  | .turn a,pre,e,h=>by
    simp only [subsP] at h
    rcases List.mem_cons.mp h with rfl | h
    · exact ⟨[],by simp,rfl⟩
    · obtain ⟨s,h1,h2⟩:=subs_at a _ e h
      refine ⟨0 :: s,by rw [h1];simp,?_⟩
      simp only [atU,Pt.toU,st_turn,Option.bind_some,h2]
  | .two o a b,pre,e,h=>by
    simp only [subsP] at h
    rcases List.mem_cons.mp h with rfl | h
    · exact ⟨[],by simp,rfl⟩
    · rcases List.mem_append.mp h with h | h
      · obtain ⟨s,h1,h2⟩:=subs_at a _ e h
        refine ⟨0 :: s,by rw [h1];simp,?_⟩
        simp only [atU,Pt.toU,st_two0,Option.bind_some,h2]
      · obtain ⟨s,h1,h2⟩:=subs_at b _ e h
        refine ⟨1 :: s,by rw [h1];simp,?_⟩
        simp only [atU,Pt.toU,st_two1,Option.bind_some,h2]
  | .hole _,pre,e,h=>by cases List.mem_singleton.mp h;exact ⟨[],by simp,rfl⟩
  | .any,pre,e,h=>by cases List.mem_singleton.mp h;exact ⟨[],by simp,rfl⟩
  | .fr _ _,pre,e,h=>by cases List.mem_singleton.mp h;exact ⟨[],by simp,rfl⟩
def noHole (e:List Nat × Pt):Bool:=decide (e.2.holes=0)
def fU:U→Option U
  | .tup [a,.tup (.str z :: r)]=>if (!decide (z=Str.ofString "at")) && !(tabGet SIGNS z).isSome then some (.tup [a,.tup (.str z :: r)]) else none
  | _=>none
theorem fU_ent (e:List Nat × Pt):fU (entE e)=if e.2.leafy && noHole e then some (entE e) else none:=by
  obtain ⟨pl,q⟩:=e
  have e1:decide (Str.ofString "at"=Str.ofString "at")=true:=by simp
  cases q with
  | hole c=>simp only [entE,Pt.toU,fU,e1,Pt.leafy,noHole,Pt.holes];rfl
  | any=>simp only [entE,Pt.toU,fU,ww,s_any,Pt.leafy,noHole,Pt.holes];rfl
  | fr l h=>simp only [entE,Pt.toU,fU,ww,s_from,Pt.leafy,noHole,Pt.holes];rfl
  | turn a=>simp only [entE,Pt.toU,fU,ww,sg_turn,Pt.leafy];rfl
  | two o a b=>simp only [entE,Pt.toU,fU,ww,sg_two,Pt.leafy];rfl
theorem mup_self {M:MHp} {p:Addr} {o:MO} (h:M p=some o):mup M p o=M:=by
  funext x
  by_cases e:x=p
  · subst e;rw [mup_same,h]
  · rw [mup_ne e]
def tapeU (ns:List Int) (a b c:Int):List U:=[.lst (ns.map .int),.int a,.int b,.int c]
def spDraw:USp:=fun us M Q=>∃ (t:Addr) (ns:List Int) (a b c m:Int),us=[.ref t,.int m]∧0 < m∧m < 2 ^ 64∧M t=some (.lst (tapeU ns a b c))∧0≤a∧a≤1000000∧∀ n a' b' c':Int,0≤n→n < m→a≤a'→a'≤a + 1→Q (.int n) (mup M t (.lst (tapeU ns a' b' c')))
local macro_rules | `(tactic| simp! only [$xs,*] $[$l]?) => `(tactic| simp only [$xs,*, Bool.false_eq_true, Bool.not_false, Bool.not_true, List.append_nil, List.cons_append, List.getElem?_cons_succ, List.getElem?_cons_zero, List.length_cons, List.length_nil, List.map_cons, List.map_nil, List.nil_append, List.replicate, List.set_cons_succ, List.set_cons_zero, Nat.add_sub_cancel, Nat.reduceAdd, Nat.reduceLeDiff, Nat.reduceSub, Nat.sub_self, Option.getD_some, Option.some.injEq, and_true, at0, at1, at2, at3, bAll, bInt, bInt1, bInt2, bIsi2, bLen, bList, bMax, bSorted, bSum, bTuple, cGe, cGt, cLe, cLt, capt, decide_false, decide_true, eqX_int, eqX_str, exists_eq_left', if_false, if_true, inSt, inTab, isNon, isi_NoneType_bool, isi_NoneType_dict, isi_NoneType_int, isi_NoneType_list, isi_NoneType_str, isi_NoneType_tuple, isi_bool_bool, isi_bool_dict, isi_bool_int, isi_bool_list, isi_bool_str, isi_bool_tuple, isi_dict_bool, isi_dict_dict, isi_dict_int, isi_dict_list, isi_dict_str, isi_dict_tuple, isi_int_bool, isi_int_dict, isi_int_int, isi_int_list, isi_int_str, isi_int_tuple, isi_list_bool, isi_list_dict, isi_list_int, isi_list_list, isi_list_str, isi_list_tuple, isi_str_bool, isi_str_dict, isi_str_int, isi_str_list, isi_str_str, isi_str_tuple, isi_tuple_bool, isi_tuple_dict, isi_tuple_int, isi_tuple_list, isi_tuple_str, isi_tuple_tuple, items, ixTab, mAppend, mClear, mExtend, mPop, mPopAt, mkL, mup_mup, mup_same, reduceCtorEq, startU, szl, true_and, typU, uAdd, uAddL, uAnd, uAndV, uBM, uBM0, uC, uCB, uCall, uCallV, uChain, uCons, uEnum, uEnumL, uEqS, uI, uI0, uIf, uIn, uIsN, uIter, uIx, uListRev, uLst, uLtX, uMul, uNeS, uNil, uNoPart, uNot, uNotN, uNotV, uOp, uOr, uOrV, uPart, uRepL, uRev, uRng1, uRng2, uSetFrom, uSlX, uTest, uTru, uTup, uUn, uVar, uZip, uZipL, vw_bl, vw_int, vw_lst, vw_non, vw_own, vw_str, vw_tup] $[$l]?)
set_option maxHeartbeats 1000000 in
theorem ok_draw (F:Fun K "_law_draw" "_law_draw" s_law_draw f fd) (hm:mg "_law_draw"=some (.ref f)) (m_len:mg "len"=none):Callee P w K mg base 1 "_law_draw" spDraw []:=by
  refine callee_of F hm sc_law_draw (fun _ _ _ _ _ _ us hl=>match us,hl with | [_,_],_=>rfl) (fun us M Q h=>by obtain ⟨_,_,_,_,_,_,rfl,_⟩:=h;rfl) (uss_cons (us_if (ut_c k_eqX (ue_ix (uv 0) un_) un_)
  (uss_cons (us_set 2 sc_law_draw.nd (ue_ix (uv 0) un_))
  (uss_cons (us_asub (ue_add (own:=false) (uv 2) un_) (uv 0) un_)
  (uss_cons (us_set 3 sc_law_draw.nd un_)
  (uss_cons (us_if (ut_c k_gt (ue_b b_len m_len (ua_cons (ue_ix (uv 0) un_) ua_nil)) un_)
  (uss_one (us_set 3 sc_law_draw.nd (ue_ix (ue_ix (uv 0) un_) (ue_mod (uv 2) (ue_b b_len m_len (ua_cons (ue_ix (uv 0) un_) ua_nil))))))
  uss_nil)
  (uss_cons (us_if (PWU.pt (uw_or (ut_c k_ge (uv 2) (ue_b b_len m_len (ua_cons (ue_ix (uv 0) un_) ua_nil))) (uw_or1 (ut_c k_ltX (uv 3) (ue_pow un_ un_)))))
  (uss_cons (us_set 4 sc_law_draw.nd (ue_add (own:=false) (ue_add (own:=false) (ue_mod (ue_mulX (own:=false) (uv 2) (uv 2)) un_) (ue_mulX (own:=false) un_ (uv 2))) un_))
  (uss_cons (us_set 4 sc_law_draw.nd (ue_mod (ue_mulX (own:=false) (ue_add (own:=false) (ue_mod (uv 3) un_) un_) (uv 4)) un_))
  (uss_one (us_ret (ue_mod (ue_mod (ue_add (own:=false) (ue_divX (ue_mod (ue_mulX (own:=false) (uv 4) (uv 4)) un_) un_) (ue_mulX (own:=false) un_ (uv 2))) un_) (uv 1))))))
  uss_nil)
  (uss_cons (us_asub (ue_sub (uv 3) (ue_pow un_ un_)) (uv 0) un_)
  (uss_one (us_asub un_ (uv 0) un_))))))))
  uss_nil)
  (uss_cons (us_asub (ue_sub (ue_ix (uv 0) un_) un_) (uv 0) un_)
  (uss_cons (us_set 5 sc_law_draw.nd (ue_ix (uv 0) un_))
  (uss_cons (us_asub (ue_divX (uv 5) (uv 1)) (uv 0) un_)
  (uss_one (us_ret (ue_mod (uv 5) (uv 1)))))))) ?_
  rintro us M Q ⟨t,ns,a,b,c,m,rfl,hm0,hm1,hM,ha0,ha1,q⟩
  have pw:CPow 10 18:=⟨by decide,by decide,by decide⟩
  have hMM:=mup_self hM
  rw [← hMM]
  refine seq_gen fun V hV=>?_
  have tail:∀ (a' b' c':Int) (x2 x3 x4 x5:Option U),a≤a'→a'≤a + 1→V [some (.ref t),some (.int m),x2,x3,x4,x5] (mup M t (.lst (tapeU ns a' b' c'))):=by
    intro a' b' c' x2 x3 x4 x5 h1 h2
    subst hV
    refine seq_gen fun V1 hV1=>?_
    simp! only [uSetI,tapeU]
    refine ⟨3,by decide,?_⟩
    simp only [mup_mup,List.set_cons_succ,List.set_cons_zero]
    subst hV1
    refine seq_gen fun V1 hV1=>?_
    simp! only [uAsg,hName]
    subst hV1
    refine seq_gen fun V1 hV1=>?_
    simp! only [uSetI]
    refine ⟨⟨hm0,hm1⟩,2,by decide,?_⟩
    simp only [mup_mup,List.set_cons_succ,List.set_cons_zero]
    subst hV1
    simp! only [uRet]
    exact ⟨hm0,rt_same (q _ a' _ _ (Int.emod_nonneg _ (by omega)) (Int.emod_lt_of_pos _ hm0) h1 h2)⟩
  refine if_gen fun A B hA hB=>?_
  have hb:B (mup M t (.lst (tapeU ns a b c))):=by
    subst hB
    exact tail a b c none none none none (by omega) (by omega)
  simp! only [tapeU]
  refine ite2 (fun hc=>?_) (fun _=>hb)
  subst hA
  refine seq_gen fun V1 hV1=>?_
  simp! only [uAsg,hName]
  subst hV1
  refine seq_gen fun V1 hV1=>?_
  simp! only [uSetI]
  refine ⟨1,by decide,?_⟩
  simp only [mup_mup,List.set_cons_succ,List.set_cons_zero]
  subst hV1
  refine seq_gen fun V1 hV1=>?_
  simp! only [uAsg,hName]
  subst hV1
  refine seq_gen fun V1 hV1=>?_
  have go:∀ cell:Int,V1 [some (.ref t),some (.int m),some (.int a),some (.int cell),none,none] (mup M t (.lst [.lst (ns.map .int),.int (a + 1),.int b,.int c])):=by
    intro cell
    subst hV1
    refine seq_gen fun V2 hV2=>?_
    refine if_gen fun A2 B2 hA2 hB2=>?_
    have hA2':A2 (mup M t (.lst [.lst (ns.map .int),.int (a + 1),.int b,.int c])):=by
      subst hA2
      refine seq_gen fun V3 hV3=>?_
      simp! only [uAsg,hName]
      refine ⟨mulL (by omega) (by omega),by decide,mulL (by decide) (by decide),?_⟩
      subst hV3
      refine seq_gen fun V3 hV3=>?_
      simp! only [uAsg,hName]
      have i0:=Int.emod_nonneg cell (show (999983:Int)≠0 by decide)
      have i1:=Int.emod_lt_of_pos cell (show (0:Int) < 999983 by decide)
      refine ⟨by decide,mulL (by omega) (by omega),by decide,?_⟩
      subst hV3
      simp! only [uRet]
      generalize hx:(cell % 999983 + 3) * (a * a % 10007 + 61 * a + 7) % 1000003=x
      have x0:0≤x:=by rw [← hx];exact Int.emod_nonneg _ (by decide)
      have x1:x < 1000003:=by rw [← hx];exact Int.emod_lt_of_pos _ (by decide)
      refine ⟨mulL (by omega) (by omega),by decide,⟨by decide,by decide⟩,mulL (by decide) (by decide),by decide,hm0,rt_same (q _ (a + 1) _ _ (Int.emod_nonneg _ (by omega)) (Int.emod_lt_of_pos _ hm0) (by omega) (by omega))⟩
    have hB2':B2 (mup M t (.lst [.lst (ns.map .int),.int (a + 1),.int b,.int c])):=by
      subst hB2
      simp only [uNext]
      subst hV2
      refine seq_gen fun V3 hV3=>?_
      simp! only [uSetI]
      refine ⟨pw,2,by decide,?_⟩
      simp only [mup_mup,List.set_cons_succ,List.set_cons_zero]
      subst hV3
      simp! only [uSetI]
      refine ⟨3,by decide,?_⟩
      simp only [mup_mup,List.set_cons_succ,List.set_cons_zero]
      exact tail (a + 1) _ _ _ _ _ _ (by omega) (by omega)
    simp! only [List.length_map]
    exact ite2 (fun _=>hA2') (fun _=>⟨pw,ite2 (fun _=>hA2') (fun _=>hB2')⟩)
  simp! only [uIfS,List.length_map]
  refine ite2 (fun hl=>?_) (fun _=>?_)
  · have hl':0 < (ns.length:Int):=by simpa using hl
    obtain ⟨cell,hcell⟩:=atI_ex ns (a % (ns.length:Int)) (Int.emod_nonneg _ (by omega)) (Int.emod_lt_of_pos _ hl')
    have hc2:atI (ns.map U.int) (a % (ns.length:Int))=some (.int cell):=by
      have e:(((a % (ns.length:Int)).toNat:Nat):Int)=a % (ns.length:Int):=Int.toNat_of_nonneg (Int.emod_nonneg _ (by omega))
      have h3:=Int.emod_lt_of_pos a hl'
      have a1:=at_draw ns (a % (ns.length:Int)).toNat (by omega)
      rw [e] at a1
      have b1:=atI_nat (xs:=ns) (j:=(a % (ns.length:Int)).toNat) (v:=ns[(a % (ns.length:Int)).toNat]'(by omega)) (by simp)
      rw [e,hcell] at b1
      rw [a1,Option.some.inj b1]
    simp! only [uAsg,hName,List.length_map,hc2]
    exact ⟨hl',go cell⟩
  · simp! only [uNext]
    exact go 0
theorem some_at (w:Int) (h0:0≤w) (h1:w < 11):∃ n:Int,atI [U.int 0,U.int 1,U.int 2,U.int 5,U.int 9,U.int 10,U.int 99,U.int 256,U.int (10 ^ Int.toNat 9),U.int (10 ^ Int.toNat 18 - 1),U.int (10 ^ Int.toNat 18)] w=some (.int n)∧0≤n∧n≤10 ^ 18:=by
  have e:w=0∨w=1∨w=2∨w=3∨w=4∨w=5∨w=6∨w=7∨w=8∨w=9∨w=10:=by omega
  rcases e with rfl | rfl | rfl | rfl | rfl | rfl | rfl | rfl | rfl | rfl | rfl <;> exact ⟨_,rfl,by decide +kernel,by decide +kernel⟩
def spNumber:USp:=fun us M Q=>∃ (t:Addr) (ns:List Int) (a b c:Int),us=[.ref t]∧M t=some (.lst (tapeU ns a b c))∧0≤a∧a≤900000∧∀ n a' b' c':Int,0≤n→n≤10 ^ 18→a≤a'→a'≤a + 2→Q (.int n) (mup M t (.lst (tapeU ns a' b' c')))
set_option maxHeartbeats 1000000 in
theorem ok_number (F:Fun K "_law_number" "_law_number" s_law_number f fd) (hm:mg "_law_number"=some (.ref f)) (C_law_draw:Callee P w K mg base 1 "_law_draw" spDraw []):Callee P w K mg base 2 "_law_number" spNumber []:=by
  refine callee_of F hm sc_law_number (fun _ _ _ _ _ _ us hl=>match us,hl with | [_],_=>rfl) (fun us M Q h=>by obtain ⟨_,_,_,_,_,rfl,_⟩:=h;rfl) (uss_cons (us_set 1 sc_law_number.nd (ue_lst (own:=false) (ua_cons un_ (ua_cons un_ (ua_cons un_ (ua_cons un_ (ua_cons un_ (ua_cons un_ (ua_cons un_ (ua_cons un_ (ua_cons (ue_pow un_ un_) (ua_cons (ue_sub (ue_pow un_ un_) un_) (ua_cons (ue_pow un_ un_) ua_nil)))))))))))))
  (uss_cons (us_set 2 sc_law_number.nd (ue_call C_law_draw (ua_cons (uv 0) (ua_cons un_ ua_nil))))
  (uss_cons (us_if (ut_c k_ltX (uv 2) un_)
  (uss_one (us_ret (ue_ix (uv 1) (uv 2))))
  uss_nil)
  (uss_cons (us_if (ut_c k_eqX (uv 2) un_)
  (uss_one (us_ret (ue_call C_law_draw (ua_cons (uv 0) (ua_cons (ue_add (own:=false) (ue_pow un_ un_) un_) ua_nil)))))
  uss_nil)
  (uss_one (us_ret (ue_call C_law_draw (ua_cons (uv 0) (ua_cons un_ ua_nil))))))))) ?_
  rintro us M Q ⟨t,ns,a,b,c,rfl,hM,ha0,ha1,q⟩
  have pw:CPow 10 18:=⟨by decide,by decide,by decide⟩
  have pw9:CPow 10 9:=⟨by decide,by decide,by decide⟩
  refine seq_gen fun V hV=>?_
  simp! only [uAsg,hName]
  refine ⟨pw9,pw,pw,?_⟩
  subst hV
  refine seq_gen fun V hV=>?_
  simp! only [uAsg,hName]
  refine ⟨t,ns,a,b,c,16,rfl,by decide,by decide,hM,ha0,by omega,fun w a1 b1 c1 w0 w1 l1 l2=>?_⟩
  subst hV
  refine seq_gen fun V hV=>?_
  refine if_gen fun A B hA hB=>?_
  simp! only [true_and]
  refine ite2 (fun h=>?_) (fun _=>?_)
  · have hw:w < 11:=by simpa using h
    obtain ⟨n,hn,n0,n1⟩:=some_at w w0 hw
    subst hA
    simp! only [uRet,hn]
    exact rt_same (q n a1 b1 c1 n0 n1 l1 (by omega))
  · subst hB
    simp only [uNext]
    subst hV
    refine seq_gen fun V hV=>?_
    refine if_gen fun A B hA hB=>?_
    simp! only [true_and]
    refine ite2 (fun h=>?_) (fun _=>?_)
    · subst hA
      simp! only [uRet]
      refine ⟨pw,t,ns,a1,b1,c1,_,rfl,by decide,by decide,mup_same,by omega,by omega,fun n a2 b2 c2 n0 n1 l3 l4=>?_⟩
      rw [mup_mup]
      exact rt_same (q n a2 b2 c2 n0 (by have e:(10:Int) ^ Int.toNat 18=10 ^ 18:=rfl;omega) (by omega) (by omega))
    · subst hB
      simp only [uNext]
      subst hV
      simp! only [uRet]
      refine ⟨t,ns,a1,b1,c1,13,rfl,by decide,by decide,mup_same,by omega,by omega,fun n a2 b2 c2 n0 n1 l3 l4=>?_⟩
      rw [mup_mup]
      exact rt_same (q n a2 b2 c2 n0 (by omega) (by omega) (by omega))
def st2 (M:MHp) (t r:Addr) (T R:List U):MHp:=mup (mup M t (.lst T)) r (.lst R)
theorem st2_t {M:MHp} {t r:Addr} {T R:List U} (h:t≠r):st2 M t r T R t=some (.lst T):=by unfold st2;rw [mup_ne h,mup_same]
theorem st2_r {M:MHp} {t r:Addr} {T R:List U}:st2 M t r T R r=some (.lst R):=mup_same
theorem st2_setT {M:MHp} {t r:Addr} {T R T':List U} (h:t≠r):mup (st2 M t r T R) t (.lst T')=st2 M t r T' R:=by
  funext x
  unfold st2
  by_cases e1:x=t
  · subst e1;rw [mup_same,mup_ne h,mup_same]
  · rw [mup_ne e1]
    by_cases e2:x=r
    · subst e2;rw [mup_same,mup_same]
    · rw [mup_ne e2,mup_ne e2,mup_ne e1,mup_ne e1]
theorem st2_setR {M:MHp} {t r:Addr} {T R R':List U}:mup (st2 M t r T R) r (.lst R')=st2 M t r T R':=by unfold st2;rw [mup_mup]
theorem st2_self {M:MHp} {t r:Addr} {T R:List U} (h1:M t=some (.lst T)) (h2:M r=some (.lst R)):st2 M t r T R=M:=by unfold st2;rw [mup_self h1,mup_self h2]
theorem st2_st2 {M:MHp} {t r:Addr} {T R T' R':List U} (h:t≠r):st2 (st2 M t r T R) t r T' R'=st2 M t r T' R':=by
  show mup (mup (st2 M t r T R) t (.lst T')) r (.lst R')=_
  rw [st2_setT h,st2_setR]
def roomU (x y:Int):List U:=[.int x,.int y]
def spPat (n:Nat):USp:=fun us M Q=>∃ (t r:Addr) (ns:List Int) (a b c x y:Int) (cs:List Str),us=[.ref t,sortsU cs,.int (n:Int),.ref r]∧1≤n∧n≤4∧t≠r∧M t=some (.lst (tapeU ns a b c))∧M r=some (.lst (roomU x y))∧cs≠[]∧cs.length≤6∧(∀ s∈cs,PyData.strOk s=true)∧0≤a∧a + 1000 * (n:Int)≤510000 ∧
  ∀ (p:Pt) (a' b' c' x' y':Int),p.ok→p.dep≤n→a≤a'→a'≤a + (10 * 2 ^ n - 2)→Q p.toU (st2 M t r (tapeU ns a' b' c') (roomU x' y'))
theorem cls_at {ss:List Str} {i:Int} {s:Str} (hat:atI ss i=some s):atI (ss.map U.str) i=some (.str s):=by
  unfold atI at hat ⊢
  rw [List.length_map]
  cases e:ixN ss.length i with
  | none=>rw [e] at hat;cases hat
  | some j =>
    rw [e] at hat
    have hat':ss[j]?=some s:=hat
    show (ss.map U.str)[j]?=_
    rw [List.getElem?_map,hat'];rfl
def sgn (w:Int):Op:=if w=5 then .less else if w=6 then .by_ else .sum
theorem sgn_at (w:Int) (h0:4≤w) (h1:w < 8):atI [U.str (Str.ofString "sum"),U.str (Str.ofString "less"),U.str (Str.ofString "by"),U.str (Str.ofString "sum")] (w - 4)=some (.str (sgn w).word):=by
  have e:w=4∨w=5∨w=6∨w=7:=by omega
  rcases e with rfl | rfl | rfl | rfl <;> rfl
theorem two_sorted {a b:Int} {l:List Int} (h:l.Perm [a,b]) (hs:l.Pairwise (·≤·)):∃ lo hi,l=[lo,hi]∧lo≤hi∧(lo=a∨lo=b):=by
  have hl:l.length=2:=h.length_eq
  match l,hl with
  | [lo,hi],_ =>
    refine ⟨lo,hi,rfl,?_,?_⟩
    · have:=List.pairwise_cons.mp hs
      exact this.1 hi (by simp)
    · have:=h.mem_iff.mp (show lo∈[lo,hi] by simp)
      simpa using this
set_option maxHeartbeats 2000000 in
theorem ok_pat {n:Nat} (F:Fun K "_law_pattern" "_law_pattern" s_law_pattern f fd) (hm:mg "_law_pattern"=some (.ref f)) (m_len:mg "len"=none) (m_sorted:mg "sorted"=none) (C_law_draw:Callee P w K mg base 1 "_law_draw" spDraw []) (C_law_number:Callee P w K mg base 2 "_law_number" spNumber []) (C_law_pattern:Callee P w K mg base (n + 2) "_law_pattern" (spPat n) []):Callee P w K mg base (n + 3) "_law_pattern" (spPat (n + 1)) []:=by
  refine callee_of F hm sc_law_pattern (fun _ _ _ _ _ _ us hl=>match us,hl with | [_,_,_,_],_=>rfl) (fun us M Q h=>by obtain ⟨_,_,_,_,_,_,_,_,_,rfl,_⟩:=h;rfl) (uss_cons (us_asub (ue_sub (ue_ix (uv 3) un_) un_) (uv 3) un_)
  (uss_cons (us_set 4 sc_law_pattern.nd (ue_call C_law_draw (ua_cons (uv 0) (ua_cons un_ ua_nil))))
  (uss_cons (us_if (PWU.pt (uw_or (ut_c k_eqX (uv 2) un_) (uw_or (ut_c k_ltX (ue_ix (uv 3) un_) un_) (uw_or1 (ut_c k_ltX (uv 4) un_)))))
  (uss_cons (us_if (PWU.pt (uw_and (ut_c k_gt (ue_ix (uv 3) un_) un_) (uw_and1 (ut_c k_gt (ue_call C_law_draw (ua_cons (uv 0) (ua_cons un_ ua_nil))) un_))))
  (uss_cons (us_asub (ue_sub (ue_ix (uv 3) un_) un_) (uv 3) un_)
  (uss_one (us_ret (ue_tup (ua_cons us_ (ua_cons (ue_ix (uv 1) (ue_call C_law_draw (ua_cons (uv 0) (ua_cons (ue_b b_len m_len (ua_cons (uv 1) ua_nil)) ua_nil)))) ua_nil))))))
  uss_nil)
  (uss_cons (us_if (ut_c k_eqX (ue_call C_law_draw (ua_cons (uv 0) (ua_cons un_ ua_nil))) un_)
  (uss_one (us_ret (ue_tup (ua_cons us_ ua_nil))))
  uss_nil)
  (uss_cons (us_set 5 sc_law_pattern.nd (ue_b b_sorted m_sorted (ua_cons (ue_lst (own:=false) (ua_cons (ue_call C_law_number (ua_cons (uv 0) ua_nil)) (ua_cons (ue_call C_law_number (ua_cons (uv 0) ua_nil)) ua_nil))) ua_nil)))
  (uss_one (us_ret (ue_tup (ua_cons us_ (ua_cons (ue_ix (uv 5) un_) (ua_cons (ue_ix (uv 5) un_) ua_nil)))))))))
  uss_nil)
  (uss_cons (us_set 6 sc_law_pattern.nd (ue_call C_law_pattern (ua_cons (uv 0) (ua_cons (uv 1) (ua_cons (ue_sub (uv 2) un_) (ua_cons (uv 3) ua_nil))))))
  (uss_cons (us_if (ut_c k_eqX (uv 4) un_)
  (uss_one (us_ret (ue_tup (ua_cons us_ (ua_cons (uv 6) ua_nil)))))
  uss_nil)
  (uss_cons (us_set 7 sc_law_pattern.nd (ue_ix (ue_lst (own:=false) (ua_cons us_ (ua_cons us_ (ua_cons us_ (ua_cons us_ ua_nil))))) (ue_sub (uv 4) un_)))
  (uss_one (us_ret (ue_tup (ua_cons (uv 7) (ua_cons (uv 6) (ua_cons (ue_call C_law_pattern (ua_cons (uv 0) (ua_cons (uv 1) (ua_cons (ue_sub (uv 2) un_) (ua_cons (uv 3) ua_nil))))) ua_nil)))))))))))) ?_
  rintro us M Q ⟨t,r,ns,a,b,c,x,y,cs,rfl,hn1,hn4,htr,hMt,hMr,hne,hc6,hcs,ha0,ha1,q⟩
  have hrt:r≠t:=fun z=>htr z.symm
  have e2:(2:Int) ^ (n + 1)=2 * 2 ^ n:=by rw [Int.pow_succ];omega
  have p1:(1:Int)≤2 ^ n:=by have:=Int.pow_pos (n:=2) (m:=n) (by decide);omega
  have p4:(2:Int) ^ n≤8:=by
    have h:n=0∨n=1∨n=2∨n=3:=by omega
    rcases h with rfl | rfl | rfl | rfl <;> decide
  have hln:0 < (cs.length:Int):=by have:=List.length_pos_iff.mpr hne;omega
  have hMM:=st2_self hMt hMr
  rw [← hMM]
  have vt:∀ T R,view (st2 M t r T R) (.ref t)=.lst T:=fun T R=>view_ref (st2_t htr)
  have vr:∀ T R,view (st2 M t r T R) (.ref r)=.lst R:=fun T R=>view_ref st2_r
  refine seq_gen fun V hV=>?_
  simp! only [uSetI,vr,roomU]
  simp only [st2_r]
  refine ⟨0,rfl,?_⟩
  simp only [st2_setR,List.set_cons_zero]
  subst hV
  refine seq_gen fun V hV=>?_
  simp! only [uAsg,hName]
  refine ⟨t,ns,a,b,c,8,rfl,by decide,by decide,st2_t htr,ha0,by omega,fun way a1 b1 c1 w0 w1 l1 l2=>?_⟩
  rw [st2_setT htr]
  subst hV
  refine seq_gen fun V hV=>?_
  refine if_gen fun A B hA hB=>?_
  have leaf:A (st2 M t r (tapeU ns a1 b1 c1) [.int (x - 1),.int y]):=by
    subst hA
    refine seq_gen fun V1 hV1=>?_
    refine if_gen fun A1 B1 hA1 hB1=>?_
    have nohole:∀ a2 b2 c2:Int,a1≤a2→a2≤a1 + 1→B1 (st2 M t r (tapeU ns a2 b2 c2) [.int (x - 1),.int y]):=by
      intro a2 b2 c2 g1 g2
      subst hB1
      simp only [uNext]
      subst hV1
      refine seq_gen fun V2 hV2=>?_
      refine if_gen fun A2 B2 hA2 hB2=>?_
      simp! only [true_and]
      refine ⟨t,ns,a2,b2,c2,3,rfl,by decide,by decide,st2_t htr,by omega,by omega,fun k a3 b3 c3 k0 k1 g3 g4=>?_⟩
      rw [st2_setT htr]
      simp! only [true_and]
      refine ite2 (fun _=>?_) (fun _=>?_)
      · subst hA2
        simp! only [uRet]
        exact rt_same (q .any a3 b3 c3 (x - 1) y trivial (by simp [Pt.dep]) (by omega) (by omega))
      · subst hB2
        simp only [uNext]
        subst hV2
        refine seq_gen fun V3 hV3=>?_
        simp! only [uAsg,hName]
        refine ⟨t,ns,a3,b3,c3,rfl,st2_t htr,by omega,by omega,fun n1 a4 b4 c4 f0 f1 g5 g6=>?_⟩
        rw [st2_setT htr]
        refine ⟨t,ns,a4,b4,c4,rfl,st2_t htr,by omega,by omega,fun n2 a5 b5 c5 f2 f3 g7 g8=>?_⟩
        rw [st2_setT htr]
        simp! only [true_and]
        refine ⟨[n1,n2],rfl,by simp,fun l hp hs=>?_⟩
        obtain ⟨lo,hi,rfl,hlh,hlo⟩:=two_sorted hp hs
        simp only [mkL,List.map_cons,List.map_nil]
        subst hV3
        simp! only [uRet]
        exact rt_same (q (.fr lo hi) a5 b5 c5 (x - 1) y ⟨by rcases hlo with rfl | rfl <;> omega,hlh⟩ (by simp [Pt.dep]) (by omega) (by omega))
    simp! only [vr]
    refine ite2 (fun _=>?_) (fun _=>nohole a1 b1 c1 (by omega) (by omega))
    refine ⟨t,ns,a1,b1,c1,4,rfl,by decide,by decide,st2_t htr,by omega,by omega,fun k a2 b2 c2 k0 k1 g1 g2=>?_⟩
    rw [st2_setT htr]
    simp! only [true_and]
    refine ite2 (fun _=>?_) (fun _=>nohole a2 b2 c2 (by omega) (by omega))
    subst hA1
    refine seq_gen fun V2 hV2=>?_
    simp! only [uSetI,vr]
    simp only [st2_r]
    refine ⟨1,rfl,?_⟩
    simp only [st2_setR,List.set_cons_succ,List.set_cons_zero]
    subst hV2
    simp! only [uRet,sortsU,List.length_map]
    refine ⟨t,ns,a2,b2,c2,(cs.length:Int),rfl,hln,by omega,st2_t htr,by omega,by omega,fun k a3 b3 c3 k0 k1 g3 g4=>?_⟩
    rw [st2_setT htr]
    obtain ⟨s,hat⟩:=atI_ex cs k k0 k1
    have hat':=cls_at hat
    simp! only [hat']
    exact rt_same (q (.hole s) a3 b3 c3 (x - 1) (y - 1) (hcs s (atI_mem hat)) (by simp [Pt.dep]) (by omega) (by omega))
  simp! only [vr]
  refine ite2 (fun _=>leaf) (fun hn=>ite2 (fun _=>leaf) (fun _=>ite2 (fun _=>leaf) (fun hw=>?_)))
  have hn':1≤n:=by
    have:¬ ((n + 1:Nat):Int)=1:=by simpa using hn
    omega
  have hw3:3≤way:=by
    have:¬ way < 3:=by simpa using hw
    omega
  have en:((n + 1:Nat):Int) - 1=(n:Int):=by omega
  subst hB
  simp only [uNext]
  subst hV
  refine seq_gen fun V hV=>?_
  simp! only [uAsg,hName,en]
  refine ⟨t,r,ns,a1,b1,c1,x - 1,y,cs,rfl,hn',by omega,htr,st2_t htr,st2_r,hne,hc6,hcs,by omega,by omega,fun p1' a2 b2 c2 x2 y2 po1 pd1 g1 g2=>?_⟩
  rw [st2_st2 htr]
  have pt1:(Pt.turn p1').dep≤n + 1:=by simp only [Pt.dep];omega
  subst hV
  refine seq_gen fun V hV=>?_
  refine if_gen fun A B hA hB=>?_
  simp! only [true_and]
  refine ite2 (fun _=>?_) (fun h3=>?_)
  · subst hA
    simp! only [uRet]
    exact rt_same (q (.turn p1') a2 b2 c2 x2 y2 po1 pt1 (by omega) (by omega))
  · have hw4:4≤way:=by
      have:¬ way=3:=by simpa using h3
      omega
    have hsg:=sgn_at way hw4 w1
    subst hB
    simp only [uNext]
    subst hV
    refine seq_gen fun V hV=>?_
    simp! only [uAsg,hName,hsg]
    subst hV
    simp! only [uRet,en]
    refine ⟨t,r,ns,a2,b2,c2,x2,y2,cs,rfl,hn',by omega,htr,st2_t htr,st2_r,hne,hc6,hcs,by omega,by omega,fun p2' a3 b3 c3 x3 y3 po2 pd2 g3 g4=>?_⟩
    rw [st2_st2 htr]
    try simp! only [true_and]
    exact rt_same (q (.two (sgn way) p1' p2') a3 b3 c3 x3 y3 ⟨po1,po2⟩ (by simp only [Pt.dep];omega) (by omega) (by omega))
theorem pat_all (F:Fun K "_law_pattern" "_law_pattern" s_law_pattern f fd) (hm:mg "_law_pattern"=some (.ref f)) (m_len:mg "len"=none) (m_sorted:mg "sorted"=none) (C_law_draw:Callee P w K mg base 1 "_law_draw" spDraw []) (C_law_number:Callee P w K mg base 2 "_law_number" spNumber []):∀ n,Callee P w K mg base (n + 2) "_law_pattern" (spPat n) []
  | 0=>by
    have no:∀ us M Q,¬ spPat 0 us M Q:=fun us M Q h=>by
      obtain ⟨_,_,_,_,_,_,_,_,_,_,h,_⟩:=h
      omega
    refine ⟨f,fd,["tape","classes","left","room"],[],[],⟨fun vs H Q E h=>?_,fun A outer s H args us vs Q E _ _ _ _ h=>?_⟩,hm,F.kp,F.binds (fun _ _ _ _ _ _ us hl=>match us,hl with | [_,_,_,_],_=>rfl),.nil,fun H M=>.nil⟩
    · obtain ⟨us,M,Q',_,_,h,_⟩:=h;exact absurd h (no us M Q')
    · obtain ⟨us,M,Q',_,_,h,_⟩:=h;exact absurd h (no us M Q')
  | n + 1=>ok_pat F hm m_len m_sorted C_law_draw C_law_number (pat_all F hm m_len m_sorted C_law_draw C_law_number n)
theorem eqX_hole {pt:Pt} {s:Str} {M:MHp} {Q:UK} (h:pt.ok) (hd:pt.dep≤60) (hs:PyData.strOk s=true) (q:∀ b,Q (.bl b) M):uEqX false pt.toU (.tup [.str (Str.ofString "at"),.str s]) M Q:=by
  obtain ⟨z,r,e,_⟩:=head_sign pt
  have e1:toD pt.toU=some (datP pt):=toD_P pt
  have h1:topD M pt.toU=some (datP pt):=by rw [← e1,e];rfl
  have h2:topD M (.tup [.str (Str.ofString "at"),.str s])=some (datP (.hole s)):=by rw [← toD_P (.hole s)];rfl
  have h3:(datP (.hole s)).depth≤2:=by simp [datP,PyData.depth,PyData.depthAll]
  have h4:uEqD false pt.toU (.tup [.str (Str.ofString "at"),.str s]) M Q:=⟨_,_,h1,h2,layP pt h,layP (.hole s) hs,by omega,q _⟩
  rw [e] at h4 ⊢
  exact h4
structure Tk where
  cls:Str
  pt:Pt
  cost:Int
def Tk.toU (k:Tk):U:=.tup [.str k.cls,k.pt.toU,.int k.cost]
def Tk.good (cs:List Str) (k:Tk):Prop:=k.pt.ok∧k.pt.dep≤4∧k.cls∈cs∧0≤k.cost∧k.cost≤1000
structure Cls (cs:List Str):Prop where
  ne:cs≠[]
  len:cs.length≤6
  ok:∀ s∈cs,PyData.strOk s=true
theorem cost4_at (x y w:Int) (x0:0≤x) (x1:x < 8) (y0:0≤y) (y1:y < 8) (h0:0≤w) (h1:w < 4):∃ n,atI [U.int x,U.int y,U.int 0,U.int 1000] w=some (.int n)∧0≤n∧n≤1000:=by
  have e:w=0∨w=1∨w=2∨w=3:=by omega
  rcases e with rfl | rfl | rfl | rfl <;> exact ⟨_,rfl,by omega,by omega⟩
def spTile:USp:=fun us M Q=>∃ (t:Addr) (ns:List Int) (a b c:Int) (cs:List Str),us=[.ref t,sortsU cs]∧M t=some (.lst (tapeU ns a b c))∧Cls cs∧0≤a∧a≤400000∧∀ (k:Tk) (a' b' c':Int),k.good cs→a≤a'→a'≤a + 200→Q k.toU (mup M t (.lst (tapeU ns a' b' c')))
set_option maxHeartbeats 1000000 in
theorem ok_tile (F:Fun K "_law_tile" "_law_tile" s_law_tile f fd) (hm:mg "_law_tile"=some (.ref f)) (m_len:mg "len"=none) (C_law_draw:Callee P w K mg base 1 "_law_draw" spDraw []) (C_law_pattern:Callee P w K mg base 6 "_law_pattern" (spPat 4) []):Callee P w K mg base 7 "_law_tile" spTile []:=by
  refine callee_of F hm sc_law_tile (fun _ _ _ _ _ _ us hl=>match us,hl with | [_,_],_=>rfl) (fun us M Q h=>by obtain ⟨_,_,_,_,_,_,rfl,_⟩:=h;rfl) (uss_cons (us_set 2 sc_law_tile.nd (ue_ix (uv 1) (ue_call C_law_draw (ua_cons (uv 0) (ua_cons (ue_b b_len m_len (ua_cons (uv 1) ua_nil)) ua_nil)))))
  (uss_cons (us_set 3 sc_law_tile.nd (ue_call C_law_pattern (ua_cons (uv 0) (ua_cons (uv 1) (ua_cons un_ (ua_cons (ue_lst (own:=true) (ua_cons un_ (ua_cons un_ ua_nil))) ua_nil))))))
  (uss_cons (us_if (ut_c k_eqX (uv 3) (ue_tup (ua_cons us_ (ua_cons (uv 2) ua_nil))))
  (uss_one (us_set 3 sc_law_tile.nd (ue_tup (ua_cons us_ ua_nil))))
  uss_nil)
  (uss_cons (us_set 4 sc_law_tile.nd (ue_ix (ue_lst (own:=false) (ua_cons (ue_call C_law_draw (ua_cons (uv 0) (ua_cons un_ ua_nil))) (ua_cons (ue_call C_law_draw (ua_cons (uv 0) (ua_cons un_ ua_nil))) (ua_cons un_ (ua_cons un_ ua_nil))))) (ue_call C_law_draw (ua_cons (uv 0) (ua_cons un_ ua_nil)))))
  (uss_one (us_ret (ue_tup (ua_cons (uv 2) (ua_cons (uv 3) (ua_cons (uv 4) ua_nil)))))))))) ?_
  rintro us M Q ⟨t,ns,a,b,c,cs,rfl,hM,hC,ha0,ha1,q⟩
  have hln:0 < (cs.length:Int):=by have:=List.length_pos_iff.mpr hC.ne;omega
  have hc6:=hC.len
  refine seq_gen fun V hV=>?_
  simp! only [uAsg,hName,sortsU,List.length_map]
  refine ⟨t,ns,a,b,c,(cs.length:Int),rfl,hln,by omega,hM,ha0,by omega,fun k a1 b1 c1 k0 k1 g1 g2=>?_⟩
  obtain ⟨s,hat⟩:=atI_ex cs k k0 k1
  have hat':=cls_at hat
  have hs:=hC.ok s (atI_mem hat)
  simp! only [hat']
  subst hV
  refine seq_gen fun V hV=>?_
  simp! only [uAsg,hName]
  intro r hr
  have htr:t≠r:=fun z=>by subst z;rw [mup_same] at hr;cases hr
  have hMr:M r=none:=by rw [mup_ne (fun z=>htr z.symm)] at hr;exact hr
  refine ⟨t,r,ns,a1,b1,c1,9,4,cs,rfl,by decide,by decide,htr,by rw [mup_ne htr,mup_same],mup_same,hC.ne,hc6,hC.ok,by omega,by omega,fun p a2 b2 c2 x2 y2 po pd g3 g4=>?_⟩
  have hst:st2 (mup (mup M t (.lst (tapeU ns a1 b1 c1))) r (.lst [.int 9,.int 4])) t r (tapeU ns a2 b2 c2) (roomU x2 y2)=st2 M t r (tapeU ns a2 b2 c2) (roomU x2 y2):=st2_st2 htr
  rw [hst]
  subst hV
  refine seq_gen fun V hV=>?_
  have go:∀ pt:Pt,pt.ok→pt.dep≤4→V [some (.ref t),some (sortsU cs),some (.str s),some pt.toU,none] (st2 M t r (tapeU ns a2 b2 c2) (roomU x2 y2)):=by
    intro pt po pd
    subst hV
    refine seq_gen fun V1 hV1=>?_
    simp! only [uAsg,hName]
    refine ⟨t,ns,a2,b2,c2,8,rfl,by decide,by decide,st2_t htr,by omega,by omega,fun d1 a3 b3 c3 x0 x1 g5 g6=>?_⟩
    rw [st2_setT htr]
    refine ⟨t,ns,a3,b3,c3,8,rfl,by decide,by decide,st2_t htr,by omega,by omega,fun d2 a4 b4 c4 y0 y1 g7 g8=>?_⟩
    rw [st2_setT htr]
    simp! only [true_and]
    refine ⟨t,ns,a4,b4,c4,4,rfl,by decide,by decide,st2_t htr,by omega,by omega,fun d3 a5 b5 c5 k0 k1 g9 g10=>?_⟩
    rw [st2_setT htr]
    obtain ⟨co,hco,co0,co1⟩:=cost4_at d1 d2 d3 x0 x1 y0 y1 k0 k1
    simp! only [hco]
    subst hV1
    simp! only [uRet]
    refine ⟨_,mup M t (.lst (tapeU ns a5 b5 c5)),fun z o hz=>?_,.inl rfl,q ⟨s,pt,co⟩ a5 b5 c5 ⟨po,pd,atI_mem hat,co0,co1⟩ (by omega) (by omega)⟩
    have hzr:z≠r:=fun e=>by subst e;rw [mup_ne (fun e=>htr e.symm),hMr] at hz;cases hz
    show mup (mup M t _) r _ z=_
    rw [mup_ne hzr];exact hz
  refine if_gen fun A B hA hB=>?_
  simp! only [true_and]
  refine eqX_hole po (by omega) hs fun bb=>?_
  cases bb with
  | true =>
    subst hA
    simp! only [uAsg,hName]
    exact go .any trivial (by simp [Pt.dep])
  | false =>
    subst hB
    simp only [uNext,Bool.false_eq_true,if_false]
    exact go p po pd
def plainP (s:Str):List Pt:=[.any,.fr 0 (10 ^ Int.toNat 18),.two .sum (.hole s) (.hole s),.two .less (.hole s) (.hole s),.two .by_ (.hole s) (.hole s),.turn (.hole s)]
def spPlain:USp:=fun us M Q=>∃ (t:Addr) (ns:List Int) (a b c:Int) (cs:List Str),us=[.ref t,sortsU cs]∧M t=some (.lst (tapeU ns a b c))∧Cls cs∧0≤a∧a≤400000∧∀ (ks:List Tk) (a' b' c':Int),(∀ k∈ks,k.good cs)→ks.length≤6→a≤a'→a'≤a + 200→Q (.lst (ks.map Tk.toU)) (mup M t (.lst (tapeU ns a' b' c')))
theorem plainP_ok {s:Str} (h:PyData.strOk s=true):∀ p∈plainP s,p.ok∧p.dep≤4:=by
  intro p hp
  simp only [plainP,List.mem_cons,List.not_mem_nil,or_false] at hp
  rcases hp with rfl | rfl | rfl | rfl | rfl | rfl
  · exact ⟨trivial,by simp [Pt.dep]⟩
  · exact ⟨⟨by decide +kernel,by decide +kernel⟩,by simp [Pt.dep]⟩
  · exact ⟨⟨h,h⟩,by simp [Pt.dep]⟩
  · exact ⟨⟨h,h⟩,by simp [Pt.dep]⟩
  · exact ⟨⟨h,h⟩,by simp [Pt.dep]⟩
  · exact ⟨h,by simp [Pt.dep]⟩
set_option maxHeartbeats 1000000 in
theorem ok_plain (F:Fun K "_law_plain" "_law_plain" s_law_plain f fd) (hm:mg "_law_plain"=some (.ref f)) (C_law_draw:Callee P w K mg base 1 "_law_draw" spDraw []):Callee P w K mg base 2 "_law_plain" spPlain []:=by
  refine callee_of F hm sc_law_plain (fun _ _ _ _ _ _ us hl=>match us,hl with | [_,_],_=>rfl) (fun us M Q h=>by obtain ⟨_,_,_,_,_,_,rfl,_⟩:=h;rfl) (uss_cons (us_set 2 sc_law_plain.nd (ue_ix (uv 1) un_))
  (uss_cons (us_set 3 sc_law_plain.nd (ue_tup (ua_cons us_ (ua_cons (uv 2) ua_nil))))
  (uss_cons (us_set 4 sc_law_plain.nd (ue_lst (own:=false) (ua_cons (ue_tup (ua_cons us_ ua_nil)) (ua_cons (ue_tup (ua_cons us_ (ua_cons un_ (ua_cons (ue_pow un_ un_) ua_nil)))) (ua_cons (ue_tup (ua_cons us_ (ua_cons (uv 3) (ua_cons (uv 3) ua_nil)))) ua_nil)))))
  (uss_cons (us_set 4 sc_law_plain.nd (ue_add (own:=false) (uv 4) (ue_lst (own:=false) (ua_cons (ue_tup (ua_cons us_ (ua_cons (uv 3) (ua_cons (uv 3) ua_nil)))) (ua_cons (ue_tup (ua_cons us_ (ua_cons (uv 3) (ua_cons (uv 3) ua_nil)))) (ua_cons (ue_tup (ua_cons us_ (ua_cons (uv 3) ua_nil))) ua_nil))))))
  (uss_cons (us_set 5 sc_law_plain.nd (ue_lst (own:=true) ua_nil))
  (uss_cons (us_for (ui_seq (uv 4)) (ug_name (k:=1000) 6 sc_law_plain.nd)
  (uss_one (us_if (ut_c k_gt (ue_call C_law_draw (ua_cons (uv 0) (ua_cons un_ ua_nil))) un_)
  (uss_one (us_expr (ue_append (uv 5) (ua_cons (ue_tup (ua_cons (uv 2) (ua_cons (uv 6) (ua_cons (ue_call C_law_draw (ua_cons (uv 0) (ua_cons un_ ua_nil))) ua_nil)))) ua_nil))))
  uss_nil)))
  (uss_one (us_ret (uv 5))))))))) ?_
  rintro us M Q ⟨t,ns,a,b,c,cs,rfl,hM,hC,ha0,ha1,q⟩
  have pw:CPow 10 18:=⟨by decide,by decide,by decide⟩
  obtain ⟨s,cr,rfl⟩:∃ s cr,cs=s :: cr:=by
    cases cs with
    | nil=>exact absurd rfl hC.ne
    | cons s cr=>exact ⟨s,cr,rfl⟩
  have hs:=hC.ok s List.mem_cons_self
  have hpo:=plainP_ok hs
  rw [← mup_self hM]
  refine seq_gen fun V hV=>?_
  simp! only [uAsg,hName,sortsU]
  subst hV
  refine seq_gen fun V hV=>?_
  simp! only [uAsg,hName]
  subst hV
  refine seq_gen fun V hV=>?_
  simp! only [uAsg,hName]
  refine ⟨pw,?_⟩
  subst hV
  refine seq_gen fun V hV=>?_
  simp! only [uAsg,hName]
  subst hV
  have e6:[U.tup [U.str (Str.ofString "any")],U.tup [U.str (Str.ofString "from"),U.int 0,U.int (10 ^ Int.toNat 18)],U.tup [U.str (Str.ofString "sum"),U.tup [U.str (Str.ofString "at"),U.str s],U.tup [U.str (Str.ofString "at"),U.str s]],U.tup [U.str (Str.ofString "less"),U.tup [U.str (Str.ofString "at"),U.str s],U.tup [U.str (Str.ofString "at"),U.str s]],U.tup [U.str (Str.ofString "by"),U.tup [U.str (Str.ofString "at"),U.str s],U.tup [U.str (Str.ofString "at"),U.str s]],U.tup [U.str (Str.ofString "turn"),U.tup [U.str (Str.ofString "at"),U.str s]]]=(plainP s).map Pt.toU:=rfl
  rw [e6]
  have hpl:(plainP s).length=6:=rfl
  generalize plainP s=ps at *
  refine seq_gen fun V hV=>?_
  simp! only [uAsg,hName]
  intro r hr
  have htr:t≠r:=fun z=>by subst z;rw [mup_same] at hr;cases hr
  have hMr:M r=none:=by rw [mup_ne (fun z=>htr z.symm)] at hr;exact hr
  subst hV
  refine seq_gen fun V hV=>?_
  refine for_by (S:=⟨none,ps.map Pt.toU⟩) (M1:=st2 M t r (tapeU ns a b c) []) (fun R r=>by simp! only [true_and];exact r)
    (fun i τ Mi=>∃ (ks:List Tk) (a' b' c':Int) (z2 z3 z6:Option U),τ=[some (.ref t),z2,some (.str s),z3,some (.lst (ps.map Pt.toU)),some (.ref r),z6]∧Mi=st2 M t r (tapeU ns a' b' c') (ks.map Tk.toU)∧(∀ k∈ks,k.good (s :: cr))∧ks.length≤i∧a≤a'∧a'≤a + 2 * i)
    ⟨[],a,b,c,_,_,none,rfl,rfl,(fun k h=>by cases h),by simp,by omega,by omega⟩ (fun i τ M' _ a e=>by cases e) ?_ ?_
  · rintro i x τ Mi e ⟨ks,a1,b1,c1,z2,z3,z6,rfl,rfl,hk,hkl,g1,g2⟩
    have hi:i < 6:=by
      have:=(List.getElem?_eq_some_iff.mp e).1
      simp at this;omega
    obtain ⟨p,hp,rfl⟩:=List.mem_map.mp (List.mem_of_getElem? e)
    simp! only [hName]
    generalize hPP:(fun (τ:SU) (Mi:MHp)=>∃ (ks:List Tk) (a' b' c':Int) (z2 z3 z6:Option U),τ=[some (.ref t),z2,some (.str s),z3,some (.lst (ps.map Pt.toU)),some (.ref r),z6]∧Mi=st2 M t r (tapeU ns a' b' c') (ks.map Tk.toU)∧(∀ k∈ks,k.good (s :: cr))∧ks.length≤i + 1∧a≤a'∧a'≤a + 2 * ((i + 1:Nat):Int))=PP
    refine if_gen fun A B hA hB=>?_
    simp! only [true_and]
    refine ⟨t,ns,a1,b1,c1,6,rfl,by decide,by decide,st2_t htr,by omega,by omega,fun w a2 b2 c2 w0 w1 g3 g4=>?_⟩
    rw [st2_setT htr]
    simp! only [true_and]
    refine ite2 (fun _=>?_) (fun _=>?_)
    · subst hA
      simp! only [uDrop]
      refine ⟨⟨_,view_ref st2_r⟩,t,ns,a2,b2,c2,9,rfl,by decide,by decide,st2_t htr,by omega,by omega,fun d a3 b3 c3 d0 d1 g5 g6=>?_⟩
      rw [st2_setT htr]
      simp! only [st2_r,st2_setR]
      refine ⟨big (by rw [List.length_map];omega),?_⟩
      rw [← hPP]
      refine ⟨ks++[⟨s,p,d⟩],a3,b3,c3,_,_,_,rfl,by simp [Tk.toU],fun k hk'=>?_,by simp;omega,by omega,by omega⟩
      rcases List.mem_append.mp hk' with hk' | hk'
      · exact hk k hk'
      · cases List.mem_singleton.mp hk';exact ⟨(hpo p hp).1,(hpo p hp).2,List.mem_cons_self,d0,by show d≤1000;omega⟩
    · subst hB
      simp only [uNext]
      rw [← hPP]
      exact ⟨ks,a2,b2,c2,_,_,_,rfl,rfl,hk,by omega,by omega,by omega⟩
  · rintro τ Mi ⟨ks,a1,b1,c1,z2,z3,z6,rfl,rfl,hk,hkl,g1,g2⟩
    have hl6:(Src.mk none (ps.map Pt.toU)).xs.length=6:=by show (ps.map Pt.toU).length=6;rw [List.length_map,hpl]
    rw [hl6] at hkl g2
    subst hV
    simp! only [uRet]
    refine ⟨_,mup M t (.lst (tapeU ns a1 b1 c1)),fun z o hz=>?_,.inr ⟨r,_,rfl,st2_r,by rw [mup_ne (fun e=>htr e.symm)];exact hMr,rfl⟩,q ks a1 b1 c1 hk hkl g1 (by omega)⟩
    have hzr:z≠r:=fun e=>by subst e;rw [mup_ne (fun e=>htr e.symm),hMr] at hz;cases hz
    show mup (mup M t _) r _ z=_
    rw [mup_ne hzr];exact hz
def hF (e:List Nat × Pt):Option (List Nat × Str):=match e.2 with
  | .hole c=>some (e.1,c)
  | _=>none
def entH (e:List Nat × Str):U:=.tup [placeU e.1,.str e.2]
def hls (p:Pt):List (List Nat × Str):=(subsP p []).filterMap hF
def hU:U→Option U
  | .tup [a,.tup (.str z :: r)]=>if decide (z=Str.ofString "at") then (r.head?).map fun c=>.tup [a,c] else none
  | _=>none
theorem hU_ent (e:List Nat × Pt):hU (entE e)=(hF e).map entH:=by
  obtain ⟨pl,q⟩:=e
  have e1:decide (Str.ofString "at"=Str.ofString "at")=true:=by simp
  cases q with
  | hole c=>simp only [entE,Pt.toU,hU,e1,hF,entH];rfl
  | any=>simp only [entE,Pt.toU,hU,ww,hF];rfl
  | fr l h=>simp only [entE,Pt.toU,hU,ww,hF];rfl
  | turn a=>simp only [entE,Pt.toU,hU,ww,hF];rfl
  | two o a b=>simp only [entE,Pt.toU,hU,ww,hF];rfl
theorem hU_map (l:List (List Nat × Pt)):(l.map entE).filterMap hU=(l.filterMap hF).map entH:=by
  induction l with
  | nil=>rfl
  | cons e l ih =>
    rw [List.map_cons,List.filterMap_cons,List.filterMap_cons,hU_ent,ih]
    cases hF e <;> rfl
def spHoles:USp:=fun us M Q=>∃ p:Pt,us=[p.toU]∧p.dep≤6∧Q (.lst ((hls p).map entH)) M
theorem ok_holes (F:Fun K "holes" "holes" s_holes f fd) (hm:mg "holes"=some (.ref f)) (C_places_of:Callee P w K mg base 7 "places_of" (spPlaces 6) []) (C_shape_at:Callee P w K mg base 2 "shape_at" spAtU []):Callee P w K mg base 8 "holes" spHoles []:=by
  refine callee_of F hm sc_holes (fun _ _ _ _ _ _ us hl=>match us,hl with | [_],_=>rfl) (fun us M Q h=>by obtain ⟨x,rfl,_⟩:=h;rfl) (uss_cons (us_setC 1 sc_holes.nd false ["place","pattern"] 1 [0] (ui_seq (ue_call C_places_of (ua_cons (uv 0) ua_nil))) (ug_name (k:=1) 0 (by dsimp only [compD];decide +kernel)) uif_nil (ue_tup (ua_cons (uv 0) (ua_cons (ue_call C_shape_at (ua_cons (uv 1) (ua_cons (uv 0) ua_nil))) ua_nil))))
  (uss_one (us_ret (ue_comp false ["place","piece"] 2 [] (ui_seq (uv 1)) (ug_tup (n:=2) (ugs_cons (ug_name (k:=2) 0 (by dsimp only [compD];decide +kernel)) (ugs_cons (ug_name (k:=2) 1 (by dsimp only [compD];decide +kernel)) ugs_nil))) (uif_one (ut_c k_eqX (ue_ix (uv 1) un_) us_)) (ue_tup (ua_cons (uv 0) (ua_cons (ue_ix (uv 1) un_) ua_nil))))))) ?_
  rintro us M Q ⟨p,rfl,hd,q⟩
  have hsp:(subsP p []).map (·.1)=p.places:=by rw [subs_places];simp
  have hpl:p.places.length≤64:=by
    have h1:=places_len p
    have h2:2 ^ p.dep≤2 ^ 6:=Nat.pow_le_pow_right (by decide) hd
    omega
  have hsl:(subsP p []).length=p.places.length:=by rw [← hsp,List.length_map]
  simp_all! only [uZipL,uListRev,uRev,uSetFrom,bSorted,uInD,uRepL]
  refine uComp_list (S:=⟨none,p.places.map placeU⟩) (M1:=M) ((subsP p []).map entE) (fun R r=>⟨p,rfl,hd,by decide,r⟩) (by simp [hsl]) (small (by show (p.places.map placeU).length≤_;rw [List.length_map];omega)) (fun a e=>by cases e) ?_ ?_
  · intro j x y hx hy M' _ R r'
    have hx':(p.places.map placeU)[j]?=some x:=hx
    rw [← hsp,List.map_map,List.getElem?_map] at hx'
    rw [List.getElem?_map] at hy
    cases hj:(subsP p [])[j]? with
    | none=>rw [hj] at hy;cases hy
    | some e =>
      rw [hj] at hx' hy
      cases hx'
      cases hy
      obtain ⟨s,h1,h2⟩:=subs_at p [] e (List.mem_of_getElem? hj)
      rw [List.nil_append] at h1
      simp_all! only [uZipL,uListRev,uRev,uSetFrom,bSorted,uInD,uRepL]
      refine ⟨p.toU,e.2.toU,e.1,rfl,by rw [h1];exact h2,?_⟩
      simp_all! only [uZipL,uListRev,uRev,uSetFrom,bSorted,uInD,uRepL]
      exact r'
  · simp_all! only [uZipL,uListRev,uRev,uSetFrom,bSorted,uInD,uRepL]
    refine uComp_pure (S:=⟨none,(subsP p []).map entE⟩) (M1:=M) hU (fun R r=>r) (small (by show ((subsP p []).map entE).length≤_;rw [List.length_map];omega)) (fun a e=>by cases e) ?_ ?_
    · intro x hx M' _ R r
      obtain ⟨e,he,rfl⟩:=List.mem_map.mp hx
      rw [hU_ent] at r
      obtain ⟨pl,pt⟩:=e
      cases pt with
      | hole c=>simp! only [entE,hF,entH,Pt.toU,ww,Option.map_some,hTup,hCons,hNil,uSeq,uIfS,uNext,uRet,uRetN,uAsg,hName,uDrop,uBreak,uCont,uSetI,uInD] at r ⊢;exact r
      | any=>simp! only [entE,hF,entH,Pt.toU,ww,Option.map_none,hTup,hCons,hNil,uSeq,uIfS,uNext,uRet,uRetN,uAsg,hName,uDrop,uBreak,uCont,uSetI,uInD] at r ⊢;exact r
      | fr l h=>simp! only [entE,hF,entH,Pt.toU,ww,Option.map_none,hTup,hCons,hNil,uSeq,uIfS,uNext,uRet,uRetN,uAsg,hName,uDrop,uBreak,uCont,uSetI,uInD] at r ⊢;exact r
      | turn a=>simp! only [entE,hF,entH,Pt.toU,ww,Option.map_none,hTup,hCons,hNil,uSeq,uIfS,uNext,uRet,uRetN,uAsg,hName,uDrop,uBreak,uCont,uSetI,uInD] at r ⊢;exact r
      | two o a b=>simp! only [entE,hF,entH,Pt.toU,ww,Option.map_none,hTup,hCons,hNil,uSeq,uIfS,uNext,uRet,uRetN,uAsg,hName,uDrop,uBreak,uCont,uSetI,uInD] at r ⊢;exact r
    · rw [show (Src.mk none ((subsP p []).map entE)).xs=(subsP p []).map entE from rfl,hU_map]
      simp only [mkL]
      exact rt_same q
def holesT:Pt→Tr→List (Tr × Str)
  | .hole c,t=>[(t,c)]
  | .turn p,.turn a=>holesT p a
  | .two _ p q,.two _ a b=>holesT p a++holesT q b
  | _,_=>[]
theorem hole_at:∀ (p:Pt) (t:Tr) (pre:List Nat),lieF p t=true→((subsP p pre).filterMap hF).length=(holesT p t).length∧∀ (i:Nat) (e:List Nat × Str),((subsP p pre).filterMap hF)[i]?=some e→∃ s t',e.1=pre++s∧atU t.toU s=some t'.toU∧(holesT p t)[i]?=some (t',e.2)
  | .hole c,t,pre,_=>⟨by cases t <;> rfl,fun i e h=>by
      match i,h with
      | 0,h=>cases h;exact ⟨[],t,by simp,rfl,by cases t <;> rfl⟩
      | i + 1,h=>cases h⟩
  | .any,.name x,pre,_=>⟨rfl,fun i e h=>by cases h⟩
  | .fr l h,.num n,pre,_=>⟨rfl,fun i e h=>by cases h⟩
  | .turn p,.turn a,pre,hl=>by
    obtain ⟨h1,h2⟩:=hole_at p a (pre++[0]) hl
    refine ⟨by simp only [subsP,List.filterMap_cons,hF,holesT];exact h1,fun i e he=>?_⟩
    simp only [subsP,List.filterMap_cons,hF] at he
    obtain ⟨s,t',e1,e2,e3⟩:=h2 i e he
    refine ⟨0 :: s,t',by rw [e1];simp,?_,e3⟩
    simp only [atU,Tr.toU,st_turn,Option.bind_some,e2]
  | .two o p q,.two o' a b,pre,hl=>by
    simp only [lieF,Bool.and_eq_true] at hl
    obtain ⟨ho,hl1,hl2⟩:=hl
    obtain ⟨h1,h2⟩:=hole_at p a (pre++[0]) hl1
    obtain ⟨k1,k2⟩:=hole_at q b (pre++[1]) hl2
    simp only [subsP,List.filterMap_cons,hF,List.filterMap_append,holesT,List.length_append]
    refine ⟨by omega,fun i e he=>?_⟩
    rw [List.getElem?_append] at he
    split at he
    · rename_i hi
      obtain ⟨s,t',e1,e2,e3⟩:=h2 i e he
      refine ⟨0 :: s,t',by rw [e1];simp,?_,by rw [List.getElem?_append_left (by omega)];exact e3⟩
      simp only [atU,Tr.toU,st_two0,Option.bind_some,e2]
    · rename_i hi
      obtain ⟨s,t',e1,e2,e3⟩:=k2 _ e he
      refine ⟨1 :: s,t',by rw [e1];simp,?_,by rw [List.getElem?_append_right (by omega),← h1];exact e3⟩
      simp only [atU,Tr.toU,st_two1,Option.bind_some,e2]
  | .any,.num _,_,h=>by cases h
  | .any,.turn _,_,h=>by cases h
  | .any,.two _ _ _,_,h=>by cases h
  | .fr _ _,.name _,_,h=>by cases h
  | .fr _ _,.turn _,_,h=>by cases h
  | .fr _ _,.two _ _ _,_,h=>by cases h
  | .turn _,.num _,_,h=>by cases h
  | .turn _,.name _,_,h=>by cases h
  | .turn _,.two _ _ _,_,h=>by cases h
  | .two _ _ _,.num _,_,h=>by cases h
  | .two _ _ _,.name _,_,h=>by cases h
  | .two _ _ _,.turn _,_,h=>by cases h
structure Tl where
  name:Str
  cls:Str
  pt:Pt
  cost:Int
def Tl.toU (t:Tl):U:=.tup [.str t.name,.str t.cls,t.pt.toU,.int t.cost]
def Tl.pass (t:Tl):Bool:=match t.pt with
  | .hole _=>true
  | _=>false
structure Wt where
  t:Tr
  c:Str
  ps:List Str
def passed (tl:Tl) (w:Wt):List Str:=if tl.pass then w.ps++[tl.cls] else []
def below (tl:Tl) (w:Wt):List Wt:=(holesT tl.pt w.t).map fun x=>⟨x.1,x.2,passed tl w⟩
theorem hls_len (p:Pt) (h:p.dep≤6):(hls p).length≤64:=by
  have h1:=places_len p
  have h2:2 ^ p.dep≤2 ^ 6:=Nat.pow_le_pow_right (by decide) h
  have h3:(subsP p []).length=p.places.length:=by rw [← List.length_map (f:=(·.1)),subs_places];simp
  have h4:(hls p).length≤(subsP p []).length:=List.length_filterMap_le _ _
  omega
def stepW (tiles:List Tl) (n:Int):List Wt→Option (List Wt)
  | []=>none
  | w :: st=>if 0≤n∧n < tiles.length then
      match tiles[n.toNat]? with
      | some tl=>if tl.cls=w.c∧tl.cls ∉ w.ps∧lieF tl.pt w.t=true then some (below tl w++st) else none
      | none=>none
    else none
def runU (tiles:List Tl):List U→List Wt→Bool
  | [],st=>st.isEmpty
  | .int n :: r,st=>match stepW tiles n st with
    | some st'=>runU tiles r st'
    | none=>false
  | _ :: _,_=>false
theorem vw_tl {M:MHp} {t:Tl}:view M t.toU=.tup [.str t.name,.str t.cls,t.pt.toU,.int t.cost]:=rfl
def tabU (cs:List Str) (tiles:List Tl):U:=.tup [sortsU cs,.tup (tiles.map Tl.toU)]
theorem vw_tab {M:MHp} {cs:List Str} {tiles:List Tl}:view M (tabU cs tiles)=.tup [sortsU cs,.tup (tiles.map Tl.toU)]:=rfl
theorem sum_bd (B:Nat):∀ ns:List Int,(∀ n∈ns,0≤n∧n≤B)→0≤ns.sum∧ns.sum≤B * ns.length
  | [],_=>by simp
  | n :: ns,h=>by
    obtain ⟨h1,h2⟩:=h n List.mem_cons_self
    obtain ⟨h3,h4⟩:=sum_bd B ns fun x hx=>h x (List.mem_cons_of_mem _ hx)
    rw [List.sum_cons,List.length_cons]
    have e:(B:Int) * ((ns.length + 1:Nat):Int)=B * ns.length + B:=by
      rw [Int.natCast_add,Int.mul_add];simp
    rw [e]
    exact ⟨by omega,by omega⟩
theorem intsOf_map (ns:List Int):intsOf (ns.map U.int)=some ns:=by
  induction ns with
  | nil=>rfl
  | cons a r ih=>simp only [List.map_cons,intsOf,ih,Option.map_some]
def costAt (tiles:List Tl) (k:Int):Int:=match atI tiles k with
  | some tl=>tl.cost
  | none=>0
def wordOk (tiles:List Tl) (ks:List Int):Prop:=∀ k∈ks,0≤k∧k < tiles.length
theorem tile_at {tiles:List Tl} {k:Int} (h0:0≤k) (h1:k < tiles.length):∃ tl,tl∈tiles∧atI tiles k=some tl∧atI (tiles.map Tl.toU) k=some tl.toU∧tiles[k.toNat]?=some tl:=by
  have hlt:k.toNat < tiles.length:=by omega
  have e:((k.toNat:Nat):Int)=k:=by omega
  have e1:tiles[k.toNat]?=some tiles[k.toNat]:=List.getElem?_eq_getElem hlt
  have a1:=atI_nat (xs:=tiles) (j:=k.toNat) e1
  have a2:=atI_nat (xs:=tiles.map Tl.toU) (j:=k.toNat) (v:=tiles[k.toNat].toU) (by rw [List.getElem?_map,e1];rfl)
  rw [e] at a1 a2
  exact ⟨tiles[k.toNat],List.getElem_mem hlt,a1,a2,e1⟩
def Tl.k (t:Tl):Tk:=⟨t.cls,t.pt,t.cost⟩
structure Tab (cs:List Str) (tls:List Tl):Prop where
  cls:Cls cs
  good:∀ t∈tls,t.k.good cs
  len:tls.length≤40
def poolS:List Str:=["r","mem","x","addr","con","zz"]
def namesS:List Str:=["rowe","a","ab","abc","sumx","by","k","load","m","turns","t","tt","ttt","tttt"]
theorem cut_map {α β:Type} (g:α→β) (l:List α) (a b:Option Int):cutU (l.map g) a b=(cutU l a b).map g:=by
  unfold cutU
  rw [List.length_map,List.map_take,List.map_drop]
theorem cut_mem {α:Type} {l:List α} {a b:Option Int} {x:α} (h:x∈cutU l a b):x∈l:=List.mem_of_mem_drop (List.mem_of_mem_take h)
theorem cut_len {α:Type} (l:List α) (a b:Option Int):(cutU l a b).length≤l.length:=by
  unfold cutU
  rw [List.length_take,List.length_drop];omega
def clsS (at_ m:Int):List Str:=cutU (cutU poolS (some at_) none++cutU poolS none (some at_)) none (some m)
theorem many6_at (w:Int) (h0:0≤w) (h1:w < 6):∃ m:Int,atI [U.int 1,U.int 2,U.int 2,U.int 3,U.int 3,U.int 6] w=some (.int m)∧(m=1∨m=2∨m=3∨m=6):=by
  have e:w=0∨w=1∨w=2∨w=3∨w=4∨w=5:=by omega
  rcases e with rfl | rfl | rfl | rfl | rfl | rfl
  · exact ⟨1,rfl,by decide⟩
  · exact ⟨2,rfl,by decide⟩
  · exact ⟨2,rfl,by decide⟩
  · exact ⟨3,rfl,by decide⟩
  · exact ⟨3,rfl,by decide⟩
  · exact ⟨6,rfl,by decide⟩
theorem pool_ok:∀ s∈poolS,PyData.strOk s=true:=by decide +kernel
theorem clsS_ok {w m:Int} (h0:0≤w) (h1:w < 6) (hm:m=1∨m=2∨m=3∨m=6):Cls (clsS w m):=by
  have e:w=0∨w=1∨w=2∨w=3∨w=4∨w=5:=by omega
  have hl:(clsS w m).length=m.toNat:=by
    rcases e with rfl | rfl | rfl | rfl | rfl | rfl <;> rcases hm with rfl | rfl | rfl | rfl <;> rfl
  refine ⟨fun z=>?_,by rcases hm with rfl | rfl | rfl | rfl <;> (rw [hl];decide),fun s hs=>?_⟩
  · rw [z] at hl;rcases hm with rfl | rfl | rfl | rfl <;> cases hl
  · rcases List.mem_append.mp (cut_mem hs) with h | h
    · exact pool_ok s (cut_mem h)
    · exact pool_ok s (cut_mem h)
theorem names_short:∀ s∈namesS,s.length≤10:=by decide +kernel
theorem suff_at (w:Int) (h0:0≤w) (h1:w < 3):∃ s:Str,atI [U.str (Str.ofString ""),U.str (Str.ofString "q"),U.str (Str.ofString "qz")] w=some (.str s)∧s.length≤10:=by
  have e:w=0∨w=1∨w=2:=by omega
  rcases e with rfl | rfl | rfl <;> exact ⟨_,rfl,by decide +kernel⟩
def spTable:USp:=fun us M Q=>∃ (t:Addr) (ns:List Int) (b c:Int),us=[.ref t]∧M t=some (.lst (tapeU ns 0 b c))∧∀ (cs:List Str) (tls:List Tl) (a' b' c':Int),Tab cs tls→1≤tls.length→tls.length≤39→0≤a'→a'≤5000→Q (tabU cs tls) (mup M t (.lst (tapeU ns a' b' c')))
theorem rep3_len {α:Type} (l:List α):(List.replicate 3 l).flatten.length=3 * l.length:=by simp [List.replicate];omega
set_option maxHeartbeats 2000000 in
theorem ok_table (F:Fun K "_law_table" "_law_table" s_law_table f fd) (hm:mg "_law_table"=some (.ref f)) (m_tuple:mg "tuple"=none) (m_range:mg "range"=none) (m_len:mg "len"=none) (m_enumerate:mg "enumerate"=none) (C_law_draw:Callee P w K mg base 1 "_law_draw" spDraw []) (C_law_plain:Callee P w K mg base 2 "_law_plain" spPlain []) (C_law_tile:Callee P w K mg base 7 "_law_tile" spTile []):Callee P w K mg base 8 "_law_table" spTable []:=by
  refine callee_of F hm sc_law_table (fun _ _ _ _ _ _ us hl=>match us,hl with | [_],_=>rfl) (fun us M Q h=>by obtain ⟨_,_,_,_,rfl,_⟩:=h;rfl) (uss_cons (us_set 1 sc_law_table.nd (ue_lst (own:=false) (ua_cons us_ (ua_cons us_ (ua_cons us_ (ua_cons us_ (ua_cons us_ (ua_cons us_ ua_nil))))))))
  (uss_cons (us_set 2 sc_law_table.nd (ue_call C_law_draw (ua_cons (uv 0) (ua_cons un_ ua_nil))))
  (uss_cons (us_set 3 sc_law_table.nd (ue_ix (ue_lst (own:=false) (ua_cons un_ (ua_cons un_ (ua_cons un_ (ua_cons un_ (ua_cons un_ (ua_cons un_ ua_nil))))))) (ue_call C_law_draw (ua_cons (uv 0) (ua_cons un_ ua_nil)))))
  (uss_cons (us_set 4 sc_law_table.nd (ue_t b_tuple m_tuple (ua_cons (ue_slX (own:=false) (ue_add (own:=false) (ue_slX (own:=false) (uv 1) (uo_some (uv 2)) uo_none) (ue_slX (own:=false) (uv 1) uo_none (uo_some (uv 2)))) uo_none (uo_some (uv 3))) ua_nil)))
  (uss_cons (us_set 5 sc_law_table.nd (ue_lst (own:=false) ua_nil))
  (uss_cons (us_if (ut_c k_gt (ue_call C_law_draw (ua_cons (uv 0) (ua_cons un_ ua_nil))) un_)
  (uss_one (us_set 5 sc_law_table.nd (ue_call C_law_plain (ua_cons (uv 0) (ua_cons (uv 4) ua_nil)))))
  uss_nil)
  (uss_cons (us_for (ui_rng1 m_range (ua_cons (ue_add (own:=false) un_ (ue_call C_law_draw (ua_cons (uv 0) (ua_cons un_ ua_nil)))) ua_nil)) (ug_name (k:=1000) 6 sc_law_table.nd)
  (uss_cons (us_set 7 sc_law_table.nd (ue_call C_law_draw (ua_cons (uv 0) (ua_cons (ue_add (own:=false) (ue_b b_len m_len (ua_cons (uv 5) ua_nil)) un_) ua_nil))))
  (uss_one (us_set 5 sc_law_table.nd (ue_add (own:=false) (ue_add (own:=false) (ue_slX (own:=false) (uv 5) uo_none (uo_some (uv 7))) (ue_lst (own:=false) (ua_cons (ue_call C_law_tile (ua_cons (uv 0) (ua_cons (uv 4) ua_nil))) ua_nil))) (ue_slX (own:=false) (uv 5) (uo_some (uv 7)) uo_none))))))
  (uss_cons (us_set 8 sc_law_table.nd (ue_lst (own:=false) (ua_cons us_ (ua_cons us_ (ua_cons us_ (ua_cons us_ (ua_cons us_ (ua_cons us_ (ua_cons us_ (ua_cons us_ (ua_cons us_ (ua_cons us_ ua_nil))))))))))))
  (uss_cons (us_set 8 sc_law_table.nd (ue_add (own:=false) (uv 8) (ue_lst (own:=false) (ua_cons us_ (ua_cons us_ (ua_cons us_ (ua_cons us_ ua_nil)))))))
  (uss_cons (us_if (ut_c k_eqX (ue_call C_law_draw (ua_cons (uv 0) (ua_cons un_ ua_nil))) un_)
  (uss_one (us_set 5 sc_law_table.nd (ue_repL (own:=false) (uv 5) un_)))
  uss_nil)
  (uss_cons (us_set 9 sc_law_table.nd (ue_lst (own:=true) ua_nil))
  (uss_cons (us_for (ui_enumerateL m_enumerate (ua_cons (uv 5) ua_nil)) (ug_tup (n:=2) (ugs_cons (ug_name (k:=1000) 6 sc_law_table.nd) (ugs_cons (ug_name (k:=1000) 10 sc_law_table.nd) ugs_nil)))
  (uss_cons (us_set 11 sc_law_table.nd (ue_add (own:=false) (ue_ix (uv 8) (ue_mod (uv 6) un_)) (ue_ix (ue_lst (own:=false) (ua_cons us_ (ua_cons us_ (ua_cons us_ ua_nil)))) (ue_divX (uv 6) un_))))
  (uss_one (us_expr (ue_append (uv 9) (ua_cons (ue_add (own:=false) (ue_tup (ua_cons (uv 11) ua_nil)) (uv 10)) ua_nil))))))
  (uss_one (us_ret (ue_tup (ua_cons (uv 4) (ua_cons (ue_t b_tuple m_tuple (ua_cons (uv 9) ua_nil)) ua_nil))))))))))))))))) ?_
  rintro us M Q ⟨t,ns,b,c,rfl,hM,q⟩
  rw [← mup_self hM]
  refine seq_gen fun V hV=>?_
  simp! only [uAsg,hName]
  have ep:[U.str (Str.ofString "r"),U.str (Str.ofString "mem"),U.str (Str.ofString "x"),U.str (Str.ofString "addr"),U.str (Str.ofString "con"),U.str (Str.ofString "zz")]=poolS.map U.str:=rfl
  rw [ep]
  subst hV
  refine seq_gen fun V hV=>?_
  simp! only [uAsg,hName]
  refine ⟨t,ns,0,b,c,6,rfl,by decide,by decide,mup_same,by decide,by decide,fun w a1 b1 c1 w0 w1 g1 g2=>?_⟩
  rw [mup_mup]
  subst hV
  refine seq_gen fun V hV=>?_
  simp! only [uAsg,hName]
  refine ⟨t,ns,a1,b1,c1,6,rfl,by decide,by decide,mup_same,by omega,by omega,fun w2 a2 b2 c2 v0 v1 g3 g4=>?_⟩
  rw [mup_mup]
  obtain ⟨m,hmat,hmv⟩:=many6_at w2 v0 v1
  have hC:=clsS_ok w0 w1 hmv
  simp! only [hmat]
  subst hV
  refine seq_gen fun V hV=>?_
  simp! only [uAsg,hName,cut_map]
  have hcl:(cutU poolS (some w) none).length + (cutU poolS none (some w)).length≤12:=by
    have h1:=cut_len poolS (some w) none
    have h2:=cut_len poolS none (some w)
    have h3:poolS.length=6:=rfl
    omega
  refine ⟨small (by rw [List.length_map,List.length_map];omega),?_⟩
  have ec:U.tup (cutU ((cutU poolS (some w) none).map U.str++(cutU poolS none (some w)).map U.str) none (some m))=sortsU (clsS w m):=by
    rw [← List.map_append,cut_map];rfl
  simp only [ec]
  generalize clsS w m=cs at *
  subst hV
  refine seq_gen fun V hV=>?_
  simp! only [uAsg,hName]
  subst hV
  refine seq_gen fun V hV=>?_
  have go:∀ (ks:List Tk) (a3 b3 c3:Int),(∀ k∈ks,k.good cs)→ks.length≤6→0≤a3→a3≤1000→V [some (.ref t),some (.lst (poolS.map U.str)),some (.int w),some (.int m),some (sortsU cs),some (.lst (ks.map Tk.toU)),none,none,none,none,none,none] (mup M t (.lst (tapeU ns a3 b3 c3))):=by
    intro ks a3 b3 c3 hk hkl h0 h1
    subst hV
    refine seq_gen fun V1 hV1=>?_
    simp! only [uFor]
    refine ⟨t,ns,a3,b3,c3,7,rfl,by decide,by decide,mup_same,by omega,by omega,fun n7 a4 b4 c4 k0 k1 g7 g8=>?_⟩
    rw [mup_mup]
    simp! only [true_and]
    refine ⟨by omega,by omega,fun i τ Mi=>∃ (ks:List Tk) (a' b' c':Int) (z6 z7:Option U),τ=[some (.ref t),some (.lst (poolS.map U.str)),some (.int w),some (.int m),some (sortsU cs),some (.lst (ks.map Tk.toU)),z6,z7,none,none,none,none]∧Mi=mup M t (.lst (tapeU ns a' b' c'))∧(∀ k∈ks,k.good cs)∧(ks.length≤6 + i∧i≤ks.length)∧0≤a'∧a'≤1001 + 300 * i,⟨ks,a4,b4,c4,none,none,rfl,rfl,hk,by omega,by omega,by omega⟩,(fun i τ M' _ a e=>by cases e),?_,?_⟩
    · rintro i x τ Mi e ⟨ks,a5,b5,c5,z6,z7,rfl,rfl,hk,hkl,h2,h3⟩
      obtain ⟨rfl,hi⟩:=rangeU_get e
      have hi7:i < 7:=by omega
      simp! only [hName]
      refine seq_gen fun V2 hV2=>?_
      simp! only [uAsg,hName,List.length_map]
      refine ⟨t,ns,a5,b5,c5,(ks.length:Int) + 1,rfl,by omega,by omega,mup_same,by omega,by omega,fun sp a6 b6 c6 s0 s1 g9 g10=>?_⟩
      rw [mup_mup]
      subst hV2
      obtain ⟨j,rfl⟩:∃ j:Nat,sp=(j:Int):=⟨_,(Int.toNat_of_nonneg s0).symm⟩
      have cA:cutU ks none (some (j:Int))=ks.take j:=by
        unfold cutU
        have e:HT.sIx ks.length ks.length (some (j:Int))=j:=by
          simp only [HT.sIx];rw [if_neg (by omega)];omega
        rw [e];simp [HT.sIx]
      have cB:cutU ks (some (j:Int)) none=ks.drop j:=by
        unfold cutU
        have e:HT.sIx ks.length 0 (some (j:Int))=j:=by
          simp only [HT.sIx];rw [if_neg (by omega)];omega
        have e2:HT.sIx ks.length ks.length none=ks.length:=rfl
        rw [e,e2,List.take_of_length_le (by rw [List.length_drop];omega)]
      simp! only [uAsg,hName,cut_map,cA,cB]
      refine ⟨t,ns,a6,b6,c6,cs,rfl,mup_same,hC,by omega,by omega,fun kk a7 b7 c7 hkk g11 g12=>?_⟩
      rw [mup_mup]
      simp! only [true_and]
      have em:(ks.take j).map Tk.toU++[kk.toU]++(ks.drop j).map Tk.toU=(ks.take j++[kk]++ks.drop j).map Tk.toU:=by simp
      have hlj:(ks.take j++[kk]++ks.drop j).length=ks.length + 1:=by simp only [List.length_append,List.length_take,List.length_drop,List.length_cons,List.length_nil];omega
      refine ⟨small (by rw [List.length_map,List.length_take];omega),small (by rw [List.length_append,List.length_map,List.length_map,List.length_take,List.length_drop];simp;omega),?_⟩
      rw [em]
      refine ⟨_,a7,b7,c7,_,_,rfl,rfl,fun k hk'=>?_,by omega,by omega,by omega⟩
      rcases List.mem_append.mp hk' with hk' | hk'
      · rcases List.mem_append.mp hk' with hk' | hk'
        · exact hk k (List.mem_of_mem_take hk')
        · cases List.mem_singleton.mp hk';exact hkk
      · exact hk k (List.mem_of_mem_drop hk')
    · rintro τ Mi ⟨ks,a5,b5,c5,z6,z7,rfl,rfl,hk,hkl,h2,h3⟩
      rw [rangeU_len] at hkl h3
      have hk13:ks.length≤13∧1≤ks.length:=by omega
      have ha5:a5≤4000:=by omega
      subst hV1
      refine seq_gen fun V2 hV2=>?_
      simp! only [uAsg,hName]
      subst hV2
      refine seq_gen fun V2 hV2=>?_
      simp! only [uAsg,hName]
      have en:[U.str (Str.ofString "rowe"),U.str (Str.ofString "a"),U.str (Str.ofString "ab"),U.str (Str.ofString "abc"),U.str (Str.ofString "sumx"),U.str (Str.ofString "by"),U.str (Str.ofString "k"),U.str (Str.ofString "load"),U.str (Str.ofString "m"),U.str (Str.ofString "turns"),U.str (Str.ofString "t"),U.str (Str.ofString "tt"),U.str (Str.ofString "ttt"),U.str (Str.ofString "tttt")]=namesS.map U.str:=rfl
      rw [en]
      subst hV2
      refine seq_gen fun V2 hV2=>?_
      have last:∀ (ks:List Tk) (T':List U),(∀ k∈ks,k.good cs)→(1≤ks.length∧ks.length≤39)→(∃ a' b' c':Int,T'=tapeU ns a' b' c'∧0≤a'∧a'≤5000)→V2 ([some (.ref t),some (.lst (poolS.map U.str)),some (.int w),some (.int m),some (sortsU cs),some (.lst (ks.map Tk.toU)),z6,z7,some (.lst (namesS.map U.str)),none,none,none]) (mup M t (.lst T')):=by
        intro ks T' hk hkl hT'
        subst hV2
        refine seq_gen fun V3 hV3=>?_
        simp! only [uAsg,hName]
        intro r hr
        have htr:t≠r:=fun z=>by subst z;rw [mup_same] at hr;cases hr
        have hMr:M r=none:=by rw [mup_ne (fun z=>htr z.symm)] at hr;exact hr
        subst hV3
        refine seq_gen fun V3 hV3=>?_
        refine for_by (S:=⟨none,numbered (ks.map Tk.toU)⟩) (M1:=st2 M t r T' []) (fun R r=>by simp! only [true_and];exact r)
          (fun i τ Mi=>∃ (tls:List Tl) (z6 z10 z11:Option U),τ=[some (.ref t),some (.lst (poolS.map U.str)),some (.int w),some (.int m),some (sortsU cs),some (.lst (ks.map Tk.toU)),z6,z7,some (.lst (namesS.map U.str)),some (.ref r),z10,z11]∧Mi=st2 M t r T' (tls.map Tl.toU)∧(∀ x∈tls,x.k.good cs)∧tls.length=i) ⟨[],_,none,none,rfl,rfl,(fun x h=>by cases h),by simp⟩ (fun i τ M' _ a e=>by cases e) ?_ ?_
        · rintro i x τ Mi e ⟨tls,y6,y10,y11,rfl,rfl,htl,hll⟩
          obtain ⟨v,hv,rfl⟩:=numbered_get e
          rw [List.getElem?_map] at hv
          cases hj:ks[i]? with
          | none=>rw [hj] at hv;cases hv
          | some kk =>
            rw [hj] at hv
            cases hv
            have hi:=(List.getElem?_eq_some_iff.mp hj).1
            have hkk:=hk kk (List.mem_of_getElem? hj)
            obtain ⟨nm,hnm⟩:=atI_ex namesS ((i:Int) % 14) (Int.emod_nonneg _ (by decide)) (Int.emod_lt_of_pos _ (by decide))
            have hnm':=cls_at hnm
            have hnl:=names_short nm (atI_mem hnm)
            obtain ⟨sf,hsf,hsl⟩:=suff_at ((i:Int) / 14) (by omega) (by omega)
            refine ⟨rfl,?_⟩
            simp! only [hTup,hCons,hNil,hName]
            refine seq_gen fun V4 hV4=>?_
            simp! only [uAsg,hName,hnm',hsf]
            refine ⟨by decide,⟨by decide,by decide⟩,small (by omega),?_⟩
            subst hV4
            simp! only [uDrop,Tk.toU]
            refine ⟨⟨_,view_ref st2_r⟩,?_⟩
            simp! only [st2_r,st2_setR]
            refine ⟨big (by rw [List.length_map];omega),tls++[⟨nm++sf,kk.cls,kk.pt,kk.cost⟩],_,_,_,rfl,by simp [Tl.toU],fun x hx=>?_,by simp;omega⟩
            rcases List.mem_append.mp hx with hx | hx
            · exact htl x hx
            · cases List.mem_singleton.mp hx;exact hkk
        · rintro τ Mi ⟨tls,y6,y10,y11,rfl,rfl,htl,hll⟩
          rw [numbered_len,List.length_map] at hll
          subst hV3
          simp! only [uRet,view_ref st2_r]
          refine ⟨_,mup M t (.lst T'),fun z o hz=>?_,.inl rfl,by obtain ⟨a9,b9,c9,rfl,h8,h9⟩:=hT';exact q cs tls a9 b9 c9 ⟨hC,htl,by omega⟩ (by omega) (by omega) h8 h9⟩
          have hzr:z≠r:=fun e=>by subst e;rw [mup_ne (fun e=>htr e.symm),hMr] at hz;cases hz
          show mup (mup M t _) r _ z=_
          rw [mup_ne hzr];exact hz
      refine if_gen fun A B hA hB=>?_
      simp! only [true_and]
      refine ⟨t,ns,a5,b5,c5,8,rfl,by decide,by decide,mup_same,by omega,by omega,fun w8 a6 b6 c6 k0 k1 g9 g10=>?_⟩
      rw [mup_mup]
      simp! only [true_and]
      refine ite2 (fun _=>?_) (fun _=>?_)
      · subst hA
        simp! only [uAsg,hName]
        have h3l:(List.replicate 3 ks).flatten.length=3 * ks.length:=rep3_len ks
        have e3:(List.replicate (Int.toNat 3) (ks.map Tk.toU)).flatten=((List.replicate 3 ks).flatten).map Tk.toU:=by
          show (List.replicate 3 (ks.map Tk.toU)).flatten=_
          simp [List.replicate]
        refine ⟨by decide,by decide,small (by rw [List.length_map];show ks.length * 3≤_;omega),?_⟩
        rw [e3]
        exact last _ _ (fun k hk'=>by
          obtain ⟨l,h1,h2⟩:=List.mem_flatten.mp hk'
          rw [List.eq_of_mem_replicate h1] at h2
          exact hk k h2) (by omega) ⟨a6,b6,c6,rfl,by omega,by omega⟩
      · subst hB
        simp only [uNext]
        exact last ks _ hk (by omega) ⟨a6,b6,c6,rfl,by omega,by omega⟩
  refine if_gen fun A B hA hB=>?_
  simp! only [true_and]
  refine ⟨t,ns,a2,b2,c2,4,rfl,by decide,by decide,mup_same,by omega,by omega,fun w3 a3 b3 c3 k0 k1 g5 g6=>?_⟩
  rw [mup_mup]
  simp! only [true_and]
  refine ite2 (fun _=>?_) (fun _=>?_)
  · subst hA
    simp! only [uAsg,hName]
    refine ⟨t,ns,a3,b3,c3,cs,rfl,mup_same,hC,by omega,by omega,fun ks a4 b4 c4 hk hkl g7 g8=>?_⟩
    rw [mup_mup]
    exact go ks a4 b4 c4 hk hkl (by omega) (by omega)
  · subst hB
    simp only [uNext]
    exact go [] a3 b3 c3 (fun k h=>by cases h) (by simp) (by omega) (by omega)
def Tr.leafy:Tr→Bool
  | .num _=>true
  | .name _=>true
  | _=>false
def Tr.parts:Tr→List Tr
  | .turn a=>[a]
  | .two _ a b=>[a,b]
  | _=>[]
def Tr.places:Tr→List (List Nat)
  | .turn a=>[] :: a.places.map (0 :: ·)
  | .two _ a b=>[] :: (a.places.map (0 :: ·)++b.places.map (1 :: ·))
  | _=>[[]]
def Tr.size:Tr→Nat
  | .turn a=>a.size + 1
  | .two _ a b=>a.size + b.size + 1
  | _=>1
theorem places_size:∀ t:Tr,t.places.length=t.size
  | .turn a=>by simp only [Tr.places,Tr.size,List.length_cons,List.length_map,places_size a]
  | .two _ a b=>by simp only [Tr.places,Tr.size,List.length_cons,List.length_append,List.length_map,places_size a,places_size b]
  | .num _=>rfl
  | .name _=>rfl
theorem place_shortT:∀ (p:Tr) (pl:List Nat),pl∈p.places→pl.length < p.size
  | .turn a,pl,h=>by
    simp only [Tr.places,List.mem_cons,List.mem_map] at h
    rcases h with rfl | ⟨q,hq,rfl⟩
    · simp [Tr.size]
    · have:=place_shortT a q hq;simp only [Tr.size,List.length_cons];omega
  | .two o a b,pl,h=>by
    simp only [Tr.places,List.mem_cons,List.mem_append,List.mem_map] at h
    rcases h with rfl | ⟨q,hq,rfl⟩ | ⟨q,hq,rfl⟩
    · simp [Tr.size]
    · have:=place_shortT a q hq;simp only [Tr.size,List.length_cons];omega
    · have:=place_shortT b q hq;simp only [Tr.size,List.length_cons];omega
  | .num _,pl,h=>by simp [Tr.places] at h;subst h;simp [Tr.size]
  | .name _,pl,h=>by simp [Tr.places] at h;subst h;simp [Tr.size]
def spPlacesT (n:Nat):USp:=fun us M Q=>∃ p:Tr,us=[p.toU]∧p.dep≤n∧p.size≤1000∧Q (.lst (p.places.map placeU)) M
theorem s_num:(tabGet SIGNS (Str.ofString "num")).isSome=false:=by decide +kernel
theorem s_name:(tabGet SIGNS (Str.ofString "name")).isSome=false:=by decide +kernel
theorem head_signT (p:Tr):∃ z r,p.toU=.tup (.str z :: r)∧(tabGet SIGNS z).isSome=!p.leafy∧(p.leafy=false→r=p.parts.map Tr.toU)∧r.length≤3:=by
  cases p with
  | num c=>exact ⟨_,_,rfl,s_num,(fun h=>by cases h),by simp⟩
  | name c=>exact ⟨_,_,rfl,s_name,(fun h=>by cases h),by simp⟩
  | turn a=>exact ⟨_,_,rfl,sg_turn,fun _=>rfl,by simp⟩
  | two o a b=>exact ⟨_,_,rfl,sg_two o,fun _=>rfl,by simp⟩
theorem parts_leafT {p:Tr} (h:p.leafy=true):p.parts=[]:=by cases p <;> first | rfl | cases h
def innerT:Nat→List Tr→List (List Nat)
  | _,[]=>[]
  | k,a :: r=>a.places.map (k :: ·)++innerT (k + 1) r
theorem placesT_eq (p:Tr):p.places=[] :: innerT 0 p.parts:=by cases p <;> simp [Tr.places,Tr.parts,innerT]
theorem innerT_snoc (l:List Tr) (a:Tr):∀ k,innerT k (l++[a])=innerT k l++a.places.map ((k + l.length) :: ·):=by
  induction l with
  | nil=>intro k;simp [innerT]
  | cons b l ih=>intro k;simp only [List.cons_append,innerT,ih,List.length_cons,List.append_assoc];rw [show k + 1 + l.length=k + (l.length + 1) by omega]
theorem innerT_le (p:Tr) (i:Nat):(innerT 0 (p.parts.take i)).length + 1≤p.places.length:=by
  have:∀ (l:List Tr) (k j:Nat),(innerT k (l.take j)).length≤(innerT k l).length:=by
    intro l
    induction l with
    | nil=>intro k j;simp [innerT]
    | cons a l ih =>
      intro k j
      cases j with
      | zero=>simp [innerT]
      | succ j=>simp only [List.take_succ_cons,innerT,List.length_append];have:=ih (k + 1) j;omega
  have h1:=this p.parts 0 i
  rw [placesT_eq p,List.length_cons]
  omega
theorem part_depT {p a:Tr} {i:Nat} (h:p.parts[i]?=some a):a.dep < p.dep:=by
  have hm:=List.mem_of_getElem? h
  cases p with
  | turn b =>
    have:a=b:=by simpa [Tr.parts] using hm
    subst this;simp only [Tr.dep];omega
  | two o b c =>
    have:a=b∨a=c:=by simpa [Tr.parts] using hm
    simp only [Tr.dep]
    rcases this with rfl | rfl <;> omega
  | _=>cases hm
theorem part_sizeT {p a:Tr} {i:Nat} (h:p.parts[i]?=some a):a.size < p.size:=by
  have hm:=List.mem_of_getElem? h
  cases p with
  | turn b =>
    have:a=b:=by simpa [Tr.parts] using hm
    subst this;simp only [Tr.size];omega
  | two o b c =>
    have:a=b∨a=c:=by simpa [Tr.parts] using hm
    simp only [Tr.size]
    rcases this with rfl | rfl <;> omega
  | _=>cases hm
theorem ok_places_ofT {n:Nat} (F:Fun K "places_of" "places_of" s_places_of f fd) (hm:mg "places_of"=some (.ref f)) (m_enumerate:mg "enumerate"=none)
    (C_parts_of:Callee P w K mg base 1 "parts_of" spPartsG []) (C_places_of:Callee P w K mg base (n + 1) "places_of" (spPlacesT n) []):Callee P w K mg base (n + 2) "places_of" (spPlacesT (n + 1)) []:=by
  refine callee_of F hm sc_places_of (fun _ _ _ _ _ _ us hl=>match us,hl with | [_],_=>rfl) (fun us M Q h=>by obtain ⟨x,rfl,_⟩:=h;rfl) (uss_cons (us_set 1 sc_places_of.nd (ue_lst (own:=true) (ua_cons (ue_tup ua_nil) ua_nil)))
  (uss_cons (us_for (ui_enumerate m_enumerate (ua_cons (ue_call C_parts_of (ua_cons (uv 0) ua_nil)) ua_nil)) (ug_tup (n:=2) (ugs_cons (ug_name (k:=1000) 2 sc_places_of.nd) (ugs_cons (ug_name (k:=1000) 3 sc_places_of.nd) ugs_nil)))
  (uss_one (us_expr (ue_extend (uv 1) (ua_cons (ue_comp false ["place","number"] 1 [2] (ui_seq (ue_call C_places_of (ua_cons (uv 3) ua_nil))) (ug_name (k:=1) 0 (by dsimp only [compD];decide +kernel)) uif_nil (ue_add (own:=false) (ue_tup (ua_cons (uv 1) ua_nil)) (uv 0))) ua_nil)))))
  (uss_one (us_ret (uv 1))))) ?_
  rintro us M Q ⟨t,rfl,hd,hz,q⟩
  have hbig:∀ a:Tr,a.size≤1000→a.places.length≤1000:=fun a ha=>by rw [places_size];exact ha
  simp_all! only [uZipL,uIsB]
  refine fun p hp=>?_
  refine for_by (S:=⟨none,numbered (t.parts.map Tr.toU)⟩) (M1:=mup M p (.lst [.tup []])) (fun R r=>?_)
    (fun i τ Mi=>∃ b c,τ=[some t.toU,some (.ref p),b,c]∧Mi=mup M p (.lst (([] :: innerT 0 (t.parts.take i)).map placeU))) ⟨none,none,rfl,rfl⟩ (fun i τ M' _ a e=>by cases e) ?_ ?_
  · obtain ⟨z,rr,e,e1,e2,e3⟩:=head_signT t
    refine ⟨z,rr,!t.leafy,by rw [← e];rfl,e1,by omega,?_⟩
    cases hl:t.leafy with
    | true=>simp only [hl,Bool.not_true,Bool.false_eq_true,if_false];rw [parts_leafT hl] at r;exact r
    | false=>simp only [hl,Bool.not_false,if_true];rw [e2 hl];exact r
  · rintro i x τ Mi e ⟨b,c,rfl,rfl⟩
    obtain ⟨u,hu,rfl⟩:=numbered_get e
    rw [List.getElem?_map] at hu
    cases hp':t.parts[i]? with
    | none=>rw [hp'] at hu;cases hu
    | some a =>
      rw [hp'] at hu
      cases hu
      have ha:=part_depT hp'
      have hin:innerT 0 (t.parts.take (i + 1))=innerT 0 (t.parts.take i)++a.places.map (i :: ·):=by
        have hlt:=(List.getElem?_eq_some_iff.mp hp').1
        rw [List.take_add_one,hp']
        have:=innerT_snoc (t.parts.take i) a 0
        rw [List.length_take,Nat.min_eq_left (Nat.le_of_lt hlt),Nat.zero_add] at this
        exact this
      have hsz:=part_sizeT hp'
      have hb1:=hbig a (by omega)
      simp_all! only [uZipL,uIsB]
      refine ⟨isL_own,uComp_list (S:=⟨none,a.places.map placeU⟩) (M1:=mup M p (MO.lst (placeU [] :: List.map placeU (innerT 0 (List.take i t.parts))))) (a.places.map fun pl=>placeU (i :: pl)) (fun R r'=>⟨a,rfl,by omega,by omega,r'⟩) (by simp) ?_ (fun a e=>by cases e) ?_ ?_⟩
      · show (a.places.map placeU).length≤sizeLine
        rw [List.length_map]
        exact small (by omega)
      · intro j x y hx hy M' _ R r'
        have hx':(a.places.map placeU)[j]?=some x:=hx
        rw [List.getElem?_map] at hx' hy
        cases hpl:a.places[j]? with
        | none=>rw [hpl] at hx';cases hx'
        | some pl =>
          rw [hpl] at hx' hy
          cases hx'
          cases hy
          have h1:=place_shortT a pl (List.mem_of_getElem? hpl)
          simp_all! only [placeU,uZipL,uIsB]
          refine ⟨small ?_,?_⟩
          · simp only [List.length_cons,List.length_nil,List.length_map];omega
          · simpa [placeU] using r'
      · have h1:=innerT_le t i
        have h2:=hbig t (by omega)
        simp_all! only [uZipL,uIsB]
        refine ⟨small ?_,_,_,rfl,?_⟩
        · simp only [List.length_map];omega
        · rw [hin,List.map_append,List.map_map];rfl
  · rintro τ Mi ⟨b,c,rfl,rfl⟩
    rw [numbered_len,List.length_map,List.take_length,← placesT_eq]
    simp_all! only [uZipL,uIsB]
    exact ⟨_,M,(Sub.refl M).mup hp,.inr ⟨p,_,rfl,mup_same,hp,rfl⟩,q⟩
theorem placesT_all (F:Fun K "places_of" "places_of" s_places_of f fd) (hm:mg "places_of"=some (.ref f)) (m_enumerate:mg "enumerate"=none) (C_parts_of:Callee P w K mg base 1 "parts_of" spPartsG []):∀ n,Callee P w K mg base (n + 1) "places_of" (spPlacesT n) []
  | 0=>by
    have no:∀ us M Q,¬ spPlacesT 0 us M Q:=fun us M Q h=>by
      obtain ⟨p,_,h,_⟩:=h
      have:=tdep_pos p
      omega
    refine ⟨f,fd,["shape"],[],[],⟨fun vs H Q E h=>?_,fun A outer s H args us vs Q E _ _ _ _ h=>?_⟩,hm,F.kp,F.binds (fun _ _ _ _ _ _ us hl=>match us,hl with | [_],_=>rfl),.nil,fun H M=>.nil⟩
    · obtain ⟨us,M,Q',_,_,h,_⟩:=h;exact absurd h (no us M Q')
    · obtain ⟨us,M,Q',_,_,h,_⟩:=h;exact absurd h (no us M Q')
  | n + 1=>ok_places_ofT F hm m_enumerate C_parts_of (placesT_all F hm m_enumerate C_parts_of n)
theorem ok_places (F:Fun K "places" "places" s_places f fd) (hm:mg "places"=some (.ref f)) (C_places_of:Callee P w K mg base 13 "places_of" (spPlacesT 12) []):Callee P w K mg base 14 "places" (spPlacesT 12) []:=by
  refine callee_of F hm sc_places (fun _ _ _ _ _ _ us hl=>match us,hl with | [_],_=>rfl) (fun us M Q h=>by obtain ⟨x,rfl,_⟩:=h;rfl) (uss_one (us_ret (ue_call C_places_of (ua_cons (uv 0) ua_nil)))) ?_
  rintro us M Q ⟨p,rfl,hd,hs,q⟩
  simp! only [uRet]
  exact ⟨p,rfl,hd,hs,rt_same q⟩
def sgnT (w:Int):Op:=if w % 3=0 then .sum else if w % 3=1 then .less else .by_
theorem sgnT_at (w:Int):atI [U.str (Str.ofString "sum"),U.str (Str.ofString "less"),U.str (Str.ofString "by")] (w % 3)=some (.str (sgnT w).word):=by
  have e:w % 3=0∨w % 3=1∨w % 3=2:=by omega
  unfold sgnT
  rcases e with e | e | e <;> rw [e] <;> rfl
theorem name4_at (w:Int) (h0:0≤w) (h1:w < 4):∃ s:Str,atI [U.str (Str.ofString "a"),U.str (Str.ofString "x"),U.str (Str.ofString "sum"),U.str (Str.ofString "rows")] w=some (.str s)∧PyData.strOk s=true∧s.length≤100:=by
  have e:w=0∨w=1∨w=2∨w=3:=by omega
  rcases e with rfl | rfl | rfl | rfl <;> exact ⟨_,rfl,by decide +kernel,by decide +kernel⟩
theorem size_pos (t:Tr):1≤t.size:=by cases t <;> simp [Tr.size]
def spTree (n:Nat):USp:=fun us M Q=>∃ (t r:Addr) (ns:List Int) (a b c x:Int),us=[.ref t,.int (n:Int),.ref r]∧1≤n∧n≤12∧t≠r∧M t=some (.lst (tapeU ns a b c))∧M r=some (.lst [.int x])∧x≤40∧0≤a∧a + 1000 * (n:Int)≤20000 ∧
  ∀ (tr:Tr) (a' b' c':Int),tr.ok→tr.dep≤n→(tr.size:Int)≤max (x - 1) 0 + n→(x≤2→tr.size=1)→a≤a'→a'≤a + 5 * tr.size→Q tr.toU (st2 M t r (tapeU ns a' b' c') [.int (x - tr.size)])
def spTreeL (N:Nat):USp:=fun us M Q=>∃ n,n≤N∧spTree n us M Q
set_option maxHeartbeats 2000000 in
theorem ok_tree {N:Nat} (F:Fun K "_law_tree" "_law_tree" s_law_tree f fd) (hm:mg "_law_tree"=some (.ref f)) (C_law_draw:Callee P w K mg base 1 "_law_draw" spDraw []) (C_law_number:Callee P w K mg base 2 "_law_number" spNumber []) (C_law_tree:Callee P w K mg base (N + 2) "_law_tree" (spTreeL N) []):Callee P w K mg base (N + 3) "_law_tree" (spTreeL (N + 1)) []:=by
  refine callee_of F hm sc_law_tree (fun _ _ _ _ _ _ us hl=>match us,hl with | [_,_,_],_=>rfl) (fun us M Q h=>by obtain ⟨_,_,_,_,_,_,_,_,_,rfl,_⟩:=h;rfl) (uss_cons (us_asub (ue_sub (ue_ix (uv 2) un_) un_) (uv 2) un_)
  (uss_cons (us_set 3 sc_law_tree.nd (ue_call C_law_draw (ua_cons (uv 0) (ua_cons un_ ua_nil))))
  (uss_cons (us_if (PWU.pt (uw_or (ut_c k_eqX (uv 1) un_) (uw_or (ut_c k_ltX (ue_ix (uv 2) un_) un_) (uw_or1 (ut_c k_ltX (uv 3) un_)))))
  (uss_cons (us_if (ut_c k_eqX (ue_call C_law_draw (ua_cons (uv 0) (ua_cons un_ ua_nil))) un_)
  (uss_one (us_ret (ue_tup (ua_cons us_ (ua_cons (ue_ix (ue_lst (own:=false) (ua_cons us_ (ua_cons us_ (ua_cons us_ (ua_cons us_ ua_nil))))) (ue_call C_law_draw (ua_cons (uv 0) (ua_cons un_ ua_nil)))) ua_nil)))))
  uss_nil)
  (uss_one (us_ret (ue_tup (ua_cons us_ (ua_cons (ue_call C_law_number (ua_cons (uv 0) ua_nil)) ua_nil))))))
  uss_nil)
  (uss_cons (us_set 4 sc_law_tree.nd (ue_call C_law_tree (ua_cons (uv 0) (ua_cons (ue_sub (uv 1) un_) (ua_cons (uv 2) ua_nil)))))
  (uss_cons (us_if (ut_c k_eqX (uv 3) un_)
  (uss_one (us_ret (ue_tup (ua_cons us_ (ua_cons (uv 4) ua_nil)))))
  uss_nil)
  (uss_cons (us_set 5 sc_law_tree.nd (ue_ix (ue_lst (own:=false) (ua_cons us_ (ua_cons us_ (ua_cons us_ ua_nil)))) (ue_mod (uv 3) un_)))
  (uss_one (us_ret (ue_tup (ua_cons (uv 5) (ua_cons (uv 4) (ua_cons (ue_call C_law_tree (ua_cons (uv 0) (ua_cons (ue_sub (uv 1) un_) (ua_cons (uv 2) ua_nil)))) ua_nil)))))))))))) ?_
  rintro us M Q ⟨n1,hnN,t,r,ns,a,b,c,x,rfl,hn1,hn12,htr,hMt,hMr,hx,ha0,ha1,q⟩
  obtain ⟨n,rfl⟩:∃ n,n1=n + 1:=⟨n1 - 1,by omega⟩
  have hrt:r≠t:=fun z=>htr z.symm
  have hMM:=st2_self hMt hMr
  rw [← hMM]
  have vt:∀ T R,view (st2 M t r T R) (.ref t)=.lst T:=fun T R=>view_ref (st2_t htr)
  have vr:∀ T R,view (st2 M t r T R) (.ref r)=.lst R:=fun T R=>view_ref st2_r
  refine seq_gen fun V hV=>?_
  simp! only [uSetI,vr]
  simp only [st2_r]
  refine ⟨0,rfl,?_⟩
  simp only [st2_setR,List.set_cons_zero]
  subst hV
  refine seq_gen fun V hV=>?_
  simp! only [uAsg,hName]
  refine ⟨t,ns,a,b,c,9,rfl,by decide,by decide,st2_t htr,ha0,by omega,fun way a1 b1 c1 w0 w1 l1 l2=>?_⟩
  rw [st2_setT htr]
  subst hV
  refine seq_gen fun V hV=>?_
  refine if_gen fun A B hA hB=>?_
  have leaf:A (st2 M t r (tapeU ns a1 b1 c1) [.int (x - 1)]):=by
    subst hA
    refine seq_gen fun V1 hV1=>?_
    refine if_gen fun A1 B1 hA1 hB1=>?_
    simp! only [true_and]
    refine ⟨t,ns,a1,b1,c1,2,rfl,by decide,by decide,st2_t htr,by omega,by omega,fun k a2 b2 c2 k0 k1 g1 g2=>?_⟩
    rw [st2_setT htr]
    simp! only [true_and]
    refine ite2 (fun _=>?_) (fun _=>?_)
    · subst hA1
      simp! only [uRet]
      refine ⟨t,ns,a2,b2,c2,4,rfl,by decide,by decide,st2_t htr,by omega,by omega,fun k a3 b3 c3 k0 k1 g3 g4=>?_⟩
      rw [st2_setT htr]
      obtain ⟨s,hat,hs1,hs2⟩:=name4_at k k0 k1
      simp! only [hat]
      exact rt_same (q (.name s) a3 b3 c3 ⟨hs1,hs2⟩ (by simp [Tr.dep]) (by simp only [Tr.size];omega) (fun _=>rfl) (by omega) (by simp only [Tr.size];omega))
    · subst hB1
      simp only [uNext]
      subst hV1
      simp! only [uRet]
      refine ⟨t,ns,a2,b2,c2,rfl,st2_t htr,by omega,by omega,fun m a3 b3 c3 f0 f1 g5 g6=>?_⟩
      rw [st2_setT htr]
      simp! only [true_and]
      exact rt_same (q (.num m) a3 b3 c3 trivial (by simp [Tr.dep]) (by simp only [Tr.size];omega) (fun _=>rfl) (by omega) (by simp only [Tr.size];omega))
  simp! only [vr]
  refine ite2 (fun _=>leaf) (fun hn=>ite2 (fun _=>leaf) (fun hx2=>ite2 (fun _=>leaf) (fun hw=>?_)))
  have hn':1≤n:=by
    have:¬ ((n + 1:Nat):Int)=1:=by simpa using hn
    omega
  have hx3:2≤x - 1:=by
    have:¬ x - 1 < 2:=by simpa using hx2
    omega
  have en:((n + 1:Nat):Int) - 1=(n:Int):=by omega
  subst hB
  simp only [uNext]
  subst hV
  refine seq_gen fun V hV=>?_
  simp! only [uAsg,hName,en]
  refine ⟨n,by omega,t,r,ns,a1,b1,c1,x - 1,rfl,hn',by omega,htr,st2_t htr,st2_r,by omega,by omega,by omega,fun p1 a2 b2 c2 po1 pd1 ps1 pl1 g1 g2=>?_⟩
  rw [st2_st2 htr]
  have sp1:=size_pos p1
  subst hV
  refine seq_gen fun V hV=>?_
  refine if_gen fun A B hA hB=>?_
  simp! only [true_and]
  refine ite2 (fun _=>?_) (fun h3=>?_)
  · subst hA
    simp! only [uRet]
    have e:x - 1 - (p1.size:Int)=x - ((Tr.turn p1).size:Int):=by simp only [Tr.size];omega
    rw [e]
    exact rt_same (q (.turn p1) a2 b2 c2 po1 (by simp only [Tr.dep];omega) (by simp only [Tr.size];omega) (fun h=>by omega) (by omega) (by simp only [Tr.size];omega))
  · subst hB
    simp only [uNext]
    subst hV
    refine seq_gen fun V hV=>?_
    simp! only [uAsg,hName,sgnT_at]
    refine ⟨by decide,?_⟩
    subst hV
    simp! only [uRet,en]
    refine ⟨n,by omega,t,r,ns,a2,b2,c2,x - 1 - p1.size,rfl,hn',by omega,htr,st2_t htr,st2_r,by omega,by omega,by omega,fun p2 a3 b3 c3 po2 pd2 ps2 pl2 g3 g4=>?_⟩
    rw [st2_st2 htr]
    have sp2:=size_pos p2
    try simp! only [true_and]
    have e:x - 1 - (p1.size:Int) - (p2.size:Int)=x - ((Tr.two (sgnT way) p1 p2).size:Int):=by simp only [Tr.size];omega
    rw [e]
    refine rt_same (q (.two (sgnT way) p1 p2) a3 b3 c3 ⟨po1,po2⟩ (by simp only [Tr.dep];omega) ?_ (fun h=>by omega) (by omega) (by simp only [Tr.size];omega))
    simp only [Tr.size]
    by_cases h:x - 1 - (p1.size:Int)≤2
    · have:=pl2 h;omega
    · omega
theorem tree_all (F:Fun K "_law_tree" "_law_tree" s_law_tree f fd) (hm:mg "_law_tree"=some (.ref f)) (C_law_draw:Callee P w K mg base 1 "_law_draw" spDraw []) (C_law_number:Callee P w K mg base 2 "_law_number" spNumber []):∀ n,Callee P w K mg base (n + 2) "_law_tree" (spTreeL n) []
  | 0=>by
    have no:∀ us M Q,¬ spTreeL 0 us M Q:=fun us M Q h=>by
      obtain ⟨_,h0,_,_,_,_,_,_,_,_,h,_⟩:=h
      omega
    refine ⟨f,fd,["tape","left","room"],[],[],⟨fun vs H Q E h=>?_,fun A outer s H args us vs Q E _ _ _ _ h=>?_⟩,hm,F.kp,F.binds (fun _ _ _ _ _ _ us hl=>match us,hl with | [_,_,_],_=>rfl),.nil,fun H M=>.nil⟩
    · obtain ⟨us,M,Q',_,_,h,_⟩:=h;exact absurd h (no us M Q')
    · obtain ⟨us,M,Q',_,_,h,_⟩:=h;exact absurd h (no us M Q')
  | n + 1=>ok_tree F hm C_law_draw C_law_number (tree_all F hm C_law_draw C_law_number n)
end
end K35
namespace K35
open PySem L2 U2
section
variable {α β:Type} [DecidableEq α]
def asc (l:List (α × β)) (a:α):Option β:=(l.find? fun e=>decide (e.1=a)).map (·.2)
def putA (l:List (α × β)) (a:α) (b:β):List (α × β):=if (l.any fun e=>decide (e.1=a))=true then l.map (fun e=>if e.1=a then (e.1,b) else e) else l++[(a,b)]
theorem asc_pos {p:α × β} {r:List (α × β)} {a:α} (e:p.1=a):asc (p :: r) a=some p.2:=by simp [asc,List.find?_cons,e]
theorem asc_neg {p:α × β} {r:List (α × β)} {a:α} (e:¬ p.1=a):asc (p :: r) a=asc r a:=by simp [asc,List.find?_cons,e]
theorem asc_any (a:α):∀ l:List (α × β),(l.any fun e=>decide (e.1=a))=(asc l a).isSome
  | []=>rfl
  | p :: r=>by
    rw [List.any_cons]
    by_cases e:p.1=a
    · simp only [asc_pos e,decide_eq_true e,Bool.true_or,Option.isSome_some]
    · rw [asc_neg e,decide_eq_false e,Bool.false_or];exact asc_any a r
theorem asc_key {a:α} {l:List (α × β)}:(asc l a).isSome=true ↔ a∈l.map (·.1):=by
  rw [← asc_any,List.any_eq_true]
  constructor
  · rintro ⟨e,he,h⟩;exact List.mem_map.mpr ⟨e,he,of_decide_eq_true h⟩
  · intro h;obtain ⟨e,he,h⟩:=List.mem_map.mp h;exact ⟨e,he,decide_eq_true h⟩
theorem asc_none {a:α} {l:List (α × β)}:asc l a=none ↔ a ∉ l.map (·.1):=by
  rw [← asc_key];cases asc l a <;> simp
theorem asc_map (a:α) (b:β) (x:α):∀ l:List (α × β),asc (l.map fun e=>if e.1=a then (e.1,b) else e) x=(asc l x).map fun y=>if x=a then b else y
  | []=>rfl
  | p :: r=>by
    have ih:=asc_map a b x r
    rw [List.map_cons]
    by_cases h:p.1=a
    · rw [if_pos h]
      by_cases e:p.1=x
      · rw [asc_pos (p:=(p.1,b)) e,asc_pos e,Option.map_some,if_pos (e.symm.trans h)]
      · rw [asc_neg (p:=(p.1,b)) e,asc_neg e,ih]
    · rw [if_neg h]
      by_cases e:p.1=x
      · rw [asc_pos (p:=p) e,asc_pos e,Option.map_some,if_neg (fun z=>h (e.trans z))]
      · rw [asc_neg (p:=p) e,asc_neg e,ih]
theorem asc_app (x:α):∀ l r:List (α × β),asc (l++r) x=match asc l x with | some b=>some b | none=>asc r x
  | [],r=>rfl
  | p :: l,r=>by
    rw [List.cons_append]
    by_cases e:p.1=x
    · rw [asc_pos e,asc_pos e]
    · rw [asc_neg e,asc_neg e];exact asc_app x l r
theorem asc_put (l:List (α × β)) (a x:α) (b:β):asc (putA l a b) x=if x=a then some b else asc l x:=by
  unfold putA
  by_cases h:(l.any fun e=>decide (e.1=a))=true
  · rw [if_pos h,asc_map]
    rw [asc_any] at h
    by_cases e:x=a
    · obtain ⟨y,hy⟩:=Option.isSome_iff_exists.mp h
      rw [if_pos e,e,hy,Option.map_some,if_pos rfl]
    · rw [if_neg e]
      cases asc l x with
      | none=>rfl
      | some y=>rw [Option.map_some,if_neg e]
  · rw [if_neg h,asc_app]
    rw [asc_any] at h
    by_cases e:x=a
    · subst e
      cases q:asc l x with
      | none=>rw [if_pos rfl];exact asc_pos (p:=(x,b)) rfl
      | some y=>rw [q] at h;exact absurd rfl h
    · rw [if_neg e]
      cases q:asc l x with
      | some y=>rfl
      | none=>exact asc_neg (p:=(a,b)) (fun z=>e z.symm)
theorem put_keys (l:List (α × β)) (a:α) (b:β):(putA l a b).map (·.1)=if (asc l a).isSome then l.map (·.1) else l.map (·.1)++[a]:=by
  unfold putA
  rw [asc_any]
  cases (asc l a).isSome with
  | true =>
    simp only [if_true,List.map_map]
    refine List.map_congr_left fun e _=>?_
    dsimp only [Function.comp]
    split <;> rfl
  | false=>simp
theorem put_len (l:List (α × β)) (a:α) (b:β):(putA l a b).length=if (asc l a).isSome then l.length else l.length + 1:=by
  have:=congrArg List.length (put_keys l a b)
  rw [List.length_map] at this
  rw [this]
  cases (asc l a).isSome <;> simp
end
section
variable {σ:Type}
def sumO (f:σ→Option Int):List σ→Option Int
  | []=>some 0
  | s :: r=>match f s,sumO f r with
    | some a,some b=>some (a + b)
    | _,_=>none
theorem sumO_cons {f:σ→Option Int} {s:σ} {r:List σ} {w:Int} (h:sumO f (s :: r)=some w):∃ a b,f s=some a∧sumO f r=some b∧w=a + b:=by
  simp only [sumO] at h
  split at h
  · rename_i a b h1 h2;cases h;exact ⟨a,b,h1,h2,rfl⟩
  · cases h
theorem sumO_some {f:σ→Option Int} {s:σ} {r:List σ} {a b:Int} (h1:f s=some a) (h2:sumO f r=some b):sumO f (s :: r)=some (a + b):=by
  simp only [sumO,h1,h2]
theorem sumO_congr {f g:σ→Option Int}:∀ {l:List σ},(∀ s∈l,f s=g s)→sumO f l=sumO g l
  | [],_=>rfl
  | s :: r,h=>by simp only [sumO];rw [h s List.mem_cons_self,sumO_congr fun x hx=>h x (List.mem_cons_of_mem _ hx)]
theorem sumO_mem {f:σ→Option Int}:∀ {l:List σ} {w:Int},sumO f l=some w→∀ s∈l,∃ a,f s=some a
  | [],_,_,s,hs=>by cases hs
  | x :: r,w,h,s,hs=>by
    obtain ⟨a,b,h1,h2,rfl⟩:=sumO_cons h
    rcases List.mem_cons.mp hs with rfl | hs
    · exact ⟨a,h1⟩
    · exact sumO_mem h2 s hs
theorem sumO_nonneg {f:σ→Option Int} (hf:∀ s a,f s=some a→0≤a):∀ {l:List σ} {w:Int},sumO f l=some w→0≤w
  | [],w,h=>by cases h;omega
  | x :: r,w,h=>by
    obtain ⟨a,b,h1,h2,rfl⟩:=sumO_cons h
    have:=hf x a h1
    have:=sumO_nonneg hf h2
    omega
theorem sumO_ge {f:σ→Option Int} (hf:∀ s a,f s=some a→0≤a):∀ {l:List σ} {w:Int},sumO f l=some w→∀ s∈l,∀ a,f s=some a→a≤w
  | [],w,h,s,hs,a,ha=>by cases hs
  | x :: r,w,h,s,hs,a,ha=>by
    obtain ⟨a1,b,h1,h2,rfl⟩:=sumO_cons h
    have p1:=hf x a1 h1
    have p2:=sumO_nonneg hf h2
    rcases List.mem_cons.mp hs with rfl | hs
    · rw [ha] at h1;cases h1;omega
    · have:=sumO_ge hf h2 s hs a ha;omega
theorem sumO_mono {f g:σ→Option Int} {s0:σ} (h:∀ s a,f s=some a→∃ a',g s=some a'∧a'≤a∧(s=s0→a' < a)):∀ {l:List σ} {w:Int},sumO f l=some w→∃ w',sumO g l=some w'∧w'≤w∧(s0∈l→w' < w)
  | [],w,e=>by cases e;exact ⟨0,rfl,by omega,fun h=>by cases h⟩
  | x :: r,w,e=>by
    obtain ⟨a,b,h1,h2,rfl⟩:=sumO_cons e
    obtain ⟨a',g1,g2,g3⟩:=h x a h1
    obtain ⟨b',k1,k2,k3⟩:=sumO_mono h h2
    refine ⟨a' + b',sumO_some g1 k1,by omega,fun hm=>?_⟩
    rcases List.mem_cons.mp hm with rfl | hm
    · have:=g3 rfl;omega
    · have:=k3 hm;omega
end
structure Ld where
  n:Nat
  cls:Str
  price:Int
  spots:List (List Nat × Str)
abbrev VM:=List (Str × Int)
abbrev CM:=List (Str × Ld)
abbrev VS:=List (List Nat × VM)
abbrev CS:=List (List Nat × CM)
def lookV (vs:VS) (s:List Nat × Str):Option Int:=(asc vs s.1).bind fun m=>asc m s.2
def cur (vs:VS) (p:List Nat) (m:VM) (s:List Nat × Str):Option Int:=if s.1=p then asc m s.2 else lookV vs s
theorem cur_app {vs:VS} {p:List Nat} {m:VM} (h:asc vs p=none) (s:List Nat × Str):cur vs p m s=lookV (vs++[(p,m)]) s:=by
  unfold cur lookV
  rw [asc_app]
  by_cases e:s.1=p
  · rw [if_pos e,e,h]
    show _=(asc [(p,m)] p).bind _
    rw [asc_pos (p:=(p,m)) rfl];rfl
  · rw [if_neg e]
    cases q:asc vs s.1 with
    | some b=>rfl
    | none =>
      show _=(asc [(p,m)] s.1).bind _
      rw [asc_neg (p:=(p,m)) (fun z=>e z.symm)];rfl
structure LdOk (cs:List Str) (vs:VS) (p:List Nat) (sz:Nat) (l:Ld):Prop where
  p0:0≤l.price
  p1:l.price≤1000
  cls:l.cls∈cs
  len:l.spots.length≤64
  there:∀ s∈l.spots,s.1=p∨(asc vs s.1).isSome=true
  way:(∃ c2,l.spots=[(p,c2)])∨((∀ s∈l.spots,s.1≠p)∧∀ w,sumO (lookV vs) l.spots=some w→w≤6000 * ((sz:Int) - 1))
def Low (vs:VS):Prop:=∀ s v,lookV vs s=some v→0≤v∧v≤100000000
structure J (cs:List Str) (vs:VS) (p:List Nat) (sz:Nat) (ls:List Ld) (m:VM) (ch:CM):Prop where
  keys:m.map (·.1)=ch.map (·.1)
  nd:(m.map (·.1)).Nodup
  sub:∀ c∈m.map (·.1),c∈cs
  just:∀ c v,asc m c=some v→0≤v∧v≤1000 * (6 * ((sz:Int) - 1) + m.length)∧∃ l,asc ch c=some l∧l∈ls∧l.cls=c∧∃ w,sumO (cur vs p m) l.spots=some w∧l.price + w≤v
  rk:∃ (rk:Str→Nat) (T:Nat),(∀ c,rk c < T)∧∀ c v l w,asc m c=some v→asc ch c=some l→sumO (cur vs p m) l.spots=some w→l.price + w < v∨∀ s∈l.spots,s.1=p→rk s.2 < rk c
def Fix (vs:VS) (p:List Nat) (ls:List Ld) (m:VM):Prop:=∀ l∈ls,∀ w,sumO (cur vs p m) l.spots=some w→∃ v,asc m l.cls=some v∧v≤l.price + w
section
variable {cs:List Str} {vs:VS} {p:List Nat} {sz:Nat} {ls:List Ld} {m:VM} {ch:CM}
theorem J.nil:J cs vs p sz ls [] []:=⟨rfl,List.nodup_nil,(fun c h=>by cases h),(fun c v h=>by cases h),fun _=>0,1,(fun _=>Nat.zero_lt_one),fun c v l w h=>by cases h⟩
theorem J.cur0 (j:J cs vs p sz ls m ch) (hv:Low vs):∀ s a,cur vs p m s=some a→0≤a:=fun s a h=>by
  unfold cur at h
  split at h
  · exact (j.just _ _ h).1
  · exact (hv _ _ h).1
theorem J.len6 (j:J cs vs p sz ls m ch) (h6:cs.length≤6):m.length≤6:=by
  have:∀ (l k:List Str),l.Nodup→(∀ s∈l,s∈k)→l.length≤k.length:=by
    intro l
    induction l with
    | nil=>intro k _ _;simp
    | cons a l ih =>
      intro k hn hs
      obtain ⟨h1,h2⟩:=List.nodup_cons.mp hn
      have ha:=hs a List.mem_cons_self
      have:=ih (k.erase a) h2 fun s hsl=>by
        refine (List.mem_erase_of_ne fun z=>?_).mpr (hs s (List.mem_cons_of_mem _ hsl))
        subst z;exact h1 hsl
      rw [List.length_erase_of_mem ha] at this
      have hp:0 < k.length:=List.length_pos_of_mem ha
      simp only [List.length_cons];omega
  have h:=this _ _ j.nd j.sub
  rw [List.length_map] at h
  omega
theorem J.step {l:Ld} {w:Int} (hv:Low vs) (hl:l∈ls) (ok:LdOk cs vs p sz l) (j:J cs vs p sz ls m ch) (hw:sumO (cur vs p m) l.spots=some w) (hlow:∀ v,asc m l.cls=some v→l.price + w < v) :
    J cs vs p sz ls (putA m l.cls (l.price + w)) (putA ch l.cls l):=by
  have h0:=j.cur0 hv
  have hw0:=sumO_nonneg h0 hw
  have hsz:(1:Int)≤sz∨(sz:Int)=0:=by omega
  have hc':∀ s,cur vs p (putA m l.cls (l.price + w)) s=if s=(p,l.cls) then some (l.price + w) else cur vs p m s:=by
    rintro ⟨q,c⟩
    unfold cur
    dsimp only
    by_cases e:q=p
    · subst e
      rw [if_pos rfl,if_pos rfl,asc_put]
      by_cases e2:c=l.cls
      · subst e2;rw [if_pos rfl,if_pos rfl]
      · rw [if_neg e2,if_neg (fun z=>e2 (Prod.mk.inj z).2)]
    · rw [if_neg e,if_neg e,if_neg (fun z=>e (Prod.mk.inj z).1)]
  have hstep:∀ s a,cur vs p m s=some a→∃ a',cur vs p (putA m l.cls (l.price + w)) s=some a'∧a'≤a∧(s=(p,l.cls)→a' < a):=fun s a h=>by
    rw [hc']
    by_cases e:s=(p,l.cls)
    · subst e
      have h':asc m l.cls=some a:=by unfold cur at h;rw [if_pos rfl] at h;exact h
      have:=hlow a h'
      rw [if_pos rfl]
      exact ⟨_,rfl,by omega,fun _=>this⟩
    · rw [if_neg e]
      exact ⟨a,h,by omega,fun z=>absurd z e⟩
  have hlen:m.length≤(putA m l.cls (l.price + w)).length:=by rw [put_len];split <;> omega
  have hch:(asc ch l.cls).isSome=(asc m l.cls).isSome:=by
    have e1:=@asc_key _ _ _ l.cls ch
    have e2:=@asc_key _ _ _ l.cls m
    rw [j.keys] at e2
    cases h1:(asc ch l.cls).isSome <;> cases h2:(asc m l.cls).isSome <;> first | rfl | (exfalso;rw [h1] at e1;rw [h2] at e2;first | exact absurd (e2.mpr (e1.mp rfl)) (by decide) | exact absurd (e1.mpr (e2.mp rfl)) (by decide))
  refine ⟨?_,?_,?_,?_,?_⟩
  · rw [put_keys,put_keys,hch,j.keys]
  · rw [put_keys]
    cases h:(asc m l.cls).isSome with
    | true=>simp only [if_true];exact j.nd
    | false =>
      simp only [Bool.false_eq_true,if_false]
      have:l.cls ∉ m.map (·.1):=fun z=>by rw [asc_key.mpr z] at h;cases h
      exact List.nodup_append.mpr ⟨j.nd,by simp,fun a ha b hb=>by
        cases List.mem_singleton.mp hb
        intro z;subst z;exact this ha⟩
  · intro c hc
    rw [put_keys] at hc
    cases h:(asc m l.cls).isSome with
    | true=>rw [h] at hc;simp only [if_true] at hc;exact j.sub c hc
    | false =>
      rw [h] at hc
      simp only [Bool.false_eq_true,if_false,List.mem_append,List.mem_singleton] at hc
      rcases hc with hc | rfl
      · exact j.sub c hc
      · exact ok.cls
  · intro c v h
    rw [asc_put] at h
    by_cases e:c=l.cls
    · subst e
      rw [if_pos rfl] at h
      cases h
      obtain ⟨w',g1,g2,_⟩:=sumO_mono hstep hw
      have p0:=ok.p0
      have p1:=ok.p1
      refine ⟨by omega,?_,l,by rw [asc_put,if_pos rfl],hl,rfl,w',g1,by omega⟩
      rw [put_len]
      cases hm:asc m l.cls with
      | some old =>
        have:=hlow old hm
        have:=(j.just _ _ hm).2.1
        simp only [Option.isSome_some,if_true]
        omega
      | none =>
        simp only [Option.isSome_none,Bool.false_eq_true,if_false]
        rcases ok.way with ⟨c2,hs⟩ | ⟨hs,hb⟩
        · rw [hs] at hw
          obtain ⟨a,b,k1,k2,rfl⟩:=sumO_cons hw
          cases k2
          have k1':asc m c2=some a:=by unfold cur at k1;rw [if_pos rfl] at k1;exact k1
          have:=(j.just _ _ k1').2.1
          omega
        · have:=hb w (by rw [← hw];exact sumO_congr fun s hs'=>by unfold cur;rw [if_neg (hs s hs')])
          omega
    · rw [if_neg e] at h
      obtain ⟨v0,v1,l1,a1,a2,a3,w1,a4,a5⟩:=j.just c v h
      obtain ⟨w',g1,g2,_⟩:=sumO_mono hstep a4
      exact ⟨v0,by omega,l1,by rw [asc_put,if_neg e];exact a1,a2,a3,w',g1,by omega⟩
  · obtain ⟨rk,T,hT,hr⟩:=j.rk
    refine ⟨fun c=>if c=l.cls then T else rk c,T + 1,fun c=>by
      show (if c=l.cls then T else rk c) < T + 1
      by_cases z:c=l.cls
      · rw [if_pos z];omega
      · rw [if_neg z];have:=hT c;omega,fun c v l1 w1 h1 h2 h3=>?_⟩
    rw [asc_put] at h1 h2
    by_cases e:c=l.cls
    · subst e
      rw [if_pos rfl] at h1 h2
      cases h1;cases h2
      refine .inr fun s hs hsp=>?_
      dsimp only
      rw [if_pos rfl]
      by_cases e2:s.2=l.cls
      · exfalso
        obtain ⟨a,ha⟩:=sumO_mem hw s hs
        have:=sumO_ge h0 hw s hs a ha
        have ha':asc m l.cls=some a:=by unfold cur at ha;rw [if_pos hsp,e2] at ha;exact ha
        have:=hlow a ha'
        have:=ok.p0
        omega
      · rw [if_neg e2];exact hT _
    · rw [if_neg e] at h1 h2
      obtain ⟨v0,v1,l2,a1,a2,a3,w2,a4,a5⟩:=j.just c v h1
      rw [h2] at a1;cases a1
      obtain ⟨w',g1,g2,g3⟩:=sumO_mono hstep a4
      rw [h3] at g1;cases g1
      by_cases hin:(p,l.cls)∈l1.spots
      · have:=g3 hin;exact .inl (by omega)
      · rcases hr c v l1 w2 h1 h2 a4 with hlt | hall
        · exact .inl (by omega)
        · refine .inr fun s hs hsp=>?_
          dsimp only
          rw [if_neg e,if_neg (fun z=>hin (by obtain ⟨s1,s2⟩:=s;dsimp only at hsp z;subst hsp z;exact hs))]
          exact hall s hs hsp
def mv (B:Nat):Option Int→Nat
  | some v=>v.toNat
  | none=>B
def mu (B:Nat) (cs:List Str) (m:VM):Nat:=(cs.map fun c=>mv B (asc m c)).sum
theorem mu_lt {B:Nat} {c0:Str} {v0:Int} {m:VM} (hv0:0≤v0) (hB:v0.toNat < B) (hlow:∀ v,asc m c0=some v→v0 < v):∀ cs:List Str,mu B cs (putA m c0 v0)≤mu B cs m∧(c0∈cs→mu B cs (putA m c0 v0) < mu B cs m)
  | []=>⟨Nat.le_refl _,fun h=>by cases h⟩
  | c :: cs=>by
    obtain ⟨h1,h2⟩:=mu_lt hv0 hB hlow cs
    have e1:∀ m:VM,mu B (c :: cs) m=mv B (asc m c) + mu B cs m:=fun m=>by simp only [mu,List.map_cons,List.sum_cons]
    rw [e1,e1,asc_put]
    by_cases e:c=c0
    · subst e
      rw [if_pos rfl]
      have:v0.toNat < mv B (asc m c):=by
        cases hm:asc m c with
        | none=>exact hB
        | some v=>have:=hlow v hm;show v0.toNat < v.toNat;omega
      exact ⟨by show v0.toNat + _≤_;omega,fun _=>by show v0.toNat + _ < _;omega⟩
    · rw [if_neg e]
      refine ⟨by omega,fun hm=>?_⟩
      rcases List.mem_cons.mp hm with rfl | hm
      · exact absurd rfl e
      · have:=h2 hm;omega
theorem J.low {l:Ld} {w:Int} (hv:Low vs) (hl:l∈ls) (ok:LdOk cs vs p sz l) (h6:cs.length≤6) (hs1:1≤sz) (j:J cs vs p sz ls m ch) (hw:sumO (cur vs p m) l.spots=some w) (hlow:∀ v,asc m l.cls=some v→l.price + w < v) :
    mu (6000 * sz + 1) cs (putA m l.cls (l.price + w)) < mu (6000 * sz + 1) cs m:=by
  have j':=j.step hv hl ok hw hlow
  have h6':=j'.len6 h6
  obtain ⟨v0,v1,_⟩:=j'.just l.cls (l.price + w) (by rw [asc_put,if_pos rfl])
  exact (mu_lt v0 (by omega) hlow cs).2 ok.cls
structure Fill (cs:List Str) (vs:VS) (p:List Nat) (sz:Nat) (ls:List Ld) (m:VM) (ch:CM):Prop where
  keys:m.map (·.1)=ch.map (·.1)
  nd:(m.map (·.1)).Nodup
  sub:∀ c∈m.map (·.1),c∈cs
  just:∀ c v,asc m c=some v→0≤v∧v≤6000 * sz∧∃ l,asc ch c=some l∧l∈ls∧l.cls=c∧∃ w,sumO (cur vs p m) l.spots=some w∧v=l.price + w
  rk:∃ rk:Str→Nat,∀ c l,asc ch c=some l→∀ s∈l.spots,s.1=p→rk s.2 < rk c
  fix:Fix vs p ls m
theorem J.fill (h6:cs.length≤6) (j:J cs vs p sz ls m ch) (hf:Fix vs p ls m):Fill cs vs p sz ls m ch:=by
  have eq:∀ c v l w,asc m c=some v→asc ch c=some l→sumO (cur vs p m) l.spots=some w→v=l.price + w∧l∈ls∧l.cls=c:=fun c v l w h1 h2 h3=>by
    obtain ⟨v0,v1,l1,a1,a2,a3,w1,a4,a5⟩:=j.just c v h1
    rw [h2] at a1;cases a1
    rw [h3] at a4;cases a4
    obtain ⟨v',b1,b2⟩:=hf l a2 w h3
    rw [a3,h1] at b1;cases b1
    exact ⟨by omega,a2,a3⟩
  refine ⟨j.keys,j.nd,j.sub,fun c v h=>?_,?_,hf⟩
  · obtain ⟨v0,v1,l1,a1,a2,a3,w1,a4,a5⟩:=j.just c v h
    have:=j.len6 h6
    exact ⟨v0,by omega,l1,a1,a2,a3,w1,a4,(eq c v l1 w1 h a1 a4).1⟩
  · obtain ⟨rk,T,hT,hr⟩:=j.rk
    refine ⟨rk,fun c l h s hs hsp=>?_⟩
    have:(asc m c).isSome=true:=by
      rw [asc_key,j.keys,← asc_key,h];rfl
    obtain ⟨v,hv⟩:=Option.isSome_iff_exists.mp this
    obtain ⟨v0,v1,l1,a1,a2,a3,w1,a4,a5⟩:=j.just c v hv
    rw [h] at a1;cases a1
    rcases hr c v l w1 hv h a4 with hlt | hall
    · have:=(eq c v l w1 hv h a4).1;omega
    · exact hall s hs hsp
end
end K35
namespace U2
open PySem L2
def cvU (Q:UK):UK:=fun u M1=>∃ u' M',(∀ (K:PySem.W.Frag) (H:Hp) (v:V),RelM K H M1→RelU K H M1 u v→Stp H M1 H M'∧RelM K H M'∧RelU K H M' u' v)∧Q u' M'
end U2
namespace K35
open PySem L2 U2
section
variable {P:Program} {w:World} {K:PySem.W.Frag} {mg:Str→Option Value} {base:Heap} {f d d2 fl:Addr} {fd:FuncData}
theorem Callee.conv {j:Nat} {x:Str} {sp sp':USp} {dus:List U} (c:Callee P w K mg base j x sp dus) (h:∀ us M Q,sp' us M Q→sp us M (cvU Q)):Callee P w K mg base j x sp' dus :=
  let ⟨f,fd,ps,dvs,ds,F,r⟩:=c.ex;⟨f,fd,ps,dvs,ds,F.imp fun vs H Q E ⟨us,M,Q',h1,h2,h3,h4⟩=>⟨us,M,cvU Q',h1,h2,h us M Q' h3,fun u v M1 H1 st rm1 ru ⟨u',M',cv,q⟩=>let ⟨s2,rm2,ru2⟩:=cv K H1 v rm1 ru;h4 u' v M' H1 (st.trans s2) rm2 ru2 q⟩,r⟩
def pk (p:List Nat):List Key:=p.map fun (n:Nat)=>Sum.inl (n:Int)
theorem pk_inj {p q:List Nat} (h:pk p=pk q):p=q:=by
  induction p generalizing q with
  | nil=>cases q with
    | nil=>rfl
    | cons a r=>cases h
  | cons a r ih=>cases q with
    | nil=>cases h
    | cons b s =>
      simp only [pk,List.map_cons,List.cons.injEq,Sum.inl.injEq] at h
      have h1:a=b:=by omega
      rw [h1,ih h.2]
theorem keys_pk (p:List Nat):keysU (p.map fun (n:Nat)=>U.int (n:Int))=some (pk p):=by
  induction p with
  | nil=>rfl
  | cons a r ih=>simp only [List.map_cons,keysU,keyU,ih];rfl
def Ld.toU (l:Ld):U:=.tup [.int l.n,.str l.cls,.int l.price,.lst (l.spots.map entH)]
def chU (l:Ld):U:=.tup [.int l.n,.lst (l.spots.map entH)]
def valK (m:VM):List (Key × U):=m.map fun e=>(Sum.inr e.1,.int e.2)
def choK (ch:CM):List (Key × U):=ch.map fun e=>(Sum.inr e.1,chU e.2)
def valD (m:VM):U:=.dic (m.map fun e=>[Sum.inr e.1]) false (m.map fun e=>.int e.2)
def choD (ch:CM):U:=.dic (ch.map fun e=>[Sum.inr e.1]) false (ch.map fun e=>chU e.2)
def vsK (vs:VS):List (List Key × U):=vs.map fun e=>(pk e.1,valD e.2)
def csK (cs:CS):List (List Key × U):=cs.map fun e=>(pk e.1,choD e.2)
section
variable {α β κ:Type} [DecidableEq α] [DecidableEq κ]
theorem valU_map (k:α→κ) (hk:∀ a b,k a=k b→a=b) (g:β→U) (a:α):∀ l:List (α × β),valU (l.map fun e=>(k e.1,g e.2)) (k a)=(asc l a).map g
  | []=>rfl
  | p :: r=>by
    rw [List.map_cons]
    by_cases e:p.1=a
    · rw [valU_pos (p:=(k p.1,g p.2)) (by rw [e]),asc_pos e];rfl
    · rw [valU_neg (p:=(k p.1,g p.2)) (fun z=>e (hk _ _ z)),asc_neg e];exact valU_map k hk g a r
theorem putU_map (k:α→κ) (hk:∀ a b,k a=k b→a=b) (g:β→U) (a:α) (b:β) (l:List (α × β)):putU (l.map fun e=>(k e.1,g e.2)) (k a) (g b)=(putA l a b).map fun e=>(k e.1,g e.2):=by
  unfold putU putA
  rw [valU_any,valU_map k hk,asc_any,Option.isSome_map]
  cases (asc l a).isSome with
  | true =>
    simp only [if_true,List.map_map]
    refine List.map_congr_left fun e _=>?_
    dsimp only [Function.comp]
    by_cases h:e.1=a
    · rw [if_pos (by rw [h]),if_pos h]
    · rw [if_neg (fun z=>h (hk _ _ z)),if_neg h]
  | false=>simp
theorem valU_app (k:κ):∀ l r:List (κ × U),valU (l++r) k=match valU l k with | some u=>some u | none=>valU r k
  | [],r=>rfl
  | p :: l,r=>by
    rw [List.cons_append]
    by_cases e:p.1=k
    · rw [valU_pos e,valU_pos e]
    · rw [valU_neg e,valU_neg e];exact valU_app k l r
end
theorem inr_inj:∀ a b:Str,(Sum.inr a:Key)=Sum.inr b→a=b:=fun a b h=>Sum.inr.inj h
theorem val_at (m:VM) (c:Str):valU (valK m) (.inr c)=(asc m c).map U.int:=valU_map (fun c:Str=>(Sum.inr c:Key)) inr_inj U.int c m
theorem cho_at (m:CM) (c:Str):valU (choK m) (.inr c)=(asc m c).map chU:=valU_map (fun c:Str=>(Sum.inr c:Key)) inr_inj chU c m
theorem val_put (m:VM) (c:Str) (v:Int):putU (valK m) (.inr c) (.int v)=valK (putA m c v):=putU_map (fun c:Str=>(Sum.inr c:Key)) inr_inj U.int c v m
theorem cho_put (m:CM) (c:Str) (l:Ld):putU (choK m) (.inr c) (chU l)=choK (putA m c l):=putU_map (fun c:Str=>(Sum.inr c:Key)) inr_inj chU c l m
theorem vs_at (vs:VS) (p:List Nat):valU (vsK vs) (pk p)=(asc vs p).map valD:=valU_map pk (fun _ _=>pk_inj) valD p vs
theorem cs_at (vs:CS) (p:List Nat):valU (csK vs) (pk p)=(asc vs p).map choD:=valU_map pk (fun _ _=>pk_inj) choD p vs
theorem zip_kv {γ:Type} (g:γ→U) (k:Str→Key):∀ m:List (Str × γ),((m.map fun e=>[k e.1]).map hd1).zip (m.map fun e=>g e.2)=m.map fun e=>(k e.1,g e.2)
  | []=>rfl
  | e :: m=>by simp only [List.map_cons,List.zip_cons_cons,hd1];rw [zip_kv g k m]
theorem dv_val {M:MHp} (m:VM):dvw M (valD m)=some (.dK (valK m)):=by
  simp only [valD,dvw];rw [zip_kv U.int Sum.inr m];rfl
theorem dv_cho {M:MHp} (m:CM):dvw M (choD m)=some (.dK (choK m)):=by
  simp only [choD,dvw];rw [zip_kv chU Sum.inr m];rfl
theorem look_T {M:MHp} {v:Addr} {kvs:List (List Key × U)} (p:List Nat) (h:M v=some (.dT kvs)):dLook true M (.ref v) (placeU p)=some (valU kvs (pk p)):=by
  simp only [dLook,dvw,h,placeU,keys_pk,Option.map_some]
theorem look_K {M:MHp} {x:U} {kvs:List (Key × U)} (c:Str) (h:dvw M x=some (.dK kvs)):dLook false M x (.str c)=some (valU kvs (.inr c)):=by
  simp only [dLook,h,keyU]
theorem isD_K {M:MHp} {x:U} {kvs:List (Key × U)} (h:dvw M x=some (.dK kvs)):isDb M x=true:=by simp only [isDb,h]
theorem dvw_sub {M M':MHp} {x:U} {mo:MO} (s:Sub M M') (h:dvw M x=some mo):dvw M' x=some mo:=by
  cases x with
  | ref a=>exact s a _ h
  | dic ks tk us=>cases tk <;> exact h
  | _=>cases h
def hadU:Option Int→U
  | some a=>.int a
  | none=>.non
def ansU (pr:Int):Option Int→U
  | some w=>.int (pr + w)
  | none=>.non
theorem had_case (f:List Nat × Str→Option Int):∀ spots:List (List Nat × Str),(∃ ns:List Int,spots.map (fun s=>hadU (f s))=ns.map U.int∧sumO f spots=some ns.sum∧(∀ n∈ns,∃ s∈spots,f s=some n)∧ns.length=spots.length)∨((spots.map (fun s=>hadU (f s))).any (fun u=>eqF u .non)=true∧sumO f spots=none)
  | []=>.inl ⟨[],rfl,rfl,(fun n h=>by cases h),rfl⟩
  | s :: r=>by
    cases h:f s with
    | none=>exact .inr ⟨by simp [h,hadU,eqF],by simp only [sumO,h]⟩
    | some a =>
      rcases had_case f r with ⟨ns,h1,h2,h3,h4⟩ | ⟨h1,h2⟩
      · refine .inl ⟨a :: ns,by rw [List.map_cons,List.map_cons,h1,h];rfl,by rw [sumO_some h h2,List.sum_cons],fun n hn=>?_,by simp [h4]⟩
        rcases List.mem_cons.mp hn with rfl | hn
        · exact ⟨s,List.mem_cons_self,h⟩
        · obtain ⟨s',h5,h6⟩:=h3 n hn;exact ⟨s',List.mem_cons_of_mem _ h5,h6⟩
      · exact .inr ⟨by simp only [List.map_cons,List.any_cons,h1,Bool.or_true],by simp only [sumO,h,h2]⟩
theorem had_flat (f:List Nat × Str→Option Int) (spots:List (List Nat × Str)):(spots.map (fun s=>hadU (f s))).all flatU=true:=by
  induction spots with
  | nil=>rfl
  | cons s r ih =>
    rw [List.map_cons,List.all_cons,ih]
    cases f s <;> rfl
theorem ints_no (ns:List Int):((ns.map U.int).any fun u=>eqF u .non)=false:=by
  induction ns with
  | nil=>rfl
  | cons a r ih=>rw [List.map_cons,List.any_cons,ih];rfl
theorem fits8 {ns:List Int} (h:∀ n∈ns,0≤n∧n≤100000000) (hl:ns.length≤64):PySem.SumFits ns:=by
  intro j hj
  have hm:ns.getD j 0∈ns:=by
    rw [List.getD_eq_getElem?_getD,List.getElem?_eq_getElem hj];exact List.getElem_mem hj
  obtain ⟨h1,h2⟩:=h _ hm
  obtain ⟨h3,h4⟩:=sum_bd 100000000 (ns.take (j + 1)) fun x hx=>h x (List.mem_of_mem_take hx)
  have h5:(ns.take (j + 1)).length≤64:=by rw [List.length_take];omega
  have h6:((100000000:Nat):Int) * ((ns.take (j + 1)).length:Int)≤6400000000:=by omega
  constructor <;> (unfold InLong;constructor <;> omega)
def spJP:USp:=fun us M Q=>∃ (pr:Int) (ns:List Int),us=[.int pr,.lst (ns.map .int)]∧(∀ n∈ns,0≤n∧n≤100000000)∧ns.length≤64∧Q (.int (pr + ns.sum)) M
local macro_rules | `(tactic| dsimp! only [$xs,*] $[$l]?) => `(tactic| simp only [$xs,*, Bool.false_eq_true, Bool.not_false, Bool.not_true, List.append_nil, List.cons_append, List.getElem?_cons_succ, List.getElem?_cons_zero, List.length_cons, List.length_nil, List.map_cons, List.map_nil, List.nil_append, List.replicate, List.set_cons_succ, List.set_cons_zero, Nat.add_sub_cancel, Nat.reduceAdd, Nat.reduceLeDiff, Nat.reduceSub, Nat.sub_self, Option.getD_some, Option.some.injEq, and_true, at0, at1, at2, at3, bAll, bInt, bInt1, bInt2, bIsi2, bLen, bList, bMax, bSorted, bSum, bTuple, cGe, cGt, cLe, cLt, capt, decide_false, decide_true, eqX_int, eqX_str, exists_eq_left', if_false, if_true, inSt, inTab, isNon, isi_NoneType_bool, isi_NoneType_dict, isi_NoneType_int, isi_NoneType_list, isi_NoneType_str, isi_NoneType_tuple, isi_bool_bool, isi_bool_dict, isi_bool_int, isi_bool_list, isi_bool_str, isi_bool_tuple, isi_dict_bool, isi_dict_dict, isi_dict_int, isi_dict_list, isi_dict_str, isi_dict_tuple, isi_int_bool, isi_int_dict, isi_int_int, isi_int_list, isi_int_str, isi_int_tuple, isi_list_bool, isi_list_dict, isi_list_int, isi_list_list, isi_list_str, isi_list_tuple, isi_str_bool, isi_str_dict, isi_str_int, isi_str_list, isi_str_str, isi_str_tuple, isi_tuple_bool, isi_tuple_dict, isi_tuple_int, isi_tuple_list, isi_tuple_str, isi_tuple_tuple, items, ixTab, mAppend, mClear, mExtend, mPop, mPopAt, mkL, mup_mup, mup_same, reduceCtorEq, startU, szl, true_and, typU, uAdd, uAddL, uAnd, uAndV, uBM, uBM0, uC, uCB, uCall, uCallV, uChain, uCons, uDGet, uDGet1, uDIn, uDNew, uEnum, uEnumL, uEqS, uI, uI0, uIf, uIn, uIsB2, uIsN, uIter, uIx, uListRev, uLst, uLtX, uMul, uNeS, uNil, uNoPart, uNot, uNotB, uNotN, uNotV, uOp, uOr, uOrV, uPart, uRepL, uRev, uRng1, uRng2, uSetFrom, uSlX, uTest, uTru, uTup, uUn, uVar, uZip, uZipL, vw_bl, vw_int, vw_lst, vw_non, vw_own, vw_str, vw_tup] $[$l]?)
theorem ok_joined_price (F:Fun K "joined_price" "joined_price" s_joined_price f fd) (m_sum:mg "sum"=none):CalleeAt P w K mg base 1 f spJP:=by
  refine ⟨fd,["price","prices"],fnok_of F sc_joined_price (fun us M Q h=>by obtain ⟨_,_,rfl,_⟩:=h;rfl) (uss_one (us_ret (ue_add (own:=false) (uv 0) (ue_b b_sum m_sum (ua_cons (uv 1) ua_nil))))) ?_,F.kp,F.binds (fun _ _ _ _ _ _ us hl=>match us,hl with | [_,_],_=>rfl)⟩
  rintro us M Q ⟨pr,ns,rfl,hb,hl,q⟩
  dsimp! only [uRet,intsOf_map]
  exact ⟨fits8 hb hl,rt_same q⟩
def ValAt (M:MHp) (v:Addr) (g:List Nat × Str→Option Int) (s:List Nat × Str):Prop:=∃ kvs x kv2,M v=some (.dT kvs)∧valU kvs (pk s.1)=some x∧dvw M x=some (.dK kv2)∧valU kv2 (.inr s.2)=(g s).map U.int
def spJoin (fj:Addr):USp:=fun us M Q=>∃ (pr:Int) (spots:List (List Nat × Str)) (v:Addr) (g:List Nat × Str→Option Int),us=[.int pr,.lst (spots.map entH),.ref v,.ref fj]∧spots.length≤64∧(∀ s∈spots,ValAt M v g s)∧(∀ s∈spots,∀ a,g s=some a→0≤a∧a≤100000000)∧Q (ansU pr (sumO g spots)) M
theorem ok_join_spots {fj:Addr} (F:Fun K "join_spots" "join_spots" s_join_spots f fd) (hm:mg "join_spots"=some (.ref f)) (hNK:NoKey K) (A_joined:CalleeAt P w K mg base 1 fj spJP):Callee P w K mg base 2 "join_spots" (spJoin fj) []:=by
  refine callee_of F hm sc_join_spots (fun _ _ _ _ _ _ us hl=>match us,hl with | [_,_,_,_],_=>rfl) (fun us M Q h=>by obtain ⟨_,_,_,_,rfl,_⟩:=h;rfl) (uss_cons (us_setC 4 sc_join_spots.nd false ["place","cls","values"] 2 [2] (ui_seq (uv 1)) (ug_tup (n:=2) (ugs_cons (ug_name (k:=2) 0 (by dsimp only [compD];decide +kernel)) (ugs_cons (ug_name (k:=2) 1 (by dsimp only [compD];decide +kernel)) ugs_nil))) uif_nil (ue_dget1 false nokF (ue_dget true (fun _=>hNK) (uv 2) (uv 0)) (uv 1)))
  (uss_one (us_ret (ue_if (ut_c k_in uo_ (uv 4)) uo_ (ue_callv 3 A_joined (ua_cons (uv 0) (ua_cons (uv 4) ua_nil))))))) ?_
  rintro us M Q ⟨pr,spots,v,g,rfl,hl,hat,hb,q⟩
  refine seq_gen fun V hV=>?_
  refine uComp_list (S:=⟨none,spots.map entH⟩) (M1:=M) (spots.map fun s=>hadU (g s)) (fun R r=>r) (by simp) (small (by show (spots.map entH).length≤_;rw [List.length_map];omega)) (fun a e=>by cases e) ?_ ?_
  · intro j x y hx hy M' hS R r'
    have hx':(spots.map entH)[j]?=some x:=hx
    rw [List.getElem?_map] at hx' hy
    cases hj:spots[j]? with
    | none=>rw [hj] at hx';cases hx'
    | some s =>
      rw [hj] at hx' hy
      cases hx';cases hy
      obtain ⟨kvs,xx,kv2,e1,e2,e3,e4⟩:=hat s (List.mem_of_getElem? hj)
      have l1:=look_T s.1 (hS v _ e1)
      have e3':=dvw_sub hS e3
      have l2:=look_K s.2 e3'
      have l3:=isD_K e3'
      dsimp! only [entH,hTup,hCons,hNil,hName,l1,e2,l2,l3,e4]
      have r2:R (hadU (g s)) M':=r'
      cases hg:g s with
      | none=>rw [hg] at r2;exact r2
      | some a=>rw [hg] at r2;exact r2
  · dsimp! only [hName]
    subst hV
    dsimp! only [uRet,had_flat,show flatU .non=true from rfl]
    rcases had_case g spots with ⟨ns,h1,h2,h3,h4⟩ | ⟨h1,h2⟩
    · rw [h1,ints_no]
      dsimp! only [true_and]
      refine ⟨pr,ns,rfl,fun n hn=>?_,by omega,rt_same (by rw [h2] at q;exact q)⟩
      obtain ⟨s,hs,e⟩:=h3 n hn
      exact hb s hs n e
    · rw [h1]
      dsimp! only [true_and]
      exact rt_same (by rw [h2] at q;exact q)
def laidF (t:Tr) (p:List Nat):Nat→List Tl→List Ld
  | _,[]=>[]
  | k,tl :: r=>(if lieF tl.pt t then [⟨k,tl.cls,tl.cost,(hls tl.pt).map fun e=>(p++e.1,e.2)⟩] else [])++laidF t p (k + 1) r
theorem laid_snoc (t:Tr) (p:List Nat) (tl:Tl):∀ (l:List Tl) (k:Nat),laidF t p k (l++[tl])=laidF t p k l++(if lieF tl.pt t then [⟨k + l.length,tl.cls,tl.cost,(hls tl.pt).map fun e=>(p++e.1,e.2)⟩] else [])
  | [],k=>by simp [laidF]
  | a :: l,k=>by
    rw [List.cons_append]
    simp only [laidF]
    rw [laid_snoc t p tl l (k + 1),List.append_assoc,List.length_cons,show k + 1 + l.length=k + (l.length + 1) by omega]
theorem laid_len (t:Tr) (p:List Nat):∀ (l:List Tl) (k:Nat),(laidF t p k l).length≤l.length
  | [],k=>by simp [laidF]
  | a :: l,k=>by
    have:=laid_len t p l (k + 1)
    simp only [laidF,List.length_append,List.length_cons]
    split <;> simp <;> omega
def spTilesAt:USp:=fun us M Q=>∃ (cs:List Str) (tls:List Tl) (t t':Tr) (p:List Nat),us=[tabU cs tls,t.toU,placeU p]∧atU t.toU p=some t'.toU∧(∀ tl∈tls,tl.pt.dep≤6)∧tls.length≤40∧p.length≤1000∧Q (.lst ((laidF t' p 0 tls).map Ld.toU)) M
set_option maxHeartbeats 1000000 in
theorem ok_tiles_at (F:Fun K "tiles_at" "tiles_at" s_tiles_at f fd) (hm:mg "tiles_at"=some (.ref f)) (m_enumerate:mg "enumerate"=none) (C_tree_at:Callee P w K mg base 3 "tree_at" spAtU []) (C_lies:Callee P w K mg base 9 "lies" (spLies 6) []) (C_holes:Callee P w K mg base 8 "holes" spHoles []):Callee P w K mg base 10 "tiles_at" spTilesAt []:=by
  refine callee_of F hm sc_tiles_at (fun _ _ _ _ _ _ us hl=>match us,hl with | [_,_,_],_=>rfl) (fun us M Q h=>by obtain ⟨_,_,_,_,_,rfl,_⟩:=h;rfl) (uss_cons (us_set 3 sc_tiles_at.nd (ue_call C_tree_at (ua_cons (uv 1) (ua_cons (uv 2) ua_nil))))
  (uss_cons (us_set 4 sc_tiles_at.nd (ue_lst (own:=true) ua_nil))
  (uss_cons (us_for (ui_enumerate m_enumerate (ua_cons (ue_ix (uv 0) un_) ua_nil)) (ug_tup (n:=2) (ugs_cons (ug_name (k:=1000) 5 sc_tiles_at.nd) (ugs_cons (ug_name (k:=1000) 6 sc_tiles_at.nd) ugs_nil)))
  (uss_one (us_if (ut_val (ue_call C_lies (ua_cons (ue_ix (uv 6) un_) (ua_cons (uv 3) ua_nil))))
  (uss_cons (us_setC 7 sc_tiles_at.nd false ["below","cls","place"] 2 [2] (ui_seq (ue_call C_holes (ua_cons (ue_ix (uv 6) un_) ua_nil))) (ug_tup (n:=2) (ugs_cons (ug_name (k:=2) 0 (by dsimp only [compD];decide +kernel)) (ugs_cons (ug_name (k:=2) 1 (by dsimp only [compD];decide +kernel)) ugs_nil))) uif_nil (ue_tup (ua_cons (ue_add (own:=false) (uv 2) (uv 0)) (ua_cons (uv 1) ua_nil))))
  (uss_one (us_expr (ue_append (uv 4) (ua_cons (ue_tup (ua_cons (uv 5) (ua_cons (ue_ix (uv 6) un_) (ua_cons (ue_ix (uv 6) un_) (ua_cons (uv 7) ua_nil))))) ua_nil)))))
  uss_nil)))
  (uss_one (us_ret (uv 4)))))) ?_
  rintro us M Q ⟨cs,tls,t,t',p,rfl,hat,hdep,hlen,hpl,q⟩
  refine seq_gen fun V hV=>?_
  dsimp! only [uAsg,hName]
  refine ⟨t.toU,t'.toU,p,rfl,hat,?_⟩
  subst hV
  refine seq_gen fun V hV=>?_
  dsimp! only [uAsg,hName]
  intro r hr
  subst hV
  refine seq_gen fun V hV=>?_
  refine for_by (S:=⟨none,numbered (tls.map Tl.toU)⟩) (M1:=mup M r (.lst [])) (fun R r'=>by dsimp! only [vw_tab];exact r')
    (fun i τ Mi=>∃ z5 z6 z7:Option U,τ=[some (tabU cs tls),some t.toU,some (placeU p),some t'.toU,some (.ref r),z5,z6,z7]∧Mi=mup M r (.lst ((laidF t' p 0 (tls.take i)).map Ld.toU))) ⟨none,none,none,rfl,rfl⟩ (fun i τ M' _ a e=>by cases e) ?_ ?_
  · rintro i x τ Mi e ⟨z5,z6,z7,rfl,rfl⟩
    obtain ⟨u,hu,rfl⟩:=numbered_get e
    rw [List.getElem?_map] at hu
    cases hj:tls[i]? with
    | none=>rw [hj] at hu;cases hu
    | some tl =>
      rw [hj] at hu
      cases hu
      have hi:=(List.getElem?_eq_some_iff.mp hj).1
      have hd:=hdep tl (List.mem_of_getElem? hj)
      have hh:=hls_len tl.pt hd
      have hnext:laidF t' p 0 (tls.take (i + 1))=laidF t' p 0 (tls.take i)++(if lieF tl.pt t' then [⟨i,tl.cls,tl.cost,(hls tl.pt).map fun e=>(p++e.1,e.2)⟩] else []):=by
        rw [List.take_add_one,hj]
        have:=laid_snoc t' p tl (tls.take i) 0
        rw [List.length_take,Nat.min_eq_left (Nat.le_of_lt hi),Nat.zero_add] at this
        exact this
      refine ⟨rfl,?_⟩
      dsimp! only [hTup,hCons,hNil,hName]
      refine if_gen fun A B hA hB=>?_
      dsimp! only [vw_tl]
      refine ⟨tl.pt,t',rfl,hd,?_⟩
      cases hl:lieF tl.pt t' with
      | false =>
        rw [hl] at hnext
        simp only [Bool.false_eq_true,if_false,List.append_nil] at hnext
        simp only [vw_bl,Bool.false_eq_true,if_false]
        subst hB
        simp only [uNext]
        exact ⟨_,_,_,rfl,by rw [hnext]⟩
      | true =>
        rw [hl] at hnext
        simp only [if_true] at hnext
        simp only [vw_bl,if_true]
        subst hA
        refine seq_gen fun V1 hV1=>?_
        refine uComp_list (S:=⟨none,(hls tl.pt).map entH⟩) (M1:=mup M r (.lst ((laidF t' p 0 (tls.take i)).map Ld.toU))) (((hls tl.pt).map fun e=>(p++e.1,e.2)).map entH) (fun R r'=>by dsimp! only [vw_tl];exact ⟨tl.pt,rfl,hd,r'⟩) (by simp) (small (by show ((hls tl.pt).map entH).length≤_;rw [List.length_map];omega)) (fun a e=>by cases e) ?_ ?_
        · intro j x y hx hy M' hS R r'
          have hx':((hls tl.pt).map entH)[j]?=some x:=hx
          rw [List.getElem?_map] at hx' hy
          rw [List.getElem?_map] at hy
          cases hj':(hls tl.pt)[j]? with
          | none=>rw [hj'] at hx';cases hx'
          | some e' =>
            rw [hj'] at hx' hy
            cases hx';cases hy
            have hsh:e'.1.length≤1000:=by
              have h1:=(List.mem_of_getElem? hj')
              have h2:e'.1∈tl.pt.places:=by
                obtain ⟨y,hy1,hy2⟩:=List.mem_filterMap.mp h1
                have h3:y.1∈(subsP tl.pt []).map (·.1):=List.mem_map.mpr ⟨y,hy1,rfl⟩
                rw [subs_places] at h3
                have h4:y.1=e'.1:=by
                  obtain ⟨y1,y2⟩:=y
                  cases y2 <;> simp [hF] at hy2
                  rw [← hy2]
                rw [h4] at h3
                simpa using h3
              have:=place_short tl.pt e'.1 h2
              omega
            dsimp! only [entH,placeU,hTup,hCons,hNil,hName]
            refine ⟨small (by rw [List.length_map,List.length_map];omega),?_⟩
            rw [← List.map_append]
            exact r'
        · dsimp! only [hName]
          subst hV1
          dsimp! only [uDrop,vw_tl]
          have hll:=laid_len t' p (tls.take i) 0
          rw [List.length_take] at hll
          refine ⟨isL_own,big (by rw [List.length_map];omega),_,_,_,rfl,?_⟩
          rw [hnext,List.map_append]
          rfl
  · rintro τ Mi ⟨z5,z6,z7,rfl,rfl⟩
    rw [numbered_len,List.length_map,List.take_length]
    subst hV
    dsimp! only [uRet]
    exact ⟨_,M,(Sub.refl M).mup hr,.inr ⟨r,_,rfl,mup_same,hr,rfl⟩,q⟩
theorem mup_comm {M:MHp} {a b:Addr} {x y:MO} (h:a≠b):mup (mup M a x) b y=mup (mup M b y) a x:=by
  funext z
  by_cases e1:z=a
  · subst e1;rw [mup_ne h,mup_same,mup_same]
  · by_cases e2:z=b
    · subst e2;rw [mup_same,mup_ne e1,mup_same]
    · rw [mup_ne e2,mup_ne e1,mup_ne e1,mup_ne e2]
structure Ap (v c p1 p2:Addr):Prop where
  vc:v≠c
  v1:v≠p1
  v2:v≠p2
  c1:c≠p1
  c2:c≠p2
  p12:p1≠p2
def stF (M:MHp) (v c p1 p2:Addr) (KV KC:List (List Key × U)) (m:VM) (ch:CM):MHp:=mup (mup (mup (mup M v (.dT KV)) c (.dT KC)) p1 (.dK (valK m))) p2 (.dK (choK ch))
section
variable {M:MHp} {v c p1 p2:Addr} {KV KC:List (List Key × U)} {m:VM} {ch:CM}
theorem stF_v (h:Ap v c p1 p2):stF M v c p1 p2 KV KC m ch v=some (.dT KV):=by unfold stF;rw [mup_ne h.v2,mup_ne h.v1,mup_ne h.vc,mup_same]
theorem stF_c (h:Ap v c p1 p2):stF M v c p1 p2 KV KC m ch c=some (.dT KC):=by unfold stF;rw [mup_ne h.c2,mup_ne h.c1,mup_same]
theorem stF_1 (h:Ap v c p1 p2):stF M v c p1 p2 KV KC m ch p1=some (.dK (valK m)):=by unfold stF;rw [mup_ne h.p12,mup_same]
theorem stF_2:stF M v c p1 p2 KV KC m ch p2=some (.dK (choK ch)):=mup_same
theorem stF_set1 (h:Ap v c p1 p2) {m':VM}:mup (stF M v c p1 p2 KV KC m ch) p1 (.dK (valK m'))=stF M v c p1 p2 KV KC m' ch:=by
  unfold stF;rw [← mup_comm h.p12,mup_mup]
theorem stF_set2 {ch':CM}:mup (stF M v c p1 p2 KV KC m ch) p2 (.dK (choK ch'))=stF M v c p1 p2 KV KC m ch':=by unfold stF;rw [mup_mup]
end
def decV (kvs:List (Key × U)):VM:=kvs.filterMap fun e=>match e with
  | (.inr c,.int v)=>some (c,v)
  | _=>none
theorem decV_val (m:VM):decV (valK m)=m:=by
  induction m with
  | nil=>rfl
  | cons e m ih=>simp only [valK,decV,List.map_cons,List.filterMap_cons] at ih ⊢;rw [ih]
def mea (B:Nat) (cs:List Str) (p1:Addr) (τ:SU) (M:MHp):Nat:=2 * (match M p1 with | some (.dK kvs)=>mu B cs (decV kvs) | _=>0) + (match τ[5]? with | some (some (.bl true))=>1 | _=>0)
def spFill0 (fj:Addr):USp:=fun us M Q=>∃ (ls:List Ld) (p:List Nat) (v c:Addr) (vs:VS) (chs:CS) (cs:List Str) (sz:Nat),us=[.lst (ls.map Ld.toU),placeU p,.ref v,.ref c,.ref fj]∧v≠c∧M v=some (.dT (vsK vs))∧M c=some (.dT (csK chs))∧asc vs p=none∧asc chs p=none∧vs.length≤1000∧chs.length≤1000∧ls.length≤1000∧Low vs∧cs.length≤6∧1≤sz∧sz≤1000∧(∀ l∈ls,LdOk cs vs p sz l) ∧
  ∀ (p1 p2:Addr) (m:VM) (ch:CM),M p1=none→M p2=none→p1≠p2→Fill cs vs p sz ls m ch→Q .non (stF M v c p1 p2 (vsK vs++[(pk p,.ref p1)]) (csK chs++[(pk p,.ref p2)]) m ch)
set_option maxHeartbeats 4000000 in
theorem ok_fill0 {fj:Addr} (F:Fun K "fill_least" "fill_least" s_fill_least f fd) (hm:mg "fill_least"=some (.ref f)) (hNK:NoKey K) (C_join_spots:Callee P w K mg base 2 "join_spots" (spJoin fj) []):Callee P w K mg base 3 "fill_least" (spFill0 fj) []:=by
  refine callee_of F hm sc_fill_least (fun _ _ _ _ _ _ us hl=>match us,hl with | [_,_,_,_,_],_=>rfl) (fun us M Q h=>by obtain ⟨_,_,_,_,_,_,_,_,rfl,_⟩:=h;rfl) (uss_cons (us_dput true (fun _=>hNK) (ue_dnew false) (uv 2) (uv 1))
  (uss_cons (us_dput true (fun _=>hNK) (ue_dnew false) (uv 3) (uv 1))
  (uss_cons (us_set 5 sc_fill_least.nd ub_)
  (uss_one (us_while (ut_val (uv 5))
  (uss_cons (us_set 5 sc_fill_least.nd ub_)
  (uss_one (us_for (ui_seq (uv 0)) (ug_tup (n:=4) (ugs_cons (ug_name (k:=1000) 6 sc_fill_least.nd) (ugs_cons (ug_name (k:=1000) 7 sc_fill_least.nd) (ugs_cons (ug_name (k:=1000) 8 sc_fill_least.nd) (ugs_cons (ug_name (k:=1000) 9 sc_fill_least.nd) ugs_nil)))))
  (uss_cons (us_set 10 sc_fill_least.nd (ue_call C_join_spots (ua_cons (uv 8) (ua_cons (uv 9) (ua_cons (uv 2) (ua_cons (uv 4) ua_nil))))))
  (uss_one (us_if (PWU.pt (uw_and (ut_c k_notN (uv 10) uo_) (uw_and1 (PWU.pt (uw_or (ut_c (k_dnotin false nokF) (uv 7) (ue_dget true (fun _=>hNK) (uv 2) (uv 1))) (uw_or1 (ut_c k_ltX (uv 10) (ue_dget false nokF (ue_dget true (fun _=>hNK) (uv 2) (uv 1)) (uv 7)))))))))
  (uss_cons (us_dput false nokF (uv 10) (ue_dget true (fun _=>hNK) (uv 2) (uv 1)) (uv 7))
  (uss_cons (us_dput false nokF (ue_tup (ua_cons (uv 6) (ua_cons (uv 9) ua_nil))) (ue_dget true (fun _=>hNK) (uv 3) (uv 1)) (uv 7))
  (uss_one (us_set 5 sc_fill_least.nd ub_))))
  uss_nil))))))))))) ?_
  rintro us M Q ⟨ls,p,v,c,vs,chs,cs,sz,rfl,hvc,hMv,hMc,hvp,hcp,hvl,hcl,hll,hlow,h6,hs1,hs2,hok,q⟩
  have vs0:valU (vsK vs) (pk p)=none:=by rw [vs_at,hvp];rfl
  have cs0:valU (csK chs) (pk p)=none:=by rw [cs_at,hcp];rfl
  refine seq_gen fun V hV=>?_
  dsimp! only [uDPut]
  intro p1 hp1
  have hv1:v≠p1:=fun z=>by subst z;rw [hMv] at hp1;cases hp1
  have hc1:c≠p1:=fun z=>by subst z;rw [hMc] at hp1;cases hp1
  simp only [mD0,mup_ne hv1,hMv,placeU,keys_pk,Bool.false_eq_true,if_false]
  refine ⟨big (by rw [vsK,List.length_map];omega),?_⟩
  rw [putU_new vs0]
  subst hV
  refine seq_gen fun V hV=>?_
  dsimp! only [uDPut]
  intro p2 hp2
  have hp21:p2≠p1:=fun z=>by subst z;rw [mup_ne (fun e=>hv1 e.symm),mup_same] at hp2;cases hp2
  have hp2v:p2≠v:=fun z=>by subst z;rw [mup_same] at hp2;cases hp2
  rw [mup_ne hp2v,mup_ne hp21] at hp2
  have hp2c:p2≠c:=fun z=>by subst z;rw [hMc] at hp2;cases hp2
  simp only [mD0,mup_ne (fun e=>hp2c e.symm:c≠p2),mup_ne (fun e=>hvc e.symm:c≠v),mup_ne hc1,hMc,placeU,keys_pk,Bool.false_eq_true,if_false]
  refine ⟨big (by rw [csK,List.length_map];omega),?_⟩
  rw [putU_new cs0]
  have ap:Ap v c p1 p2:=⟨hvc,hv1,fun e=>hp2v e.symm,hc1,fun e=>hp2c e.symm,fun e=>hp21 e.symm⟩
  have e0:mup (mup (mup (mup M p1 (.dK [])) v (.dT (vsK vs++[(pk p,.ref p1)]))) p2 (.dK [])) c (.dT (csK chs++[(pk p,.ref p2)]))=stF M v c p1 p2 (vsK vs++[(pk p,.ref p1)]) (csK chs++[(pk p,.ref p2)]) [] []:=by
    unfold stF
    show _=mup (mup (mup (mup M v _) c _) p1 (.dK [])) p2 (.dK [])
    rw [mup_comm (a:=p2) (b:=c) (fun e=>ap.c2 e.symm),mup_comm (a:=p1) (b:=v) (fun e=>ap.v1 e.symm),mup_comm (a:=p1) (b:=c) (fun e=>ap.c1 e.symm)]
  rw [e0]
  have q2:=fun m ch=>q p1 p2 m ch hp1 hp2 ap.p12
  generalize hKV:vsK vs++[(pk p,U.ref p1)]=KV at *
  generalize hKC:csK chs++[(pk p,U.ref p2)]=KC at *
  have hKVp:valU KV (pk p)=some (.ref p1):=by
    rw [← hKV,valU_app,vs0];exact valU_pos (p:=(pk p,U.ref p1)) rfl
  have hKCp:valU KC (pk p)=some (.ref p2):=by
    rw [← hKC,valU_app,cs0];exact valU_pos (p:=(pk p,U.ref p2)) rfl
  have vals:∀ (m:VM) (ch:CM) (s:List Nat × Str),(s.1=p∨(asc vs s.1).isSome=true)→ValAt (stF M v c p1 p2 KV KC m ch) v (cur vs p m) s:=by
    intro m ch s hs
    by_cases e:s.1=p
    · refine ⟨KV,.ref p1,valK m,stF_v ap,by rw [e];exact hKVp,stF_1 ap,?_⟩
      unfold cur;rw [if_pos e];exact val_at m s.2
    · have h2:=hs.resolve_left e
      obtain ⟨m2,hm2⟩:=Option.isSome_iff_exists.mp h2
      refine ⟨KV,valD m2,valK m2,stF_v ap,?_,dv_val m2,?_⟩
      · rw [← hKV,valU_app,vs_at,hm2];rfl
      · unfold cur lookV;rw [if_neg e,hm2];exact val_at m2 s.2
  subst hV
  refine seq_gen fun V hV=>?_
  dsimp! only [uAsg,hName]
  subst hV
  refine while_by (fun τ Mi=>∃ (m:VM) (ch:CM) (low:Bool) (z6 z7 z8 z9 z10:Option U),τ=[some (.lst (ls.map Ld.toU)),some (placeU p),some (.ref v),some (.ref c),some (.ref fj),some (.bl low),z6,z7,z8,z9,z10]∧Mi=stF M v c p1 p2 KV KC m ch∧J cs vs p sz ls m ch∧(low=false→Fix vs p ls m)) (mea (6000 * sz + 1) cs p1)
    ⟨[],[],true,none,none,none,none,none,rfl,rfl,J.nil,fun h=>by cases h⟩ ?_
  rintro τ Mi ⟨m,ch,low,z6,z7,z8,z9,z10,rfl,rfl,j,hfix⟩
  have hmea:∀ (m':VM) (ch':CM) (b:Bool) (y6 y7 y8 y9 y10:Option U),mea (6000 * sz + 1) cs p1 [some (.lst (ls.map Ld.toU)),some (placeU p),some (.ref v),some (.ref c),some (.ref fj),some (.bl b),y6,y7,y8,y9,y10] (stF M v c p1 p2 KV KC m' ch')=2 * mu (6000 * sz + 1) cs m' + (if b then 1 else 0):=by
    intro m' ch' b y6 y7 y8 y9 y10
    unfold mea
    rw [stF_1 ap]
    simp only [decV_val]
    cases b <;> rfl
  dsimp! only [true_and]
  cases low with
  | false =>
    simp only [Bool.false_eq_true,if_false]
    exact rt_same (q2 m ch (j.fill h6 (hfix rfl)))
  | true =>
    simp only [if_true]
    refine seq_gen fun V hV=>?_
    dsimp! only [uAsg,hName]
    subst hV
    refine for_by (S:=⟨none,ls.map Ld.toU⟩) (M1:=stF M v c p1 p2 KV KC m ch) (fun R r=>by dsimp! only [true_and];exact r)
      (fun i τ Mi=>∃ (m':VM) (ch':CM) (low:Bool) (z6 z7 z8 z9 z10:Option U),τ=[some (.lst (ls.map Ld.toU)),some (placeU p),some (.ref v),some (.ref c),some (.ref fj),some (.bl low),z6,z7,z8,z9,z10]∧Mi=stF M v c p1 p2 KV KC m' ch'∧J cs vs p sz ls m' ch'∧(low=false→m'=m∧∀ (k:Nat) (l:Ld),k < i→ls[k]?=some l→∀ w,sumO (cur vs p m') l.spots=some w→∃ v,asc m' l.cls=some v∧v≤l.price + w)∧(low=true→mu (6000 * sz + 1) cs m' < mu (6000 * sz + 1) cs m))
      ⟨m,ch,false,z6,z7,z8,z9,z10,rfl,rfl,j,(fun _=>⟨rfl,fun k l h=>by omega⟩),fun h=>by cases h⟩ (fun i τ M' _ a e=>by cases e) ?_ ?_
    · rintro i x τ Mi e ⟨m',ch',low,y6,y7,y8,y9,y10,rfl,rfl,j',hf,ht⟩
      have e':(ls.map Ld.toU)[i]?=some x:=e
      rw [List.getElem?_map] at e'
      cases hj:ls[i]? with
      | none=>rw [hj] at e';cases e'
      | some l =>
        rw [hj] at e'
        cases e'
        have hl:=List.mem_of_getElem? hj
        have ok:=hok l hl
        have h0:=j'.cur0 hlow
        have hb:∀ s a,cur vs p m' s=some a→0≤a∧a≤100000000:=fun s a h=>by
          have h2:=h
          unfold cur at h2
          split at h2
          · have h3:=j'.just _ _ h2
            have h4:=j'.len6 h6
            exact ⟨h3.1,by have:=h3.2.1;omega⟩
          · exact hlow _ _ h2
        generalize hPP:(fun (τ:SU) (Mi:MHp)=>∃ (m':VM) (ch':CM) (low:Bool) (z6 z7 z8 z9 z10:Option U),τ=[some (.lst (ls.map Ld.toU)),some (placeU p),some (.ref v),some (.ref c),some (.ref fj),some (.bl low),z6,z7,z8,z9,z10]∧Mi=stF M v c p1 p2 KV KC m' ch'∧J cs vs p sz ls m' ch'∧(low=false→m'=m∧∀ (k:Nat) (l:Ld),k < i + 1→ls[k]?=some l→∀ w,sumO (cur vs p m') l.spots=some w→∃ v,asc m' l.cls=some v∧v≤l.price + w)∧(low=true→mu (6000 * sz + 1) cs m' < mu (6000 * sz + 1) cs m))=PP
        have stay:∀ z:Option U,(∀ w,sumO (cur vs p m') l.spots=some w→∃ v,asc m' l.cls=some v∧v≤l.price + w)→PP [some (.lst (ls.map Ld.toU)),some (placeU p),some (.ref v),some (.ref c),some (.ref fj),some (.bl low),some (.int l.n),some (.str l.cls),some (.int l.price),some (.lst (l.spots.map entH)),z] (stF M v c p1 p2 KV KC m' ch'):=by
          intro z hz
          rw [← hPP]
          refine ⟨m',ch',low,_,_,_,_,_,rfl,rfl,j',fun h=>⟨(hf h).1,fun k l' hk hk2=>?_⟩,ht⟩
          by_cases hki:k=i
          · subst hki;rw [hj] at hk2;cases hk2;exact hz
          · exact (hf h).2 k l' (by omega) hk2
        refine ⟨rfl,?_⟩
        dsimp! only [hTup,hCons,hNil,hName]
        refine seq_gen fun V1 hV1=>?_
        dsimp! only [uAsg,hName]
        refine ⟨l.price,l.spots,v,cur vs p m',rfl,ok.len,fun s hs=>vals m' ch' s (ok.there s hs),fun s _ a ha=>hb s a ha,?_⟩
        subst hV1
        refine if_gen fun A B hA hB=>?_
        cases hw:sumO (cur vs p m') l.spots with
        | none =>
          dsimp! only [ansU]
          subst hB
          simp only [uNext]
          exact stay _ fun w h=>by rw [hw] at h;cases h
        | some ww =>
          have lk1:dLook true (stF M v c p1 p2 KV KC m' ch') (.ref v) (placeU p)=some (some (.ref p1)):=by rw [look_T p (stF_v ap),hKVp]
          have lk2:dLook false (stF M v c p1 p2 KV KC m' ch') (.ref p1) (.str l.cls)=some ((asc m' l.cls).map U.int):=by have hd:dvw (stF M v c p1 p2 KV KC m' ch') (.ref p1)=some (.dK (valK m')):=stF_1 ap;rw [look_K l.cls hd,val_at]
          have yes:(∀ v,asc m' l.cls=some v→l.price + ww < v)→A (stF M v c p1 p2 KV KC m' ch'):=by
            intro hlt
            have j2:=j'.step hlow hl ok hw hlt
            have jl:=j'.low hlow hl ok h6 hs1 hw hlt
            have jl6:=j'.len6 h6
            have jc6:ch'.length=m'.length:=by have:=congrArg List.length j'.keys;simpa using this.symm
            subst hA
            refine seq_gen fun V2 hV2=>?_
            dsimp! only [uDPut,hw,ansU,lk1,keyU,stF_1 ap]
            refine ⟨big (by rw [valK,List.length_map];omega),?_⟩
            rw [val_put,stF_set1 ap]
            subst hV2
            refine seq_gen fun V2 hV2=>?_
            have lk3:dLook true (stF M v c p1 p2 KV KC (putA m' l.cls (l.price + ww)) ch') (.ref c) (placeU p)=some (some (.ref p2)):=by rw [look_T p (stF_c ap),hKCp]
            dsimp! only [uDPut,lk3,keyU,stF_2]
            refine ⟨big (by rw [choK,List.length_map];omega),?_⟩
            have ec:U.tup [U.int l.n,U.lst (l.spots.map entH)]=chU l:=rfl
            rw [ec,cho_put,stF_set2]
            subst hV2
            dsimp! only [uAsg,hName]
            rw [← hPP]
            refine ⟨_,_,true,_,_,_,_,_,rfl,rfl,j2,(fun h=>by cases h),fun _=>?_⟩
            cases low with
            | true=>have:=ht rfl;omega
            | false=>have:=(hf rfl).1;subst this;exact jl
          dsimp! only [ansU,lk1,lk2]
          cases hm':asc m' l.cls with
          | none =>
            dsimp! only [Option.map_none,Option.isSome_none]
            exact yes fun v h=>by rw [hm'] at h;cases h
          | some old =>
            dsimp! only [Option.map_some,Option.isSome_some,lk1,lk2,hm']
            refine ite2 (fun hlt=>?_) (fun hge=>?_)
            · exact yes fun v h=>by rw [hm'] at h;cases h;simpa using hlt
            · subst hB
              simp only [uNext]
              refine stay _ fun w h=>?_
              rw [hw] at h;cases h
              have:¬ l.price + ww < old:=by simpa using hge
              exact ⟨old,hm',by omega⟩
    · rintro τ Mi ⟨m',ch',low,y6,y7,y8,y9,y10,rfl,rfl,j',hf,ht⟩
      have hlen:(Src.mk none (ls.map Ld.toU)).xs.length=ls.length:=by show (ls.map Ld.toU).length=_;rw [List.length_map]
      rw [hlen] at hf
      refine ⟨⟨m',ch',low,_,_,_,_,_,rfl,rfl,j',fun h l hl w hw=>?_⟩,?_⟩
      · obtain ⟨k,hk⟩:=List.getElem?_of_mem hl
        exact (hf h).2 k l (List.getElem?_eq_some_iff.mp hk).1 hk w hw
      · rw [hmea,hmea]
        cases low with
        | true=>have:=ht rfl;simp only [if_true];omega
        | false=>have:=(hf rfl).1;subst this;simp only [if_true,Bool.false_eq_true,if_false];omega
def Tr.at:Tr→List Nat→Option Tr
  | t,[]=>some t
  | .turn a,0 :: r=>a.at r
  | .two _ a _,0 :: r=>a.at r
  | .two _ _ b,1 :: r=>b.at r
  | _,_=>none
theorem at_nil (t:Tr):t.at []=some t:=by cases t <;> rfl
theorem at_place:∀ (t:Tr) (p:List Nat),p∈t.places→∃ t',t.at p=some t'
  | .turn a,p,h=>by
    simp only [Tr.places,List.mem_cons,List.mem_map] at h
    rcases h with rfl | ⟨q,hq,rfl⟩
    · exact ⟨_,rfl⟩
    · exact at_place a q hq
  | .two o a b,p,h=>by
    simp only [Tr.places,List.mem_cons,List.mem_append,List.mem_map] at h
    rcases h with rfl | ⟨q,hq,rfl⟩ | ⟨q,hq,rfl⟩
    · exact ⟨_,rfl⟩
    · exact at_place a q hq
    · exact at_place b q hq
  | .num _,p,h=>by simp [Tr.places] at h;subst h;exact ⟨_,rfl⟩
  | .name _,p,h=>by simp [Tr.places] at h;subst h;exact ⟨_,rfl⟩
theorem place_at:∀ (t:Tr) (p:List Nat) (t':Tr),t.at p=some t'→p∈t.places
  | .turn a,[],_,_=>by simp [Tr.places]
  | .two _ a b,[],_,_=>by simp [Tr.places]
  | .num _,[],_,_=>by simp [Tr.places]
  | .name _,[],_,_=>by simp [Tr.places]
  | .turn a,0 :: r,t',h=>by
    have:=place_at a r t' h
    simp only [Tr.places,List.mem_cons,List.mem_map]
    exact .inr ⟨r,this,rfl⟩
  | .two _ a b,0 :: r,t',h=>by
    have:=place_at a r t' h
    simp only [Tr.places,List.mem_cons,List.mem_append,List.mem_map]
    exact .inr (.inl ⟨r,this,rfl⟩)
  | .two _ a b,1 :: r,t',h=>by
    have:=place_at b r t' h
    simp only [Tr.places,List.mem_cons,List.mem_append,List.mem_map]
    exact .inr (.inr ⟨r,this,rfl⟩)
  | .turn _,(n + 1) :: r,_,h=>by simp [Tr.at] at h
  | .two _ _ _,(n + 2) :: r,_,h=>by simp [Tr.at] at h
  | .num _,n :: r,_,h=>by simp [Tr.at] at h
  | .name _,n :: r,_,h=>by simp [Tr.at] at h
theorem atU_at:∀ (t:Tr) (p:List Nat) (t':Tr),t.at p=some t'→atU t.toU p=some t'.toU
  | t,[],t',h=>by rw [at_nil] at h;cases h;rfl
  | .turn a,0 :: r,t',h=>by simp only [atU,Tr.toU,st_turn,Option.bind_some];exact atU_at a r t' h
  | .two _ a b,0 :: r,t',h=>by simp only [atU,Tr.toU,st_two0,Option.bind_some];exact atU_at a r t' h
  | .two _ a b,1 :: r,t',h=>by simp only [atU,Tr.toU,st_two1,Option.bind_some];exact atU_at b r t' h
  | .turn _,(n + 1) :: r,_,h=>by simp [Tr.at] at h
  | .two _ _ _,(n + 2) :: r,_,h=>by simp [Tr.at] at h
  | .num _,n :: r,_,h=>by simp [Tr.at] at h
  | .name _,n :: r,_,h=>by simp [Tr.at] at h
theorem at_app:∀ (t:Tr) (p e:List Nat) (t':Tr),t.at p=some t'→t.at (p++e)=t'.at e
  | t,[],e,t',h=>by rw [at_nil] at h;cases h;rfl
  | .turn a,0 :: r,e,t',h=>at_app a r e t' h
  | .two _ a b,0 :: r,e,t',h=>at_app a r e t' h
  | .two _ a b,1 :: r,e,t',h=>at_app b r e t' h
  | .turn _,(n + 1) :: r,_,_,h=>by simp [Tr.at] at h
  | .two _ _ _,(n + 2) :: r,_,_,h=>by simp [Tr.at] at h
  | .num _,n :: r,_,_,h=>by simp [Tr.at] at h
  | .name _,n :: r,_,_,h=>by simp [Tr.at] at h
theorem at_size:∀ (t:Tr) (p:List Nat) (t':Tr),t.at p=some t'→t'.size≤t.size
  | t,[],t',h=>by rw [at_nil] at h;cases h;omega
  | .turn a,0 :: r,t',h=>by have:=at_size a r t' h;simp only [Tr.size];omega
  | .two _ a b,0 :: r,t',h=>by have:=at_size a r t' h;simp only [Tr.size];omega
  | .two _ a b,1 :: r,t',h=>by have:=at_size b r t' h;simp only [Tr.size];omega
  | .turn _,(n + 1) :: r,_,h=>by simp [Tr.at] at h
  | .two _ _ _,(n + 2) :: r,_,h=>by simp [Tr.at] at h
  | .num _,n :: r,_,h=>by simp [Tr.at] at h
  | .name _,n :: r,_,h=>by simp [Tr.at] at h
theorem places_pre:∀ t:Tr,t.places.Pairwise fun x y=>¬ y <+: x
  | .turn a=>by
    simp only [Tr.places]
    refine List.pairwise_cons.mpr ⟨fun y hy=>?_,?_⟩
    · obtain ⟨q,_,rfl⟩:=List.mem_map.mp hy;simp
    · rw [List.pairwise_map]
      refine (places_pre a).imp fun {x y} h h2=>h ?_
      simpa using h2
  | .two o a b=>by
    simp only [Tr.places]
    refine List.pairwise_cons.mpr ⟨fun y hy=>?_,?_⟩
    · rcases List.mem_append.mp hy with hy | hy
      · obtain ⟨q,_,rfl⟩:=List.mem_map.mp hy;simp
      · obtain ⟨q,_,rfl⟩:=List.mem_map.mp hy;simp
    · refine List.pairwise_append.mpr ⟨?_,?_,fun x hx y hy=>?_⟩
      · rw [List.pairwise_map]
        refine (places_pre a).imp fun {x y} h h2=>h ?_
        simpa using h2
      · rw [List.pairwise_map]
        refine (places_pre b).imp fun {x y} h h2=>h ?_
        simpa using h2
      · obtain ⟨q,_,rfl⟩:=List.mem_map.mp hx
        obtain ⟨q',_,rfl⟩:=List.mem_map.mp hy
        simp
  | .num _=>by simp [Tr.places]
  | .name _=>by simp [Tr.places]
def bulkP:Pt→Nat
  | .hole _=>0
  | .any=>1
  | .fr _ _=>1
  | .turn a=>1 + bulkP a
  | .two _ a b=>1 + (bulkP a + bulkP b)
theorem holes_at:∀ (pt:Pt) (t:Tr) (pre:List Nat),lieF pt t=true→∃ bs:List Nat,bs.length=((subsP pt pre).filterMap hF).length∧bs.sum + bulkP pt=t.size∧∀ (i:Nat) (e:List Nat × Str) (b:Nat),((subsP pt pre).filterMap hF)[i]?=some e→bs[i]?=some b→∃ s t',e.1=pre++s∧t.at s=some t'∧t'.size=b∧(s=[]→∃ c,pt=.hole c)∧(holesT pt t)[i]?=some (t',e.2)
  | .hole c,t,pre,_=>⟨[t.size],rfl,by simp [bulkP],fun i e b h1 h2=>by
      match i,h1,h2 with
      | 0,h1,h2=>cases h1;cases h2;exact ⟨[],t,by simp,at_nil t,rfl,fun _=>⟨c,rfl⟩,by cases t <;> rfl⟩
      | i + 1,h1,h2=>cases h1⟩
  | .any,.name x,pre,_=>⟨[],rfl,rfl,fun i e b h1 h2=>by cases h1⟩
  | .fr l h,.num n,pre,_=>⟨[],rfl,rfl,fun i e b h1 h2=>by cases h1⟩
  | .turn p,.turn a,pre,hl=>by
    obtain ⟨bs,h1,h2,h3⟩:=holes_at p a (pre++[0]) hl
    refine ⟨bs,by simp only [subsP,List.filterMap_cons,hF];exact h1,by simp only [bulkP,Tr.size];omega,fun i e b he hb=>?_⟩
    simp only [subsP,List.filterMap_cons,hF] at he
    obtain ⟨s,t',e1,e2,e3,_,e5⟩:=h3 i e b he hb
    exact ⟨0 :: s,t',by rw [e1];simp,e2,e3,(fun z=>by cases z),e5⟩
  | .two o p q,.two o' a b,pre,hl=>by
    simp only [lieF,Bool.and_eq_true] at hl
    obtain ⟨ho,hl1,hl2⟩:=hl
    obtain ⟨bs,h1,h2,h3⟩:=holes_at p a (pre++[0]) hl1
    obtain ⟨cs,k1,k2,k3⟩:=holes_at q b (pre++[1]) hl2
    refine ⟨bs++cs,by simp only [subsP,List.filterMap_cons,hF,List.filterMap_append,List.length_append,h1,k1],by simp only [List.sum_append,bulkP,Tr.size];omega,fun i e bb he hb=>?_⟩
    simp only [subsP,List.filterMap_cons,hF,List.filterMap_append] at he
    rw [List.getElem?_append] at he hb
    split at he
    · rename_i hi
      rw [if_pos (by omega)] at hb
      obtain ⟨s,t',e1,e2,e3,_,e5⟩:=h3 i e bb he hb
      have hl1':=(hole_at p a (pre++[0]) hl1).1
      exact ⟨0 :: s,t',by rw [e1];simp,e2,e3,(fun z=>by cases z),by simp only [holesT];rw [List.getElem?_append_left (by omega)];exact e5⟩
    · rename_i hi
      rw [if_neg (by omega),h1] at hb
      obtain ⟨s,t',e1,e2,e3,_,e5⟩:=k3 _ e bb he hb
      have hl1':=(hole_at p a (pre++[0]) hl1).1
      exact ⟨1 :: s,t',by rw [e1];simp,e2,e3,(fun z=>by cases z),by simp only [holesT];rw [List.getElem?_append_right (by omega),← hl1'];exact e5⟩
  | .any,.num _,_,h=>by cases h
  | .any,.turn _,_,h=>by cases h
  | .any,.two _ _ _,_,h=>by cases h
  | .fr _ _,.name _,_,h=>by cases h
  | .fr _ _,.turn _,_,h=>by cases h
  | .fr _ _,.two _ _ _,_,h=>by cases h
  | .turn _,.num _,_,h=>by cases h
  | .turn _,.name _,_,h=>by cases h
  | .turn _,.two _ _ _,_,h=>by cases h
  | .two _ _ _,.num _,_,h=>by cases h
  | .two _ _ _,.name _,_,h=>by cases h
  | .two _ _ _,.turn _,_,h=>by cases h
theorem sumO_le {σ:Type} {g:σ→Option Int}:∀ {l:List σ} {bs:List Nat} {w:Int},bs.length=l.length→(∀ (i:Nat) s b,l[i]?=some s→bs[i]?=some b→∀ a,g s=some a→a≤6000 * (b:Int))→sumO g l=some w→w≤6000 * (bs.sum:Int)
  | [],[],w,_,_,h=>by cases h;simp
  | [],_ :: _,_,h,_,_=>by cases h
  | _ :: _,[],_,h,_,_=>by cases h
  | s :: l,b :: bs,w,hl,hb,h=>by
    obtain ⟨a,c,h1,h2,rfl⟩:=sumO_cons h
    have k1:=hb 0 s b rfl rfl a h1
    have k2:=sumO_le (l:=l) (bs:=bs) (by simpa using hl) (fun i s b h1 h2=>hb (i + 1) s b h1 h2) h2
    rw [List.sum_cons]
    push_cast
    omega
inductive Bd (t:Tr) (tls:List Tl) (cs:List Str):List (List Nat)→VS→CS→Prop
  | nil:Bd t tls cs [] [] []
  | snoc {ps:List (List Nat)} {vs:VS} {chs:CS} {p:List Nat} {t':Tr} {m:VM} {ch:CM} (b:Bd t tls cs ps vs chs) (hp:p ∉ ps) (ht:t.at p=some t') (hf:Fill cs vs p t'.size (laidF t' p 0 tls) m ch):Bd t tls cs (ps++[p]) (vs++[(p,m)]) (chs++[(p,ch)])
section
variable {t:Tr} {tls:List Tl} {cs:List Str} {ps:List (List Nat)} {vs:VS} {chs:CS}
theorem Bd.keysV (b:Bd t tls cs ps vs chs):vs.map (·.1)=ps:=by
  induction b with
  | nil=>rfl
  | snoc b hp ht hf ih=>rw [List.map_append,ih];rfl
theorem Bd.keysC (b:Bd t tls cs ps vs chs):chs.map (·.1)=ps:=by
  induction b with
  | nil=>rfl
  | snoc b hp ht hf ih=>rw [List.map_append,ih];rfl
theorem Bd.lenV (b:Bd t tls cs ps vs chs):vs.length=ps.length:=by rw [← b.keysV,List.length_map]
theorem Bd.lenC (b:Bd t tls cs ps vs chs):chs.length=ps.length:=by rw [← b.keysC,List.length_map]
theorem Bd.noV (b:Bd t tls cs ps vs chs) {p:List Nat} (h:p ∉ ps):asc vs p=none:=by rw [asc_none,b.keysV];exact h
theorem Bd.noC (b:Bd t tls cs ps vs chs) {p:List Nat} (h:p ∉ ps):asc chs p=none:=by rw [asc_none,b.keysC];exact h
theorem Bd.val (b:Bd t tls cs ps vs chs):∀ s v,lookV vs s=some v→∃ t',t.at s.1=some t'∧0≤v∧v≤6000 * t'.size:=by
  induction b with
  | nil=>intro s v h;cases h
  | @snoc ps vs chs p t' m ch b hp ht hf ih =>
    intro s v h
    rw [← cur_app (b.noV hp)] at h
    unfold cur at h
    split at h
    · rename_i e
      obtain ⟨h1,h2,_⟩:=hf.just _ _ h
      exact ⟨t',by rw [e];exact ht,h1,h2⟩
    · exact ih s v h
theorem Bd.low (b:Bd t tls cs ps vs chs) (hs:t.size≤1000):Low vs:=fun s v h=>by
  obtain ⟨t',h1,h2,h3⟩:=b.val s v h
  have:=at_size t s.1 t' h1
  exact ⟨h2,by omega⟩
theorem laid_mem {t:Tr} {p:List Nat}:∀ {tls:List Tl} {k:Nat} {l:Ld},l∈laidF t p k tls→∃ (i:Nat) (tl:Tl),tls[i]?=some tl∧lieF tl.pt t=true∧l=⟨k + i,tl.cls,tl.cost,(hls tl.pt).map fun e=>(p++e.1,e.2)⟩
  | [],k,l,h=>by cases h
  | a :: r,k,l,h=>by
    simp only [laidF,List.mem_append] at h
    rcases h with h | h
    · split at h
      · rename_i hl
        cases List.mem_singleton.mp h
        exact ⟨0,a,rfl,hl,rfl⟩
      · cases h
    · obtain ⟨i,tl,h1,h2,h3⟩:=laid_mem h
      exact ⟨i + 1,tl,h1,h2,by rw [h3,show k + 1 + i=k + (i + 1) by omega]⟩
theorem Bd.ld {A B:List (List Nat)} {p:List Nat} {t':Tr} (hT:Tab cs tls) (hpl:t.places=A++p :: B) (ht:t.at p=some t') (b:Bd t tls cs B.reverse vs chs):∀ l∈laidF t' p 0 tls,LdOk cs vs p t'.size l:=by
  intro l hl
  obtain ⟨i,tl,h1,h2,rfl⟩:=laid_mem hl
  have hg:=hT.good tl (List.mem_of_getElem? h1)
  have hg1:tl.pt.ok:=hg.1
  have hg2:tl.pt.dep≤4:=hg.2.1
  have hg3:tl.cls∈cs:=hg.2.2.1
  have hg4:0≤tl.cost:=hg.2.2.2.1
  have hg5:tl.cost≤1000:=hg.2.2.2.2
  obtain ⟨bs,g1,g2,g3⟩:=holes_at tl.pt t' [] h2
  have hh:=hls_len tl.pt (by omega)
  have hpre:=places_pre t
  rw [hpl] at hpre
  have below:∀ (s:List Nat) (t2:Tr),t'.at s=some t2→s≠[]→(p++s)∈B.reverse:=fun s t2 hs hne=>by
    have hin:p++s∈t.places:=place_at t _ t2 (by rw [at_app t p s t' ht];exact hs)
    rw [hpl] at hin
    rcases List.mem_append.mp hin with hin | hin
    · have:=(List.pairwise_append.mp hpre).2.2 _ hin p List.mem_cons_self
      exact absurd (List.prefix_append p s) this
    · rcases List.mem_cons.mp hin with hin | hin
      · exact absurd (List.append_right_eq_self.mp hin) hne
      · exact List.mem_reverse.mpr hin
  have each:∀ (j:Nat) (e:List Nat × Str),(hls tl.pt)[j]?=some e→∃ s t2 bb,bs[j]?=some bb∧e.1=s∧t'.at s=some t2∧t2.size=bb∧(s=[]→∃ c,tl.pt=.hole c):=fun j e he=>by
    have hj:=(List.getElem?_eq_some_iff.mp he).1
    have hb:bs[j]?=some (bs[j]'(by rw [g1];exact hj)):=List.getElem?_eq_getElem _
    obtain ⟨s,t2,e1,e2,e3,e4,_⟩:=g3 j e _ he hb
    exact ⟨s,t2,_,hb,by simpa using e1,e2,e3,e4⟩
  refine ⟨hg4,hg5,hg3,by rw [List.length_map];exact hh,fun s hs=>?_,?_⟩
  · obtain ⟨e,he,rfl⟩:=List.mem_map.mp hs
    obtain ⟨j,hj⟩:=List.getElem?_of_mem he
    obtain ⟨s,t2,bb,_,e1,e2,_⟩:=each j e hj
    rw [e1]
    by_cases hn:s=[]
    · left;rw [hn];simp
    · right
      rw [asc_key,b.keysV]
      exact below s t2 e2 hn
  · cases hpt:tl.pt with
    | hole c=>left;exact ⟨c,by simp [hls,subsP,hF]⟩
    | _ =>
      right
      have hnh:∀ c,tl.pt≠.hole c:=fun c z=>by rw [hpt] at z;cases z
      have hbk:1≤bulkP tl.pt:=by rw [hpt];simp [bulkP]
      rw [← hpt]
      refine ⟨fun s hs=>?_,fun w hw=>?_⟩
      · obtain ⟨e,he,rfl⟩:=List.mem_map.mp hs
        obtain ⟨j,hj⟩:=List.getElem?_of_mem he
        obtain ⟨s,t2,bb,_,e1,e2,_,e4⟩:=each j e hj
        intro z
        have z':p++e.1=p:=z
        rw [List.append_right_eq_self,e1] at z'
        obtain ⟨c,hc⟩:=e4 z'
        exact hnh c hc
      · have:=sumO_le (bs:=bs) (by rw [g1,List.length_map];rfl) (fun i s bb hs hb a ha=>?_) hw
        · omega
        · rw [List.getElem?_map] at hs
          cases hj:(hls tl.pt)[i]? with
          | none=>rw [hj] at hs;cases hs
          | some e =>
            rw [hj] at hs
            cases hs
            obtain ⟨s,t2,bb',hb',e1,e2,e3,_⟩:=each i e hj
            rw [hb] at hb';cases hb'
            obtain ⟨t3,k1,k2,k3⟩:=b.val _ _ ha
            dsimp only at k1
            rw [e1,at_app t p s t' ht,e2] at k1
            cases k1
            rw [← e3];exact k3
end
section
variable {κ γ:Type} {H:Hp} {M1 M':MHp}
theorem kv_last (st:Stp H M1 H M') {k:κ} {u u':U} (hu:∀ x,RelU K H M1 u x→RelU K H M' u' x):∀ {xs:List (κ × U)} {ws:List (κ × V)},RelKv K H M1 (xs++[(k,u)]) ws→RelKv K H M' (xs++[(k,u')]) ws
  | [],ws,r=>by
    cases r with
    | cons h t=>cases t;exact .cons ⟨h.1,hu _ h.2⟩ .nil
  | x :: xs,ws,r=>by
    cases r with
    | cons h t=>exact .cons ⟨h.1,h.2.stp st⟩ (kv_last st hu t)
theorem kv_split {α:Type} (k:α→κ) (g:γ→U) {M:MHp}:∀ {l:List (α × γ)} {ws:List (κ × V)},RelKv K H M (l.map fun e=>(k e.1,g e.2)) ws→l.map (fun e=>k e.1)=ws.map (·.1)∧RelUs K H M (l.map fun e=>g e.2) (ws.map (·.2))
  | [],ws,r=>by cases r;exact ⟨rfl,.nil⟩
  | e :: l,ws,r=>by
    rw [List.map_cons] at r
    cases r with
    | cons h t =>
      obtain ⟨h1,h2⟩:=kv_split k g t
      refine ⟨?_,.cons h.2 h2⟩
      rw [List.map_cons,List.map_cons,h1]
      exact congrArg (· :: _) h.1
end
theorem dicK_rel {H:Hp} {M1 M':MHp} {γ:Type} (g:γ→U) {l:List (Str × γ)} {a:Addr} (rm:RelM K H M1) (h:M1 a=some (.dK (l.map fun e=>(Sum.inr e.1,g e.2)))) (hn:M' a=none) (st:Stp H M1 H M'):RelU K H M' (.dic (l.map fun e=>[Sum.inr e.1]) false (l.map fun e=>g e.2)) (.ref a):=by
  obtain ⟨ws,h1,r⟩:=rm a _ h
  obtain ⟨h2,h3⟩:=kv_split (fun c:Str=>(Sum.inr c:Key)) g r
  simp only [RelU]
  refine ⟨a,ws.map (·.2),rfl,hn,⟨ws,h1,?_,rfl⟩,h3.stp st⟩
  have:=congrArg (List.map fun k:Key=>[k]) h2
  rw [List.map_map,List.map_map] at this
  exact this
theorem dicT_rel {H:Hp} {M1 M':MHp} {γ:Type} (g:γ→U) {l:List (List Nat × γ)} {a:Addr} (rm:RelM K H M1) (h:M1 a=some (.dT (l.map fun e=>(pk e.1,g e.2)))) (hn:M' a=none) (st:Stp H M1 H M'):RelU K H M' (.dic (l.map fun e=>pk e.1) true (l.map fun e=>g e.2)) (.ref a):=by
  obtain ⟨ws,h1,r⟩:=rm a _ h
  obtain ⟨h2,h3⟩:=kv_split pk g r
  simp only [RelU]
  exact ⟨a,ws.map (·.2),rfl,hn,⟨ws,h1,h2,rfl⟩,h3.stp st⟩
def spFill (fj:Addr):USp:=fun us M Q=>∃ (ls:List Ld) (p:List Nat) (v c:Addr) (vs:VS) (chs:CS) (cs:List Str) (sz:Nat),us=[.lst (ls.map Ld.toU),placeU p,.ref v,.ref c,.ref fj]∧v≠c∧M v=some (.dT (vsK vs))∧M c=some (.dT (csK chs))∧asc vs p=none∧asc chs p=none∧vs.length≤1000∧chs.length≤1000∧ls.length≤1000∧Low vs∧cs.length≤6∧1≤sz∧sz≤1000∧(∀ l∈ls,LdOk cs vs p sz l) ∧
  ∀ (m:VM) (ch:CM),Fill cs vs p sz ls m ch→Q .non (mup (mup M v (.dT (vsK (vs++[(p,m)])))) c (.dT (csK (chs++[(p,ch)]))))
theorem ok_fill {fj:Addr} (C:Callee P w K mg base 3 "fill_least" (spFill0 fj) []):Callee P w K mg base 3 "fill_least" (spFill fj) []:=by
  refine K35.Callee.conv C fun us M Q h=>?_
  obtain ⟨ls,p,v,c,vs,chs,cs,sz,rfl,hvc,hMv,hMc,h1,h2,h3,h4,h5,h6,h7,h8,h9,h10,q⟩:=h
  refine ⟨ls,p,v,c,vs,chs,cs,sz,rfl,hvc,hMv,hMc,h1,h2,h3,h4,h5,h6,h7,h8,h9,h10,fun p1 p2 m ch hp1 hp2 hp12 hf=>?_⟩
  have hv1:v≠p1:=fun z=>by subst z;rw [hMv] at hp1;cases hp1
  have hc1:c≠p1:=fun z=>by subst z;rw [hMc] at hp1;cases hp1
  have hv2:v≠p2:=fun z=>by subst z;rw [hMv] at hp2;cases hp2
  have hc2:c≠p2:=fun z=>by subst z;rw [hMc] at hp2;cases hp2
  have ap:Ap v c p1 p2:=⟨hvc,hv1,hv2,hc1,hc2,hp12⟩
  refine ⟨.non,_,fun K H x rm ru=>?_,q m ch hf⟩
  generalize hM1:stF M v c p1 p2 (vsK vs++[(pk p,.ref p1)]) (csK chs++[(pk p,.ref p2)]) m ch=M1 at *
  generalize hM':mup (mup M v (.dT (vsK (vs++[(p,m)])))) c (.dT (csK (chs++[(p,ch)])))=M' at *
  have a1:M1 p1=some (.dK (valK m)):=by rw [← hM1];exact stF_1 ap
  have a2:M1 p2=some (.dK (choK ch)):=by rw [← hM1];exact stF_2
  have av:M1 v=some (.dT (vsK vs++[(pk p,.ref p1)])):=by rw [← hM1];exact stF_v ap
  have ac:M1 c=some (.dT (csK chs++[(pk p,.ref p2)])):=by rw [← hM1];exact stF_c ap
  have n1:M' p1=none:=by rw [← hM',mup_ne (fun e=>hc1 e.symm),mup_ne (fun e=>hv1 e.symm)];exact hp1
  have n2:M' p2=none:=by rw [← hM',mup_ne (fun e=>hc2 e.symm),mup_ne (fun e=>hv2 e.symm)];exact hp2
  have oth:∀ b,b≠v→b≠c→b≠p1→b≠p2→M1 b=M b∧M' b=M b:=fun b b1 b2 b3 b4=>by
    rw [← hM1,← hM'];unfold stF
    rw [mup_ne b4,mup_ne b3,mup_ne b2,mup_ne b1,mup_ne b2,mup_ne b1];exact ⟨rfl,rfl⟩
  have st:Stp H M1 H M':=Stp.less fun b hb=>by
    have b1:b≠v:=fun z=>by subst z;rw [av] at hb;cases hb
    have b2:b≠c:=fun z=>by subst z;rw [ac] at hb;cases hb
    have b3:b≠p1:=fun z=>by subst z;rw [a1] at hb;cases hb
    have b4:b≠p2:=fun z=>by subst z;rw [a2] at hb;cases hb
    obtain ⟨o1,o2⟩:=oth b b1 b2 b3 b4
    rw [o2,← o1];exact hb
  refine ⟨st,fun a mo e=>?_,ru.stp st⟩
  by_cases e2:a=c
  · subst e2
    rw [← hM',mup_same] at e
    cases e
    obtain ⟨ws,g1,r⟩:=rm a _ ac
    refine ⟨ws,g1,?_⟩
    have ec:csK (chs++[(p,ch)])=csK chs++[(pk p,choD ch)]:=by simp [csK]
    rw [ec]
    exact kv_last st (fun x rx=>by rw [rx.ref];exact dicK_rel chU rm a2 n2 st) r
  · by_cases e1:a=v
    · subst e1
      rw [← hM',mup_ne e2,mup_same] at e
      cases e
      obtain ⟨ws,g1,r⟩:=rm a _ av
      refine ⟨ws,g1,?_⟩
      have ec:vsK (vs++[(p,m)])=vsK vs++[(pk p,valD m)]:=by simp [vsK]
      rw [ec]
      exact kv_last st (fun x rx=>by rw [rx.ref];exact dicK_rel U.int rm a1 n1 st) r
    · have e3:a≠p1:=fun z=>by subst z;rw [n1] at e;cases e
      have e4:a≠p2:=fun z=>by subst z;rw [n2] at e;cases e
      obtain ⟨o1,o2⟩:=oth a e1 e2 e3 e4
      rw [o2,← o1] at e
      exact (rm a mo e).stp st rfl
def vsD (vs:VS):U:=.dic (vs.map fun e=>pk e.1) true (vs.map fun e=>valD e.2)
def csD (cs:CS):U:=.dic (cs.map fun e=>pk e.1) true (cs.map fun e=>choD e.2)
theorem zip_T {γ:Type} (g:γ→U):∀ m:List (List Nat × γ),(m.map fun e=>pk e.1).zip (m.map fun e=>g e.2)=m.map fun e=>(pk e.1,g e.2)
  | []=>rfl
  | e :: m=>by simp only [List.map_cons,List.zip_cons_cons];rw [zip_T g m]
theorem dv_vs {M:MHp} (m:VS):dvw M (vsD m)=some (.dT (vsK m)):=by simp only [vsD,dvw];rw [zip_T valD m];rfl
theorem dv_cs {M:MHp} (m:CS):dvw M (csD m)=some (.dT (csK m)):=by simp only [csD,dvw];rw [zip_T choD m];rfl
theorem mup_two {M:MHp} {v c:Addr} {a b a' b':MO} (h:v≠c):mup (mup (mup (mup M v a) c b) v a') c b'=mup (mup M v a') c b':=by
  funext z
  by_cases e1:z=c
  · subst e1;rw [mup_same,mup_same]
  · rw [mup_ne e1,mup_ne e1]
    by_cases e2:z=v
    · subst e2;rw [mup_same,mup_same]
    · rw [mup_ne e2,mup_ne e1,mup_ne e2,mup_ne e2]
def spLeast0 (fj:Addr):USp:=fun us M Q=>∃ (cs:List Str) (tls:List Tl) (t:Tr),us=[tabU cs tls,t.toU,.ref fj]∧Tab cs tls∧t.dep≤12∧t.size≤1000∧∀ (v c:Addr) (vs:VS) (chs:CS),M v=none→M c=none→v≠c→Bd t tls cs t.places.reverse vs chs→Q (.tup [.ref v,.ref c]) (mup (mup M v (.dT (vsK vs))) c (.dT (csK chs)))
set_option maxHeartbeats 1000000 in
theorem ok_least0 {fj:Addr} (F:Fun K "least_of_all" "least_of_all" s_least_of_all f fd) (hm:mg "least_of_all"=some (.ref f)) (m_reversed:mg "reversed"=none) (C_places:Callee P w K mg base 14 "places" (spPlacesT 12) []) (C_tiles_at:Callee P w K mg base 10 "tiles_at" spTilesAt []) (C_fill_least:Callee P w K mg base 3 "fill_least" (spFill fj) []):Callee P w K mg base 15 "least_of_all" (spLeast0 fj) []:=by
  refine callee_of F hm sc_least_of_all (fun _ _ _ _ _ _ us hl=>match us,hl with | [_,_,_],_=>rfl) (fun us M Q h=>by obtain ⟨_,_,_,rfl,_⟩:=h;rfl) (uss_cons (us_set 3 sc_least_of_all.nd (ue_dnew true))
  (uss_cons (us_set 4 sc_least_of_all.nd (ue_dnew true))
  (uss_cons (us_for (ui_reversed m_reversed (ua_cons (ue_call C_places (ua_cons (uv 1) ua_nil)) ua_nil)) (ug_name (k:=1000) 5 sc_least_of_all.nd)
  (uss_one (us_expr (ue_call C_fill_least (ua_cons (ue_call C_tiles_at (ua_cons (uv 0) (ua_cons (uv 1) (ua_cons (uv 5) ua_nil)))) (ua_cons (uv 5) (ua_cons (uv 3) (ua_cons (uv 4) (ua_cons (uv 2) ua_nil)))))))))
  (uss_one (us_ret (ue_tup (ua_cons (uv 3) (ua_cons (uv 4) ua_nil)))))))) ?_
  rintro us M Q ⟨cs,tls,t,rfl,hT,hd,hs,q⟩
  have hpl:=places_size t
  have hnd:t.places.Nodup:=(places_pre t).imp fun {x y} h z=>h (by rw [z];exact List.prefix_refl _)
  refine seq_gen fun V hV=>?_
  dsimp! only [uAsg,hName]
  intro v hv
  subst hV
  refine seq_gen fun V hV=>?_
  dsimp! only [uAsg,hName]
  intro c hc
  have hvc:v≠c:=fun z=>by subst z;rw [mup_same] at hc;cases hc
  rw [mup_ne (fun e=>hvc e.symm)] at hc
  have e0:mup (mup M v (mD0 true)) c (mD0 true)=mup (mup M v (.dT (vsK []))) c (.dT (csK [])):=rfl
  rw [e0]
  subst hV
  refine seq_gen fun V hV=>?_
  refine for_by (S:=⟨none,(t.places.map placeU).reverse⟩) (M1:=mup (mup M v (.dT (vsK []))) c (.dT (csK []))) (fun R r=>by
      dsimp! only [true_and]
      exact ⟨t,rfl,hd,hs,r⟩)
    (fun i τ Mi=>∃ (vs:VS) (chs:CS) (z5:Option U),τ=[some (tabU cs tls),some t.toU,some (.ref fj),some (.ref v),some (.ref c),z5]∧Mi=mup (mup M v (.dT (vsK vs))) c (.dT (csK chs))∧Bd t tls cs (t.places.reverse.take i) vs chs) ⟨[],[],none,rfl,rfl,.nil⟩ (fun i τ M' _ a e=>by cases e) ?_ ?_
  · rintro i x τ Mi e ⟨vs,chs,z5,rfl,rfl,b⟩
    have e':(t.places.map placeU).reverse[i]?=some x:=e
    rw [← List.map_reverse,List.getElem?_map] at e'
    cases hj:t.places.reverse[i]? with
    | none=>rw [hj] at e';cases e'
    | some p =>
      rw [hj] at e'
      cases e'
      have hi:=(List.getElem?_eq_some_iff.mp hj).1
      have hsplit:t.places.reverse=t.places.reverse.take i++p :: t.places.reverse.drop (i + 1):=by
        have:=List.getElem_cons_drop hi
        rw [(List.getElem?_eq_some_iff.mp hj).2] at this
        rw [this,List.take_append_drop]
      have hpl2:t.places=(t.places.reverse.drop (i + 1)).reverse++p :: (t.places.reverse.take i).reverse:=by
        have:=congrArg List.reverse hsplit
        rw [List.reverse_reverse,List.reverse_append,List.reverse_cons,List.append_assoc] at this
        exact this
      have hmem:p∈t.places:=List.mem_reverse.mp (List.mem_of_getElem? hj)
      obtain ⟨t',ht⟩:=at_place t p hmem
      have hnew:p ∉ t.places.reverse.take i:=by
        have h2:t.places.reverse.Nodup:=List.pairwise_reverse.mpr (hnd.imp fun {a b} h=>Ne.symm h)
        rw [hsplit] at h2
        exact fun z=>(List.nodup_append.mp h2).2.2 p z p List.mem_cons_self rfl
      have hok:=Bd.ld (vs:=vs) (chs:=chs) (B:=(t.places.reverse.take i).reverse) hT hpl2 ht (by rw [List.reverse_reverse];exact b)
      have hsz:=at_size t p t' ht
      have hll:=laid_len t' p tls 0
      have htl:=hT.len
      have hlv:=b.lenV
      have hlc:=b.lenC
      rw [List.length_take,List.length_reverse] at hlv hlc
      have hps:=place_shortT t p hmem
      dsimp! only [uDrop,hName]
      refine ⟨cs,tls,t,t',p,rfl,atU_at t p t' ht,fun tl h=>by have h2:tl.pt.dep≤4:=(hT.good tl h).2.1;omega,by omega,by omega,?_⟩
      refine ⟨laidF t' p 0 tls,p,v,c,vs,chs,cs,t'.size,rfl,hvc,by rw [mup_ne hvc,mup_same],mup_same,b.noV hnew,b.noC hnew,by omega,by omega,by omega,b.low hs,hT.cls.len,size_pos t',by omega,hok,fun m ch hf=>?_⟩
      refine ⟨vs++[(p,m)],chs++[(p,ch)],_,rfl,mup_two hvc,?_⟩
      · have hb:=Bd.snoc b hnew ht hf
        rw [List.take_add_one,hj]
        exact hb
  · rintro τ Mi ⟨vs,chs,z5,rfl,rfl,b⟩
    have hlen:(Src.mk none (t.places.map placeU).reverse).xs.length=t.places.reverse.length:=by show ((t.places.map placeU).reverse).length=_;simp
    rw [hlen,List.take_length] at b
    subst hV
    dsimp! only [uRet]
    exact rt_same (q v c vs chs hv hc hvc b)
def spLeast (fj:Addr):USp:=fun us M Q=>∃ (cs:List Str) (tls:List Tl) (t:Tr),us=[tabU cs tls,t.toU,.ref fj]∧Tab cs tls∧t.dep≤12∧t.size≤1000∧∀ (vs:VS) (chs:CS),Bd t tls cs t.places.reverse vs chs→Q (.tup [vsD vs,csD chs]) M
theorem ok_least_of_all {fj:Addr} (C:Callee P w K mg base 15 "least_of_all" (spLeast0 fj) []):Callee P w K mg base 15 "least_of_all" (spLeast fj) []:=by
  refine K35.Callee.conv C fun us M Q h=>?_
  obtain ⟨cs,tls,t,rfl,hT,hd,hs,q⟩:=h
  refine ⟨cs,tls,t,rfl,hT,hd,hs,fun v c vs chs hv hc hvc b=>?_⟩
  refine ⟨.tup [vsD vs,csD chs],M,fun K H x rm ru=>?_,q vs chs b⟩
  generalize hM1:mup (mup M v (.dT (vsK vs))) c (.dT (csK chs))=M1 at *
  have av:M1 v=some (.dT (vsK vs)):=by rw [← hM1,mup_ne hvc,mup_same]
  have ac:M1 c=some (.dT (csK chs)):=by rw [← hM1,mup_same]
  have oth:∀ b,b≠v→b≠c→M1 b=M b:=fun b b1 b2=>by rw [← hM1,mup_ne b2,mup_ne b1]
  have st:Stp H M1 H M:=Stp.less fun b hb=>by
    have b1:b≠v:=fun z=>by subst z;rw [av] at hb;cases hb
    have b2:b≠c:=fun z=>by subst z;rw [ac] at hb;cases hb
    rw [← oth b b1 b2];exact hb
  refine ⟨st,fun a mo e=>?_,?_⟩
  · have b1:a≠v:=fun z=>by subst z;rw [hv] at e;cases e
    have b2:a≠c:=fun z=>by subst z;rw [hc] at e;cases e
    rw [← oth a b1 b2] at e
    exact (rm a mo e).stp st rfl
  · simp only [RelU] at ru ⊢
    obtain ⟨a,xs,rfl,h1,h2⟩:=ru
    obtain ⟨x1,r1,rfl,k1,k2⟩:=h2.inv_cons
    obtain ⟨x2,rfl,k3⟩:=k2.one
    rw [k1.ref,k3.ref] at h1
    refine ⟨a,_,rfl,?_,.cons (dicT_rel valD rm av hv st) (.cons (dicT_rel choD rm ac hc st) .nil)⟩
    obtain ⟨m1,h1⟩:=h1
    exact ⟨(st a _ h1 m1).2,h1⟩
end
end K35
namespace K35
open PySem L2 U2
theorem Fill.le {cs cs2:List Str} {vs1 vs2:VS} {p:List Nat} {sz sz2:Nat} {ls ls2:List Ld} {m1 m2:VM} {ch1 ch2:CM} (f1:Fill cs vs1 p sz ls m1 ch1) (f2:Fill cs2 vs2 p sz2 ls2 m2 ch2)
    (hls:∀ l∈ls,∃ l2∈ls2,l2.cls=l.cls∧l2.spots=l.spots∧l2.price≤l.price) (hvs:∀ s v,lookV vs1 s=some v→∃ v2,lookV vs2 s=some v2∧v2≤v):∀ c v1,asc m1 c=some v1→∃ v2,asc m2 c=some v2∧v2≤v1:=by
  obtain ⟨rk,hrk⟩:=f1.rk
  have main:∀ n c v1,rk c < n→asc m1 c=some v1→∃ v2,asc m2 c=some v2∧v2≤v1:=by
    intro n
    induction n with
    | zero=>intro c v1 h;omega
    | succ n ih =>
      intro c v1 hn h
      obtain ⟨h0,h1,l,a1,a2,a3,w,a4,a5⟩:=f1.just c v1 h
      obtain ⟨l2,b1,b2,b3,b4⟩:=hls l a2
      have each:∀ s∈l.spots,∀ a,cur vs1 p m1 s=some a→∃ a',cur vs2 p m2 s=some a'∧a'≤a:=fun s hs a ha=>by
        unfold cur at ha ⊢
        by_cases e:s.1=p
        · rw [if_pos e] at ha ⊢
          exact ih s.2 a (by have:=hrk c l a1 s hs e;omega) ha
        · rw [if_neg e] at ha ⊢
          exact hvs s a ha
      have sm:∀ (l:List (List Nat × Str)) (w:Int),(∀ s∈l,∀ a,cur vs1 p m1 s=some a→∃ a',cur vs2 p m2 s=some a'∧a'≤a)→sumO (cur vs1 p m1) l=some w→∃ w',sumO (cur vs2 p m2) l=some w'∧w'≤w:=by
        intro l
        induction l with
        | nil=>intro w _ h;cases h;exact ⟨0,rfl,by omega⟩
        | cons s r ihr =>
          intro w hh h
          obtain ⟨a,b,k1,k2,rfl⟩:=sumO_cons h
          obtain ⟨a',g1,g2⟩:=hh s List.mem_cons_self a k1
          obtain ⟨b',g3,g4⟩:=ihr b (fun x hx=>hh x (List.mem_cons_of_mem _ hx)) k2
          exact ⟨a' + b',sumO_some g1 g3,by omega⟩
      obtain ⟨w',g1,g2⟩:=sm l.spots w each a4
      obtain ⟨v2,k1,k2⟩:=f2.fix l2 b1 w' (by rw [b3];exact g1)
      rw [b2,a3] at k1
      exact ⟨v2,k1,by omega⟩
  exact fun c v1 h=>main (rk c + 1) c v1 (by omega) h
theorem snoc_inj {α:Type} {a b:List α} {x y:α} (h:a++[x]=b++[y]):a=b∧x=y:=by
  have:=List.append_inj' h rfl
  exact ⟨this.1,by simpa using this.2⟩
theorem Bd.le {t:Tr} {tls tls2:List Tl} {cs cs2:List Str} {ps:List (List Nat)} {vs1 vs2:VS} {ch1 ch2:CS} (hls:∀ (t':Tr) (p:List Nat),∀ l∈laidF t' p 0 tls,∃ l2∈laidF t' p 0 tls2,l2.cls=l.cls∧l2.spots=l.spots∧l2.price≤l.price)
    (b1:Bd t tls cs ps vs1 ch1) (b2:Bd t tls2 cs2 ps vs2 ch2):∀ s v,lookV vs1 s=some v→∃ v2,lookV vs2 s=some v2∧v2≤v:=by
  induction b1 generalizing vs2 ch2 with
  | nil=>intro s v h;cases h
  | @snoc ps vs chs p t' m ch b hp ht hf ih =>
    generalize hq:ps++[p]=qs at b2
    cases b2 with
    | nil=>exact absurd hq (by simp)
    | @snoc ps2 vs2 chs2 p2 t2 m2 ch2 b2 hp2 ht2 hf2 =>
      obtain ⟨rfl,rfl⟩:=snoc_inj hq
      rw [ht] at ht2;cases ht2
      have ih':=ih b2
      intro s v h
      rw [← cur_app (b.noV hp)] at h
      rw [← cur_app (b2.noV hp)]
      unfold cur at h ⊢
      by_cases e:s.1=p
      · rw [if_pos e] at h ⊢
        exact hf.le hf2 (hls t' p) ih' _ _ h
      · rw [if_neg e] at h ⊢
        exact ih' s v h
theorem Bd.uniq {t:Tr} {tls:List Tl} {cs cs2:List Str} {ps:List (List Nat)} {vs1 vs2:VS} {ch1 ch2:CS} (b1:Bd t tls cs ps vs1 ch1) (b2:Bd t tls cs2 ps vs2 ch2) (s:List Nat × Str):lookV vs1 s=lookV vs2 s:=by
  have hls:∀ (t':Tr) (p:List Nat),∀ l∈laidF t' p 0 tls,∃ l2∈laidF t' p 0 tls,l2.cls=l.cls∧l2.spots=l.spots∧l2.price≤l.price:=fun t' p l hl=>⟨l,hl,rfl,rfl,by omega⟩
  have h1:=b1.le hls b2 s
  have h2:=b2.le hls b1 s
  cases e1:lookV vs1 s with
  | none =>
    cases e2:lookV vs2 s with
    | none=>rfl
    | some v=>obtain ⟨v2,k,_⟩:=h2 v e2;rw [e1] at k;cases k
  | some v =>
    obtain ⟨v2,k1,k2⟩:=h1 v e1
    obtain ⟨v3,k3,k4⟩:=h2 v2 k1
    rw [e1] at k3;cases k3
    rw [k1,show v2=v by omega]
def lookC (chs:CS) (s:List Nat × Str):Option Ld:=(asc chs s.1).bind fun m=>asc m s.2
inductive Wd (look:List Nat × Str→Option Ld):List Nat × Str→List Int→Prop
  | mk {s:List Nat × Str} {l:Ld} {wss:List (List Int)} (h:look s=some l) (hl:wss.length=l.spots.length) (hw:∀ (i:Nat) s' w,l.spots[i]?=some s'→wss[i]?=some w→Wd look s' w):Wd look s ((l.n:Int) :: wss.flatten)
theorem Wd.mono {look look':List Nat × Str→Option Ld} (hm:∀ s l,look s=some l→look' s=some l) {s:List Nat × Str} {w:List Int} (h:Wd look s w):Wd look' s w:=by
  induction h with
  | mk h hl hw ih=>exact .mk (hm _ _ h) hl ih
def runW (tiles:List Tl):List Int→List Wt→Option (List Wt)
  | [],st=>some st
  | n :: r,st=>(stepW tiles n st).bind (runW tiles r)
theorem runW_app (tiles:List Tl):∀ (a b:List Int) (st:List Wt),runW tiles (a++b) st=(runW tiles a st).bind (runW tiles b)
  | [],b,st=>rfl
  | n :: a,b,st=>by
    simp only [List.cons_append,runW]
    cases stepW tiles n st with
    | none=>rfl
    | some st'=>exact runW_app tiles a b st'
theorem run_list (tiles:List Tl) (st:List Wt):∀ (wts:List Wt) (wss:List (List Int)),wss.length=wts.length→(∀ (i:Nat) wt w,wts[i]?=some wt→wss[i]?=some w→∀ st,runW tiles w (wt :: st)=some st)→runW tiles wss.flatten (wts++st)=some st
  | [],[],_,_=>rfl
  | [],_ :: _,h,_=>by cases h
  | _ :: _,[],h,_=>by cases h
  | a :: wts,b :: wss,h,hr=>by
    rw [List.flatten_cons,runW_app,List.cons_append,hr 0 a b rfl rfl]
    exact run_list tiles st wts wss (by simpa using h) fun i wt w h1 h2=>hr (i + 1) wt w h1 h2
structure Cv (t:Tr) (tls:List Tl) (cs:List Str) (vs:VS) (chs:CS) (rk:Str→Nat) (s:List Nat × Str) (word:List Int) (seen:List Str):Prop where
  wd:Wd (lookC chs) s word
  run:∀ t',t.at s.1=some t'→∀ ps st,(∀ x∈seen,x ∉ ps)→runW tls word (⟨t',s.2,ps⟩ :: st)=some st
  ok:wordOk tls word
  cost:∀ v,lookV vs s=some v→(word.map (costAt tls)).sum=v
  rank:∀ x∈seen,rk x≤rk s.2
  sub:∀ x∈seen,x∈cs
  nd:seen.Nodup
  len:∀ t',t.at s.1=some t'→(word.length:Int) + 6≤6 * (t'.size:Int) + seen.length
theorem nodup_le:∀ (l m:List Str),l.Nodup→(∀ s∈l,s∈m)→l.length≤m.length
  | [],m,_,_=>by simp
  | a :: l,m,hn,hs=>by
    obtain ⟨h1,h2⟩:=List.nodup_cons.mp hn
    have ha:=hs a List.mem_cons_self
    have:=nodup_le l (m.erase a) h2 fun s hsl=>by
      refine (List.mem_erase_of_ne fun z=>?_).mpr (hs s (List.mem_cons_of_mem _ hsl))
      subst z;exact h1 hsl
    rw [List.length_erase_of_mem ha] at this
    have hp:0 < m.length:=List.length_pos_of_mem ha
    simp only [List.length_cons];omega
theorem choose_list {α β:Type} {R:α→β→Prop}:∀ l:List α,(∀ a∈l,∃ b,R a b)→∃ bs:List β,bs.length=l.length∧∀ (i:Nat) a b,l[i]?=some a→bs[i]?=some b→R a b
  | [],_=>⟨[],rfl,fun i a b h=>by cases h⟩
  | a :: l,h=>by
    obtain ⟨b,hb⟩:=h a List.mem_cons_self
    obtain ⟨bs,h1,h2⟩:=choose_list l fun x hx=>h x (List.mem_cons_of_mem _ hx)
    refine ⟨b :: bs,by simp [h1],fun i x y hx hy=>?_⟩
    cases i with
    | zero=>cases hx;cases hy;exact hb
    | succ i=>exact h2 i x y hx hy
theorem costs_flat (tls:List Tl) (g:List Nat × Str→Option Int):∀ (l:List (List Nat × Str)) (wss:List (List Int)) (w:Int),wss.length=l.length→(∀ (i:Nat) s ws,l[i]?=some s→wss[i]?=some ws→∀ v,g s=some v→(ws.map (costAt tls)).sum=v)→sumO g l=some w→(wss.flatten.map (costAt tls)).sum=w
  | [],[],w,_,_,h=>by cases h;rfl
  | [],_ :: _,_,h,_,_=>by cases h
  | _ :: _,[],_,h,_,_=>by cases h
  | s :: l,ws :: wss,w,hl,hc,h=>by
    obtain ⟨a,b,h1,h2,rfl⟩:=sumO_cons h
    rw [List.flatten_cons,List.map_append,List.sum_append,hc 0 s ws rfl rfl a h1,costs_flat tls g l wss b (by simpa using hl) (fun i s w h1 h2=>hc (i + 1) s w h1 h2) h2]
theorem lens_flat:∀ (wss:List (List Int)) (bs:List Nat),wss.length=bs.length→(∀ (i:Nat) ws b,wss[i]?=some ws→bs[i]?=some b→(ws.length:Int)≤6 * (b:Int))→(wss.flatten.length:Int)≤6 * (bs.sum:Int)
  | [],[],_,_=>by simp
  | [],_ :: _,h,_=>by cases h
  | _ :: _,[],h,_=>by cases h
  | ws :: wss,b :: bs,h,hb=>by
    have h1:=hb 0 ws b rfl rfl
    have h2:=lens_flat wss bs (by simpa using h) fun i w b h1 h2=>hb (i + 1) w b h1 h2
    rw [List.flatten_cons,List.length_append,List.sum_cons]
    push_cast
    omega
section
variable {t:Tr} {tls:List Tl} {cs:List Str} {ps:List (List Nat)} {vs:VS} {chs:CS}
theorem lookC_app {chs:CS} {p:List Nat} {ch:CM} {s:List Nat × Str} {l:Ld} (h:lookC chs s=some l):lookC (chs++[(p,ch)]) s=some l:=by
  unfold lookC at h ⊢
  rw [asc_app]
  cases e:asc chs s.1 with
  | none=>rw [e] at h;cases h
  | some m=>rw [e] at h;exact h
theorem lookC_new {chs:CS} {p:List Nat} {ch:CM} {c:Str} (h:asc chs p=none):lookC (chs++[(p,ch)]) (p,c)=asc ch c:=by
  unfold lookC
  rw [asc_app,h]
  show (asc [(p,ch)] p).bind _=_
  rw [asc_pos (p:=(p,ch)) rfl];rfl
theorem Bd.cover (hT:Tab cs tls) (b:Bd t tls cs ps vs chs):∀ s v,lookV vs s=some v→∃ rk word seen,Cv t tls cs vs chs rk s word seen:=by
  induction b with
  | nil=>intro s v h;cases h
  | @snoc ps vs chs p t' m ch b hp ht hf ih =>
    have old:∀ s v,s.1≠p→lookV (vs++[(p,m)]) s=some v→lookV vs s=some v:=fun s v hne h=>by
      rw [← cur_app (b.noV hp)] at h
      unfold cur at h
      rw [if_neg hne] at h;exact h
    have keep:∀ s v,s.1≠p→lookV vs s=some v→lookV (vs++[(p,m)]) s=some v:=fun s v hne h=>by
      rw [← cur_app (b.noV hp)]
      unfold cur
      rw [if_neg hne];exact h
    have lift:∀ s v,s.1≠p→lookV vs s=some v→∃ rk word seen,Cv t tls cs (vs++[(p,m)]) (chs++[(p,ch)]) rk s word seen:=fun s v hne h=>by
      obtain ⟨rk,word,seen,cv⟩:=ih s v h
      exact ⟨rk,word,seen,⟨cv.wd.mono fun s l h=>lookC_app h,cv.run,cv.ok,fun v2 hv2=>cv.cost v2 (old s v2 hne hv2),cv.rank,cv.sub,cv.nd,cv.len⟩⟩
    obtain ⟨rk,hrk⟩:=hf.rk
    have main:∀ n c v,rk c < n→asc m c=some v→∃ word seen,Cv t tls cs (vs++[(p,m)]) (chs++[(p,ch)]) rk (p,c) word seen:=by
      intro n
      induction n with
      | zero=>intro c v h;omega
      | succ n ihn =>
        intro c v hn h
        obtain ⟨h0,h1,l,a1,a2,a3,w,a4,a5⟩:=hf.just c v h
        have lkv:lookV (vs++[(p,m)]) (p,c)=some v:=by
          rw [← cur_app (b.noV hp)];unfold cur;rw [if_pos rfl];exact h
        have lkc:lookC (chs++[(p,ch)]) (p,c)=some l:=by rw [lookC_new (b.noC hp)];exact a1
        have a4':sumO (lookV (vs++[(p,m)])) l.spots=some w:=by rw [← a4];exact sumO_congr fun s _=>(cur_app (b.noV hp) s).symm
        obtain ⟨i,tl,e1,e2,rfl⟩:=laid_mem a2
        have hi:i < tls.length:=(List.getElem?_eq_some_iff.mp e1).1
        have htm:=List.mem_of_getElem? e1
        have hg:=hT.good tl htm
        have hcls:tl.cls=c:=a3
        have hcost:costAt tls ((0 + i:Nat):Int)=tl.cost:=by
          unfold costAt
          rw [Nat.zero_add,atI_nat (xs:=tls) (j:=i) e1]
        have hok0:0≤((0 + i:Nat):Int)∧((0 + i:Nat):Int) < tls.length:=⟨by omega,by omega⟩
        have hstep:∀ ps st,c ∉ ps→stepW tls ((0 + i:Nat):Int) (⟨t',c,ps⟩ :: st)=some (K35.below tl ⟨t',c,ps⟩++st):=fun ps st hc=>by
          have e3:tls[(((0 + i:Nat):Int)).toNat]?=some tl:=by rw [Int.toNat_natCast,Nat.zero_add];exact e1
          simp only [stepW,hok0,e3,hcls,e2,hc,and_self,if_true,not_false_eq_true]
        obtain ⟨bs,g1,g2,g3⟩:=holes_at tl.pt t' [] e2
        have g0:=(hole_at tl.pt t' [] e2).1
        have each:∀ (j:Nat) (e:List Nat × Str),(hls tl.pt)[j]?=some e→∃ t2 bb,bs[j]?=some bb∧t'.at e.1=some t2∧t2.size=bb∧(e.1=[]→∃ c,tl.pt=.hole c)∧(holesT tl.pt t')[j]?=some (t2,e.2):=fun j e he=>by
          have hj:=(List.getElem?_eq_some_iff.mp he).1
          have hb:bs[j]?=some (bs[j]'(by rw [g1];exact hj)):=List.getElem?_eq_getElem _
          obtain ⟨s,t2,e1,e2,e3,e4,e5⟩:=g3 j e _ he hb
          have e1':e.1=s:=by simpa using e1
          subst e1'
          exact ⟨t2,_,hb,e2,e3,e4,e5⟩
        cases hps:tl.pass with
        | true =>
          obtain ⟨c2,hpt⟩:∃ c2,tl.pt=.hole c2:=by
            unfold Tl.pass at hps
            cases hh:tl.pt with
            | hole c2=>exact ⟨c2,rfl⟩
            | _=>rw [hh] at hps;cases hps
          have hspots:((hls tl.pt).map fun e=>(p++e.1,e.2))=[(p,c2)]:=by rw [hpt];simp [hls,subsP,hF]
          dsimp only at a4' a4 a1 lkc
          rw [hspots] at a4 a4'
          obtain ⟨x,y,k1,k2,rfl⟩:=sumO_cons a4
          cases k2
          have k1':asc m c2=some x:=by unfold cur at k1;rw [if_pos rfl] at k1;exact k1
          have hlt:rk c2 < rk c:=hrk c _ a1 (p,c2) (by rw [hspots];exact List.mem_cons_self) rfl
          obtain ⟨word,seen,cv⟩:=ihn c2 x (by omega) k1'
          have hcn:c ∉ seen:=fun z=>by have:=cv.rank c z;dsimp only at this;omega
          refine ⟨((0 + i:Nat):Int) :: word,c :: seen,?_,?_,?_,?_,?_,?_,?_,?_⟩
          · have:=Wd.mk (look:=lookC (chs++[(p,ch)])) (s:=(p,c)) (wss:=[word]) lkc (by rw [hspots];rfl) (fun j s' w h1 h2=>by
              dsimp only at h1
              rw [hspots] at h1
              match j,h1,h2 with
              | 0,h1,h2=>cases h1;cases h2;exact cv.wd
              | j + 1,h1,h2=>cases h1)
            simpa using this
          · intro t2 ht2 ps st hps2
            dsimp only at ht2 ⊢
            rw [ht] at ht2;cases ht2
            have hcp:c ∉ ps:=hps2 c List.mem_cons_self
            simp only [runW,hstep ps st hcp,Option.bind_some]
            have hb:K35.below tl ⟨t',c,ps⟩=[⟨t',c2,ps++[c]⟩]:=by
              unfold K35.below passed
              rw [hps,hpt,hcls]
              cases t' <;> rfl
            rw [hb]
            refine cv.run t' ht (ps++[c]) st fun x hx=>?_
            simp only [List.mem_append,List.mem_singleton,not_or]
            exact ⟨hps2 x (List.mem_cons_of_mem _ hx),fun z=>by subst z;exact hcn hx⟩
          · intro k hk
            rcases List.mem_cons.mp hk with rfl | hk
            · exact hok0
            · exact cv.ok k hk
          · intro v2 hv2
            rw [lkv] at hv2;cases hv2
            rw [List.map_cons,List.sum_cons,hcost,cv.cost x (by rw [← cur_app (b.noV hp)];unfold cur;rw [if_pos rfl];exact k1')]
            have a5':v=tl.cost + (x + 0):=a5
            omega
          · intro x hx
            rcases List.mem_cons.mp hx with rfl | hx
            · exact Nat.le_refl _
            · have:=cv.rank x hx;dsimp only at this ⊢;omega
          · intro x hx
            rcases List.mem_cons.mp hx with rfl | hx
            · have:tl.cls∈cs:=hg.2.2.1
              rw [← hcls];exact this
            · exact cv.sub x hx
          · exact List.nodup_cons.mpr ⟨hcn,cv.nd⟩
          · intro t2 ht2
            have:=cv.len t2 ht2
            simp only [List.length_cons];push_cast;omega
        | false =>
          have hnh:∀ c2,tl.pt≠.hole c2:=fun c2 z=>by unfold Tl.pass at hps;rw [z] at hps;cases hps
          have hbk:1≤bulkP tl.pt:=by
            cases hh:tl.pt with
            | hole c2=>exact absurd hh (hnh c2)
            | _=>simp [bulkP]
          have hall:∀ s∈(hls tl.pt).map (fun e=>(p++e.1,e.2)),∃ ws:List Int,(∃ rk seen,Cv t tls cs (vs++[(p,m)]) (chs++[(p,ch)]) rk s ws seen):=fun s hs=>by
            obtain ⟨e,he,rfl⟩:=List.mem_map.mp hs
            obtain ⟨j,hj⟩:=List.getElem?_of_mem he
            obtain ⟨t2,bb,q1,q2,q3,q4,q5⟩:=each j e hj
            have hne:p++e.1≠p:=fun z=>by
              rw [List.append_right_eq_self] at z
              obtain ⟨c2,hc2⟩:=q4 z
              exact hnh c2 hc2
            obtain ⟨a,ha⟩:=sumO_mem a4' (p++e.1,e.2) (List.mem_map.mpr ⟨e,he,rfl⟩)
            obtain ⟨rk2,word,seen,cv⟩:=lift (p++e.1,e.2) a hne (old _ _ hne ha)
            exact ⟨word,rk2,seen,cv⟩
          obtain ⟨wss,w1,w2⟩:=choose_list _ hall
          rw [List.length_map] at w1
          refine ⟨((0 + i:Nat):Int) :: wss.flatten,[c],?_,?_,?_,?_,?_,?_,?_,?_⟩
          · exact Wd.mk (look:=lookC (chs++[(p,ch)])) (s:=(p,c)) (wss:=wss) lkc (by dsimp only;rw [List.length_map];exact w1) (fun j s' w h1 h2=>by
              obtain ⟨rk2,seen,cv⟩:=w2 j s' w h1 h2
              exact cv.wd)
          · intro t2 ht2 ps st hps2
            dsimp only at ht2 ⊢
            rw [ht] at ht2;cases ht2
            have hcp:c ∉ ps:=hps2 c List.mem_cons_self
            simp only [runW,hstep ps st hcp,Option.bind_some]
            have hpd:passed tl ⟨t',c,ps⟩=[]:=by unfold passed;rw [hps];rfl
            refine run_list tls st _ wss (by rw [K35.below,List.length_map,← g0];exact w1) fun j wt w h1 h2 st'=>?_
            rw [K35.below,hpd,List.getElem?_map] at h1
            cases hj:(holesT tl.pt t')[j]? with
            | none=>rw [hj] at h1;cases h1
            | some x =>
              rw [hj] at h1
              cases h1
              have hjl:j < (hls tl.pt).length:=by
                have:=(List.getElem?_eq_some_iff.mp hj).1
                rw [← g0] at this;exact this
              obtain ⟨e,he⟩:∃ e,(hls tl.pt)[j]?=some e:=⟨_,List.getElem?_eq_getElem hjl⟩
              obtain ⟨t2,bb,q1,q2,q3,q4,q5⟩:=each j e he
              rw [hj] at q5;cases q5
              obtain ⟨rk2,seen,cv⟩:=w2 j (p++e.1,e.2) w (by rw [List.getElem?_map,he];rfl) h2
              exact cv.run t2 (by dsimp only;rw [at_app t p e.1 t' ht];exact q2) [] st' fun x hx=>by simp
          · intro k hk
            rcases List.mem_cons.mp hk with rfl | hk
            · exact hok0
            · obtain ⟨ws,hws,hk⟩:=List.mem_flatten.mp hk
              obtain ⟨j,hj⟩:=List.getElem?_of_mem hws
              have hjl:j < (hls tl.pt).length:=by rw [← w1];exact (List.getElem?_eq_some_iff.mp hj).1
              obtain ⟨e,he⟩:∃ e,(hls tl.pt)[j]?=some e:=⟨_,List.getElem?_eq_getElem hjl⟩
              obtain ⟨rk2,seen,cv⟩:=w2 j (p++e.1,e.2) ws (by rw [List.getElem?_map,he];rfl) hj
              exact cv.ok k hk
          · intro v2 hv2
            rw [lkv] at hv2;cases hv2
            rw [List.map_cons,List.sum_cons,hcost,costs_flat tls (lookV (vs++[(p,m)])) _ wss w (by rw [List.length_map];exact w1) (fun j s ws h1 h2 v hv=>by
              obtain ⟨rk2,seen,cv⟩:=w2 j s ws h1 h2
              exact cv.cost v hv) a4',a5]
          · intro x hx;cases List.mem_singleton.mp hx;exact Nat.le_refl _
          · intro x hx
            cases List.mem_singleton.mp hx
            have:tl.cls∈cs:=hg.2.2.1
            rw [← hcls];exact this
          · simp
          · intro t2 ht2
            dsimp only at ht2
            rw [ht] at ht2;cases ht2
            have hlen:=lens_flat wss bs (by rw [w1,g1];rfl) fun j ws bb h1 h2=>by
              have hjl:j < (hls tl.pt).length:=by rw [← w1];exact (List.getElem?_eq_some_iff.mp h1).1
              obtain ⟨e,he⟩:∃ e,(hls tl.pt)[j]?=some e:=⟨_,List.getElem?_eq_getElem hjl⟩
              obtain ⟨t2,bb',q1,q2,q3,q4,q5⟩:=each j e he
              rw [h2] at q1;cases q1
              obtain ⟨rk2,seen,cv⟩:=w2 j (p++e.1,e.2) ws (by rw [List.getElem?_map,he];rfl) h1
              have k1:=cv.len t2 (by dsimp only;rw [at_app t p e.1 t' ht];exact q2)
              have k2:=nodup_le seen cs cv.nd cv.sub
              have k3:=hT.cls.len
              rw [q3] at k1
              omega
            simp only [List.length_cons,List.length_nil]
            push_cast
            omega
    intro s v h
    by_cases e:s.1=p
    · obtain ⟨s1,s2⟩:=s
      dsimp only at e
      subst e
      rw [← cur_app (b.noV hp)] at h
      unfold cur at h
      rw [if_pos rfl] at h
      obtain ⟨word,seen,cv⟩:=main (rk s2 + 1) s2 v (by omega) h
      exact ⟨rk,word,seen,cv⟩
    · exact lift s v e (old s v e h)
theorem Bd.both (b:Bd t tls cs ps vs chs) (s:List Nat × Str):(lookC chs s).isSome=(lookV vs s).isSome:=by
  induction b with
  | nil=>rfl
  | @snoc ps vs chs p t' m ch b hp ht hf ih =>
    by_cases e:s.1=p
    · obtain ⟨s1,s2⟩:=s
      dsimp only at e
      subst e
      rw [lookC_new (b.noC hp),← cur_app (b.noV hp)]
      unfold cur
      rw [if_pos rfl]
      have k1:=@asc_key _ _ _ s2 m
      have k2:=@asc_key _ _ _ s2 ch
      rw [hf.keys] at k1
      exact Bool.eq_iff_iff.mpr (k2.trans k1.symm)
    · rw [← cur_app (b.noV hp)]
      unfold cur
      rw [if_neg e,← ih]
      unfold lookC
      rw [asc_app]
      cases q:asc chs s.1 with
      | some m=>rfl
      | none =>
        show ((asc [(p,ch)] s.1).bind _).isSome=_
        rw [asc_neg (p:=(p,ch)) (fun z=>e z.symm)];rfl
theorem Bd.spots (hT:Tab cs tls) (b:Bd t tls cs ps vs chs):∀ s l,lookC chs s=some l→l.spots.length≤64∧∀ s'∈l.spots,∃ l',lookC chs s'=some l':=by
  induction b with
  | nil=>intro s l h;cases h
  | @snoc ps vs chs p t' m ch b hp ht hf ih =>
    have hb:=Bd.snoc b hp ht hf
    intro s l h
    by_cases e:s.1=p
    · obtain ⟨s1,s2⟩:=s
      dsimp only at e
      subst e
      rw [lookC_new (b.noC hp)] at h
      have hm:(asc m s2).isSome=true:=by rw [asc_key,hf.keys,← asc_key,h];rfl
      obtain ⟨v,hv⟩:=Option.isSome_iff_exists.mp hm
      obtain ⟨h0,h1,l1,a1,a2,a3,w,a4,a5⟩:=hf.just s2 v hv
      rw [h] at a1;cases a1
      refine ⟨?_,fun s' hs'=>?_⟩
      · obtain ⟨i,tl,e1,e2,rfl⟩:=laid_mem a2
        have hg:=hT.good tl (List.mem_of_getElem? e1)
        have:tl.pt.dep≤4:=hg.2.1
        rw [List.length_map];exact hls_len tl.pt (by omega)
      · obtain ⟨a,ha⟩:=sumO_mem a4 s' hs'
        rw [cur_app (b.noV hp)] at ha
        have:(lookC (chs++[(s1,ch)]) s').isSome=true:=by rw [hb.both,ha];rfl
        exact Option.isSome_iff_exists.mp this
    · have h':lookC chs s=some l:=by
        unfold lookC at h ⊢
        rw [asc_app] at h
        cases q:asc chs s.1 with
        | some m=>rw [q] at h;exact h
        | none =>
          rw [q] at h
          have h:(asc [(p,ch)] s.1).bind _=some l:=h
          rw [asc_neg (p:=(p,ch)) (fun z=>e z.symm)] at h;cases h
      obtain ⟨k1,k2⟩:=ih s l h'
      exact ⟨k1,fun s' hs'=>let ⟨l',hl'⟩:=k2 s' hs';⟨l',lookC_app hl'⟩⟩
theorem look_Td {M:MHp} {x:U} {kvs:List (List Key × U)} (p:List Nat) (h:dvw M x=some (.dT kvs)):dLook true M x (placeU p)=some (valU kvs (pk p)):=by
  simp only [dLook,h,placeU,keys_pk,Option.map_some]
inductive Wds (look:List Nat × Str→Option Ld):List (List Nat × Str)→List (List Int)→Prop
  | nil:Wds look [] []
  | cons {s:List Nat × Str} {w:List Int} {st:List (List Nat × Str)} {ws:List (List Int)} (h:Wd look s w) (t:Wds look st ws):Wds look (s :: st) (w :: ws)
theorem Wds.app {look:List Nat × Str→Option Ld}:∀ {a:List (List Nat × Str)} {x:List (List Int)} {b:List (List Nat × Str)} {y:List (List Int)},Wds look a x→Wds look b y→Wds look (a++b) (x++y)
  | _,_,_,_,.nil,h=>h
  | _,_,_,_,.cons h t,k=>.cons h (Wds.app t k)
theorem Wds.of {look:List Nat × Str→Option Ld}:∀ {l:List (List Nat × Str)} {wss:List (List Int)},wss.length=l.length→(∀ (i:Nat) s w,l[i]?=some s→wss[i]?=some w→Wd look s w)→Wds look l wss
  | [],[],_,_=>.nil
  | [],_ :: _,h,_=>by cases h
  | _ :: _,[],h,_=>by cases h
  | s :: l,w :: wss,h,hw=>.cons (hw 0 s w rfl rfl) (Wds.of (by simpa using h) fun i s w h1 h2=>hw (i + 1) s w h1 h2)
def lenM (r:Addr) (M:MHp):Nat:=match M r with
  | some (.lst us)=>us.length
  | _=>0
def spChosen:USp:=fun us M Q=>∃ (chs:CS) (c:Str) (word:List Int),us=[csD chs,.str c]∧(∀ s l,lookC chs s=some l→l.spots.length≤64)∧Wd (lookC chs) ([],c) word∧word.length≤1300∧∀ r,M r=none→Q (.ref r) (mup M r (.lst (word.map U.int)))
local macro_rules | `(tactic| dsimp! only [$xs,*] $[$l]?) => `(tactic| simp only [$xs,*, Bool.false_eq_true, Bool.not_false, Bool.not_true, List.append_nil, List.cons_append, List.getElem?_cons_succ, List.getElem?_cons_zero, List.length_cons, List.length_nil, List.map_cons, List.map_nil, List.nil_append, List.replicate, List.set_cons_succ, List.set_cons_zero, Nat.add_sub_cancel, Nat.reduceAdd, Nat.reduceLeDiff, Nat.reduceSub, Nat.sub_self, Option.getD_some, Option.some.injEq, and_true, at0, at1, at2, at3, bAll, bInt, bInt1, bInt2, bIsi2, bLen, bList, bMax, bSorted, bSum, bTuple, cGe, cGt, cLe, cLt, capt, decide_false, decide_true, eqX_int, eqX_str, exists_eq_left', if_false, if_true, inSt, inTab, isNon, isi_NoneType_bool, isi_NoneType_dict, isi_NoneType_int, isi_NoneType_list, isi_NoneType_str, isi_NoneType_tuple, isi_bool_bool, isi_bool_dict, isi_bool_int, isi_bool_list, isi_bool_str, isi_bool_tuple, isi_dict_bool, isi_dict_dict, isi_dict_int, isi_dict_list, isi_dict_str, isi_dict_tuple, isi_int_bool, isi_int_dict, isi_int_int, isi_int_list, isi_int_str, isi_int_tuple, isi_list_bool, isi_list_dict, isi_list_int, isi_list_list, isi_list_str, isi_list_tuple, isi_str_bool, isi_str_dict, isi_str_int, isi_str_list, isi_str_str, isi_str_tuple, isi_tuple_bool, isi_tuple_dict, isi_tuple_int, isi_tuple_list, isi_tuple_str, isi_tuple_tuple, items, ixTab, mAppend, mClear, mExtend, mPop, mPopAt, mkL, mup_mup, mup_same, reduceCtorEq, startU, szl, true_and, typU, uAdd, uAddL, uAnd, uAndV, uBM, uBM0, uC, uCB, uCall, uCallV, uChain, uCons, uDGet, uDGet1, uDIn, uDNew, uEnum, uEnumL, uEqS, uI, uI0, uIf, uIn, uIsB2, uIsN, uIter, uIx, uListRev, uLst, uLtX, uMul, uNeS, uNil, uNoPart, uNot, uNotB, uNotN, uNotV, uOp, uOr, uOrV, uPart, uRepL, uRev, uRng1, uRng2, uSetFrom, uSlX, uTest, uTru, uTup, uUn, uVar, uZip, uZipL, vw_bl, vw_int, vw_lst, vw_non, vw_own, vw_str, vw_tup] $[$l]?)
set_option maxHeartbeats 1000000 in
theorem ok_chosen (F:Fun K "chosen_cover" "chosen_cover" s_chosen_cover f fd) (hm:mg "chosen_cover"=some (.ref f)) (hNK:NoKey K) (m_list:mg "list"=none) (m_reversed:mg "reversed"=none):Callee P w K mg base 1 "chosen_cover" spChosen []:=by
  refine callee_of F hm sc_chosen_cover (fun _ _ _ _ _ _ us hl=>match us,hl with | [_,_],_=>rfl) (fun us M Q h=>by obtain ⟨_,_,_,rfl,_⟩:=h;rfl) (uss_cons (us_set 2 sc_chosen_cover.nd (ue_lst (own:=true) ua_nil))
  (uss_cons (us_set 3 sc_chosen_cover.nd (ue_lst (own:=true) (ua_cons (ue_tup (ua_cons (ue_tup ua_nil) (ua_cons (uv 1) ua_nil))) ua_nil)))
  (uss_cons (us_while (ut_val (uv 3))
  (uss_cons (us_set 4 sc_chosen_cover.nd (ue_pop (uv 3)))
  (uss_cons (us_set 5 sc_chosen_cover.nd (ue_dget false nokF (ue_dget true (fun _=>hNK) (uv 0) (ue_ix (uv 4) un_)) (ue_ix (uv 4) un_)))
  (uss_cons (us_expr (ue_append (uv 2) (ua_cons (ue_ix (uv 5) un_) ua_nil)))
  (uss_one (us_expr (ue_extend (uv 3) (ua_cons (ue_listRev (own:=false) m_list m_reversed (ua_cons (ue_ix (uv 5) un_) ua_nil)) ua_nil))))))))
  (uss_one (us_ret (uv 2)))))) ?_
  rintro us M Q ⟨chs,c,word,rfl,h64,hwd,hwl,q⟩
  refine seq_gen fun V hV=>?_
  dsimp! only [uAsg,hName]
  intro r hr
  subst hV
  refine seq_gen fun V hV=>?_
  dsimp! only [uAsg,hName]
  intro g hg
  have hrg:r≠g:=fun z=>by subst z;rw [mup_same] at hg;cases hg
  have hMg:M g=none:=by rw [mup_ne (fun z=>hrg z.symm)] at hg;exact hg
  have e0:mup (mup M r (.lst [])) g (.lst [.tup [.tup [],.str c]])=st2 M r g (([]:List Int).map U.int) (([([],c)]:List (List Nat × Str)).reverse.map entH):=rfl
  rw [e0]
  subst hV
  refine seq_gen fun V hV=>?_
  refine while_by (fun τ Mi=>∃ (st:List (List Nat × Str)) (ws:List (List Int)) (dn:List Int) (z4 z5:Option U),τ=[some (csD chs),some (.str c),some (.ref r),some (.ref g),z4,z5]∧Mi=st2 M r g (dn.map U.int) (st.reverse.map entH)∧Wds (lookC chs) st ws∧dn++ws.flatten=word∧st.length≤1 + 64 * dn.length) (fun _ M'=>word.length - lenM r M')
    ⟨[([],c)],[word],[],none,none,rfl,rfl,.cons hwd .nil,by simp,by simp⟩ ?_
  rintro τ Mi ⟨st,ws,dn,z4,z5,rfl,rfl,hws,hdn,hsl⟩
  have vg:∀ T R,view (st2 M r g T R) (.ref g)=.lst R:=fun T R=>view_ref st2_r
  have vr:∀ T R,view (st2 M r g T R) (.ref r)=.lst T:=fun T R=>view_ref (st2_t hrg)
  have lm:∀ (d:List Int) R,lenM r (st2 M r g (d.map U.int) R)=d.length:=fun d R=>by unfold lenM;rw [st2_t hrg];simp
  cases hws with
  | nil =>
    dsimp! only [vg,List.reverse_nil,List.isEmpty_nil]
    have hd:dn=word:=by simpa using hdn
    subst hd
    subst hV
    dsimp! only [uRet]
    refine ⟨.ref r,mup M r (.lst (dn.map U.int)),fun z o hz=>?_,.inl rfl,q r hr⟩
    have hzg:z≠g:=fun e=>by subst e;rw [mup_ne (fun e=>hrg e.symm),hMg] at hz;cases hz
    show mup (mup M r _) g _ z=_
    rw [mup_ne hzg];exact hz
  | @cons s w st ws h tl =>
    have hie:(st.reverse.map entH++[entH s]).isEmpty=false:=by simp
    dsimp! only [vg,List.reverse_cons,List.map_append,hie]
    obtain ⟨hlk,hl,hw⟩:=h
    rename_i l wss
    have hlen:dn.length < word.length:=by rw [← hdn];simp
    have h5:=h64 s l hlk
    have hch:∃ ch,asc chs s.1=some ch∧asc ch s.2=some l:=by
      unfold lookC at hlk
      cases e:asc chs s.1 with
      | none=>rw [e] at hlk;cases hlk
      | some ch=>rw [e] at hlk;exact ⟨ch,rfl,hlk⟩
    obtain ⟨ch,hc1,hc2⟩:=hch
    refine seq_gen fun V1 hV1=>?_
    dsimp! only [uAsg,hName,st2_r,gl_1,dl_1,st2_setR,vg]
    refine ⟨⟨_,vg _ _⟩,?_⟩
    subst hV1
    refine seq_gen fun V1 hV1=>?_
    have l1:∀ Mx:MHp,dLook true Mx (csD chs) (placeU s.1)=some (some (choD ch)):=fun Mx=>by rw [look_Td s.1 (dv_cs chs),cs_at,hc1];rfl
    have l2:∀ Mx:MHp,dLook false Mx (choD ch) (.str s.2)=some (some (chU l)):=fun Mx=>by rw [look_K s.2 (dv_cho ch),cho_at,hc2];rfl
    dsimp! only [uAsg,hName,entH,l1,l2]
    subst hV1
    refine seq_gen fun V1 hV1=>?_
    dsimp! only [uDrop,chU,st2_t hrg,st2_setT hrg]
    refine ⟨⟨_,vr _ _⟩,big (by rw [List.length_map];omega),?_⟩
    subst hV1
    dsimp! only [uDrop,chU,st2_r,st2_setR]
    refine ⟨⟨_,vg _ _⟩,small (by rw [List.length_map,List.length_reverse,List.length_reverse,List.length_map];simp only [List.length_cons] at hsl;omega),?_⟩
    refine ⟨⟨l.spots++st,wss++ws,dn++[(l.n:Int)],_,_,rfl,?_,(Wds.of hl hw).app tl,?_,?_⟩,?_⟩
    · rw [List.reverse_append,List.map_append,List.map_append,List.map_reverse (l:=l.spots)];rfl
    · rw [← hdn];simp
    · simp only [List.length_append,List.length_cons,List.length_nil] at hsl ⊢;omega
    · have e1:dn.map U.int++[U.int l.n]=(dn++[(l.n:Int)]).map U.int:=by simp
      rw [e1,lm]
      have e2:lenM r (st2 M r g (dn.map U.int) (st.reverse.map entH++[entH s]))=dn.length:=lm dn _
      first | rw [e2] | skip
      simp only [List.length_append,List.length_cons,List.length_nil]
      omega
end
end K35
namespace K35
open PySem L2 U2
theorem at_lt:∀ (t:Tr) (p:List Nat) (t':Tr),p≠[]→t.at p=some t'→t'.size < t.size
  | t,[],t',h,_=>absurd rfl h
  | .turn a,0 :: r,t',_,h=>by
    have h':a.at r=some t':=h
    have:=at_size a r t' h'
    simp only [Tr.size];omega
  | .two _ a b,0 :: r,t',_,h=>by
    have h':a.at r=some t':=h
    have:=at_size a r t' h'
    simp only [Tr.size];omega
  | .two _ a b,1 :: r,t',_,h=>by
    have h':b.at r=some t':=h
    have:=at_size b r t' h'
    simp only [Tr.size];omega
  | .num _,_ :: _,t',_,h=>by simp [Tr.at] at h
  | .name _,_ :: _,t',_,h=>by simp [Tr.at] at h
  | .turn a,(k + 1) :: r,t',_,h=>by simp [Tr.at] at h
  | .two _ a b,(k + 2) :: r,t',_,h=>by simp [Tr.at] at h
theorem lookV_old {vs:VS} {q:List Nat} {m:VM} {s:List Nat × Str} (h:asc vs q=none) (hne:s.1≠q):lookV (vs++[(q,m)]) s=lookV vs s:=by
  rw [← cur_app h];unfold cur;rw [if_neg hne]
theorem lookV_new {vs:VS} {q:List Nat} {m:VM} {c:Str} (h:asc vs q=none):lookV (vs++[(q,m)]) (q,c)=asc m c:=by
  rw [← cur_app h];unfold cur;rw [if_pos rfl]
theorem lookC_old {chs:CS} {q:List Nat} {ch:CM} {s:List Nat × Str} (hne:s.1≠q):lookC (chs++[(q,ch)]) s=lookC chs s:=by
  unfold lookC
  rw [asc_app]
  cases e:asc chs s.1 with
  | some m=>rfl
  | none =>
    show (asc [(q,ch)] s.1).bind _=_
    rw [asc_neg (p:=(q,ch)) (fun z=>hne z.symm)];rfl
structure PAt (t:Tr) (tls:List Tl) (cs:List Str) (vs:VS) (chs:CS) (p:List Nat) (t':Tr) (vs0:VS) (m:VM) (ch:CM):Prop where
  f:Fill cs vs0 p t'.size (laidF t' p 0 tls) m ch
  v:∀ c,lookV vs (p,c)=asc m c
  c:∀ c,lookC chs (p,c)=asc ch c
  old:∀ s:List Nat × Str,(asc vs0 s.1).isSome=true→lookV vs s=lookV vs0 s
  sub:∀ x,(asc vs0 x).isSome=true→(asc vs x).isSome=true
  ok:∀ l∈laidF t' p 0 tls,LdOk cs vs0 p t'.size l
theorem Bd.fillAt {t:Tr} {tls:List Tl} {cs:List Str} {ps:List (List Nat)} {vs:VS} {chs:CS} (hT:Tab cs tls) (b:Bd t tls cs ps vs chs):(∃ A,t.places=A++ps.reverse)→∀ p∈ps,∀ t',t.at p=some t'→∃ vs0 m ch,PAt t tls cs vs chs p t' vs0 m ch:=by
  induction b with
  | nil=>intro _ p hp;cases hp
  | @snoc ps vs chs q tq mq chq b hq htq hf ih =>
    rintro ⟨A,hA⟩ p hp t' ht
    have nov:=b.noV hq
    have keys:∀ x,(asc vs x).isSome=true→x≠q:=fun x hx z=>by subst z;rw [nov] at hx;cases hx
    rw [List.reverse_append] at hA
    have hA':t.places=A++q :: ps.reverse:=hA
    have up:∀ x,(asc vs x).isSome=true→(asc (vs++[(q,mq)]) x).isSome=true:=fun x hx=>by
      rw [asc_app]
      cases e:asc vs x with
      | none=>rw [e] at hx;cases hx
      | some m=>rfl
    rcases List.mem_append.mp hp with hp' | hp'
    · obtain ⟨vs0,m,ch,k⟩:=ih ⟨A++[q],by rw [hA'];simp⟩ p hp' t' ht
      have hne:p≠q:=fun z=>by subst z;exact hq hp'
      exact ⟨vs0,m,ch,k.f,fun c=>by rw [lookV_old nov (s:=(p,c)) hne];exact k.v c,fun c=>by rw [lookC_old (s:=(p,c)) hne];exact k.c c,fun s hs=>by rw [lookV_old nov (keys _ (k.sub _ hs))];exact k.old s hs,fun x hx=>up x (k.sub x hx),k.ok⟩
    · cases List.mem_singleton.mp hp'
      rw [htq] at ht;cases ht
      exact ⟨vs,mq,chq,hf,fun c=>lookV_new nov,fun c=>lookC_new (b.noC hq),fun s hs=>lookV_old nov (keys _ hs),up,Bd.ld (A:=A) (B:=ps.reverse) hT hA' htq (by rw [List.reverse_reverse];exact b)⟩
theorem Bd.full {t:Tr} {tls:List Tl} {cs:List Str} {vs:VS} {chs:CS} (hT:Tab cs tls) (b:Bd t tls cs t.places.reverse vs chs) {p:List Nat} {t':Tr} (ht:t.at p=some t'):∃ vs0 m ch,PAt t tls cs vs chs p t' vs0 m ch :=
  b.fillAt hT ⟨[],by simp⟩ p (List.mem_reverse.mpr (place_at t p t' ht)) t' ht
theorem laid_in {t:Tr} {p:List Nat}:∀ {tls:List Tl} {k i:Nat} {tl:Tl},tls[i]?=some tl→lieF tl.pt t=true→(⟨k + i,tl.cls,tl.cost,(hls tl.pt).map fun e=>(p++e.1,e.2)⟩:Ld)∈laidF t p k tls
  | [],k,i,tl,h,_=>by cases h
  | a :: r,k,0,tl,h,hl=>by
    cases h
    simp only [laidF,hl,if_true,List.mem_append,List.mem_singleton]
    exact .inl (by rw [Nat.add_zero])
  | a :: r,k,i + 1,tl,h,hl=>by
    have:=laid_in (p:=p) (k:=k + 1) (tls:=r) (i:=i) h hl
    rw [show k + 1 + i=k + (i + 1) by omega] at this
    simp only [laidF,List.mem_append]
    exact .inr this
theorem sumO_shift {α β γ:Type} {f:β→Option Int} {f2:γ→Option Int} {g1:α→β} {g2:α→γ}:∀ {es:List α} {w:Int},(∀ e∈es,∀ a,f (g1 e)=some a→∃ a',f2 (g2 e)=some a'∧a'≤a)→sumO f (es.map g1)=some w→∃ w',sumO f2 (es.map g2)=some w'∧w'≤w
  | [],w,_,h=>by cases h;exact ⟨0,rfl,by omega⟩
  | e :: es,w,hh,h=>by
    rw [List.map_cons] at h
    obtain ⟨a,b,k1,k2,rfl⟩:=sumO_cons h
    obtain ⟨a',g1,g2⟩:=hh e List.mem_cons_self a k1
    obtain ⟨b',g3,g4⟩:=sumO_shift (fun x hx=>hh x (List.mem_cons_of_mem _ hx)) k2
    exact ⟨a' + b',sumO_some g1 g3,by omega⟩
theorem hole_tree {pt:Pt} {t:Tr} (h:lieF pt t=true) {e:List Nat × Str} (he:e∈hls pt):∃ t2,t.at e.1=some t2:=by
  obtain ⟨bs,g1,g2,g3⟩:=holes_at pt t [] h
  obtain ⟨j,hj⟩:=List.getElem?_of_mem he
  have hjl:=(List.getElem?_eq_some_iff.mp hj).1
  have hb:bs[j]?=some (bs[j]'(by rw [g1];exact hjl)):=List.getElem?_eq_getElem _
  obtain ⟨s,t2,e1,e2,_⟩:=g3 j e _ hj hb
  have e1':e.1=s:=by simpa using e1
  exact ⟨t2,by rw [e1'];exact e2⟩
theorem Bd.leS {t1 t2:Tr} {tls1 tls2:List Tl} {cs1 cs2:List Str} {vs1 vs2:VS} {ch1 ch2:CS} (hT1:Tab cs1 tls1) (hT2:Tab cs2 tls2) (b1:Bd t1 tls1 cs1 t1.places.reverse vs1 ch1) (b2:Bd t2 tls2 cs2 t2.places.reverse vs2 ch2)
    (hls':∀ tl∈tls1,∃ tl2∈tls2,tl2.cls=tl.cls∧tl2.pt=tl.pt∧tl2.cost≤tl.cost):∀ (n:Nat) (t':Tr) (p1 p2:List Nat),t'.size≤n→t1.at p1=some t'→t2.at p2=some t'→∀ c v,lookV vs1 (p1,c)=some v→∃ v2,lookV vs2 (p2,c)=some v2∧v2≤v:=by
  intro n
  induction n with
  | zero=>intro t' p1 p2 h;have:=size_pos t';omega
  | succ n ih =>
    intro t' p1 p2 hn h1 h2
    obtain ⟨vs01,m1,c1,k1⟩:=b1.full hT1 h1
    obtain ⟨vs02,m2,c2,k2⟩:=b2.full hT2 h2
    obtain ⟨rk,hrk⟩:=k1.f.rk
    have main:∀ k c v,rk c < k→asc m1 c=some v→∃ v2,asc m2 c=some v2∧v2≤v:=by
      intro k
      induction k with
      | zero=>intro c v h;omega
      | succ k ihk =>
        intro c v hk h
        obtain ⟨h0,h1',l,a1,a2,a3,w,a4,a5⟩:=k1.f.just c v h
        obtain ⟨i,tl,e1,e2,rfl⟩:=laid_mem a2
        obtain ⟨tl2,d1,d2,d3,d4⟩:=hls' tl (List.mem_of_getElem? e1)
        obtain ⟨j,hj⟩:=List.getElem?_of_mem d1
        have hin:=laid_in (t:=t') (p:=p2) (k:=0) hj (by rw [d3];exact e2)
        have each:∀ e∈hls tl.pt,∀ a,cur vs01 p1 m1 (p1++e.1,e.2)=some a→∃ a',cur vs02 p2 m2 (p2++e.1,e.2)=some a'∧a'≤a:=fun e he a ha=>by
          unfold cur at ha ⊢
          dsimp only at ha ⊢
          by_cases z:e.1=[]
          · rw [z,List.append_nil,if_pos rfl] at ha
            rw [z,List.append_nil,if_pos rfl]
            exact ihk e.2 a (by have:=hrk c _ a1 (p1++e.1,e.2) (List.mem_map.mpr ⟨e,he,rfl⟩) (by dsimp only;rw [z,List.append_nil]);dsimp only at this;omega) ha
          · have n1:¬ p1++e.1=p1:=fun q=>z (List.append_right_eq_self.mp q)
            have n2:¬ p2++e.1=p2:=fun q=>z (List.append_right_eq_self.mp q)
            rw [if_neg n1] at ha
            rw [if_neg n2]
            obtain ⟨t3,ht3⟩:=hole_tree e2 he
            have hlt:=at_lt t' e.1 t3 z ht3
            have hs1:(asc vs01 (p1++e.1)).isSome=true:=by
              unfold lookV at ha
              dsimp only at ha
              cases q:asc vs01 (p1++e.1) with
              | none=>rw [q] at ha;cases ha
              | some m=>rfl
            have ha':lookV vs1 (p1++e.1,e.2)=some a:=by rw [k1.old (p1++e.1,e.2) hs1];exact ha
            obtain ⟨a',g1,g2⟩:=ih t3 (p1++e.1) (p2++e.1) (by omega) (by rw [at_app t1 p1 e.1 t' h1];exact ht3) (by rw [at_app t2 p2 e.1 t' h2];exact ht3) e.2 a ha'
            have hth:=(k2.ok _ hin).there (p2++e.1,e.2) (List.mem_map.mpr ⟨e,by rw [d3];exact he,rfl⟩)
            have hs2:(asc vs02 (p2++e.1)).isSome=true:=by
              rcases hth with q | q
              · exact absurd q n2
              · exact q
            rw [k2.old (p2++e.1,e.2) hs2] at g1
            exact ⟨a',g1,g2⟩
        obtain ⟨w',g1,g2⟩:=sumO_shift (f2:=cur vs02 p2 m2) (g2:=fun e:List Nat × Str=>(p2++e.1,e.2)) each a4
        obtain ⟨v2,q1,q2⟩:=k2.f.fix _ hin w' (by dsimp only;rw [d3];exact g1)
        dsimp only at q1 q2 a5 a3
        rw [d2,a3] at q1
        exact ⟨v2,q1,by omega⟩
    intro c v h
    rw [k1.v c] at h
    rw [k2.v c]
    exact main (rk c + 1) c v (by omega) h
theorem Bd.eqS {t1 t2:Tr} {tls1 tls2:List Tl} {cs1 cs2:List Str} {vs1 vs2:VS} {ch1 ch2:CS} (hT1:Tab cs1 tls1) (hT2:Tab cs2 tls2) (b1:Bd t1 tls1 cs1 t1.places.reverse vs1 ch1) (b2:Bd t2 tls2 cs2 t2.places.reverse vs2 ch2)
    (h12:∀ tl∈tls1,tl∈tls2) (h21:∀ tl∈tls2,tl∈tls1) {t':Tr} {p1 p2:List Nat} (h1:t1.at p1=some t') (h2:t2.at p2=some t') (c:Str):lookV vs1 (p1,c)=lookV vs2 (p2,c):=by
  have l1:=b1.leS hT1 hT2 b2 (fun tl h=>⟨tl,h12 tl h,rfl,rfl,Int.le_refl _⟩) _ t' p1 p2 (Nat.le_refl _) h1 h2 c
  have l2:=b2.leS hT2 hT1 b1 (fun tl h=>⟨tl,h21 tl h,rfl,rfl,Int.le_refl _⟩) _ t' p2 p1 (Nat.le_refl _) h2 h1 c
  cases e1:lookV vs1 (p1,c) with
  | none =>
    cases e2:lookV vs2 (p2,c) with
    | none=>rfl
    | some v=>obtain ⟨v2,k,_⟩:=l2 v e2;rw [e1] at k;cases k
  | some v =>
    obtain ⟨v2,k1,k2⟩:=l1 v e1
    obtain ⟨v3,k3,k4⟩:=l2 v2 k1
    rw [e1] at k3;cases k3
    rw [k1,show v2=v by omega]
theorem sum_words {g:List Nat × Str→Option Int} (cst:Int→Int):∀ (l:List (List Nat × Str)) (wss:List (List Int)),wss.length=l.length→(∀ (i:Nat) s ws,l[i]?=some s→wss[i]?=some ws→∃ v,g s=some v∧v≤(ws.map cst).sum)→∃ w,sumO g l=some w∧w≤(wss.flatten.map cst).sum
  | [],[],_,_=>⟨0,rfl,by simp⟩
  | [],_ :: _,h,_=>by cases h
  | _ :: _,[],h,_=>by cases h
  | s :: l,ws :: wss,hl,hc=>by
    obtain ⟨v,h1,h2⟩:=hc 0 s ws rfl rfl
    obtain ⟨w,h3,h4⟩:=sum_words cst l wss (by simpa using hl) fun i s w h1 h2=>hc (i + 1) s w h1 h2
    refine ⟨v + w,sumO_some h1 h3,?_⟩
    rw [List.flatten_cons,List.map_append,List.sum_append]
    omega
theorem word_le {t:Tr} {tls1 tls2:List Tl} {cs1 cs2:List Str} {vs1 vs2:VS} {ch1 ch2:CS} (hT1:Tab cs1 tls1) (hT2:Tab cs2 tls2) (b1:Bd t tls1 cs1 t.places.reverse vs1 ch1) (b2:Bd t tls2 cs2 t.places.reverse vs2 ch2)
    (hix:∀ (i:Nat) tl,tls1[i]?=some tl→∃ tl2,tls2[i]?=some tl2∧tl2.cls=tl.cls∧tl2.pt=tl.pt) {s:List Nat × Str} {w:List Int} (h:Wd (lookC ch1) s w):∃ v,lookV vs2 s=some v∧v≤(w.map (costAt tls2)).sum:=by
  induction h with
  | @mk s l wss h hl hw ih =>
    obtain ⟨p,c⟩:=s
    have hp:p∈t.places:=by
      have:(asc ch1 p).isSome=true:=by
        unfold lookC at h
        dsimp only at h
        cases e:asc ch1 p with
        | none=>rw [e] at h;cases h
        | some m=>rfl
      rw [asc_key,b1.keysC] at this
      exact List.mem_reverse.mp this
    obtain ⟨t',ht⟩:=at_place t p hp
    obtain ⟨vs01,m1,c1,k1⟩:=b1.full hT1 ht
    obtain ⟨vs02,m2,c2,k2⟩:=b2.full hT2 ht
    rw [k1.c c] at h
    have hm:(asc m1 c).isSome=true:=by rw [asc_key,k1.f.keys,← asc_key,h];rfl
    obtain ⟨v1,hv1⟩:=Option.isSome_iff_exists.mp hm
    obtain ⟨h0,h1,l1,a1,a2,a3,w1,a4,a5⟩:=k1.f.just c v1 hv1
    rw [h] at a1;cases a1
    obtain ⟨i,tl,e1,e2,rfl⟩:=laid_mem a2
    obtain ⟨tl2,d1,d2,d3⟩:=hix i tl e1
    have hin:=laid_in (t:=t') (p:=p) (k:=0) d1 (by rw [d3];exact e2)
    dsimp only at hl hw ih a3
    obtain ⟨W,g1,g2⟩:=sum_words (g:=lookV vs2) (costAt tls2) _ wss hl ih
    have g3:sumO (cur vs02 p m2) ((hls tl2.pt).map fun e=>(p++e.1,e.2))=some W:=by
      rw [← g1,d3]
      refine sumO_congr fun s hs=>?_
      unfold cur
      by_cases z:s.1=p
      · rw [if_pos z]
        obtain ⟨s1,s2⟩:=s
        dsimp only at z ⊢
        subst z
        exact (k2.v s2).symm
      · rw [if_neg z]
        rcases (k2.ok _ hin).there s (by dsimp only;rw [d3];exact hs) with q | q
        · exact absurd q z
        · exact (k2.old s q).symm
    obtain ⟨v2,q1,q2⟩:=k2.f.fix _ hin W g3
    dsimp only at q1 q2
    rw [d2,a3] at q1
    refine ⟨v2,by rw [k2.v c];exact q1,?_⟩
    have hcost:costAt tls2 ((0 + i:Nat):Int)=tl2.cost:=by
      unfold costAt
      rw [Nat.zero_add,atI_nat (xs:=tls2) (j:=i) d1]
    rw [List.map_cons,List.sum_cons,hcost]
    omega
def dear (tls:List Tl) (j:Nat) (tl:Tl):List Tl:=tls.take j++[tl]++tls.drop (j + 1)
theorem dear_at {tls:List Tl} {j:Nat} {tl:Tl} (hj:j < tls.length) (i:Nat):(dear tls j tl)[i]?=if i=j then some tl else tls[i]?:=by
  unfold dear
  have h1:(tls.take j).length=j:=by rw [List.length_take];omega
  by_cases e:i=j
  · subst e
    rw [if_pos rfl,List.append_assoc,List.getElem?_append_right (by omega),h1]
    simp
  · rw [if_neg e,List.append_assoc]
    by_cases h2:i < j
    · rw [List.getElem?_append_left (by omega),List.getElem?_take]
      simp [h2]
    · rw [List.getElem?_append_right (by omega),h1]
      obtain ⟨k,hk⟩:∃ k,i - j=k + 1:=⟨i - j - 1,by omega⟩
      rw [hk]
      show (tls.drop (j + 1))[k]?=_
      rw [List.getElem?_drop]
      congr 1;omega
theorem dear_len {tls:List Tl} {j:Nat} {tl:Tl} (hj:j < tls.length):(dear tls j tl).length=tls.length:=by
  unfold dear;simp;omega
theorem cost_dear {tls:List Tl} {j:Nat} {a tl:Tl} {more:Int} (ha:tls[j]?=some a) (hc:tl.cost=a.cost + more) {k:Int} (h0:0≤k) (h1:k < tls.length):costAt (dear tls j tl) k=costAt tls k + (if k=(j:Int) then more else 0):=by
  have hj:=(List.getElem?_eq_some_iff.mp ha).1
  obtain ⟨n,rfl⟩:∃ n:Nat,k=(n:Int):=⟨k.toNat,by omega⟩
  obtain ⟨b,hb⟩:∃ b,tls[n]?=some b:=⟨_,List.getElem?_eq_getElem (show n < tls.length by omega)⟩
  have h2:=dear_at (tl:=tl) hj n
  unfold costAt
  rw [atI_nat hb]
  by_cases e:n=j
  · subst e
    rw [if_pos rfl] at h2
    rw [atI_nat h2,if_pos rfl]
    rw [ha] at hb;cases hb
    exact hc
  · rw [if_neg e,hb] at h2
    rw [atI_nat h2,if_neg (fun z=>e (by omega))]
    dsimp only;omega
theorem sum_dear {tls:List Tl} {j:Nat} {a tl:Tl} {more:Int} (ha:tls[j]?=some a) (hc:tl.cost=a.cost + more):∀ w:List Int,wordOk tls w→(w.map (costAt (dear tls j tl))).sum=(w.map (costAt tls)).sum + more * (w.countP (· == (j:Int)):Nat)
  | [],_=>by simp
  | k :: w,h=>by
    obtain ⟨h0,h1⟩:=h k List.mem_cons_self
    have ih:=sum_dear ha hc w fun x hx=>h x (List.mem_cons_of_mem _ hx)
    rw [List.map_cons,List.map_cons,List.sum_cons,List.sum_cons,ih,cost_dear ha hc h0 h1,List.countP_cons]
    by_cases e:k=(j:Int)
    · subst e
      rw [if_pos rfl]
      simp only [beq_self_eq_true,if_true]
      push_cast
      rw [Int.mul_add]
      omega
    · rw [if_neg e]
      have:(k == (j:Int))=false:=by simp [e]
      simp only [this,Bool.false_eq_true,if_false,Nat.add_zero]
      omega
end K35
namespace K35
open PySem L2 U2
section
variable {P:Program} {w:World} {K:PySem.W.Frag} {mg:Str→Option Value} {base:Heap} {f d d2 fl:Addr} {fd:FuncData}
def rowU (cs:List Str) (vs:VS) (p:List Nat):U:=.tup [placeU p,.tup (cs.map fun c=>hadU (lookV vs (p,c)))]
def spPaper:USp:=fun us M Q=>∃ (cs:List Str) (tls:List Tl) (t:Tr) (vs:VS),us=[tabU cs tls,t.toU,vsD vs]∧t.dep≤12∧t.size≤1000∧cs.length≤6∧(∀ p∈t.places,∃ m,asc vs p=some m)∧Q (.lst (t.places.map (rowU cs vs))) M
local macro_rules | `(tactic| dsimp! only [$xs,*] $[$l]?) => `(tactic| simp only [$xs,*, Bool.false_eq_true, Bool.not_false, Bool.not_true, List.append_nil, List.cons_append, List.getElem?_cons_succ, List.getElem?_cons_zero, List.length_cons, List.length_nil, List.map_cons, List.map_nil, List.nil_append, List.replicate, List.set_cons_succ, List.set_cons_zero, Nat.add_sub_cancel, Nat.reduceAdd, Nat.reduceLeDiff, Nat.reduceSub, Nat.sub_self, Option.getD_some, Option.some.injEq, and_true, at0, at1, at2, at3, bAll, bInt, bInt1, bInt2, bIsi2, bLen, bList, bMax, bSorted, bSum, bTuple, cGe, cGt, cLe, cLt, capt, decide_false, decide_true, eqX_int, eqX_str, exists_eq_left', if_false, if_true, inSt, inTab, isNon, isi_NoneType_bool, isi_NoneType_dict, isi_NoneType_int, isi_NoneType_list, isi_NoneType_str, isi_NoneType_tuple, isi_bool_bool, isi_bool_dict, isi_bool_int, isi_bool_list, isi_bool_str, isi_bool_tuple, isi_dict_bool, isi_dict_dict, isi_dict_int, isi_dict_list, isi_dict_str, isi_dict_tuple, isi_int_bool, isi_int_dict, isi_int_int, isi_int_list, isi_int_str, isi_int_tuple, isi_list_bool, isi_list_dict, isi_list_int, isi_list_list, isi_list_str, isi_list_tuple, isi_str_bool, isi_str_dict, isi_str_int, isi_str_list, isi_str_str, isi_str_tuple, isi_tuple_bool, isi_tuple_dict, isi_tuple_int, isi_tuple_list, isi_tuple_str, isi_tuple_tuple, items, ixTab, mAppend, mClear, mExtend, mPop, mPopAt, mkL, mup_mup, mup_same, reduceCtorEq, startU, szl, true_and, typU, uAdd, uAddL, uAnd, uAndV, uBM, uBM0, uC, uCB, uCall, uCallV, uChain, uCons, uDGet, uDGet1, uDIn, uDNew, uEnum, uEnumL, uEqS, uI, uI0, uIf, uIn, uIsB2, uIsN, uIter, uIx, uListRev, uLst, uLtX, uMul, uNeS, uNil, uNoPart, uNot, uNotB, uNotN, uNotV, uOp, uOr, uOrV, uPart, uRepL, uRev, uRng1, uRng2, uSetFrom, uSlX, uTest, uTru, uTup, uUn, uVar, uZip, uZipL, vw_bl, vw_int, vw_lst, vw_non, vw_own, vw_str, vw_tup] $[$l]?)
set_option maxHeartbeats 1000000 in
theorem ok_as_paper (F:Fun K "as_paper" "as_paper" s_as_paper f fd) (hm:mg "as_paper"=some (.ref f)) (hNK:NoKey K) (m_tuple:mg "tuple"=none) (C_places:Callee P w K mg base 14 "places" (spPlacesT 12) []):Callee P w K mg base 15 "as_paper" spPaper []:=by
  refine callee_of F hm sc_as_paper (fun _ _ _ _ _ _ us hl=>match us,hl with | [_,_,_],_=>rfl) (fun us M Q h=>by obtain ⟨_,_,_,_,rfl,_⟩:=h;rfl) (uss_one (us_ret (ue_compC false ["place","table","values"] [0,2] (ui_seq (ue_call C_places (ua_cons (uv 1) ua_nil))) (ue_tup (ua_cons (uv 0) (ua_cons (ue_t b_tuple m_tuple (ua_cons (ue_comp false ["cls","values","place"] 1 [2,0] (ui_seq (ue_ix (uv 1) un_)) (ug_name (k:=1) 0 (by dsimp only [compD];decide +kernel)) uif_nil (ue_dget1 false nokF (ue_dget true (fun _=>hNK) (uv 1) (uv 2)) (uv 0))) ua_nil)) ua_nil)))))) ?_
  rintro us M Q ⟨cs,tls,t,vs,rfl,hd,hs,h6,hat,q⟩
  have hpl:=places_size t
  dsimp! only [uRet]
  refine uComp_list (S:=⟨none,t.places.map placeU⟩) (M1:=M) (t.places.map (rowU cs vs)) (fun R r=>⟨t,rfl,hd,hs,r⟩) (by simp) (small (by show (t.places.map placeU).length≤_;rw [List.length_map];omega)) (fun a e=>by cases e) ?_ (rt_same q)
  intro j x y hx hy M' hS R r'
  have hx':(t.places.map placeU)[j]?=some x:=hx
  rw [List.getElem?_map] at hx' hy
  cases hj:t.places[j]? with
  | none=>rw [hj] at hx';cases hx'
  | some p =>
    rw [hj] at hx' hy
    cases hx';cases hy
    obtain ⟨m,hm'⟩:=hat p (List.mem_of_getElem? hj)
    dsimp! only [hName]
    refine uComp_list (S:=⟨none,cs.map U.str⟩) (M1:=M') (cs.map fun c=>hadU (lookV vs (p,c))) (fun R r=>by dsimp! only [vw_tab,sortsU];exact r) (by simp) (small (by show (cs.map U.str).length≤_;rw [List.length_map];omega)) (fun a e=>by cases e) ?_ ?_
    · intro j x y hx hy M2 hS R r'
      have hx':(cs.map U.str)[j]?=some x:=hx
      rw [List.getElem?_map] at hx' hy
      cases hj:cs[j]? with
      | none=>rw [hj] at hx';cases hx'
      | some c =>
        rw [hj] at hx' hy
        cases hx';cases hy
        have l1:dLook true M2 (vsD vs) (placeU p)=some (some (valD m)):=by rw [look_Td p (dv_vs vs),vs_at,hm'];rfl
        have l2:dLook false M2 (valD m) (.str c)=some ((asc m c).map U.int):=by rw [look_K c (dv_val m),val_at]
        have l3:isDb M2 (valD m)=true:=isD_K (dv_val m)
        dsimp! only [hName,l1,l2,l3]
        have r2:R (hadU (lookV vs (p,c))) M2:=r'
        unfold lookV at r2
        dsimp only at r2
        rw [hm'] at r2
        have r3:R (hadU (asc m c)) M2:=r2
        cases hc:asc m c with
        | none=>rw [hc] at r3;exact r3
        | some a=>rw [hc] at r3;exact r3
    · dsimp! only [true_and]
      exact r'
def spLabels:USp:=fun us M Q=>∃ (cs:List Str) (tls:List Tl) (t:Tr),us=[tabU cs tls,t.toU]∧Tab cs tls∧t.dep≤12∧t.size≤1000∧∀ (vs:VS) (chs:CS),Bd t tls cs t.places.reverse vs chs→Q (.lst (t.places.map (rowU cs vs))) M
theorem ok_labels {fj:Addr} (F:Fun K "labels" "labels" s_labels f fd) (hm:mg "labels"=some (.ref f)) (v_joined_price:mg "joined_price"=some (.ref fj)) (C_as_paper:Callee P w K mg base 15 "as_paper" spPaper []) (C_least_of_all:Callee P w K mg base 15 "least_of_all" (spLeast fj) []):Callee P w K mg base 16 "labels" spLabels []:=by
  refine callee_of F hm sc_labels (fun _ _ _ _ _ _ us hl=>match us,hl with | [_,_],_=>rfl) (fun us M Q h=>by obtain ⟨_,_,_,rfl,_⟩:=h;rfl) (uss_one (us_ret (ue_call C_as_paper (ua_cons (uv 0) (ua_cons (uv 1) (ua_cons (ue_ix (ue_call C_least_of_all (ua_cons (uv 0) (ua_cons (uv 1) (ua_cons (ug_ref v_joined_price) ua_nil)))) un_) ua_nil)))))) ?_
  rintro us M Q ⟨cs,tls,t,rfl,hT,hd,hs,q⟩
  dsimp! only [uRet]
  refine ⟨cs,tls,t,rfl,hT,hd,hs,fun vs chs b=>?_⟩
  dsimp! only [true_and]
  refine ⟨cs,tls,t,vs,rfl,hd,hs,hT.cls.len,fun p hp=>?_,rt_same (q vs chs b)⟩
  have:(asc vs p).isSome=true:=by rw [asc_key,b.keysV];exact List.mem_reverse.mpr hp
  exact Option.isSome_iff_exists.mp this
def spLeastC:USp:=fun us M Q=>∃ (cs:List Str) (tls:List Tl) (t:Tr) (c:Str),us=[tabU cs tls,t.toU,.str c]∧Tab cs tls∧t.dep≤12∧t.size≤200∧∀ (vs:VS) (chs:CS),Bd t tls cs t.places.reverse vs chs→match lookV vs ([],c) with
  | none=>Q .non M
  | some v=>∀ (word:List Int) (r:Addr),M r=none→Wd (lookC chs) ([],c) word→wordOk tls word→(word.map (costAt tls)).sum=v→word.length≤1300→Q (.ref r) (mup M r (.lst (word.map U.int)))
theorem root_in (t:Tr):([]:List Nat)∈t.places:=place_at t [] t (at_nil t)
theorem ok_least {fj:Addr} (F:Fun K "least" "least" s_least f fd) (hm:mg "least"=some (.ref f)) (hNK:NoKey K) (v_joined_price:mg "joined_price"=some (.ref fj)) (C_least_of_all:Callee P w K mg base 15 "least_of_all" (spLeast fj) []) (C_chosen_cover:Callee P w K mg base 1 "chosen_cover" spChosen []):Callee P w K mg base 16 "least" spLeastC []:=by
  refine callee_of F hm sc_least (fun _ _ _ _ _ _ us hl=>match us,hl with | [_,_,_],_=>rfl) (fun us M Q h=>by obtain ⟨_,_,_,_,rfl,_⟩:=h;rfl) (uss_cons (us_set 3 sc_least.nd (ue_ix (ue_call C_least_of_all (ua_cons (uv 0) (ua_cons (uv 1) (ua_cons (ug_ref v_joined_price) ua_nil)))) un_))
  (uss_one (us_ret (ue_if (ut_c (k_din false nokF) (uv 2) (ue_dget true (fun _=>hNK) (uv 3) (ue_tup ua_nil))) (ue_call C_chosen_cover (ua_cons (uv 3) (ua_cons (uv 2) ua_nil))) uo_)))) ?_
  rintro us M Q ⟨cs,tls,t,c,rfl,hT,hd,hs,q⟩
  refine seq_gen fun V hV=>?_
  dsimp! only [uAsg,hName]
  refine ⟨cs,tls,t,rfl,hT,hd,by omega,fun vs chs b=>?_⟩
  dsimp! only [true_and]
  have q2:=q vs chs b
  have hin:∃ ch,asc chs []=some ch:=by
    have:(asc chs []).isSome=true:=by rw [asc_key,b.keysC];exact List.mem_reverse.mpr (root_in t)
    exact Option.isSome_iff_exists.mp this
  obtain ⟨ch,hch⟩:=hin
  have hlk:lookC chs ([],c)=asc ch c:=by unfold lookC;rw [hch];rfl
  have l1:dLook true M (csD chs) (.tup [])=some (some (choD ch)):=by
    have:=look_Td (M:=M) [] (dv_cs chs)
    rw [cs_at,hch] at this
    exact this
  have l2:dLook false M (choD ch) (.str c)=some ((asc ch c).map chU):=by rw [look_K c (dv_cho ch),cho_at]
  have hboth:=b.both ([],c)
  rw [hlk] at hboth
  subst hV
  dsimp! only [uRet,l1,l2]
  cases hv:lookV vs ([],c) with
  | none =>
    rw [hv] at q2 hboth
    cases hc:asc ch c with
    | some l=>rw [hc] at hboth;cases hboth
    | none =>
      dsimp! only [Option.map_none,Option.isSome_none]
      exact rt_same q2
  | some v =>
    rw [hv] at q2 hboth
    cases hc:asc ch c with
    | none=>rw [hc] at hboth;cases hboth
    | some l =>
      dsimp! only [Option.map_some,Option.isSome_some]
      obtain ⟨rk,word,seen,cv⟩:=b.cover hT ([],c) v hv
      have k1:=cv.len t (at_nil t)
      have k2:=nodup_le seen cs cv.nd cv.sub
      have k3:=hT.cls.len
      refine ⟨chs,c,word,rfl,fun s l h=>(b.spots hT s l h).1,cv.wd,by omega,fun r hr=>?_⟩
      exact rt_same (q2 word r hr cv.wd cv.ok (cv.cost v hv) (by omega))
def labU (cs:List Str) (f:Str→Option Int):U:=.tup (cs.map fun c=>hadU (f c))
def spUnder:USp:=fun us M Q=>∃ (cs:List Str) (f g:Str→Option Int),us=[labU cs f,labU cs g]∧(∀ c∈cs,∀ v,g c=some v→∃ w,f c=some w∧w≤v)∧Q (.bl true) M
theorem ok_under (F:Fun K "_law_under" "_law_under" s_law_under f fd) (hm:mg "_law_under"=some (.ref f)) (m_zip:mg "zip"=none):Callee P w K mg base 1 "_law_under" spUnder []:=by
  refine callee_of F hm sc_law_under (fun _ _ _ _ _ _ us hl=>match us,hl with | [_,_],_=>rfl) (fun us M Q h=>by obtain ⟨_,_,_,rfl,_⟩:=h;rfl) (uss_cons (us_for (ui_zip m_zip (ua_cons (uv 0) (ua_cons (uv 1) ua_nil))) (ug_tup (n:=2) (ugs_cons (ug_name (k:=1000) 2 sc_law_under.nd) (ugs_cons (ug_name (k:=1000) 3 sc_law_under.nd) ugs_nil)))
  (uss_one (us_if (PWU.pt (uw_and (ut_c k_notN (uv 3) uo_) (uw_and1 (PWU.pt (uw_or (ut_c k_isN (uv 2) uo_) (uw_or1 (ut_c k_gt (uv 2) (uv 3))))))))
  (uss_one (us_ret ub_))
  uss_nil)))
  (uss_one (us_ret ub_))) ?_
  rintro us M Q ⟨cs,f,g,rfl,hu,q⟩
  refine seq_gen fun V hV=>?_
  refine for_by (S:=⟨none,zipped (cs.map fun c=>hadU (f c)) (cs.map fun c=>hadU (g c))⟩) (M1:=M) (fun R r=>by dsimp! only [labU];exact r)
    (fun i τ Mi=>∃ z2 z3:Option U,τ=[some (labU cs f),some (labU cs g),z2,z3]∧Mi=M) ⟨none,none,rfl,rfl⟩ (fun i τ M' _ a e=>by cases e) ?_ ?_
  · rintro i x τ Mi e ⟨z2,z3,rfl,rfl⟩
    obtain ⟨u,w,h1,h2,rfl⟩:=zipped_get e
    rw [List.getElem?_map] at h1 h2
    cases hj:cs[i]? with
    | none=>rw [hj] at h1;cases h1
    | some c =>
      rw [hj] at h1 h2
      cases h1;cases h2
      have hc:=hu c (List.mem_of_getElem? hj)
      refine ⟨rfl,?_⟩
      dsimp! only [hTup,hCons,hNil,hName]
      refine if_gen fun A B hA hB=>?_
      cases hg:g c with
      | none =>
        dsimp! only [hadU]
        subst hB
        simp only [uNext]
        first | exact ⟨_,_,rfl,rfl⟩ | exact ⟨_,_,rfl,trivial⟩
      | some v =>
        obtain ⟨w,hf,hle⟩:=hc v hg
        have hgt:¬ w > v:=by omega
        dsimp! only [hf,hadU,hgt]
        subst hB
        simp only [uNext]
        first | exact ⟨_,_,rfl,rfl⟩ | exact ⟨_,_,rfl,trivial⟩
  · rintro τ Mi ⟨z2,z3,rfl,rfl⟩
    subst hV
    dsimp! only [uRet]
    exact rt_same q
theorem cut_lo {α:Type} (l:List α) {j:Nat} (h:j≤l.length):cutU l none (some (j:Int))=l.take j:=by
  unfold cutU
  have e:HT.sIx l.length l.length (some (j:Int))=j:=by
    simp only [HT.sIx];rw [if_neg (by omega)];omega
  rw [e];simp [HT.sIx]
theorem cut_hi {α:Type} (l:List α) {j:Nat} (h:j≤l.length):cutU l (some (j:Int)) none=l.drop j:=by
  unfold cutU
  have e:HT.sIx l.length 0 (some (j:Int))=j:=by
    simp only [HT.sIx];rw [if_neg (by omega)];omega
  have e2:HT.sIx l.length l.length none=l.length:=rfl
  rw [e,e2,List.take_of_length_le (by rw [List.length_drop];omega)]
theorem first_row (cs:List Str) (vs:VS) (t:Tr):t.places.map (rowU cs vs)=rowU cs vs [] :: (t.places.map (rowU cs vs)).tail:=by
  rw [placesT_eq];rfl
def spDearer:USp:=fun us M Q=>∃ (t:Addr) (ns:List Int) (a b c:Int) (cs:List Str) (tls:List Tl) (tr:Tr) (vs:VS) (chs:CS),us=[.ref t,tabU cs tls,tr.toU,labU cs fun c=>lookV vs ([],c)]∧M t=some (.lst (tapeU ns a b c))∧Tab cs tls∧1≤tls.length∧tr.dep≤12∧tr.size≤200∧Bd tr tls cs tr.places.reverse vs chs∧0≤a∧a≤30000∧∀ a' b' c':Int,Q (.bl true) (mup M t (.lst (tapeU ns a' b' c')))
set_option maxHeartbeats 2000000 in
theorem ok_dearer (F:Fun K "_law_dearer" "_law_dearer" s_law_dearer f fd) (hm:mg "_law_dearer"=some (.ref f)) (m_len:mg "len"=none) (m_enumerate:mg "enumerate"=none) (C_law_draw:Callee P w K mg base 1 "_law_draw" spDraw []) (C_labels:Callee P w K mg base 16 "labels" spLabels []) (C_law_under:Callee P w K mg base 1 "_law_under" spUnder []) (C_least:Callee P w K mg base 16 "least" spLeastC []):Callee P w K mg base 17 "_law_dearer" spDearer []:=by
  refine callee_of F hm sc_law_dearer (fun _ _ _ _ _ _ us hl=>match us,hl with | [_,_,_,_],_=>rfl) (fun us M Q h=>by obtain ⟨_,_,_,_,_,_,_,_,_,_,rfl,_⟩:=h;rfl) (uss_cons (us_set 4 sc_law_dearer.nd (ue_call C_law_draw (ua_cons (uv 0) (ua_cons (ue_b b_len m_len (ua_cons (ue_ix (uv 1) un_) ua_nil)) ua_nil))))
  (uss_cons (us_set 5 sc_law_dearer.nd (ue_add (own:=false) un_ (ue_call C_law_draw (ua_cons (uv 0) (ua_cons un_ ua_nil)))))
  (uss_cons (us_asg (ue_ix (ue_ix (uv 1) un_) (uv 4)) (ug_tup (n:=4) (ugs_cons (ug_name (k:=1000) 6 sc_law_dearer.nd) (ugs_cons (ug_name (k:=1000) 7 sc_law_dearer.nd) (ugs_cons (ug_name (k:=1000) 8 sc_law_dearer.nd) (ugs_cons (ug_name (k:=1000) 9 sc_law_dearer.nd) ugs_nil))))))
  (uss_cons (us_set 10 sc_law_dearer.nd (ue_tup (ua_cons (uv 6) (ua_cons (uv 7) (ua_cons (uv 8) (ua_cons (ue_add (own:=false) (uv 9) (uv 5)) ua_nil))))))
  (uss_cons (us_if (ut_c k_gt (ue_add (own:=false) (uv 9) (uv 5)) un_)
  (uss_one (us_ret ub_))
  uss_nil)
  (uss_cons (us_set 11 sc_law_dearer.nd (ue_tup (ua_cons (ue_ix (uv 1) un_) (ua_cons (ue_add (own:=false) (ue_add (own:=false) (ue_slX (own:=false) (ue_ix (uv 1) un_) uo_none (uo_some (uv 4))) (ue_tup (ua_cons (uv 10) ua_nil))) (ue_slX (own:=false) (ue_ix (uv 1) un_) (uo_some (ue_add (own:=false) (uv 4) un_)) uo_none)) ua_nil))))
  (uss_cons (us_set 12 sc_law_dearer.nd (ue_ix (ue_ix (ue_call C_labels (ua_cons (uv 11) (ua_cons (uv 2) ua_nil))) un_) un_))
  (uss_cons (us_if (ut_not (ut_val (ue_call C_law_under (ua_cons (uv 3) (ua_cons (uv 12) ua_nil)))))
  (uss_one (us_ret ub_))
  uss_nil)
  (uss_cons (us_for (ui_enumerate m_enumerate (ua_cons (ue_ix (uv 1) un_) ua_nil)) (ug_tup (n:=2) (ugs_cons (ug_name (k:=1000) 13 sc_law_dearer.nd) (ugs_cons (ug_name (k:=1000) 14 sc_law_dearer.nd) ugs_nil)))
  (uss_cons (us_if (ut_c k_neX (ue_c k_isN (ue_ix (uv 12) (uv 13)) uo_) (ue_c k_isN (ue_ix (uv 3) (uv 13)) uo_))
  (uss_one (us_ret ub_))
  uss_nil)
  (uss_one (us_if (ut_c k_notN (ue_ix (uv 12) (uv 13)) uo_)
  (uss_cons (us_set 15 sc_law_dearer.nd (ue_count (ue_call C_least (ua_cons (uv 1) (ua_cons (uv 2) (ua_cons (uv 14) ua_nil)))) (ua_cons (uv 4) ua_nil)))
  (uss_one (us_if (ut_c k_gt (ue_ix (uv 12) (uv 13)) (ue_add (own:=false) (ue_ix (uv 3) (uv 13)) (ue_mulX (own:=false) (uv 5) (uv 15))))
  (uss_one (us_ret ub_))
  uss_nil)))
  uss_nil))))
  (uss_one (us_ret ub_))))))))))) ?_
  rintro us M Q ⟨t,ns,a,b,c,cs,tls,tr,vs,chs,rfl,hMt,hT,htl,hd,hs,bd,h0,h1,q⟩
  have hlen:=hT.len
  refine seq_gen fun V hV=>?_
  dsimp! only [uAsg,hName,vw_tab,List.length_map]
  refine ⟨t,ns,a,b,c,tls.length,rfl,by omega,by omega,hMt,h0,by omega,fun n a1 b1 c1 n0 n1 g1 g2=>?_⟩
  obtain ⟨j,rfl⟩:∃ j:Nat,n=(j:Int):=⟨n.toNat,by omega⟩
  have hj:j < tls.length:=by omega
  subst hV
  refine seq_gen fun V hV=>?_
  dsimp! only [uAsg,hName]
  refine ⟨t,ns,a1,b1,c1,9,rfl,by decide,by decide,mup_same,by omega,by omega,fun k a2 b2 c2 k0 k1 g3 g4=>?_⟩
  rw [mup_mup]
  dsimp! only [true_and]
  obtain ⟨tl,hmem,_,hat,hix⟩:=tile_at (tiles:=tls) (k:=(j:Int)) (by omega) (by omega)
  rw [Int.toNat_natCast] at hix
  have hg:=hT.good tl hmem
  have hc0:0≤tl.cost:=hg.2.2.2.1
  have hc1:tl.cost≤1000:=hg.2.2.2.2
  subst hV
  refine seq_gen fun V hV=>?_
  dsimp! only [uAsg,hName,hTup,hCons,hNil,vw_tab,hat,vw_tl,Tl.toU]
  subst hV
  refine seq_gen fun V hV=>?_
  dsimp! only [uAsg,hName]
  generalize hMt2:mup M t (.lst (tapeU ns a2 b2 c2))=Mt
  have qq:Q (.bl true) Mt:=by rw [← hMt2];exact q a2 b2 c2
  have hmore:(0:Int)≤1 + k∧1 + k≤9:=by omega
  generalize 1 + k=more at hmore
  subst hV
  refine seq_gen fun V hV=>?_
  refine if_gen fun A B hA hB=>?_
  dsimp! only [true_and]
  refine ite2 (fun _=>?_) (fun hle=>?_)
  · subst hA
    dsimp! only [uRet]
    exact rt_same qq
  subst hB
  simp only [uNext]
  have hle':tl.cost + more≤1000:=by simpa using hle
  generalize htl2:(⟨tl.name,tl.cls,tl.pt,tl.cost + more⟩:Tl)=tl2
  have hcost2:tl2.cost=tl.cost + more:=by rw [← htl2]
  have htu:U.tup [.str tl.name,.str tl.cls,tl.pt.toU,.int (tl.cost + more)]=tl2.toU:=by rw [← htl2];rfl
  rw [htu]
  have eD:(tls.take j).map Tl.toU++[tl2.toU]++(tls.drop (j + 1)).map Tl.toU=(dear tls j tl2).map Tl.toU:=by unfold dear;simp
  have eD1:((j:Int) + 1)=((j + 1:Nat):Int):=by push_cast;rfl
  have hT2:Tab cs (dear tls j tl2):=by
    refine ⟨hT.cls,fun x hx=>?_,by rw [dear_len hj];exact hlen⟩
    unfold dear at hx
    rcases List.mem_append.mp hx with hx | hx
    · rcases List.mem_append.mp hx with hx | hx
      · exact hT.good x (List.mem_of_mem_take hx)
      · cases List.mem_singleton.mp hx
        rw [← htl2]
        exact ⟨hg.1,hg.2.1,hg.2.2.1,by show 0≤tl.cost + more;omega,by show tl.cost + more≤1000;omega⟩
    · exact hT.good x (List.mem_of_mem_drop hx)
  subst hV
  refine seq_gen fun V hV=>?_
  dsimp! only [uAsg,hName,vw_tab,eD1,cut_map,cut_lo tls (Nat.le_of_lt hj),cut_hi tls (show j + 1≤tls.length by omega)]
  refine ⟨small (by rw [List.length_map,List.length_take];omega),small (by rw [List.length_append,List.length_map,List.length_map,List.length_take,List.length_drop];simp;omega),?_⟩
  rw [eD]
  have eT:U.tup [sortsU cs,.tup ((dear tls j tl2).map Tl.toU)]=tabU cs (dear tls j tl2):=rfl
  rw [eT]
  subst hV
  refine seq_gen fun V hV=>?_
  dsimp! only [uAsg,hName]
  refine ⟨cs,dear tls j tl2,tr,rfl,hT2,hd,by omega,fun vs2 chs2 bd2=>?_⟩
  rw [first_row]
  dsimp! only [rowU]
  have eL:U.tup (cs.map fun c=>hadU (lookV vs2 ([],c)))=labU cs fun c=>lookV vs2 ([],c):=rfl
  rw [eL]
  have under:∀ c v,lookV vs2 ([],c)=some v→∃ w,lookV vs ([],c)=some w∧w≤v:=fun c v h =>
    bd2.leS hT2 hT bd (fun x hx=>by
      obtain ⟨i,hi⟩:=List.getElem?_of_mem hx
      rw [dear_at hj i] at hi
      by_cases e:i=j
      · rw [if_pos e] at hi
        cases hi
        refine ⟨tl,hmem,?_,?_,by rw [hcost2];omega⟩ <;> rw [← htl2]
      · rw [if_neg e] at hi
        exact ⟨x,List.mem_of_getElem? hi,rfl,rfl,Int.le_refl _⟩) _ tr [] [] (Nat.le_refl _) (at_nil tr) (at_nil tr) c v h
  have ixs:∀ (i:Nat) x,tls[i]?=some x→∃ x2,(dear tls j tl2)[i]?=some x2∧x2.cls=x.cls∧x2.pt=x.pt:=fun i x hx=>by
    rw [dear_at hj i]
    by_cases e:i=j
    · subst e
      rw [hix] at hx;cases hx
      rw [if_pos rfl]
      refine ⟨tl2,rfl,?_,?_⟩ <;> rw [← htl2]
    · rw [if_neg e];exact ⟨x,hx,rfl,rfl⟩
  subst hV
  refine seq_gen fun V hV=>?_
  refine if_gen fun A B hA hB=>?_
  dsimp! only [true_and]
  refine ⟨cs,_,_,rfl,fun c _ v h=>under c v h,?_⟩
  dsimp! only [true_and]
  subst hB
  simp only [uNext]
  subst hV
  refine seq_gen fun V hV=>?_
  refine for_by (S:=⟨none,numbered (cs.map U.str)⟩) (M1:=Mt) (fun R r=>by dsimp! only [vw_tab,sortsU];exact r)
    (fun i τ Mi=>∃ z13 z14 z15:Option U,τ=[some (.ref t),some (tabU cs tls),some tr.toU,some (labU cs fun c=>lookV vs ([],c)),some (.int j),some (.int more),some (.str tl.name),some (.str tl.cls),some tl.pt.toU,some (.int tl.cost),some tl2.toU,some (tabU cs (dear tls j tl2)),some (labU cs fun c=>lookV vs2 ([],c)),z13,z14,z15]∧Sub Mt Mi) ⟨none,none,none,rfl,Sub.refl Mt⟩ (fun i τ M' _ a e=>by cases e) ?_ ?_
  · rintro i x τ Mi e ⟨z13,z14,z15,rfl,hS⟩
    obtain ⟨u,hu,rfl⟩:=numbered_get e
    rw [List.getElem?_map] at hu
    cases hjc:cs[i]? with
    | none=>rw [hjc] at hu;cases hu
    | some cl =>
      rw [hjc] at hu
      cases hu
      have at1':atI (cs.map fun c=>hadU (lookV vs ([],c))) (i:Int)=some (hadU (lookV vs ([],cl))):=atI_nat (by rw [List.getElem?_map,hjc];rfl)
      have at2':atI (cs.map fun c=>hadU (lookV vs2 ([],c))) (i:Int)=some (hadU (lookV vs2 ([],cl))):=atI_nat (by rw [List.getElem?_map,hjc];rfl)
      have both:(lookV vs2 ([],cl)=none∧lookV vs ([],cl)=none)∨∃ v2 w,lookV vs2 ([],cl)=some v2∧lookV vs ([],cl)=some w:=by
        cases e2:lookV vs2 ([],cl) with
        | none =>
          cases e1:lookV vs ([],cl) with
          | none=>exact .inl ⟨rfl,rfl⟩
          | some v =>
            obtain ⟨rk,word,seen,cv⟩:=bd.cover hT ([],cl) v e1
            obtain ⟨v2,h2,_⟩:=word_le hT hT2 bd bd2 ixs cv.wd
            rw [e2] at h2;cases h2
        | some v2 =>
          obtain ⟨w,h,_⟩:=under cl v2 e2
          exact .inr ⟨v2,w,rfl,h⟩
      refine ⟨rfl,?_⟩
      dsimp! only [hTup,hCons,hNil,hName]
      refine seq_gen fun V1 hV1=>?_
      refine if_gen fun A B hA hB=>?_
      rcases both with ⟨e2,e1⟩ | ⟨v2,w,e2,e1⟩
      · rw [e1] at at1'
        rw [e2] at at2'
        have hU1:hadU (none:Option Int)=.non:=rfl
        have hU2:∀ a:Int,hadU (some a)=.int a:=fun _=>rfl
        simp only [hU1,hU2] at at1' at2'
        dsimp! only [labU,at1',at2',eqX_bl]
        subst hB
        simp only [uNext]
        subst hV1
        refine if_gen fun A B hA hB=>?_
        dsimp! only [labU,at1',at2']
        subst hB
        simp only [uNext]
        exact ⟨_,_,_,rfl,hS⟩
      · rw [e1] at at1'
        rw [e2] at at2'
        have hU1:hadU (none:Option Int)=.non:=rfl
        have hU2:∀ a:Int,hadU (some a)=.int a:=fun _=>rfl
        simp only [hU1,hU2] at at1' at2'
        dsimp! only [labU,at1',at2',eqX_bl]
        subst hB
        simp only [uNext]
        subst hV1
        refine if_gen fun A B hA hB=>?_
        dsimp! only [labU,at1',at2']
        subst hA
        refine seq_gen fun V1 hV1=>?_
        dsimp! only [uAsg,hName]
        refine ⟨cs,tls,tr,cl,rfl,hT,hd,hs,fun vs3 chs3 bd3=>?_⟩
        rw [show lookV vs3 ([],cl)=some w by rw [bd3.uniq bd ([],cl)];exact e1]
        dsimp only
        intro word r hr hwd hok hcost hwl
        have vr:view (mup Mi r (.lst (word.map U.int))) (.ref r)=.lst (word.map U.int):=view_ref mup_same
        dsimp! only [mCount,vr]
        refine ⟨⟨_,vr⟩,word,intsU_map word,?_⟩
        obtain ⟨v4,h4,h5⟩:=word_le hT hT2 bd3 bd2 ixs hwd
        rw [e2] at h4;cases h4
        rw [sum_dear hix hcost2 word hok,hcost] at h5
        have hgt:¬ v2 > w + more * ((word.countP (· == (j:Int)):Nat):Int):=by omega
        have hMtr:Mt r=none:=by
          cases e:Mt r with
          | none=>rfl
          | some o=>rw [hS r o e] at hr;cases hr
        subst hV1
        refine if_gen fun A B hA hB=>?_
        dsimp! only [labU,at1',at2',hgt]
        refine ⟨.inl (.inl ⟨by omega,by omega⟩),?_⟩
        subst hB
        simp only [uNext]
        exact ⟨_,_,_,rfl,hS.mup hMtr⟩
  · rintro τ Mi ⟨z13,z14,z15,rfl,hS⟩
    subst hV
    dsimp! only [uRet]
    exact ⟨_,Mt,hS,.inl rfl,qq⟩
theorem toDs_map {α:Type} {g:α→U} {gd:α→PyData}:∀ l:List α,(∀ x∈l,toD (g x)=some (gd x))→toDs (l.map g)=some (l.map gd)
  | [],_=>rfl
  | x :: l,h=>by
    simp only [List.map_cons,toDs]
    rw [h x List.mem_cons_self,toDs_map l fun y hy=>h y (List.mem_cons_of_mem _ hy)]
theorem lay_map {α:Type} {gd:α→PyData}:∀ l:List α,(∀ x∈l,(gd x).canLay0=true)→PyData.canLayAll0 (l.map gd)=true
  | [],_=>rfl
  | x :: l,h=>by
    simp only [List.map_cons,PyData.canLayAll0]
    rw [h x List.mem_cons_self,lay_map l fun y hy=>h y (List.mem_cons_of_mem _ hy)];rfl
theorem dep_map {α:Type} {gd:α→PyData} {n:Nat}:∀ l:List α,(∀ x∈l,(gd x).depth≤n)→PyData.depthAll (l.map gd)≤n
  | [],_=>by simp [PyData.depthAll]
  | x :: l,h=>by
    simp only [List.map_cons,PyData.depthAll]
    have:=h x List.mem_cons_self
    have:=dep_map l fun y hy=>h y (List.mem_cons_of_mem _ hy)
    omega
def hadD:Option Int→PyData
  | some a=>.int a
  | none=>.none
def labD (cs:List Str) (f:Str→Option Int):PyData:=.tuple (cs.map fun c=>hadD (f c))
def placeD (p:List Nat):PyData:=.tuple (p.map fun (n:Nat)=>.int (n:Int))
theorem toD_had (o:Option Int):toD (hadU o)=some (hadD o):=by cases o <;> rfl
theorem toD_lab (cs:List Str) (f:Str→Option Int):toD (labU cs f)=some (labD cs f):=by
  simp only [labU,toD]
  rw [toDs_map (gd:=fun c=>hadD (f c)) cs fun c _=>toD_had _];rfl
theorem lay_lab (cs:List Str) (f:Str→Option Int):(labD cs f).canLay0=true:=by
  simp only [labD,PyData.canLay0]
  exact lay_map cs fun c _=>by cases f c <;> rfl
theorem dep_lab (cs:List Str) (f:Str→Option Int):(labD cs f).depth≤1:=by
  simp only [labD,PyData.depth]
  have:=dep_map (gd:=fun c=>hadD (f c)) (n:=0) cs fun c _=>by cases f c <;> simp [hadD,PyData.depth]
  omega
theorem toD_place (p:List Nat):toD (placeU p)=some (placeD p):=by
  simp only [placeU,toD]
  rw [toDs_map (gd:=fun n:Nat=>PyData.int (n:Int)) p fun c _=>rfl];rfl
theorem lay_place (p:List Nat):(placeD p).canLay0=true:=by
  simp only [placeD,PyData.canLay0]
  exact lay_map p fun c _=>rfl
theorem dep_place (p:List Nat):(placeD p).depth≤1:=by
  simp only [placeD,PyData.depth]
  have:=dep_map (gd:=fun n:Nat=>PyData.int (n:Int)) (n:=0) p fun c _=>by simp [PyData.depth]
  omega
def rowD (cs:List Str) (vs:VS) (p:List Nat):PyData:=.tuple [placeD p,labD cs fun c=>lookV vs (p,c)]
theorem row_lab (cs:List Str) (vs:VS) (p:List Nat):rowU cs vs p=.tup [placeU p,labU cs fun c=>lookV vs (p,c)]:=rfl
theorem toD_row (cs:List Str) (vs:VS) (p:List Nat):toD (rowU cs vs p)=some (rowD cs vs p):=by
  rw [row_lab]
  simp only [toD,toDs,toD_place,toD_lab];rfl
theorem lay_row (cs:List Str) (vs:VS) (p:List Nat):(rowD cs vs p).canLay0=true:=by
  simp only [rowD,PyData.canLay0,PyData.canLayAll0,lay_place,lay_lab];rfl
theorem dep_row (cs:List Str) (vs:VS) (p:List Nat):(rowD cs vs p).depth≤2:=by
  have h1:=dep_place p
  have h2:=dep_lab cs fun c=>lookV vs (p,c)
  simp only [rowD,PyData.depth,PyData.depthAll]
  omega
theorem ne_self {u:U} {d:PyData} {M:MHp} {Q:UK} (hn:eqS u u=none) (h:topD M u=some d) (hl:d.canLay0=true) (hd:d.depth≤64) (q:Q (.bl false) M):uEqX true u u M Q:=by
  unfold uEqX
  rw [hn]
  refine ⟨d,d,h,h,hl,hl,by omega,?_⟩
  rw [PySem.SeqAt.eqv_refl d hl]
  exact q
theorem ne_place {p:List Nat} {M:MHp} {Q:UK} (q:Q (.bl false) M):uEqX true (placeU p) (placeU p) M Q:=ne_self rfl (toD_place p) (lay_place p) (by have:=dep_place p;omega) q
theorem ne_lab {cs:List Str} {f:Str→Option Int} {M:MHp} {Q:UK} (q:Q (.bl false) M):uEqX true (labU cs f) (labU cs f) M Q:=ne_self rfl (toD_lab cs f) (lay_lab cs f) (by have:=dep_lab cs f;omega) q
theorem ne_rows {cs:List Str} {vs:VS} {ps:List (List Nat)} {M:MHp} {Q:UK} (q:Q (.bl false) M):uEqX true (.lst (ps.map (rowU cs vs))) (.lst (ps.map (rowU cs vs))) M Q:=by
  refine ne_self (d:=.list (ps.map (rowD cs vs))) rfl ?_ ?_ ?_ q
  · simp only [topD,toD]
    rw [toDs_map (gd:=rowD cs vs) ps fun p _=>toD_row cs vs p];rfl
  · simp only [PyData.canLay0];exact lay_map ps fun p _=>lay_row cs vs p
  · simp only [PyData.depth]
    have:=dep_map (gd:=rowD cs vs) (n:=2) ps fun p _=>dep_row cs vs p
    omega
theorem at_dep:∀ (t:Tr) (p:List Nat) (t':Tr),t.at p=some t'→t'.dep≤t.dep
  | t,[],t',h=>by rw [at_nil] at h;cases h;omega
  | .turn a,0 :: r,t',h=>by
    have h':a.at r=some t':=h
    have:=at_dep a r t' h'
    simp only [Tr.dep];omega
  | .two _ a b,0 :: r,t',h=>by
    have h':a.at r=some t':=h
    have:=at_dep a r t' h'
    simp only [Tr.dep];omega
  | .two _ a b,1 :: r,t',h=>by
    have h':b.at r=some t':=h
    have:=at_dep b r t' h'
    simp only [Tr.dep];omega
  | .num _,_ :: _,t',h=>by simp [Tr.at] at h
  | .name _,_ :: _,t',h=>by simp [Tr.at] at h
  | .turn a,(k + 1) :: r,t',h=>by simp [Tr.at] at h
  | .two _ a b,(k + 2) :: r,t',h=>by simp [Tr.at] at h
def ins (tls:List Tl) (j:Nat) (tl:Tl):List Tl:=tls.take j++[tl]++tls.drop j
theorem mem_ins {tls:List Tl} {j:Nat} {tl x:Tl}:x∈ins tls j tl ↔ x∈tls∨x=tl:=by
  unfold ins
  constructor
  · intro h
    rcases List.mem_append.mp h with h | h
    · rcases List.mem_append.mp h with h | h
      · exact .inl (List.mem_of_mem_take h)
      · exact .inr (List.mem_singleton.mp h)
    · exact .inl (List.mem_of_mem_drop h)
  · rintro (h | h)
    · rw [← List.take_append_drop j tls] at h
      rcases List.mem_append.mp h with h | h
      · exact List.mem_append_left _ (List.mem_append_left _ h)
      · exact List.mem_append_right _ h
    · exact List.mem_append_left _ (List.mem_append_right _ (List.mem_singleton.mpr h))
def spLaw:USp:=fun us M Q=>∃ ns:List Int,us=[.lst (ns.map .int)]∧ns.length≤63∧Q (.bl true) M
theorem Sub.st2 {M M1:MHp} {t r:Addr} {T R:List U} (h:Sub M M1) (ht:M t=none) (hr:M r=none):Sub M (st2 M1 t r T R):=(h.mup ht).mup hr
set_option maxHeartbeats 2000000 in
theorem ok_law (F:Fun K "law" "law" s_law f fd) (m_list:mg "list"=none) (m_len:mg "len"=none) (m_zip:mg "zip"=none) (m_tuple:mg "tuple"=none) (m_reversed:mg "reversed"=none) (C_law_draw:Callee P w K mg base 1 "_law_draw" spDraw []) (C_law_table:Callee P w K mg base 8 "_law_table" spTable []) (C_law_tree:Callee P w K mg base 14 "_law_tree" (spTreeL 12) []) (C_labels:Callee P w K mg base 16 "labels" spLabels []) (C_law_tile:Callee P w K mg base 7 "_law_tile" spTile []) (C_law_under:Callee P w K mg base 1 "_law_under" spUnder []) (C_law_dearer:Callee P w K mg base 17 "_law_dearer" spDearer []) (C_tree_at:Callee P w K mg base 3 "tree_at" spAtU []):FnOk P w K mg base CX0 18 f fd ["script"] (liftSp K spLaw):=by
  refine fnok_of F sc_law (fun us M Q h=>by obtain ⟨x,rfl,_⟩:=h;rfl) (uss_cons (us_set 1 sc_law.nd (ue_lst (own:=true) (ua_cons (ue_t (b_list (own:=false)) m_list (ua_cons (ue_slX (own:=false) (uv 0) uo_none (uo_some un_)) ua_nil)) (ua_cons un_ (ua_cons un_ (ua_cons un_ ua_nil))))))
  (uss_cons (us_set 2 sc_law.nd (ue_call C_law_table (ua_cons (uv 1) ua_nil)))
  (uss_cons (us_set 3 sc_law.nd (ue_call C_law_tree (ua_cons (uv 1) (ua_cons (ue_add (own:=false) un_ (ue_call C_law_draw (ua_cons (uv 1) (ua_cons un_ ua_nil)))) (ua_cons (ue_lst (own:=true) (ua_cons un_ ua_nil)) ua_nil)))))
  (uss_cons (us_set 4 sc_law.nd (ue_call C_labels (ua_cons (uv 2) (ua_cons (uv 3) ua_nil))))
  (uss_cons (us_set 5 sc_law.nd (ue_call C_law_tile (ua_cons (uv 1) (ua_cons (ue_ix (uv 2) un_) ua_nil))))
  (uss_cons (us_set 6 sc_law.nd (ue_call C_law_draw (ua_cons (uv 1) (ua_cons (ue_add (own:=false) (ue_b b_len m_len (ua_cons (ue_ix (uv 2) un_) ua_nil)) un_) ua_nil))))
  (uss_cons (us_set 7 sc_law.nd (ue_add (own:=false) (ue_add (own:=false) (ue_slX (own:=false) (ue_ix (uv 2) un_) uo_none (uo_some (uv 6))) (ue_tup (ua_cons (ue_add (own:=false) (ue_tup (ua_cons us_ ua_nil)) (uv 5)) ua_nil))) (ue_slX (own:=false) (ue_ix (uv 2) un_) (uo_some (uv 6)) uo_none)))
  (uss_cons (us_set 8 sc_law.nd (ue_call C_labels (ua_cons (ue_tup (ua_cons (ue_ix (uv 2) un_) (ua_cons (uv 7) ua_nil))) (ua_cons (uv 3) ua_nil))))
  (uss_cons (us_for (ui_zipLL m_zip (ua_cons (uv 4) (ua_cons (uv 8) ua_nil))) (ug_tup (n:=2) (ugs_cons (ug_name (k:=1000) 9 sc_law.nd) (ugs_cons (ug_name (k:=1000) 10 sc_law.nd) ugs_nil)))
  (uss_one (us_if (PWU.pt (uw_or (ut_c k_neX (ue_ix (uv 9) un_) (ue_ix (uv 10) un_)) (uw_or1 (ut_not (ut_val (ue_call C_law_under (ua_cons (ue_ix (uv 10) un_) (ua_cons (ue_ix (uv 9) un_) ua_nil))))))))
  (uss_one (us_ret ub_))
  uss_nil)))
  (uss_cons (us_if (ut_not (ut_val (ue_call C_law_dearer (ua_cons (uv 1) (ua_cons (uv 2) (ua_cons (uv 3) (ua_cons (ue_ix (ue_ix (uv 4) un_) un_) ua_nil)))))))
  (uss_one (us_ret ub_))
  uss_nil)
  (uss_cons (us_if (ut_c k_neX (ue_call C_labels (ua_cons (ue_tup (ua_cons (ue_ix (uv 2) un_) (ua_cons (ue_tupRev m_tuple m_reversed (ua_cons (ue_ix (uv 2) un_) ua_nil)) ua_nil))) (ua_cons (uv 3) ua_nil))) (uv 4))
  (uss_one (us_ret ub_))
  uss_nil)
  (uss_cons (us_for (ui_seq (uv 4)) (ug_tup (n:=2) (ugs_cons (ug_name (k:=1000) 11 sc_law.nd) (ugs_cons (ug_name (k:=1000) 12 sc_law.nd) ugs_nil)))
  (uss_one (us_if (ut_c k_neX (ue_ix (ue_ix (ue_call C_labels (ua_cons (uv 2) (ua_cons (ue_call C_tree_at (ua_cons (uv 3) (ua_cons (uv 11) ua_nil))) ua_nil))) un_) un_) (uv 12))
  (uss_one (us_ret ub_))
  uss_nil)))
  (uss_one (us_ret ub_)))))))))))))) ?_
  rintro us M Q ⟨ns,rfl,hl,q⟩
  refine seq_gen fun V hV=>?_
  dsimp! only [uAsg,hName,cut_map]
  intro t ht
  subst hV
  refine seq_gen fun V hV=>?_
  dsimp! only [uAsg,hName]
  refine ⟨t,cutU ns none (some 63),0,0,rfl,mup_same,fun cs tls a1 b1 c1 hT hl1 hl39 h0 h1=>?_⟩
  rw [mup_mup]
  generalize cutU ns none (some 63)=nn
  have hc6:=hT.cls.len
  subst hV
  refine seq_gen fun V hV=>?_
  dsimp! only [uAsg,hName]
  refine ⟨t,nn,a1,b1,c1,4,rfl,by decide,by decide,mup_same,h0,by omega,fun k a2 b2 c2 k0 k1 g1 g2=>?_⟩
  rw [mup_mup]
  dsimp! only [true_and]
  intro r hr
  have htr:t≠r:=fun z=>by subst z;rw [mup_same] at hr;cases hr
  have hMr:M r=none:=by rw [mup_ne (fun z=>htr z.symm)] at hr;exact hr
  obtain ⟨n,hn⟩:∃ n:Nat,2 + k=(n:Int):=⟨(2 + k).toNat,by omega⟩
  rw [hn]
  refine ⟨n,by omega,t,r,nn,a2,b2,c2,14,rfl,by omega,by omega,htr,by rw [mup_ne htr,mup_same],mup_same,by decide,by omega,by omega,fun tr a3 b3 c3 tok td tsz tl1 g3 g4=>?_⟩
  have e0:st2 (mup (mup M t (.lst (tapeU nn a2 b2 c2))) r (.lst [.int 14])) t r (tapeU nn a3 b3 c3) [.int (14 - tr.size)]=st2 M t r (tapeU nn a3 b3 c3) [.int (14 - tr.size)]:=st2_st2 htr
  rw [e0]
  generalize [U.int (14 - tr.size)]=rm
  have hs1:tr.size≤200:=by omega
  have hd12:tr.dep≤12:=by omega
  subst hV
  refine seq_gen fun V hV=>?_
  dsimp! only [uAsg,hName]
  refine ⟨cs,tls,tr,rfl,hT,hd12,by omega,fun vs chs bd=>?_⟩
  subst hV
  refine seq_gen fun V hV=>?_
  dsimp! only [uAsg,hName,vw_tab]
  refine ⟨t,nn,a3,b3,c3,cs,rfl,st2_t htr,hT.cls,by omega,by omega,fun k a4 b4 c4 hk g5 g6=>?_⟩
  rw [st2_setT htr]
  subst hV
  refine seq_gen fun V hV=>?_
  dsimp! only [uAsg,hName,vw_tab,List.length_map]
  refine ⟨t,nn,a4,b4,c4,(tls.length:Int) + 1,rfl,by omega,by omega,st2_t htr,by omega,by omega,fun n7 a5 b5 c5 n0 n1 g7 g8=>?_⟩
  rw [st2_setT htr]
  obtain ⟨j,rfl⟩:∃ j:Nat,n7=(j:Int):=⟨n7.toNat,by omega⟩
  have hj:j≤tls.length:=by omega
  generalize htl:(⟨"more",k.cls,k.pt,k.cost⟩:Tl)=tl
  have hT2:Tab cs (ins tls j tl):=by
    refine ⟨hT.cls,fun x hx=>?_,by unfold ins;simp;omega⟩
    rcases mem_ins.mp hx with hx | hx
    · exact hT.good x hx
    · rw [hx,← htl];exact hk
  subst hV
  refine seq_gen fun V hV=>?_
  have htu:U.tup [.str (Str.ofString "more"),.str k.cls,k.pt.toU,.int k.cost]=tl.toU:=by rw [← htl];rfl
  have vk:∀ Mx:MHp,view Mx k.toU=.tup [.str k.cls,k.pt.toU,.int k.cost]:=fun _=>rfl
  have eI:(tls.take j).map Tl.toU++[tl.toU]++(tls.drop j).map Tl.toU=(ins tls j tl).map Tl.toU:=by unfold ins;simp
  dsimp! only [uAsg,hName,vw_tab,Tk.toU,cut_map,cut_lo tls hj,cut_hi tls hj]
  rw [htu]
  refine ⟨small (by rw [List.length_map,List.length_take];omega),small (by rw [List.length_append,List.length_map,List.length_map,List.length_take,List.length_drop];simp;omega),?_⟩
  rw [eI]
  generalize hMx:st2 M t r (tapeU nn a5 b5 c5) rm=Mx
  have hMxt:Mx t=some (.lst (tapeU nn a5 b5 c5)):=by rw [← hMx];exact st2_t htr
  have hSub:∀ T':List U,Sub M (mup Mx t (.lst T')):=fun T'=>by rw [← hMx];exact (Sub.st2 (Sub.refl M) ht hMr).mup ht
  have eT2:U.tup [sortsU cs,.tup ((ins tls j tl).map Tl.toU)]=tabU cs (ins tls j tl):=rfl
  subst hV
  refine seq_gen fun V hV=>?_
  dsimp! only [uAsg,hName,vw_tab]
  refine ⟨cs,ins tls j tl,tr,rfl,hT2,hd12,by omega,fun vs2 chs2 bd2=>?_⟩
  subst hV
  refine seq_gen fun V hV=>?_
  refine for_by (S:=⟨none,zipped (tr.places.map (rowU cs vs)) (tr.places.map (rowU cs vs2))⟩) (M1:=Mx) (fun R r=>by dsimp! only [uZipLL];exact r)
    (fun i τ Mi=>∃ z9 z10:Option U,τ=[some (.lst (ns.map U.int)),some (.ref t),some (tabU cs tls),some tr.toU,some (.lst (tr.places.map (rowU cs vs))),some k.toU,some (.int j),some (.tup ((ins tls j tl).map Tl.toU)),some (.lst (tr.places.map (rowU cs vs2))),z9,z10,none,none]∧Mi=Mx) ⟨none,none,rfl,rfl⟩ (fun i τ M' _ a e=>by cases e) ?_ ?_
  · rintro i x τ Mi e ⟨z9,z10,rfl,rfl⟩
    obtain ⟨u,w,h1,h2,rfl⟩:=zipped_get e
    rw [List.getElem?_map] at h1 h2
    cases hj:tr.places[i]? with
    | none=>rw [hj] at h1;cases h1
    | some p =>
      rw [hj] at h1 h2
      cases h1;cases h2
      obtain ⟨t',htp⟩:=at_place tr p (List.mem_of_getElem? hj)
      refine ⟨rfl,?_⟩
      dsimp! only [hTup,hCons,hNil,hName]
      refine if_gen fun A B hA hB=>?_
      dsimp! only [row_lab]
      refine ne_place ?_
      dsimp! only [true_and]
      refine ⟨cs,_,_,rfl,fun c _ v h=>bd.leS hT hT2 bd2 (fun x hx=>⟨x,mem_ins.mpr (.inl hx),rfl,rfl,Int.le_refl _⟩) _ t' p p (Nat.le_refl _) htp htp c v h,?_⟩
      dsimp! only [true_and]
      subst hB
      simp only [uNext]
      first | exact ⟨_,_,rfl,rfl⟩ | exact ⟨_,_,rfl,trivial⟩
  rintro τ Mi ⟨z9,z10,rfl,rfl⟩
  show V _ _
  subst hV
  refine seq_gen fun V hV=>?_
  refine if_gen fun A B hA hB=>?_
  rw [show tr.places.map (rowU cs vs)=rowU cs vs [] :: (tr.places.map (rowU cs vs)).tail from first_row cs vs tr]
  dsimp! only [row_lab]
  refine ⟨t,nn,a5,b5,c5,cs,tls,tr,vs,chs,rfl,hMxt,hT,hl1,hd12,hs1,bd,by omega,by omega,fun a6 b6 c6=>?_⟩
  dsimp! only [true_and]
  have hS:=hSub (tapeU nn a6 b6 c6)
  generalize mup Mi t (.lst (tapeU nn a6 b6 c6))=My at hS
  subst hB
  simp only [uNext]
  subst hV
  refine seq_gen fun V hV=>?_
  refine if_gen fun A B hA hB=>?_
  have eR:tls.reverse.map Tl.toU=(tls.map Tl.toU).reverse:=List.map_reverse
  dsimp! only [uTupRev,vw_tab,← eR]
  have hT3:Tab cs tls.reverse:=⟨hT.cls,fun x hx=>hT.good x (List.mem_reverse.mp hx),by rw [List.length_reverse];exact hT.len⟩
  refine ⟨cs,tls.reverse,tr,rfl,hT3,hd12,by omega,fun vs3 chs3 bd3=>?_⟩
  have e3:tr.places.map (rowU cs vs3)=tr.places.map (rowU cs vs):=by
    refine List.map_congr_left fun p hp=>?_
    obtain ⟨t',htp⟩:=at_place tr p hp
    rw [row_lab,row_lab]
    have:(fun c=>lookV vs3 (p,c))=fun c=>lookV vs (p,c):=funext fun c=>bd3.eqS hT3 hT bd (fun x hx=>List.mem_reverse.mp hx) (fun x hx=>List.mem_reverse.mpr hx) htp htp c
    rw [this]
  rw [e3]
  dsimp! only [true_and]
  refine ne_rows ?_
  dsimp! only [true_and]
  subst hB
  simp only [uNext]
  subst hV
  refine seq_gen fun V hV=>?_
  refine for_by (S:=⟨none,tr.places.map (rowU cs vs)⟩) (M1:=My) (fun R r=>by simp only [uIter,uVar,List.getElem?_cons_succ,List.getElem?_cons_zero];exact r)
    (fun i τ Mi=>∃ z9 z10 z11 z12:Option U,τ=[some (.lst (ns.map U.int)),some (.ref t),some (tabU cs tls),some tr.toU,some (.lst (tr.places.map (rowU cs vs))),some k.toU,some (.int j),some (.tup ((ins tls j tl).map Tl.toU)),some (.lst (tr.places.map (rowU cs vs2))),z9,z10,z11,z12]∧Mi=My) ⟨_,_,none,none,rfl,rfl⟩ (fun i τ M' _ a e=>by cases e) ?_ ?_
  · rintro i x τ Mi e ⟨y9,y10,y11,y12,rfl,rfl⟩
    have e':(tr.places.map (rowU cs vs))[i]?=some x:=e
    rw [List.getElem?_map] at e'
    cases hj:tr.places[i]? with
    | none=>rw [hj] at e';cases e'
    | some p =>
      rw [hj] at e'
      cases e'
      obtain ⟨t',htp⟩:=at_place tr p (List.mem_of_getElem? hj)
      have hd':=at_dep tr p t' htp
      have hs':=at_size tr p t' htp
      rw [row_lab]
      refine ⟨rfl,?_⟩
      dsimp! only [hTup,hCons,hNil,hName]
      refine if_gen fun A B hA hB=>?_
      dsimp! only [true_and]
      refine ⟨tr.toU,t'.toU,p,rfl,atU_at tr p t' htp,?_⟩
      dsimp! only [true_and]
      refine ⟨cs,tls,t',rfl,hT,by omega,by omega,fun vs4 chs4 bd4=>?_⟩
      rw [first_row]
      dsimp! only [row_lab]
      have e4:(fun c=>lookV vs4 ([],c))=fun c=>lookV vs (p,c):=funext fun c=>bd4.eqS hT hT bd (fun x hx=>hx) (fun x hx=>hx) (at_nil t') htp c
      rw [e4]
      refine ne_lab ?_
      dsimp! only [true_and]
      subst hB
      simp only [uNext]
      first | exact ⟨_,_,_,_,rfl,rfl⟩ | exact ⟨_,_,_,_,rfl,trivial⟩
  · rintro τ Mi ⟨y9,y10,y11,y12,rfl,rfl⟩
    subst hV
    dsimp! only [uRet]
    exact ⟨_,M,hS,.inl rfl,q⟩
end
theorem ints_rel {K:PySem.W.Frag} {H:Hp} {M:MHp}:∀ ns:List Int,RelUs K H M (ns.map U.int) (ns.map V.int)
  | []=>.nil
  | _ :: r=>.cons relU_int (ints_rel r)
theorem law_entry {K:PySem.W.Frag} {H:Hp} {a:Addr} {ns:List Int} {E:XK} (hl:ns.length≤63) (hS:SqL K H a (ns.map V.int)):liftSp K spLaw [.ref a] H (fun v _=>v=.bl true) E:=by
  refine ⟨[.lst (ns.map .int)],fun _=>none,fun u _=>u=.bl true,(fun a mo e=>by cases e),.cons ?_ .nil,⟨ns,rfl,hl,rfl⟩,fun u v M1 H1 _ _ ru q=>by subst q;exact ru.bl⟩
  simp only [RelU]
  refine ⟨a,_,rfl,?_,ints_rel ns⟩
  rcases hS with h | h
  · exact .inl ⟨trivial,h⟩
  · exact .inr h
open PyProof.Rows in
theorem all_mk {l:PySem.W.OpenLaw} {w:World} {K:PySem.W.Frag} {h:Heap} {mg:Str→Option Value} {fa f0 f1 f2 f3 f4 f5 f6 f7 f8 f9 f10 f11 f12 f13 f14 f15 f16 f17 f18 f19 f20 f21 f22 f23 f24 f25 f26 f27:Addr} (X:K.In h) (G:h.Ns mainGlobals mg) (hfa:mg "law"=some (.ref fa))
    {od0 an0:Option Addr} {sl0:Array (Option Value)} {oc0 kV0 dc0 pm0 cd0 ct0:Value}
    {od1 an1:Option Addr} {sl1:Array (Option Value)} {oc1 kV1 dc1 pm1 cd1 ct1:Value}
    {od2 an2:Option Addr} {sl2:Array (Option Value)} {oc2 kV2 dc2 pm2 cd2 ct2:Value}
    {od3 an3:Option Addr} {sl3:Array (Option Value)} {oc3 kV3 dc3 pm3 cd3 ct3:Value}
    {od4 an4:Option Addr} {sl4:Array (Option Value)} {oc4 kV4 dc4 pm4 cd4 ct4:Value}
    {od5 an5:Option Addr} {sl5:Array (Option Value)} {oc5 kV5 dc5 pm5 cd5 ct5:Value}
    {od6 an6:Option Addr} {sl6:Array (Option Value)} {oc6 kV6 dc6 pm6 cd6 ct6:Value}
    {od7 an7:Option Addr} {sl7:Array (Option Value)} {oc7 kV7 dc7 pm7 cd7 ct7:Value}
    {od8 an8:Option Addr} {sl8:Array (Option Value)} {oc8 kV8 dc8 pm8 cd8 ct8:Value}
    {od9 an9:Option Addr} {sl9:Array (Option Value)} {oc9 kV9 dc9 pm9 cd9 ct9:Value}
    {od10 an10:Option Addr} {sl10:Array (Option Value)} {oc10 kV10 dc10 pm10 cd10 ct10:Value}
    {od11 an11:Option Addr} {sl11:Array (Option Value)} {oc11 kV11 dc11 pm11 cd11 ct11:Value}
    {od12 an12:Option Addr} {sl12:Array (Option Value)} {oc12 kV12 dc12 pm12 cd12 ct12:Value}
    {od13 an13:Option Addr} {sl13:Array (Option Value)} {oc13 kV13 dc13 pm13 cd13 ct13:Value}
    {od14 an14:Option Addr} {sl14:Array (Option Value)} {oc14 kV14 dc14 pm14 cd14 ct14:Value}
    {od15 an15:Option Addr} {sl15:Array (Option Value)} {oc15 kV15 dc15 pm15 cd15 ct15:Value}
    {od16 an16:Option Addr} {sl16:Array (Option Value)} {oc16 kV16 dc16 pm16 cd16 ct16:Value}
    {od17 an17:Option Addr} {sl17:Array (Option Value)} {oc17 kV17 dc17 pm17 cd17 ct17:Value}
    {od18 an18:Option Addr} {sl18:Array (Option Value)} {oc18 kV18 dc18 pm18 cd18 ct18:Value}
    {od19 an19:Option Addr} {sl19:Array (Option Value)} {oc19 kV19 dc19 pm19 cd19 ct19:Value}
    {od20 an20:Option Addr} {sl20:Array (Option Value)} {oc20 kV20 dc20 pm20 cd20 ct20:Value}
    {od21 an21:Option Addr} {sl21:Array (Option Value)} {oc21 kV21 dc21 pm21 cd21 ct21:Value}
    {od22 an22:Option Addr} {sl22:Array (Option Value)} {oc22 kV22 dc22 pm22 cd22 ct22:Value}
    {od23 an23:Option Addr} {sl23:Array (Option Value)} {oc23 kV23 dc23 pm23 cd23 ct23:Value}
    {od24 an24:Option Addr} {sl24:Array (Option Value)} {oc24 kV24 dc24 pm24 cd24 ct24:Value}
    {od25 an25:Option Addr} {sl25:Array (Option Value)} {oc25 kV25 dc25 pm25 cd25 ct25:Value}
    {od26 an26:Option Addr} {sl26:Array (Option Value)} {oc26 kV26 dc26 pm26 cd26 ct26:Value}
    {od27 an27:Option Addr} {sl27:Array (Option Value)} {oc27 kV27 dc27 pm27 cd27 ct27:Value}
    (a0:PySem.W.nsIn K mainGlobals "parts_of"=some (some (.ref f0))) (l0:K.lookup f0=some ⟨oc0,od0,.func (PySem.W.fnOf "parts_of" "parts_of" (defArgs s_parts_of) (defBody s_parts_of) (defScope s_parts_of) .none kV0 dc0 pm0 an0 cd0 ct0),sl0⟩) (c0:PySem.W.codeIn K cd0 "parts_of"=true) (k0:PySem.W.keepIn K (.ref f0)=true)
    (a1:PySem.W.nsIn K mainGlobals "places_of"=some (some (.ref f1))) (l1:K.lookup f1=some ⟨oc1,od1,.func (PySem.W.fnOf "places_of" "places_of" (defArgs s_places_of) (defBody s_places_of) (defScope s_places_of) .none kV1 dc1 pm1 an1 cd1 ct1),sl1⟩) (c1:PySem.W.codeIn K cd1 "places_of"=true) (k1:PySem.W.keepIn K (.ref f1)=true)
    (a2:PySem.W.nsIn K mainGlobals "shape_at"=some (some (.ref f2))) (l2:K.lookup f2=some ⟨oc2,od2,.func (PySem.W.fnOf "shape_at" "shape_at" (defArgs s_shape_at) (defBody s_shape_at) (defScope s_shape_at) .none kV2 dc2 pm2 an2 cd2 ct2),sl2⟩) (c2:PySem.W.codeIn K cd2 "shape_at"=true) (k2:PySem.W.keepIn K (.ref f2)=true)
    (a3:PySem.W.nsIn K mainGlobals "lies_on_leaf"=some (some (.ref f3))) (l3:K.lookup f3=some ⟨oc3,od3,.func (PySem.W.fnOf "lies_on_leaf" "lies_on_leaf" (defArgs s_lies_on_leaf) (defBody s_lies_on_leaf) (defScope s_lies_on_leaf) .none kV3 dc3 pm3 an3 cd3 ct3),sl3⟩) (c3:PySem.W.codeIn K cd3 "lies_on_leaf"=true) (k3:PySem.W.keepIn K (.ref f3)=true)
    (a4:PySem.W.nsIn K mainGlobals "parts"=some (some (.ref f4))) (l4:K.lookup f4=some ⟨oc4,od4,.func (PySem.W.fnOf "parts" "parts" (defArgs s_parts) (defBody s_parts) (defScope s_parts) .none kV4 dc4 pm4 an4 cd4 ct4),sl4⟩) (c4:PySem.W.codeIn K cd4 "parts"=true) (k4:PySem.W.keepIn K (.ref f4)=true)
    (a5:PySem.W.nsIn K mainGlobals "places"=some (some (.ref f5))) (l5:K.lookup f5=some ⟨oc5,od5,.func (PySem.W.fnOf "places" "places" (defArgs s_places) (defBody s_places) (defScope s_places) .none kV5 dc5 pm5 an5 cd5 ct5),sl5⟩) (c5:PySem.W.codeIn K cd5 "places"=true) (k5:PySem.W.keepIn K (.ref f5)=true)
    (a6:PySem.W.nsIn K mainGlobals "tree_at"=some (some (.ref f6))) (l6:K.lookup f6=some ⟨oc6,od6,.func (PySem.W.fnOf "tree_at" "tree_at" (defArgs s_tree_at) (defBody s_tree_at) (defScope s_tree_at) .none kV6 dc6 pm6 an6 cd6 ct6),sl6⟩) (c6:PySem.W.codeIn K cd6 "tree_at"=true) (k6:PySem.W.keepIn K (.ref f6)=true)
    (a7:PySem.W.nsIn K mainGlobals "holes"=some (some (.ref f7))) (l7:K.lookup f7=some ⟨oc7,od7,.func (PySem.W.fnOf "holes" "holes" (defArgs s_holes) (defBody s_holes) (defScope s_holes) .none kV7 dc7 pm7 an7 cd7 ct7),sl7⟩) (c7:PySem.W.codeIn K cd7 "holes"=true) (k7:PySem.W.keepIn K (.ref f7)=true)
    (a8:PySem.W.nsIn K mainGlobals "lies"=some (some (.ref f8))) (l8:K.lookup f8=some ⟨oc8,od8,.func (PySem.W.fnOf "lies" "lies" (defArgs s_lies) (defBody s_lies) (defScope s_lies) .none kV8 dc8 pm8 an8 cd8 ct8),sl8⟩) (c8:PySem.W.codeIn K cd8 "lies"=true) (k8:PySem.W.keepIn K (.ref f8)=true)
    (a9:PySem.W.nsIn K mainGlobals "tiles_at"=some (some (.ref f9))) (l9:K.lookup f9=some ⟨oc9,od9,.func (PySem.W.fnOf "tiles_at" "tiles_at" (defArgs s_tiles_at) (defBody s_tiles_at) (defScope s_tiles_at) .none kV9 dc9 pm9 an9 cd9 ct9),sl9⟩) (c9:PySem.W.codeIn K cd9 "tiles_at"=true) (k9:PySem.W.keepIn K (.ref f9)=true)
    (a10:PySem.W.nsIn K mainGlobals "join_spots"=some (some (.ref f10))) (l10:K.lookup f10=some ⟨oc10,od10,.func (PySem.W.fnOf "join_spots" "join_spots" (defArgs s_join_spots) (defBody s_join_spots) (defScope s_join_spots) .none kV10 dc10 pm10 an10 cd10 ct10),sl10⟩) (c10:PySem.W.codeIn K cd10 "join_spots"=true) (k10:PySem.W.keepIn K (.ref f10)=true)
    (a11:PySem.W.nsIn K mainGlobals "fill_least"=some (some (.ref f11))) (l11:K.lookup f11=some ⟨oc11,od11,.func (PySem.W.fnOf "fill_least" "fill_least" (defArgs s_fill_least) (defBody s_fill_least) (defScope s_fill_least) .none kV11 dc11 pm11 an11 cd11 ct11),sl11⟩) (c11:PySem.W.codeIn K cd11 "fill_least"=true) (k11:PySem.W.keepIn K (.ref f11)=true)
    (a12:PySem.W.nsIn K mainGlobals "least_of_all"=some (some (.ref f12))) (l12:K.lookup f12=some ⟨oc12,od12,.func (PySem.W.fnOf "least_of_all" "least_of_all" (defArgs s_least_of_all) (defBody s_least_of_all) (defScope s_least_of_all) .none kV12 dc12 pm12 an12 cd12 ct12),sl12⟩) (c12:PySem.W.codeIn K cd12 "least_of_all"=true) (k12:PySem.W.keepIn K (.ref f12)=true)
    (a13:PySem.W.nsIn K mainGlobals "chosen_cover"=some (some (.ref f13))) (l13:K.lookup f13=some ⟨oc13,od13,.func (PySem.W.fnOf "chosen_cover" "chosen_cover" (defArgs s_chosen_cover) (defBody s_chosen_cover) (defScope s_chosen_cover) .none kV13 dc13 pm13 an13 cd13 ct13),sl13⟩) (c13:PySem.W.codeIn K cd13 "chosen_cover"=true) (k13:PySem.W.keepIn K (.ref f13)=true)
    (a14:PySem.W.nsIn K mainGlobals "as_paper"=some (some (.ref f14))) (l14:K.lookup f14=some ⟨oc14,od14,.func (PySem.W.fnOf "as_paper" "as_paper" (defArgs s_as_paper) (defBody s_as_paper) (defScope s_as_paper) .none kV14 dc14 pm14 an14 cd14 ct14),sl14⟩) (c14:PySem.W.codeIn K cd14 "as_paper"=true) (k14:PySem.W.keepIn K (.ref f14)=true)
    (a15:PySem.W.nsIn K mainGlobals "joined_price"=some (some (.ref f15))) (l15:K.lookup f15=some ⟨oc15,od15,.func (PySem.W.fnOf "joined_price" "joined_price" (defArgs s_joined_price) (defBody s_joined_price) (defScope s_joined_price) .none kV15 dc15 pm15 an15 cd15 ct15),sl15⟩) (c15:PySem.W.codeIn K cd15 "joined_price"=true) (k15:PySem.W.keepIn K (.ref f15)=true)
    (a16:PySem.W.nsIn K mainGlobals "labels"=some (some (.ref f16))) (l16:K.lookup f16=some ⟨oc16,od16,.func (PySem.W.fnOf "labels" "labels" (defArgs s_labels) (defBody s_labels) (defScope s_labels) .none kV16 dc16 pm16 an16 cd16 ct16),sl16⟩) (c16:PySem.W.codeIn K cd16 "labels"=true) (k16:PySem.W.keepIn K (.ref f16)=true)
    (a17:PySem.W.nsIn K mainGlobals "least"=some (some (.ref f17))) (l17:K.lookup f17=some ⟨oc17,od17,.func (PySem.W.fnOf "least" "least" (defArgs s_least) (defBody s_least) (defScope s_least) .none kV17 dc17 pm17 an17 cd17 ct17),sl17⟩) (c17:PySem.W.codeIn K cd17 "least"=true) (k17:PySem.W.keepIn K (.ref f17)=true)
    (a18:PySem.W.nsIn K mainGlobals "_law_draw"=some (some (.ref f18))) (l18:K.lookup f18=some ⟨oc18,od18,.func (PySem.W.fnOf "_law_draw" "_law_draw" (defArgs s_law_draw) (defBody s_law_draw) (defScope s_law_draw) .none kV18 dc18 pm18 an18 cd18 ct18),sl18⟩) (c18:PySem.W.codeIn K cd18 "_law_draw"=true) (k18:PySem.W.keepIn K (.ref f18)=true)
    (a19:PySem.W.nsIn K mainGlobals "_law_number"=some (some (.ref f19))) (l19:K.lookup f19=some ⟨oc19,od19,.func (PySem.W.fnOf "_law_number" "_law_number" (defArgs s_law_number) (defBody s_law_number) (defScope s_law_number) .none kV19 dc19 pm19 an19 cd19 ct19),sl19⟩) (c19:PySem.W.codeIn K cd19 "_law_number"=true) (k19:PySem.W.keepIn K (.ref f19)=true)
    (a20:PySem.W.nsIn K mainGlobals "_law_pattern"=some (some (.ref f20))) (l20:K.lookup f20=some ⟨oc20,od20,.func (PySem.W.fnOf "_law_pattern" "_law_pattern" (defArgs s_law_pattern) (defBody s_law_pattern) (defScope s_law_pattern) .none kV20 dc20 pm20 an20 cd20 ct20),sl20⟩) (c20:PySem.W.codeIn K cd20 "_law_pattern"=true) (k20:PySem.W.keepIn K (.ref f20)=true)
    (a21:PySem.W.nsIn K mainGlobals "_law_tile"=some (some (.ref f21))) (l21:K.lookup f21=some ⟨oc21,od21,.func (PySem.W.fnOf "_law_tile" "_law_tile" (defArgs s_law_tile) (defBody s_law_tile) (defScope s_law_tile) .none kV21 dc21 pm21 an21 cd21 ct21),sl21⟩) (c21:PySem.W.codeIn K cd21 "_law_tile"=true) (k21:PySem.W.keepIn K (.ref f21)=true)
    (a22:PySem.W.nsIn K mainGlobals "_law_plain"=some (some (.ref f22))) (l22:K.lookup f22=some ⟨oc22,od22,.func (PySem.W.fnOf "_law_plain" "_law_plain" (defArgs s_law_plain) (defBody s_law_plain) (defScope s_law_plain) .none kV22 dc22 pm22 an22 cd22 ct22),sl22⟩) (c22:PySem.W.codeIn K cd22 "_law_plain"=true) (k22:PySem.W.keepIn K (.ref f22)=true)
    (a23:PySem.W.nsIn K mainGlobals "_law_table"=some (some (.ref f23))) (l23:K.lookup f23=some ⟨oc23,od23,.func (PySem.W.fnOf "_law_table" "_law_table" (defArgs s_law_table) (defBody s_law_table) (defScope s_law_table) .none kV23 dc23 pm23 an23 cd23 ct23),sl23⟩) (c23:PySem.W.codeIn K cd23 "_law_table"=true) (k23:PySem.W.keepIn K (.ref f23)=true)
    (a24:PySem.W.nsIn K mainGlobals "_law_tree"=some (some (.ref f24))) (l24:K.lookup f24=some ⟨oc24,od24,.func (PySem.W.fnOf "_law_tree" "_law_tree" (defArgs s_law_tree) (defBody s_law_tree) (defScope s_law_tree) .none kV24 dc24 pm24 an24 cd24 ct24),sl24⟩) (c24:PySem.W.codeIn K cd24 "_law_tree"=true) (k24:PySem.W.keepIn K (.ref f24)=true)
    (a25:PySem.W.nsIn K mainGlobals "_law_under"=some (some (.ref f25))) (l25:K.lookup f25=some ⟨oc25,od25,.func (PySem.W.fnOf "_law_under" "_law_under" (defArgs s_law_under) (defBody s_law_under) (defScope s_law_under) .none kV25 dc25 pm25 an25 cd25 ct25),sl25⟩) (c25:PySem.W.codeIn K cd25 "_law_under"=true) (k25:PySem.W.keepIn K (.ref f25)=true)
    (a26:PySem.W.nsIn K mainGlobals "_law_dearer"=some (some (.ref f26))) (l26:K.lookup f26=some ⟨oc26,od26,.func (PySem.W.fnOf "_law_dearer" "_law_dearer" (defArgs s_law_dearer) (defBody s_law_dearer) (defScope s_law_dearer) .none kV26 dc26 pm26 an26 cd26 ct26),sl26⟩) (c26:PySem.W.codeIn K cd26 "_law_dearer"=true) (k26:PySem.W.keepIn K (.ref f26)=true)
    (a27:PySem.W.nsIn K mainGlobals "law"=some (some (.ref f27))) (l27:K.lookup f27=some ⟨oc27,od27,.func (PySem.W.fnOf "law" "law" (defArgs s_law) (defBody s_law) (defScope s_law) .none kV27 dc27 pm27 an27 cd27 ct27),sl27⟩) (c27:PySem.W.codeIn K cd27 "law"=true) (k27:PySem.W.keepIn K (.ref f27)=true)
    {dt0:Addr} (ta0:PySem.W.nsIn K mainGlobals "SIGNS"=some (some (.ref dt0))) (tb0:KTD.tabLook KTD.flatLooks (fun b=>K.lookup b) dt0 (tabP SIGNS)=true) (tc0:KTD.hashesOf (fun b=>K.lookup b) dt0=(tabP SIGNS).map fun p=>(PySem.strKind l.prog w).hash p.1)
    (z0:PySem.W.nsIn K mainGlobals "enumerate"=some none)
    (z1:PySem.W.nsIn K mainGlobals "all"=some none)
    (z2:PySem.W.nsIn K mainGlobals "zip"=some none)
    (z3:PySem.W.nsIn K mainGlobals "list"=some none)
    (z4:PySem.W.nsIn K mainGlobals "len"=some none)
    (z5:PySem.W.nsIn K mainGlobals "reversed"=some none)
    (z6:PySem.W.nsIn K mainGlobals "sum"=some none)
    (z7:PySem.W.nsIn K mainGlobals "tuple"=some none)
    (z8:PySem.W.nsIn K mainGlobals "sorted"=some none)
    (z9:PySem.W.nsIn K mainGlobals "range"=some none)
    (hNK:NoKey K)
    : ∃ fd:FuncData,(∀ (s:Shared) (v:Value),BindsTo s fd ⟨[v],[]⟩ [("script",v)])∧∀ base:Heap,K.In base→base.Ns mainGlobals mg→FnOk l.prog w K mg base CX0 18 fa fd ["script"] (liftSp K spLaw):=by
  have e:=hfa.symm.trans (PySem.W.mg_of X G a27)
  cases e
  have F_parts_of:=fun_mk (st:=s_parts_of) l0 c0 k0
  have v_parts_of:=PySem.W.mg_of X G a0
  have F_places_of:=fun_mk (st:=s_places_of) l1 c1 k1
  have v_places_of:=PySem.W.mg_of X G a1
  have F_shape_at:=fun_mk (st:=s_shape_at) l2 c2 k2
  have v_shape_at:=PySem.W.mg_of X G a2
  have F_lies_on_leaf:=fun_mk (st:=s_lies_on_leaf) l3 c3 k3
  have v_lies_on_leaf:=PySem.W.mg_of X G a3
  have F_parts:=fun_mk (st:=s_parts) l4 c4 k4
  have v_parts:=PySem.W.mg_of X G a4
  have F_places:=fun_mk (st:=s_places) l5 c5 k5
  have v_places:=PySem.W.mg_of X G a5
  have F_tree_at:=fun_mk (st:=s_tree_at) l6 c6 k6
  have v_tree_at:=PySem.W.mg_of X G a6
  have F_holes:=fun_mk (st:=s_holes) l7 c7 k7
  have v_holes:=PySem.W.mg_of X G a7
  have F_lies:=fun_mk (st:=s_lies) l8 c8 k8
  have v_lies:=PySem.W.mg_of X G a8
  have F_tiles_at:=fun_mk (st:=s_tiles_at) l9 c9 k9
  have v_tiles_at:=PySem.W.mg_of X G a9
  have F_join_spots:=fun_mk (st:=s_join_spots) l10 c10 k10
  have v_join_spots:=PySem.W.mg_of X G a10
  have F_fill_least:=fun_mk (st:=s_fill_least) l11 c11 k11
  have v_fill_least:=PySem.W.mg_of X G a11
  have F_least_of_all:=fun_mk (st:=s_least_of_all) l12 c12 k12
  have v_least_of_all:=PySem.W.mg_of X G a12
  have F_chosen_cover:=fun_mk (st:=s_chosen_cover) l13 c13 k13
  have v_chosen_cover:=PySem.W.mg_of X G a13
  have F_as_paper:=fun_mk (st:=s_as_paper) l14 c14 k14
  have v_as_paper:=PySem.W.mg_of X G a14
  have F_joined_price:=fun_mk (st:=s_joined_price) l15 c15 k15
  have v_joined_price:=PySem.W.mg_of X G a15
  have F_labels:=fun_mk (st:=s_labels) l16 c16 k16
  have v_labels:=PySem.W.mg_of X G a16
  have F_least:=fun_mk (st:=s_least) l17 c17 k17
  have v_least:=PySem.W.mg_of X G a17
  have F_law_draw:=fun_mk (st:=s_law_draw) l18 c18 k18
  have v_law_draw:=PySem.W.mg_of X G a18
  have F_law_number:=fun_mk (st:=s_law_number) l19 c19 k19
  have v_law_number:=PySem.W.mg_of X G a19
  have F_law_pattern:=fun_mk (st:=s_law_pattern) l20 c20 k20
  have v_law_pattern:=PySem.W.mg_of X G a20
  have F_law_tile:=fun_mk (st:=s_law_tile) l21 c21 k21
  have v_law_tile:=PySem.W.mg_of X G a21
  have F_law_plain:=fun_mk (st:=s_law_plain) l22 c22 k22
  have v_law_plain:=PySem.W.mg_of X G a22
  have F_law_table:=fun_mk (st:=s_law_table) l23 c23 k23
  have v_law_table:=PySem.W.mg_of X G a23
  have F_law_tree:=fun_mk (st:=s_law_tree) l24 c24 k24
  have v_law_tree:=PySem.W.mg_of X G a24
  have F_law_under:=fun_mk (st:=s_law_under) l25 c25 k25
  have v_law_under:=PySem.W.mg_of X G a25
  have F_law_dearer:=fun_mk (st:=s_law_dearer) l26 c26 k26
  have v_law_dearer:=PySem.W.mg_of X G a26
  have F_law:=fun_mk (st:=s_law) l27 c27 k27
  have v_law:=PySem.W.mg_of X G a27
  have g_SIGNS:=PySem.W.mg_of X G ta0
  have T_SIGNS:IsTab l.prog w K dt0 SIGNS:=tab_of (by decide +kernel) tb0 tc0
  have m_enumerate:=PySem.W.mg_none_of X G z0
  have m_all:=PySem.W.mg_none_of X G z1
  have m_zip:=PySem.W.mg_none_of X G z2
  have m_list:=PySem.W.mg_none_of X G z3
  have m_len:=PySem.W.mg_none_of X G z4
  have m_reversed:=PySem.W.mg_none_of X G z5
  have m_sum:=PySem.W.mg_none_of X G z6
  have m_tuple:=PySem.W.mg_none_of X G z7
  have m_sorted:=PySem.W.mg_none_of X G z8
  have m_range:=PySem.W.mg_none_of X G z9
  refine ⟨PySem.W.fnOf "law" "law" (defArgs s_law) (defBody s_law) (defScope s_law) .none kV27 dc27 pm27 an27 cd27 ct27,fun s v=>.of_eq rfl,fun base _ _=>?_⟩
  have c0:=ok_parts_of (P:=l.prog) (w:=w) (base:=base) F_parts_of v_parts_of T_SIGNS g_SIGNS
  have c1:=ok_parts F_parts v_parts c0
  have c2:=ok_lies_on_leaf (P:=l.prog) (w:=w) (base:=base) F_lies_on_leaf v_lies_on_leaf
  have c3:=lies_all F_lies v_lies m_all m_zip c2 c0 c1 6
  have c4:=places_all F_places_of v_places_of m_enumerate c0 6
  have c5:=placesT_all F_places_of v_places_of m_enumerate c0 12
  have c6:=ok_places F_places v_places c5
  have c7:=ok_shape_at F_shape_at v_shape_at c0
  have c8:=ok_tree_at F_tree_at v_tree_at c7
  have c9:=ok_holes F_holes v_holes c4 c7
  have e0:=ok_tiles_at F_tiles_at v_tiles_at m_enumerate c8 c3 c9
  have e1:=ok_joined_price (P:=l.prog) (w:=w) (base:=base) (mg:=mg) F_joined_price m_sum
  have e2:=ok_join_spots F_join_spots v_join_spots hNK e1
  have e3:=ok_fill (ok_fill0 F_fill_least v_fill_least hNK e2)
  have e4:=ok_least_of_all (ok_least0 F_least_of_all v_least_of_all m_reversed c6 e0 e3)
  have e5:=ok_chosen (P:=l.prog) (w:=w) (base:=base) F_chosen_cover v_chosen_cover hNK m_list m_reversed
  have e6:=ok_as_paper F_as_paper v_as_paper hNK m_tuple c6
  have e7:=ok_labels F_labels v_labels v_joined_price e6 e4
  have e8:=ok_least F_least v_least hNK v_joined_price e4 e5
  have g0:=ok_draw (P:=l.prog) (w:=w) (base:=base) F_law_draw v_law_draw m_len
  have g1:=ok_number F_law_number v_law_number g0
  have g2:=pat_all F_law_pattern v_law_pattern m_len m_sorted g0 g1 4
  have g3:=ok_tile F_law_tile v_law_tile m_len g0 g2
  have g4:=ok_plain F_law_plain v_law_plain g0
  have g5:=ok_table F_law_table v_law_table m_tuple m_range m_len m_enumerate g0 g4 g3
  have g6:=tree_all F_law_tree v_law_tree g0 g1 12
  have g7:=ok_under (P:=l.prog) (w:=w) (base:=base) F_law_under v_law_under m_zip
  have g8:=ok_dearer F_law_dearer v_law_dearer m_len m_enumerate g0 e7 g7 e8
  exact ok_law F_law m_list m_len m_zip m_tuple m_reversed g0 g5 g6 e7 g3 g7 g8 c8
theorem walk {l:PySem.W.OpenLaw} {q:Program} {loose:List Str} {XP:(Str→Option Value)→Heap→Prop} {YP:World→Heap→Prop} {d:DefRec} {K:Params→PySem.W.Frag} (hn:l.most=some 63) (hdf:d.params.defaults=[])
    (hY:∀ (w:World) (h:Heap),YP w h→(K w.params).In h)
    (F:∀ (w:World) (mg:Str→Option Value) (fa:Addr) (h:Heap),(K w.params).In h→h.Ns mainGlobals mg→mg d.name=some (.ref fa) →
      ∃ fd:FuncData,(∀ (s:Shared) (u:Value),BindsTo s fd ⟨[u],[]⟩ [("script",u)])∧∀ base:Heap,(K w.params).In base→base.Ns mainGlobals mg→FnOk l.prog w (K w.params) mg base CX0 18 fa fd ["script"] (liftSp (K w.params) spLaw)) :
    PySem.W.WalkO q loose XP YP l.row.toRowW d [] (fun f vs=>PySem.call f vs) :=
  L2.walk_of (n:=63) (k:=18) (x:="script") (CX:=fun _=>CX0) (sp:=fun w=>liftSp (K w.params) spLaw) hn (by decide) hdf ⟨rfl,by decide,by decide⟩ hY F (fun _ _ a ns hl _ hS=>law_entry hl hS) fun _ _ _ _ _ z=>z
end K35
namespace PySem.W.Fast
def tw10036302317435808599:=0
def tw10042846184816811477:=0
def tw10107222098741304325:=0
def tw1014545990754267327:=0
def tw1031882960570331048:=0
def tw10428740352417015660:=0
def tw10563396813328968505:=0
def tw10699340265739446366:=0
def tw10767968783547389659:=0
def tw11414855469762173890:=0
def tw11504497994150862644:=0
def tw1163834266098911584:=0
def tw11664515768638256685:=0
def tw12092092518911348701:=0
def tw12262095541345892772:=0
def tw12402144931193931064:=0
def tw12437268292957219451:=0
def tw12439516405686380075:=0
def tw12558637462440956264:=0
def tw1259029983310310062:=0
def tw12663161854590916232:=0
def tw12732902789573979319:=0
def tw12824413344395066814:=0
def tw13166702952462989925:=0
def tw13348703764887954689:=0
def tw13423257424548572541:=0
def tw13470721727643211849:=0
def tw13607911786484614636:=0
def tw13618539782019076211:=0
def tw13644785129112350242:=0
def tw13667713007246610537:=0
def tw13808515558427067775:=0
def tw1381141875552989803:=0
def tw14029575089128677340:=0
def tw14069198306499032436:=0
def tw14132740565397153666:=0
def tw14188766645431379162:=0
def tw14354611869719626797:=0
def tw1448749826721992210:=0
def tw14500369905844539636:=0
def tw14604050936424932588:=0
def tw14708887063467928619:=0
def tw14885148644893925517:=0
def tw14920971426477003836:=0
def tw14954786199570950944:=0
def tw15262807983193753460:=0
def tw1538259950725180818:=0
def tw15488283864154678022:=0
def tw15537150885061845281:=0
def tw15728464846666980963:=0
def tw15731076344145825886:=0
def tw15734311259858829061:=0
def tw15743297584021056106:=0
def tw15805457407976035290:=0
def tw15875934464502431810:=0
def tw15887463320093807898:=0
def tw15957591141798897787:=0
def tw15963035835293428565:=0
def tw161542850335395434:=0
def tw16227267268524031297:=0
def tw16329017552332537202:=0
def tw16392572586089334693:=0
def tw16427384360484096375:=0
def tw16594546779137386572:=0
def tw16599658383711393244:=0
def tw16656257697357400841:=0
def tw16722285466467003841:=0
def tw16901925054976005848:=0
def tw1696190764152660639:=0
def tw16985386162572259394:=0
def tw17031575489005332296:=0
def tw17081346364456790499:=0
def tw17149402787672580763:=0
def tw1716021076040997163:=0
def tw17279449978677591540:=0
def tw17350492066944650201:=0
def tw17359333955278672631:=0
def tw17374456884079704839:=0
def tw17490906964974827961:=0
def tw17504130673829110056:=0
def tw17523825331481769642:=0
def tw17721054072223586898:=0
def tw17726507703512124655:=0
def tw17759900483812266631:=0
def tw17901835752063388858:=0
def tw17998486221231133933:=0
def tw18128821135183236427:=0
def tw18328157557203566319:=0
def tw18367090808502863161:=0
def tw18392259567875200249:=0
def tw1862572248248136999:=0
def tw194178430715420358:=0
def tw195552958216851584:=0
def tw198288776998990576:=0
def tw2006535699309401928:=0
def tw2098608653184259981:=0
def tw2103109069558533860:=0
def tw2214893506198149166:=0
def tw2431212804041751942:=0
def tw2605318261894992612:=0
def tw2647396000287609728:=0
def tw2765129957696054059:=0
def tw2846916322041112364:=0
def tw289822463525200206:=0
def tw2910802302076062511:=0
def tw2937780618635125799:=0
def tw3115538966586135988:=0
def tw3438922183268906062:=0
def tw3503232109714112383:=0
def tw3630391628983208015:=0
def tw392294308636811405:=0
def tw4004744955513719818:=0
def tw4059287602273456239:=0
def tw4135967041761791336:=0
def tw4277028478083422151:=0
def tw4465108490859187711:=0
def tw4487828384672991691:=0
def tw4640554253818701617:=0
def tw4648869585108179538:=0
def tw4668894712994522911:=0
def tw4833047655405749626:=0
def tw4892433957390930903:=0
def tw4912608884972047489:=0
def tw5000342803371036636:=0
def tw5021555007533914229:=0
def tw5175567298610916891:=0
def tw5235761055492821827:=0
def tw5432735235386886081:=0
def tw5611555659845580602:=0
def tw5741499465120156960:=0
def tw5961957690176666995:=0
def tw6026636446860541216:=0
def tw6240395735230846450:=0
def tw6241625773445496055:=0
def tw6270079972747917946:=0
def tw6282491741337282529:=0
def tw6357808938774524801:=0
def tw6445563750242552892:=0
def tw6478627774353920862:=0
def tw6481242172053741719:=0
def tw6511883718485649422:=0
def tw6543525196514769307:=0
def tw6601424355539784676:=0
def tw6627731343457429840:=0
def tw6638950509494690675:=0
def tw6673024517364109012:=0
def tw6713131666386952409:=0
def tw6932877167167895204:=0
def tw6969658357860087510:=0
def tw7092490897759410311:=0
def tw7363640632885671432:=0
def tw7366185101207128407:=0
def tw7389796628284930528:=0
def tw7485006478250776226:=0
def tw7612268287114855279:=0
def tw7620629863546916266:=0
def tw7731765309716072990:=0
def tw784124633070161817:=0
def tw7875505686691678768:=0
def tw7894341329086713710:=0
def tw8060842639318549358:=0
def tw8073338358672561106:=0
def tw8128652095918988281:=0
def tw8330100646891190909:=0
def tw8474934393802172042:=0
def tw84767846486952896:=0
def tw8813222623488160868:=0
def tw882925779617226585:=0
def tw8993115015179989731:=0
def tw9088905803127869373:=0
def tw9496284390730116090:=0
def tw9506901412345233277:=0
def tw9602767183809766761:=0
def tw9729316434200035332:=0
def tw9734127141221833602:=0
def tw9848418602771897781:=0
def tw9897667888951913562:=0
end PySem.W.Fast
open PySem PySem.W PyProof.Rows
set_option maxRecDepth 100000 in
set_option maxHeartbeats 0 in
theorem PySem.Challenge.cw_rowsmith_k35_whole_a_tile_more_costs_no_holds : PySem.Challenge.rw_rowsmith_k35_whole_a_tile_more_costs_no.Holds := by
  w_on;o_law;k_head;(case hw=>w_witness2)
  k_fill
  refine K35.walk (l:=PySem.Challenge.rw_rowsmith_k35_whole_a_tile_more_costs_no) rfl rfl (fun w h Y=>PySem.W.kIn_of Y) ?F
  case F =>
    intro w mg fa h KX G hmg
    refine' K35.all_mk KX G hmg ?a0 ?l0 ?c0 ?k0 ?a1 ?l1 ?c1 ?k1 ?a2 ?l2 ?c2 ?k2 ?a3 ?l3 ?c3 ?k3 ?a4 ?l4 ?c4 ?k4 ?a5 ?l5 ?c5 ?k5 ?a6 ?l6 ?c6 ?k6 ?a7 ?l7 ?c7 ?k7 ?a8 ?l8 ?c8 ?k8 ?a9 ?l9 ?c9 ?k9 ?a10 ?l10 ?c10 ?k10 ?a11 ?l11 ?c11 ?k11 ?a12 ?l12 ?c12 ?k12 ?a13 ?l13 ?c13 ?k13 ?a14 ?l14 ?c14 ?k14 ?a15 ?l15 ?c15 ?k15 ?a16 ?l16 ?c16 ?k16 ?a17 ?l17 ?c17 ?k17 ?a18 ?l18 ?c18 ?k18 ?a19 ?l19 ?c19 ?k19 ?a20 ?l20 ?c20 ?k20 ?a21 ?l21 ?c21 ?k21 ?a22 ?l22 ?c22 ?k22 ?a23 ?l23 ?c23 ?k23 ?a24 ?l24 ?c24 ?k24 ?a25 ?l25 ?c25 ?k25 ?a26 ?l26 ?c26 ?k26 ?a27 ?l27 ?c27 ?k27 ?ta0 ?tb0 ?tc0 ?z0 ?z1 ?z2 ?z3 ?z4 ?z5 ?z6 ?z7 ?z8 ?z9 ?hNK
    (case a0=>k_is)
    (case l0=>k_is)
    (case c0=>k_is)
    (case k0=>k_is)
    (case a1=>k_is)
    (case l1=>k_is)
    (case c1=>k_is)
    (case k1=>k_is)
    (case a2=>k_is)
    (case l2=>k_is)
    (case c2=>k_is)
    (case k2=>k_is)
    (case a3=>k_is)
    (case l3=>k_is)
    (case c3=>k_is)
    (case k3=>k_is)
    (case a4=>k_is)
    (case l4=>k_is)
    (case c4=>k_is)
    (case k4=>k_is)
    (case a5=>k_is)
    (case l5=>k_is)
    (case c5=>k_is)
    (case k5=>k_is)
    (case a6=>k_is)
    (case l6=>k_is)
    (case c6=>k_is)
    (case k6=>k_is)
    (case a7=>k_is)
    (case l7=>k_is)
    (case c7=>k_is)
    (case k7=>k_is)
    (case a8=>k_is)
    (case l8=>k_is)
    (case c8=>k_is)
    (case k8=>k_is)
    (case a9=>k_is)
    (case l9=>k_is)
    (case c9=>k_is)
    (case k9=>k_is)
    (case a10=>k_is)
    (case l10=>k_is)
    (case c10=>k_is)
    (case k10=>k_is)
    (case a11=>k_is)
    (case l11=>k_is)
    (case c11=>k_is)
    (case k11=>k_is)
    (case a12=>k_is)
    (case l12=>k_is)
    (case c12=>k_is)
    (case k12=>k_is)
    (case a13=>k_is)
    (case l13=>k_is)
    (case c13=>k_is)
    (case k13=>k_is)
    (case a14=>k_is)
    (case l14=>k_is)
    (case c14=>k_is)
    (case k14=>k_is)
    (case a15=>k_is)
    (case l15=>k_is)
    (case c15=>k_is)
    (case k15=>k_is)
    (case a16=>k_is)
    (case l16=>k_is)
    (case c16=>k_is)
    (case k16=>k_is)
    (case a17=>k_is)
    (case l17=>k_is)
    (case c17=>k_is)
    (case k17=>k_is)
    (case a18=>k_is)
    (case l18=>k_is)
    (case c18=>k_is)
    (case k18=>k_is)
    (case a19=>k_is)
    (case l19=>k_is)
    (case c19=>k_is)
    (case k19=>k_is)
    (case a20=>k_is)
    (case l20=>k_is)
    (case c20=>k_is)
    (case k20=>k_is)
    (case a21=>k_is)
    (case l21=>k_is)
    (case c21=>k_is)
    (case k21=>k_is)
    (case a22=>k_is)
    (case l22=>k_is)
    (case c22=>k_is)
    (case k22=>k_is)
    (case a23=>k_is)
    (case l23=>k_is)
    (case c23=>k_is)
    (case k23=>k_is)
    (case a24=>k_is)
    (case l24=>k_is)
    (case c24=>k_is)
    (case k24=>k_is)
    (case a25=>k_is)
    (case l25=>k_is)
    (case c25=>k_is)
    (case k25=>k_is)
    (case a26=>k_is)
    (case l26=>k_is)
    (case c26=>k_is)
    (case k26=>k_is)
    (case a27=>k_is)
    (case l27=>k_is)
    (case c27=>k_is)
    (case k27=>k_is)
    (case ta0=>k_is)
    (case tb0=>kernel_rfl)
    (case tc0=>kernel_rfl)
    (case z0=>k_is)
    (case z1=>k_is)
    (case z2=>k_is)
    (case z3=>k_is)
    (case z4=>k_is)
    (case z5=>k_is)
    (case z6=>k_is)
    (case z7=>k_is)
    (case z8=>k_is)
    (case z9=>k_is)
    (case hNK=>exact trivial)
#print axioms PySem.Challenge.cw_rowsmith_k35_whole_a_tile_more_costs_no_holds