import PyProof.Rows.All
import Wide.All
import OpenK.AllK
import Wide.FinOn
import Lean
import PyProof.EqAt
import PyProof.EqKinds
import PyProof.TupleCall
import PyProof.NeKinds
import KE.KEqDict
import KE.KDictSum
import PyProof.Rows.StrMul
import PyProof.Rows.SortStr
import PyProof.Rows.SortWalk
import KE.KSortTup
import PyProof.IsiH_list
import KE.KDictOf
import KE.KItemsList
import PyProof.SetKind
import PyProof.Rows.SetFrom
import PyProof.IsRules
import PyProof.EnumStmt
import PyProof.EnumFor
import PyProof.EnumMake
import PyProof.Rows.StrJoin2
import KE.KDictList
import PyProof.ZipIter
import PyProof.DictCompW
import PyProof.DictUpdate
import PyProof.FactsAll.set_2
import KE.KSetDisp
import PyProof.Rows.SortShellK
import PyProof.SeqI3
import PySem.Challenge.RW_outlineward_k65_too_many_ways
set_option Elab.async false
set_option linter.all false
set_option maxRecDepth 100000
set_option maxHeartbeats 4000000
namespace L2
open PySem PySem.Spec PyProof.Rows
abbrev Key:=Sum Int Str
def KZ:Key→Value→Bool
 | .inl k,v=>Value.isInt k v
 | .inr x,v=>Value.isStrOf x v
def jgy (w:World):Key→Int
 | .inl k=>hashInt k
 | .inr x=>hashStr w x
theorem ko:∀ {k:Key} {v:Value},KZ k v=true→(∃ i t,k=Sum.inl i∧v=Value.int i t)∨(∃ x t,k=Sum.inr x∧v=Value.str x t)
 | .inl i,v,h=>by
  obtain ⟨t,e⟩:=Value.isInt_shape (k:=i) (v:=v) h
  exact .inl ⟨i,t,rfl,e⟩
 | .inr x,v,h=>by
  obtain ⟨t,e⟩:=Value.isStrOf_shape (x:=x) (v:=v) h
  exact .inr ⟨x,t,rfl,e⟩
theorem jbx (i:Int) (t:Tok):KZ (.inl i) (.int i t)=true:=by simp [KZ,Value.isInt]
theorem jbw (x:Str) (t:Tok):KZ (.inr x) (.str x t)=true:=by simp [KZ,Value.isStrOf]
theorem jfA (a b:Int):decide ((Sum.inl a:Key)=Sum.inl b)=(a == b):=by
 by_cases e:a=b
 ·subst e;simp
 ·have h:¬ (Sum.inl a:Key)=Sum.inl b:=fun q=>e (Sum.inl.inj q)
  rw [decide_eq_false h]
  exact (beq_eq_false_iff_ne.mpr e).symm
theorem jfx (a b:Str):decide ((Sum.inr a:Key)=Sum.inr b)=decide (a=b):=by
 by_cases e:a=b
 ·subst e;simp
 ·have h:¬ (Sum.inr a:Key)=Sum.inr b:=fun q=>e (Sum.inr.inj q)
  rw [decide_eq_false h,decide_eq_false e]
theorem jfz (a:Int) (b:Str):decide ((Sum.inl a:Key)=Sum.inr b)=false:=decide_eq_false (fun q=>nomatch q)
theorem jfy (a:Str) (b:Int):decide ((Sum.inr a:Key)=Sum.inl b)=false:=decide_eq_false (fun q=>nomatch q)
def j9 (prog:Program) (w:World):PySem.KeyKind prog w Key where
 is:=KZ
 hash:=jgy w
 inj:=fun v a b ha hb=>by
  rcases ko ha with ⟨i,t,rfl,rfl⟩ | ⟨x,t,rfl,rfl⟩
  ·rcases ko hb with ⟨j,u,rfl,e⟩ | ⟨y,u,rfl,e⟩
   ·injection e with e1 _;rw [e1]
   ·exact nomatch e
  ·rcases ko hb with ⟨j,u,rfl,e⟩ | ⟨y,u,rfl,e⟩
   ·exact nomatch e
   ·injection e with e1 _;rw [e1]
 byValue:=fun k v h=>by
  rcases ko h with ⟨i,t,rfl,rfl⟩ | ⟨x,t,rfl,rfl⟩ <;> rfl
 pyHash:=fun hv h=>by
  rcases ko hv with ⟨i,t,rfl,rfl⟩ | ⟨x,t,rfl,rfl⟩
  ·exact wpAny_pyHash_int h
  ·exact wpAny_pyHash_str h
 eqBool:=fun hu hv h=>by
  rcases ko hu with ⟨i,t,rfl,rfl⟩ | ⟨x,t,rfl,rfl⟩
  ·rcases ko hv with ⟨j,u,rfl,rfl⟩ | ⟨y,u,rfl,rfl⟩
   ·rw [jfA] at h;exact wpAny_eqBool_int h
   ·rw [jfz] at h;exact SeqAt.EqAt.int_str i t y u _ _ _ _ h
  ·rcases ko hv with ⟨j,u,rfl,rfl⟩ | ⟨y,u,rfl,rfl⟩
   ·rw [jfy] at h;exact SeqAt.EqAt.str_int x t j u _ _ _ _ h
   ·rw [jfx] at h;exact wpAny_eqBool_str h
 «strs»:=fun k x t v h=>by
  rcases ko h with ⟨i,u,rfl,e⟩ | ⟨y,u,rfl,e⟩
  ·exact nomatch e
  ·injection e with e1 _
   subst e1
   cases v <;> rfl
theorem Zk (prog:Program) (w:World) (i:Int) (t:Tok):(j9 prog w).is (.inl i) (.int i t)=true:=jbx i t
theorem Zj (prog:Program) (w:World) (x:Str) (t:Tok):(j9 prog w).is (.inr x) (.str x t)=true:=jbw x t
inductive V where
 | non | bl (b:Bool) | int (i:Int) | str (x:Str) | byt (b:Array UInt8) | flt (b:UInt64) | ref (a:Addr) | ty (n:String)
 deriving DecidableEq
def RelV:V→Value→Prop
 | .non,u=>u=Value.none
 | .bl b,u=>u=Value.bool b
 | .int i,u=>∃ t,u=Value.int i t
 | .str x,u=>∃ t,u=Value.str x t
 | .byt b,u=>∃ t,u=Value.bytes b t
 | .flt b,u=>∃ t,u=Value.float b t
 | .ref a,u=>u=Value.ref a
 | .ty n,u=>u=Value.type n
abbrev Vals:List V→List Value→Prop:=Paired RelV
theorem Vals.length {xs:List V} {us:List Value} (r:Vals xs us):xs.length=us.length:=Paired.length r
theorem Vals.get:∀ {xs:List V} {us:List Value} {i:Nat} {x:V},Vals xs us→xs[i]?=some x→∃ u,us[i]?=some u∧RelV x u
 | _,_,_,_,.nil,e=>by simp at e
 | _,_,0,_,.cons r _,e=>by simp at e;subst e;exact ⟨_,rfl,r⟩
 | _,_,i+1,x,.cons _ t,e=>by
  obtain ⟨u,h1,h2⟩:=Vals.get (i:=i) (x:=x) t (by simpa using e)
  exact ⟨u,by simpa using h1,h2⟩
theorem Vals.append:∀ {xs ys:List V} {us ws:List Value},Vals xs us→Vals ys ws→Vals (xs++ys) (us++ws)
 | _,_,_,_,.nil,s=>s
 | _,_,_,_,.cons r t,s=>.cons r (Vals.append t s)
theorem Vals.take:∀ {xs:List V} {us:List Value} (n:Nat),Vals xs us→Vals (xs.take n) (us.take n)
 | _,_,0,_=>.nil
 | _,_,_+1,.nil=>.nil
 | _,_,n+1,.cons r t=>.cons r (Vals.take n t)
theorem Vals.drop:∀ {xs:List V} {us:List Value} (n:Nat),Vals xs us→Vals (xs.drop n) (us.drop n)
 | _,_,0,r=>r
 | _,_,_+1,.nil=>.nil
 | _,_,n+1,.cons _ t=>Vals.drop n t
def RelO:Option V→Option Value→Prop
 | some v,some u=>RelV v u
 | none,none=>True
 | _,_=>False
def KV {κ:Type}:List (κ×V)→List (κ×Value)→Prop:=Paired fun (p:κ×V) (q:κ×Value)=>p.1=q.1∧RelV p.2 q.2
def kV:Key→V
 | .inl i=>.int i
 | .inr x=>.str x
inductive HO where
 | lst (xs:List V)
 | tup (xs:List V)
 | dK (kvs:List (Key×V)) | dT (kvs:List (List Key×V))
 | set (S:Int→Bool) (n:Nat)
 | ins (C dx:Addr) (fs:List (Str×V))
 | own (x:Addr)
 | xd (fs:List (Str×V))
 | met (f x:Addr)
 | rng (lo hi:Int)
 | frz (o:Obj) (u:HO)
 | tbl (ps:Array Value)
 | ext (φ:Heap→Prop)
abbrev Hp:=Addr→Option HO
def upd (H:Hp) (a:Addr) (o:HO):Hp:=fun b=>if b=a then some o else H b
theorem ja {H:Hp} {a:Addr} {o:HO}:upd H a o a=some o:=by unfold upd;rw [if_pos rfl]
theorem jl {H:Hp} {a b:Addr} {o:HO} (h:b≠a):upd H a o b=H b:=by unfold upd;rw [if_neg h]
theorem jeN {H:Hp} {a b:Addr} {o u:HO} (h:H a=some o) (h':H b=some u) (d:o≠u):a≠b:=by
 intro e;subst e;rw [h] at h';exact d (Option.some.inj h')
theorem jk {H:Hp} {a b:Addr} {o:HO} (h:H a=some o) (h':H b=none):a≠b:=by
 intro e;subst e;rw [h] at h';cases h'
section
variable (P:Program) (w:World)
def ObjOk (H:Hp) (h:Heap) (a:Addr):HO→Prop
 | .lst xs=>xs.length≤sizeLine∧∃ (its:List Value) (n:Nat),Vals xs its∧h.get? a=some { cls:=.type "list",data:=.seq its.toArray n }
 | .tup xs=>xs.length≤sizeLine∧∃ its:List Value,Vals xs its∧IsTup h a its.toArray
 | .dK kvs=>kvs.length≤sizeLine∧(a == sysModules)=false∧∃ vs,KV kvs vs∧h.DictOf (j9 P w) a vs
 | .dT kvs=>kvs.length≤sizeLine∧(a == sysModules)=false∧∃ xs:List (List Key×Addr×Value),
   Paired (fun (p:List Key×V) (q:List Key×Addr×Value)=>p.1=q.1∧H q.2.1=some (.tup (p.1.map kV))∧RelV p.2 q.2.2) kvs xs∧
   ∃ o es ep,h.get? a=some o∧o.ExactDict∧o.data=.dict es ep∧es.toList=xs.map (entryOfKey (tupleKind (j9 P w)))∧(xs.map (·.1)).Nodup
 | .set S n=>h.SetOf (intKind P w) a S n
 | .ins C dx fs=>H dx=some (.own a)∧fs.length≤1000∧dx≠a∧h.get? a=some (PySem.W.instObj C dx)∧
   ∃ mA,h.Ns1 dx mA∧(∀ f,RelO (fs.lookup f) (mA f))∧PySem.Within mA (fs.map (·.1))
 | .own _=>∃ o,h.get? a=some o
 | .xd fs=>∃ mA,h.Ns1 a mA∧∀ f,RelO (fs.lookup f) (mA f)
 | .rng lo hi=>∃ t u v,h.get? a=some { cls:=.type "range",data:=.fields #[.int lo t,.int hi u,.int 1 v] }
 | .frz o u=>h.get? a=some o∧ObjOk H h a u
 | .tbl ps=>h.get? a=some { cls:=.none,data:=.fields ps }
 | .met f x=>h.get? a=some (PySem.W.methodObj (.ref f) (.ref x))
 | .ext φ=>φ h∧(∃ o,h.get? a=some o)∧∀ h1 h2:Heap,φ h1→(∀ o,h1.get? a=some o→h2.get? a=some o)→φ h2
def HOk (H:Hp) (h:Heap):Prop:=∀ a o,H a=some o→ObjOk P w H h a o
end
section
variable {P:Program} {w:World} {H H':Hp} {h h':Heap} {a:Addr} {o:HO}
theorem ObjOk.lt (x:ObjOk P w H h a o):a < h.objs.size:=by
 cases o with
 | lst xs=>obtain ⟨_,_,_,_,e⟩:=x;exact Heap.lt_size e
 | tup xs=>obtain ⟨_,_,_,p⟩:=x;exact p.lt
 | dK kvs=>obtain ⟨_,_,_,_,o,_,_,e,_⟩:=x;exact Heap.lt_size e
 | dT kvs=>obtain ⟨_,_,_,_,o,_,_,e,_⟩:=x;exact Heap.lt_size e
 | set S n=>obtain ⟨o,_,_,_,e,_⟩:=x;exact Heap.lt_size e
 | ins C dx fs=>obtain ⟨_,_,_,e,_⟩:=x;exact Heap.lt_size e
 | own y=>obtain ⟨_,e⟩:=x;exact Heap.lt_size e
 | xd fs=>obtain ⟨_,⟨_,_,_,e,_⟩,_⟩:=x;exact Heap.lt_size e
 | rng lo hi=>obtain ⟨_,_,_,e⟩:=x;exact Heap.lt_size e
 | frz ob u=>obtain ⟨e,_⟩:=x;exact Heap.lt_size e
 | tbl ps=>exact Heap.lt_size (show h.get? a=some _ from x)
 | met f y=>exact Heap.lt_size (show h.get? a=some _ from x)
 | ext φ=>obtain ⟨_,⟨_,e⟩,_⟩:=x;exact Heap.lt_size e
theorem Paired.mapP {α β:Type} {F G:α→β→Prop}:∀ {l₁:List α} {l₂:List β},Paired F l₁ l₂→(∀ a b,F a b→G a b)→Paired G l₁ l₂
 | _,_,.nil,_=>.nil
 | _,_,.cons r t,f=>.cons (f _ _ r) (Paired.mapP t f)
theorem ObjOk.stay (x:ObjOk P w H h a o) (k:∀ b u,(b=a∨H b=some (.own a))→h.get? b=some u→h'.get? b=some u)
  (ho:∀ b,H b=some (.own a)→H' b=some (.own a)) (ht:∀ b xs,H b=some (.tup xs)→H' b=some (.tup xs)):ObjOk P w H' h' a o:=by
 induction o with
 | lst xs=>obtain ⟨z,its,n,r,e⟩:=x;exact ⟨z,its,n,r,k _ _ (.inl rfl) e⟩
 | tup xs=>obtain ⟨z,its,r,ob,e,c⟩:=x;exact ⟨z,its,r,ob,k _ _ (.inl rfl) e,c⟩
 | dK kvs=>obtain ⟨z,y,vs,r,ob,es,ep,e,c⟩:=x;exact ⟨z,y,vs,r,ob,es,ep,k _ _ (.inl rfl) e,c⟩
 | dT kvs=>
  obtain ⟨z,y,xs,r,ob,es,ep,e,c⟩:=x
  exact ⟨z,y,xs,Paired.mapP r fun p q z=>⟨z.1,ht _ _ z.2.1,z.2.2⟩,ob,es,ep,k _ _ (.inl rfl) e,c⟩
 | set S n=>obtain ⟨ob,es,ep,t,e,c⟩:=x;exact ⟨ob,es,ep,t,k _ _ (.inl rfl) e,c⟩
 | ins C dx fs=>
  obtain ⟨d,z,ne,e,mA,⟨od,es,ep,e2,c⟩,r⟩:=x
  exact ⟨ho _ d,z,ne,k _ _ (.inl rfl) e,mA,⟨od,es,ep,k _ _ (.inr d) e2,c⟩,r⟩
 | own y=>obtain ⟨ob,e⟩:=x;exact ⟨ob,k _ _ (.inl rfl) e⟩
 | xd fs=>obtain ⟨mA,⟨od,es,ep,e,c⟩,r⟩:=x;exact ⟨mA,⟨od,es,ep,k _ _ (.inl rfl) e,c⟩,r⟩
 | rng lo hi=>obtain ⟨t,u,v,e⟩:=x;exact ⟨t,u,v,k _ _ (.inl rfl) e⟩
 | frz ob u ih=>obtain ⟨e,q⟩:=x;exact ⟨k _ _ (.inl rfl) e,ih q⟩
 | tbl ps=>
  have e:h.get? a=some { cls:=.none,data:=.fields ps }:=x
  show h'.get? a=some { cls:=.none,data:=.fields ps }
  exact k a _ (.inl rfl) e
 | met f y=>
  have e:h.get? a=some (PySem.W.methodObj (.ref f) (.ref y)):=x
  show h'.get? a=some (PySem.W.methodObj (.ref f) (.ref y))
  exact k a _ (.inl rfl) e
 | ext φ=>obtain ⟨p,⟨o,e⟩,st⟩:=x;exact ⟨st _ _ p fun o q=>k _ _ (.inl rfl) q,⟨o,k _ _ (.inl rfl) e⟩,st⟩
theorem HOk.lt (x:HOk P w H h) (e:H a=some o):a < h.objs.size:=(x a o e).lt
theorem HOk.fresh (x:HOk P w H h) (e:h.objs.size≤a):H a=none:=by
 cases q:H a with
 | none=>rfl
 | some u=>exact absurd (Nat.lt_of_lt_of_le (x.lt q) e) (Nat.lt_irrefl _)
theorem HOk.kept (x:HOk P w H h) (k:∀ b u,h.get? b=some u→h'.get? b=some u):HOk P w H h':=fun a o e=>
 (x a o e).stay (fun b u _ q=>k b u q) (fun _ q=>q) fun _ _ q=>q
theorem HOk.laid (x:HOk P w H h) (k:∀ b u,h.get? b=some u→h'.get? b=some u) (hp:h.objs.size≤a) (new:ObjOk P w (upd H a o) h' a o):HOk P w (upd H a o) h':=fun b u e=>by
 have hn:=x.fresh hp
 by_cases hb:b=a
 ·subst hb;rw [ja] at e;cases e;exact new
 ·rw [jl hb] at e
  exact (x b u e).stay (fun c v _ q=>k c v q) (fun c q=>by rw [jl (jk q hn)];exact q) fun c xs q=>by rw [jl (jk q hn)];exact q
end
def Rd (H:Hp) (a:Addr) (u:HO):Prop:=H a=some u∨∃ o,H a=some (.frz o u)
theorem Rd.ok {P:Program} {w:World} {H:Hp} {h:Heap} {a:Addr} {u:HO} (r:Rd H a u) (x:HOk P w H h):ObjOk P w H h a u:=by
 rcases r with r | ⟨o,r⟩
 ·exact x a u r
 ·obtain ⟨_,q⟩:=x a _ r
  exact q
def Mut:Option HO→Prop
 | some (.lst _)=>True
 | some (.dK _)=>True
 | some (.dT _)=>True
 | some (.set _ _)=>True
 | some (.ins _ _ _)=>True
 | some (.ext _)=>True
 | _=>False
section
variable {P:Program} {w:World} {H:Hp} {h h':Heap} {x e:Addr} {o':HO}
theorem HOk.write (ok:HOk P w H h) (mu:Mut (H x)) (he:e=x∨H e=some (.own x)) (k:∀ b u,b≠e→h.get? b=some u→h'.get? b=some u) (heo:∃ u,h'.get? e=some u)
  (new:ObjOk P w (upd H x o') h' x o'):HOk P w (upd H x o') h':=fun b u q=>by
 have nown:∀ c y,H c=some (.own y)→c≠x:=fun c y r z=>by subst z;rw [r] at mu;exact mu
 have ntup:∀ c xs,H c=some (.tup xs)→c≠x:=fun c xs r z=>by subst z;rw [r] at mu;exact mu
 by_cases hb:b=x
 ·subst hb;rw [ja] at q;cases q;exact new
 ·rw [jl hb] at q
  by_cases hbe:b=e
  ·have q':H b=some (.own x):=by
    rcases he with z | z
    ·exact absurd (hbe.trans z) hb
    ·rw [hbe];exact z
   rw [q] at q';cases q'
   obtain ⟨v,hv⟩:=heo
   exact ⟨v,by rw [hbe];exact hv⟩
  ·refine (ok b u q).stay (fun c v hc r=>k c v ?_ r) (fun c r=>by rw [jl (nown c b r)];exact r) fun c xs r=>by rw [jl (ntup c xs r)];exact r
   rcases hc with rfl | hc
   ·exact hbe
   ·rintro rfl
    rcases he with z | z
    ·exact nown c b hc z
    ·rw [hc] at z;cases z;exact hb rfl
end
structure Un (fs ex:List Addr) (H H':Hp) (h h':Heap):Prop where
 keep:∀ b o,h.get? b=some o→H b=none→b ∉ fs→b ∉ ex→h'.get? b=some o
 slot:∀ b o,h.get? b=some o→H b=none→b∈fs→b ∉ ex→∃ sl,h'.get? b=some { o with slots:=sl }
 free:∀ b o,h.get? b=some o→H b=none→b ∉ ex→H' b=none
 there:∀ b o,h.get? b=some o→b ∉ ex→∃ o',h'.get? b=some o'
 tups:∀ b xs,H b=some (.tup xs)→H' b=some (.tup xs)
 frzs:∀ b o u,H b=some (.frz o u)→H' b=some (.frz o u)
 tbls:∀ b ps,H b=some (.tbl ps)→∃ more,H' b=some (.tbl (ps++more))
section
variable {fs fs' ex ex':List Addr} {H H1 H2:Hp} {h h1 h2 h':Heap} {a x e:Addr} {o:HO}
theorem Un.any (u:Un fs ex H H1 h h1) {b:Addr} {ob:Obj} (q:h.get? b=some ob) (n:H b=none) (hx:b ∉ ex):∃ sl,h1.get? b=some { ob with slots:=sl }:=by
 by_cases hb:b∈fs
 ·exact u.slot b ob q n hb hx
 ·exact ⟨ob.slots,u.keep b ob q n hb hx⟩
theorem Un.kept (k:∀ b u,h.get? b=some u→h'.get? b=some u):Un fs ex H H h h':=
 ⟨fun b ob q _ _ _=>k b ob q,fun b ob q _ _ _=>⟨ob.slots,k b ob q⟩,fun _ _ _ n _=>n,fun b ob q _=>⟨ob,k b ob q⟩,fun _ _ q=>q,fun _ _ _ q=>q,fun _ ps q=>⟨#[],by rw [q];simp⟩⟩
theorem Un.refl:Un fs ex H H h h:=Un.kept fun _ _ q=>q
theorem Un.laid (k:∀ b u,h.get? b=some u→h'.get? b=some u) (hp:h.objs.size≤a) (hn:H a=none):Un fs ex H (upd H a o) h h' where
 keep:=fun b u q _ _ _=>k b u q
 slot:=fun b u q _ _ _=>⟨u.slots,k b u q⟩
 free:=fun b u q n _=>by rw [jl (Nat.ne_of_lt (Nat.lt_of_lt_of_le (Heap.lt_size q) hp))];exact n
 there:=fun b u q _=>⟨u,k b u q⟩
 tups:=fun b xs q=>by rw [jl (jk q hn)];exact q
 frzs:=fun b u xs q=>by rw [jl (jk q hn)];exact q
 tbls:=fun b ps q=>⟨#[],by rw [jl (jk q hn),q];simp⟩
theorem Un.write (mu:Mut (H x)) (he:e=x∨H e=some (.own x)) (k:∀ b u,b≠e→h.get? b=some u→h'.get? b=some u) (heo:∃ u,h'.get? e=some u):Un fs ex H (upd H x o) h h':=by
 have hx:∀ b,H b=none→b≠x:=fun b n z=>by subst z;rw [n] at mu;exact mu
 have hb:∀ b,H b=none→b≠e:=fun b n z=>by
  subst z
  rcases he with r | r
  ·exact hx b n r
  ·rw [n] at r;cases r
 have hm:∀ b u,H b=some u→¬ Mut (some u)→b≠x:=fun b u q nm z=>by subst z;rw [q] at mu;exact nm mu
 refine ⟨fun b u q n _ _=>k b u (hb b n) q,fun b u q n _ _=>⟨u.slots,k b u (hb b n) q⟩,fun b u q n _=>by rw [jl (hx b n)];exact n,fun b u q _=>?_,
  fun b xs q=>by rw [jl (hm b _ q fun z=>z)];exact q,fun b u xs q=>by rw [jl (hm b _ q fun z=>z)];exact q,fun b ps q=>⟨#[],by rw [jl (hm b _ q fun z=>z),q];simp⟩⟩
 by_cases hbe:b=e
 ·subst hbe;exact heo
 ·exact ⟨u,k b u hbe q⟩
end
def trk (h:Heap) (H:Hp):List Addr:=(List.range h.objs.size).filter fun a=>(H a).isSome
def YH (h:Heap) (H:Hp):Heap:=PySem.W.hideAll h (trk h H)
theorem jbC (h:Heap) (H:Hp):(YH h H).objs.size=h.objs.size:=PySem.W.hideAll_size _ _
theorem jc7 {h:Heap} {H:Hp} {b:Addr} {o:Obj} (e:h.get? b=some o) (n:H b=none):(YH h H).get? b=some o:=
 PySem.W.hideAll_get _ e fun hm=>by
  have q:(H b).isSome=true:=(List.mem_filter.mp hm).2
  rw [n] at q;simp at q
theorem jee {h:Heap} {H:Hp} {b:Addr} {o:Obj} (e:(YH h H).get? b=some o):h.get? b=some o∧H b=none:=by
 have e':h.get? b=some o:=PySem.W.of_hideAll (trk h H) e
 refine ⟨e',?_⟩
 cases q:H b with
 | none=>rfl
 | some x=>
  have hm:b∈trk h H:=List.mem_filter.mpr ⟨List.mem_range.mpr (Heap.lt_size e'),by simp [q]⟩
  have z:(YH h H).get? b=none:=PySem.W.hideAll_none (trk h H) hm
  rw [z] at e;cases e
def jew (g h:Heap) (L:Addr):List (Addr×Obj):=(List.range h.objs.size).filterMap fun a=>if a=L∨(g.get? a).isSome=true then none else (h.get? a).map fun o=>(a,o)
def qi (g h:Heap) (L d:Addr):List (Addr×Obj):=(jew g h L).filter fun p=>decide (p.1≠d)
structure Mod (K:PySem.W.Frag) (mg:Str→Option Value) (base:Heap):Prop where
 kin:K.In base
 glob:base.Ns mainGlobals mg
 blt:∃ mb,base.Ns builtinsNs mb∧∀ x:Str,x≠"__name__"→mb x=bootBuiltins x
 nolimit:base.NoLimit
structure Cx where
 prog:Program
 w:World
 K:PySem.W.Frag
 mg:Str→Option Value
 base:Heap
 A:Around
 N:List Str
 s₀:Shared
 H₀:Hp
 env:Env
 outer:List Env
 stack:List Env
 ex:List Addr
 fn:Str→Bool
 calm:Bool
 pn:List (Addr×Obj)
 xe:Value→Shared→Prop
def frs (l:List Env):List Addr:=l.filterMap (·.frame)
abbrev Cx.fs (X:Cx):List Addr:=frs X.outer
def Vis (sc:Scope) (x:Str):Prop:=sc.names.lookup x=some .local∨sc.names.lookup x=some .cell∨sc.names.lookup x=some .free
def Loc (sc:Scope) (x:Str):Prop:=sc.names.lookup x=some .local∨sc.names.lookup x=some .cell
def jgD (env:Env) (h:Heap) (m:Str→Option Value) (x:Str) (u:Value):Prop:=
 (env.kindOf x=some .local∧m x=some u)∨((env.kindOf x=some .cell∨env.kindOf x=some .free)∧∃ c,env.cells.lookup x=some c∧h.IsCell c (some u))
structure Cx.Ok (X:Cx):Prop where
 mod:Mod X.K X.mg X.base
 kind:X.env.scope.kind=.function
 glob:X.env.globals=mainGlobals
 blt:X.env.builtins=builtinsNs
 above:X.s₀.heap.objs.size≤X.env.locals
 inj:∀ x y c,X.env.cells.lookup x=some c→X.env.cells.lookup y=some c→x=y
 has:∀ x,(X.env.kindOf x=some .cell∨X.env.kindOf x=some .free)→∃ c,X.env.cells.lookup x=some c
 cab:∀ x c,X.fn x=true→X.env.cells.lookup x=some c→X.s₀.heap.objs.size≤c
 hd:X.calm=true→X.A.handled=none
 frames:X.A.frames=some X.stack
 stk:X.stack=X.outer∨(X.stack=X.env :: X.outer∧X.env.frame=some X.env.locals)
 exf:∀ b∈X.ex,b≠X.env.locals∧∀ x c,X.env.cells.lookup x=some c→c≠b
 bs:∀ b o,X.base.get? b=some o→X.s₀.heap.get? b=some o∧X.H₀ b=none
 bsz:X.base.objs.size≤X.s₀.heap.objs.size
 noex:∀ b o,X.base.get? b=some o→b ∉ X.ex
 exfs:∀ b∈X.ex,b ∉ X.fs
 funs:X.s₀.heap.FunFrames X.base X.outer
 frf:∀ b∈X.fs,X.H₀ b=none
structure Inv (X:Cx) (pins:List (Addr×Obj)) (σ:List (Option V)) (H:Hp) (s:Shared):Prop where
 ok:X.Ok
 os:s.os=X.s₀.os
 bare:AllBare s.gens
 base:Un X.fs X.ex X.H₀ H X.s₀.heap s.heap
 loc:∃ m,s.heap.Ns X.env.locals m∧∀ (i:Nat) (x:Str) (v:V),X.N[i]?=some x→σ[i]?=some (some v)→Vis X.env.scope x→∃ u,RelV v u∧jgD X.env s.heap m x u
 cell:∀ x c,X.env.cells.lookup x=some c→∃ v,s.heap.IsCell c v
 free:H X.env.locals=none
 freeC:∀ x c,X.env.cells.lookup x=some c→H c=none
 pin:∀ p∈X.pn++pins,s.heap.get? p.1=some p.2∧H p.1=none∧p.1≠X.env.locals∧p.1 ∉ X.fs∧∀ v,p.2.data≠.cell v
 hok:HOk X.prog X.w H s.heap
 len:σ.length=X.N.length
section
variable {X:Cx} {pins:List (Addr×Obj)} {σ:List (Option V)} {H H':Hp} {s:Shared} {h':Heap}
theorem Cx.Ok.nofr (ok:X.Ok) {b:Addr} {o:Obj} (e:X.base.get? b=some o):b ∉ X.fs:=fun hb=>by
 have:=(ok.funs.mem hb).1
 rw [e] at this;cases this
theorem Inv.bs (I:Inv X pins σ H s):∀ b o,X.base.get? b=some o→s.heap.get? b=some o∧H b=none:=fun b o e=>
 ⟨I.base.keep b o (I.ok.bs b o e).1 (I.ok.bs b o e).2 (I.ok.nofr e) (I.ok.noex b o e),I.base.free b o (I.ok.bs b o e).1 (I.ok.bs b o e).2 (I.ok.noex b o e)⟩
theorem Inv.bk (I:Inv X pins σ H s):∀ b o,X.base.get? b=some o→s.heap.get? b=some o:=fun b o e=>(I.bs b o e).1
theorem Inv.mod (I:Inv X pins σ H s):Mod X.K X.mg X.base:=I.ok.mod
theorem Inv.kIn (I:Inv X pins σ H s):X.K.In s.heap:=I.ok.mod.kin.keeps I.bk
theorem Inv.nolimit (I:Inv X pins σ H s):s.heap.NoLimit:=I.ok.mod.nolimit.keeps I.bk
theorem Inv.fr (I:Inv X pins σ H s):∃ m,Fr X.base X.env.locals s.heap m:=
 let ⟨m,hn,_⟩:=I.loc
 ⟨m,hn,I.bk,Nat.le_trans I.ok.bsz I.ok.above⟩
theorem Inv.lt (I:Inv X pins σ H s):X.env.locals < s.heap.objs.size:=let ⟨_,hn,_⟩:=I.loc;hn.lt
theorem Inv.sz (I:Inv X pins σ H s):X.s₀.heap.objs.size≤s.heap.objs.size:=Nat.le_trans I.ok.above (Nat.le_of_lt I.lt)
theorem Inv.nofs (I:Inv X pins σ H s) {a:Addr} (h:s.heap.objs.size≤a):a ∉ X.fs:=fun hb=>by
 obtain ⟨_,o,ho,_⟩:=I.ok.funs.mem hb
 exact absurd (Nat.lt_of_lt_of_le (Heap.lt_size ho) (Nat.le_trans I.sz h)) (Nat.lt_irrefl _)
theorem Inv.cne (I:Inv X pins σ H s):∀ x c,X.env.cells.lookup x=some c→c≠X.env.locals:=fun x c e z=>by
 obtain ⟨v,o,ho,hd⟩:=I.cell x c e
 obtain ⟨m,⟨o',es,ep,ho',hd',_⟩,_⟩:=I.loc
 rw [z,ho'] at ho;cases ho;rw [hd'] at hd;cases hd
theorem Inv.funs (I:Inv X pins σ H s):s.heap.FunFrames X.base X.outer:=by
 have all:∀ (l:List Env),(∀ b∈frs l,b∈X.fs)→X.s₀.heap.FunFrames X.base l→s.heap.FunFrames X.base l:=by
  intro l
  induction l with
  | nil=>intro _ _;trivial
  | cons env r ih=>
   intro hs hl
   obtain ⟨hk,⟨L,o,hf,hn,ho,hd⟩,hr⟩:=hl
   have hL:L∈X.fs:=hs L (by unfold frs;rw [List.filterMap_cons,hf];exact List.mem_cons_self)
   obtain ⟨sl,e⟩:=I.base.slot L o ho (I.ok.frf L hL) hL fun z=>I.ok.exfs L z hL
   exact ⟨hk,⟨L,_,hf,hn,e,hd⟩,ih (fun b hb=>hs b (by unfold frs;rw [List.filterMap_cons,hf];exact List.mem_cons_of_mem _ hb)) hr⟩
 exact all X.outer (fun _ hb=>hb) I.ok.funs
theorem Inv.stack (I:Inv X pins σ H s):s.heap.FunFrames X.base X.stack:=by
 rcases I.ok.stk with e | ⟨e,hf⟩
 ·rw [e];exact I.funs
 ·rw [e]
  obtain ⟨m,hn,_⟩:=I.loc
  refine .cons (by rw [I.ok.kind];decide) hf hn ?_ I.funs
  exact Heap.get?_none_of_le (Nat.le_trans I.ok.bsz I.ok.above)
theorem Inv.stkSub (I:Inv X pins σ H s):∀ b∈frs X.stack,b∈X.env.locals :: X.fs:=fun b hb=>by
 rcases I.ok.stk with e | ⟨e,hf⟩
 ·rw [e] at hb;exact List.mem_cons_of_mem _ hb
 ·rw [e] at hb
  unfold frs at hb
  rw [List.filterMap_cons,hf] at hb
  exact hb
theorem Inv.stkFree (I:Inv X pins σ H s):∀ b∈frs X.stack,H b=none:=fun b hb=>by
 rcases List.mem_cons.mp (I.stkSub b hb) with e | hb
 ·rw [e];exact I.free
 ·obtain ⟨_,o,ho,_⟩:=I.ok.funs.mem hb
  exact I.base.free b o ho (I.ok.frf b hb) fun z=>I.ok.exfs b z hb
theorem Inv.step {g':Array GenState} {t':Nat} {d':Drawn} {ch:List Addr} (I:Inv X pins σ H s)
  (hch:∀ b∈ch,(b∈X.ex∨X.s₀.heap.objs.size≤b)∧b≠X.env.locals∧(∀ x c,X.env.cells.lookup x=some c→c≠b)∧∀ p∈X.pn++pins,p.1≠b)
  (keep:∀ b o,b≠X.env.locals→b ∉ X.fs→b ∉ ch→s.heap.get? b=some o→H b=none→h'.get? b=some o)
  (slot:∀ b o,b≠X.env.locals→b∈X.fs→b ∉ ch→s.heap.get? b=some o→H b=none→∃ sl,h'.get? b=some { o with slots:=sl }) (free:∀ b o,b ∉ ch→s.heap.get? b=some o→H b=none→H' b=none)
  (there:∀ b o,b ∉ ch→s.heap.get? b=some o→∃ o',h'.get? b=some o')
  (tups:∀ b xs,H b=some (.tup xs)→H' b=some (.tup xs)) (frzs:∀ b o u,H b=some (.frz o u)→H' b=some (.frz o u)) (tbls:∀ b ps,H b=some (.tbl ps)→∃ more,H' b=some (.tbl (ps++more)))
  (ns:∀ m,s.heap.Ns X.env.locals m→h'.Ns X.env.locals m) (hok:HOk X.prog X.w H' h') (hg:AllBare g') :
  Inv X pins σ H' { s with heap:=h',gens:=g',drawn:=d',toks:=t' }:=by
 have neL:∀ b o,X.s₀.heap.get? b=some o→b≠X.env.locals:=fun b o e=>Nat.ne_of_lt (Nat.lt_of_lt_of_le (Heap.lt_size e) I.ok.above)
 have neC:∀ b o,X.s₀.heap.get? b=some o→b ∉ X.ex→b ∉ ch:=fun b o e hx hb=>by
  rcases (hch b hb).1 with z | z
  ·exact hx z
  ·exact absurd (Nat.lt_of_lt_of_le (Heap.lt_size e) z) (Nat.lt_irrefl _)
 have cellK:∀ x c,X.env.cells.lookup x=some c→∀ v,s.heap.IsCell c v→h'.IsCell c v:=fun x c e v ⟨o,ho,hd⟩=>by
  have nch:c ∉ ch:=fun z=>(hch c z).2.2.1 x c e rfl
  by_cases hc:c∈X.fs
  ·obtain ⟨sl,q⟩:=slot c o (I.cne x c e) hc nch ho (I.freeC x c e)
   exact ⟨_,q,hd⟩
  ·exact ⟨o,keep c o (I.cne x c e) hc nch ho (I.freeC x c e),hd⟩
 refine ⟨I.ok,I.os,hg,⟨fun b o e n hb hx=>?_,fun b o e n hb hx=>?_,fun b o e n hx=>?_,fun b o e hx=>?_,fun b xs e=>tups b xs (I.base.tups b xs e),fun b o xs e=>frzs b o xs (I.base.frzs b o xs e),fun b ps e=>?_⟩,?_,fun x c e=>?_,?_,fun x c e=>?_,fun p hp=>?_,hok,I.len⟩
 ·exact keep b o (neL b o e) hb (neC b o e hx) (I.base.keep b o e n hb hx) (I.base.free b o e n hx)
 ·obtain ⟨sl,e1⟩:=I.base.slot b o e n hb hx
  obtain ⟨sl',e2⟩:=slot b _ (neL b o e) hb (neC b o e hx) e1 (I.base.free b o e n hx)
  exact ⟨sl',e2⟩
 ·obtain ⟨o',e1⟩:=I.base.there b o e hx
  exact free b o' (neC b o e hx) e1 (I.base.free b o e n hx)
 ·obtain ⟨o',e1⟩:=I.base.there b o e hx
  exact there b o' (neC b o e hx) e1
 ·obtain ⟨m1,e1⟩:=I.base.tbls b ps e
  obtain ⟨m2,e2⟩:=tbls b _ e1
  exact ⟨m1++m2,by rw [e2,Array.append_assoc]⟩
 ·obtain ⟨m,hn,hl⟩:=I.loc
  refine ⟨m,ns m hn,fun i x v e1 e2 e3=>?_⟩
  obtain ⟨u,r,l⟩:=hl i x v e1 e2 e3
  refine ⟨u,r,?_⟩
  rcases l with l | ⟨k,c,e,z⟩
  ·exact .inl l
  ·exact .inr ⟨k,c,e,cellK x c e _ z⟩
 ·obtain ⟨v,z⟩:=I.cell x c e
  exact ⟨v,cellK x c e v z⟩
 ·obtain ⟨m,⟨o,_,_,ho,_⟩,_⟩:=I.loc
  exact free _ o (fun z=>(hch _ z).2.1 rfl) ho I.free
 ·obtain ⟨v,o,ho,hd⟩:=I.cell x c e
  exact free c o (fun z=>(hch c z).2.2.1 x c e rfl) ho (I.freeC x c e)
 ·obtain ⟨e,n,ne,nf,d⟩:=I.pin p hp
  have nch:p.1 ∉ ch:=fun z=>(hch p.1 z).2.2.2 p hp rfl
  exact ⟨keep p.1 p.2 ne nf nch e n,free p.1 p.2 nch e n,ne,nf,d⟩
theorem Inv.un {t':Nat} (I:Inv X pins σ H s) (u:Un X.fs [] H H' s.heap h') (hok:HOk X.prog X.w H' h'):Inv X pins σ H' { s with heap:=h',toks:=t' }:=by
 obtain ⟨m,⟨o,es,ep,ho,r⟩,_⟩:=id I.loc
 obtain ⟨sl,hL⟩:=u.any ho I.free (by simp)
 exact I.step (g':=s.gens) (d':=s.drawn) (ch:=[]) (fun _ z=>nomatch z) (fun b o _ hb _ e n=>u.keep b o e n hb (by simp)) (fun b o _ hb _ e n=>u.slot b o e n hb (by simp)) (fun b o _ e n=>u.free b o e n (by simp)) (fun b o _ e=>u.there b o e (by simp)) u.tups u.frzs u.tbls (fun m' hm=>by
  obtain ⟨o',es',ep',ho',r'⟩:=hm
  rw [ho] at ho';cases ho'
  exact ⟨_,es',ep',hL,r'⟩) hok I.bare
theorem Inv.call {g':Array GenState} {t':Nat} {d':Drawn} {ch:List Addr} (I:Inv X pins σ H s) (u:Un (frs X.stack) ch H H' s.heap h') (hok:HOk X.prog X.w H' h') (hg:AllBare g')
  (hch:∀ b∈ch,(b∈X.ex∨X.s₀.heap.objs.size≤b)∧b≠X.env.locals∧(∀ x c,X.env.cells.lookup x=some c→c≠b)∧∀ p∈X.pn++pins,p.1≠b) :
  Inv X pins σ H' { s with heap:=h',gens:=g',drawn:=d',toks:=t' }:=by
 obtain ⟨m,⟨o,es,ep,ho,r⟩,_⟩:=id I.loc
 obtain ⟨sl,hL⟩:=u.any ho I.free fun z=>(hch _ z).2.1 rfl
 exact I.step (ch:=ch) hch (fun b o hL hb hc e n=>u.keep b o e n (fun z=>(List.mem_cons.mp (I.stkSub b z)).elim hL hb) hc) (fun b o _ _ hc e n=>u.any e n hc) (fun b o hc e n=>u.free b o e n hc) (fun b o hc e=>u.there b o e hc) u.tups u.frzs u.tbls (fun m' hm=>by
  obtain ⟨o',es',ep',ho',r'⟩:=hm
  rw [ho] at ho';cases ho'
  exact ⟨_,es',ep',hL,r'⟩) hok hg
theorem Inv.turned {t':Nat} {it:Addr} (I:Inv X pins σ H s) (k:∀ b o,b≠it→s.heap.get? b=some o→h'.get? b=some o) (hn:H it=none) (hL:it≠X.env.locals)
  (h1:it∈X.ex∨X.s₀.heap.objs.size≤it) (h2:∀ x c,X.env.cells.lookup x=some c→c≠it) (h3:∀ p∈X.pn++pins,p.1≠it):Inv X pins σ H { s with heap:=h',toks:=t' }:=by
 have nit:∀ b u,H b=some u→b≠it:=fun b u e z=>by rw [z,hn] at e;cases e
 refine I.step (g':=s.gens) (d':=s.drawn) (ch:=[it]) (fun b hb=>?_) (fun b o _ _ hc e _=>k b o (fun z=>hc (by simp [z])) e) (fun b o _ _ hc e _=>⟨o.slots,k b o (fun z=>hc (by simp [z])) e⟩) (fun _ _ _ _ n=>n)
  (fun b o hc e=>⟨o,k b o (fun z=>hc (by simp [z])) e⟩) (fun _ _ e=>e) (fun _ _ _ e=>e) (fun b ps e=>⟨#[],by rw [e];simp⟩) (fun m hm=>?_) (fun b u e=>?_) I.bare
 ·have e:b=it:=by simpa using hb
  subst e
  exact ⟨h1,hL,h2,h3⟩
 ·obtain ⟨o,es,ep,ho,r⟩:=hm
  exact ⟨o,es,ep,k _ o (Ne.symm hL) ho,r⟩
 ·refine (I.hok b u e).stay (fun c v hc q=>k c v ?_ q) (fun _ q=>q) fun _ _ q=>q
  rcases hc with z | z
  ·rw [z];exact nit b u e
  ·exact nit c _ z
theorem Inv.tok (I:Inv X pins σ H s) (t:Nat):Inv X pins σ H { s with toks:=t }:=I.un (h':=s.heap) (t':=t) Un.refl I.hok
theorem Inv.kept {t':Nat} (I:Inv X pins σ H s) (k:∀ b u,s.heap.get? b=some u→h'.get? b=some u):Inv X pins σ H { s with heap:=h',toks:=t' }:=I.un (Un.kept k) (I.hok.kept k)
theorem Inv.laid {a:Addr} {o:HO} {t':Nat} (I:Inv X pins σ H s) (k:∀ b u,s.heap.get? b=some u→h'.get? b=some u) (hp:s.heap.objs.size≤a) (new:ObjOk X.prog X.w (upd H a o) h' a o) :
  Inv X pins σ (upd H a o) { s with heap:=h',toks:=t' }:=I.un (Un.laid k hp (I.hok.fresh hp)) (I.hok.laid k hp new)
theorem Inv.write {x e:Addr} {o:HO} {t':Nat} (I:Inv X pins σ H s) (mu:Mut (H x)) (he:e=x∨H e=some (.own x)) (k:∀ b u,b≠e→s.heap.get? b=some u→h'.get? b=some u) (heo:∃ u,h'.get? e=some u)
  (new:ObjOk X.prog X.w (upd H x o) h' x o):Inv X pins σ (upd H x o) { s with heap:=h',toks:=t' }:=I.un (Un.write mu he k heo) (I.hok.write mu he k heo new)
theorem Inv.pins_of {pins':List (Addr×Obj)} (I:Inv X pins σ H s) (h:∀ p∈pins',s.heap.get? p.1=some p.2∧H p.1=none∧p.1≠X.env.locals∧p.1 ∉ X.fs∧∀ v,p.2.data≠.cell v):Inv X pins' σ H s:=
 ⟨I.ok,I.os,I.bare,I.base,I.loc,I.cell,I.free,I.freeC,fun p hp=>(List.mem_append.mp hp).elim (fun z=>I.pin p (List.mem_append_left _ z)) (h p),I.hok,I.len⟩
theorem J4 {N:List Str} (hN:N.Nodup) {i j:Nat} {x:Str} (a:N[i]?=some x) (b:N[j]?=some x):i=j:=by
 obtain ⟨h1,e1⟩:=List.getElem?_eq_some_iff.mp a
 obtain ⟨h2,e2⟩:=List.getElem?_eq_some_iff.mp b
 exact (List.getElem_inj hN).mp (e1.trans e2.symm)
theorem KJ {M:Model} {A:Around} {E:Value→Shared→Prop} {i:Nat} {x:Str} {v:V} {u:Value} {Q:Unit→Shared→Prop} (I:Inv X pins σ H s) (hN:X.N.Nodup) (hi:X.N[i]?=some x) (hx:Loc X.env.scope x) (r:RelV v u)
  (h:∀ s',Inv X pins (σ.set i (some v)) H s'→(∃ a,Heap.SameBut a s.heap s'.heap∧(a=X.env.locals∨X.env.cells.lookup x=some a))→Q () s') (hf:X.fn x=true∨X.env.scope.names.lookup x=some .local:=by first | exact .inl rfl | exact .inr rfl | assumption):wpAny M A (storeName X.env x u) Q E s:=by
 obtain ⟨m,hn,hl⟩:=id I.loc
 have hcls:(X.env.scope.kind == .class || (X.env.scope.kind == .module && X.env.locals != X.env.globals))=false:=by rw [I.ok.kind];rfl
 have hiσ:i < σ.length:=by rw [I.len];exact (List.getElem?_eq_some_iff.mp hi).1
 have cne:=I.cne
 have tracked:∀ {a:Addr} {h':Heap},(∃ o,s.heap.get? a=some o∧H a=none)→Heap.SameBut a s.heap h'→HOk X.prog X.w H h':=fun {a h'} ha hs b ob e=>by
  obtain ⟨_,_,hfree⟩:=ha
  refine (I.hok b ob e).stay (fun c w' hc q=>(hs.2 c ?_).trans q) (fun _ q=>q) fun _ _ q=>q
  rintro rfl
  rcases hc with rfl | hc
  ·rw [hfree] at e;cases e
  ·rw [hfree] at hc;cases hc
 rcases hx with hk | hk
 ·refine wpAny_storeName_local hk hn (fun h' hn' hs=>?_) hcls
  obtain ⟨oL,_,_,hoL,_⟩:=id hn
  refine h _ ⟨I.ok,I.os,I.bare,⟨fun b o e n hb hx=>?_,fun b o e n hb hx=>?_,I.base.free,fun b o e hx=>?_,I.base.tups,I.base.frzs,I.base.tbls⟩,⟨_,hn',fun j y v' e1 e2 e3=>?_⟩,fun y c e=>?_,I.free,I.freeC,fun p hp=>?_,tracked ⟨oL,hoL,I.free⟩ hs,by simpa using I.len⟩ ⟨_,hs,.inl rfl⟩
  ·exact (hs.2 b (Nat.ne_of_lt (Nat.lt_of_lt_of_le (Heap.lt_size e) I.ok.above))).trans (I.base.keep b o e n hb hx)
  ·obtain ⟨sl,e1⟩:=I.base.slot b o e n hb hx
   exact ⟨sl,(hs.2 b (Nat.ne_of_lt (Nat.lt_of_lt_of_le (Heap.lt_size e) I.ok.above))).trans e1⟩
  ·obtain ⟨o',e1⟩:=I.base.there b o e hx
   exact ⟨o',(hs.2 b (Nat.ne_of_lt (Nat.lt_of_lt_of_le (Heap.lt_size e) I.ok.above))).trans e1⟩
  ·by_cases hj:j=i
   ·subst hj
    rw [hi] at e1;cases e1
    rw [List.getElem?_set_self hiσ] at e2
    cases e2
    exact ⟨u,r,.inl ⟨hk,by simp⟩⟩
   ·rw [List.getElem?_set_ne (Ne.symm hj)] at e2
    obtain ⟨u',r',q⟩:=hl j y v' e1 e2 e3
    refine ⟨u',r',?_⟩
    rcases q with ⟨k,e⟩ | ⟨k,c,e,z⟩
    ·refine .inl ⟨k,?_⟩
     have:y≠x:=fun e=>hj (J4 hN e1 (e ▸ hi))
     simp [this,e]
    ·exact .inr ⟨k,c,e,z.sameBut hs (cne y c e)⟩
  ·obtain ⟨w',z⟩:=I.cell y c e
   exact ⟨w',z.sameBut hs (cne y c e)⟩
  ·obtain ⟨e,n,ne,nf,d⟩:=I.pin p hp
   exact ⟨(hs.2 p.1 ne).trans e,n,ne,nf,d⟩
 ·have hfn:X.fn x=true:=by
   rcases hf with z | z
   ·exact z
   ·rw [z] at hk;cases hk
  obtain ⟨c,hc⟩:=I.ok.has x (.inl hk)
  obtain ⟨w',z⟩:=I.cell x c hc
  refine wpAny_storeName_cell I.ok.kind hk hc z (fun h' hc' hs=>?_)
  obtain ⟨oc,hoc,hocd⟩:=id z
  refine h { s with heap:=h' } ⟨I.ok,I.os,I.bare,⟨fun b o e n hb hx=>?_,fun b o e n hb hx=>?_,I.base.free,fun b o e hx=>?_,I.base.tups,I.base.frzs,I.base.tbls⟩,⟨m,hn.sameBut hs (Ne.symm (cne x c hc)),fun j y v' e1 e2 e3=>?_⟩,fun y c' e=>?_,I.free,I.freeC,fun p hp=>?_,tracked ⟨oc,hoc,I.freeC x c hc⟩ hs,by simpa using I.len⟩ ⟨c,hs,.inr hc⟩
  ·exact (hs.2 b (Nat.ne_of_lt (Nat.lt_of_lt_of_le (Heap.lt_size e) (I.ok.cab x c hfn hc)))).trans (I.base.keep b o e n hb hx)
  ·obtain ⟨sl,e1⟩:=I.base.slot b o e n hb hx
   exact ⟨sl,(hs.2 b (Nat.ne_of_lt (Nat.lt_of_lt_of_le (Heap.lt_size e) (I.ok.cab x c hfn hc)))).trans e1⟩
  ·obtain ⟨o',e1⟩:=I.base.there b o e hx
   exact ⟨o',(hs.2 b (Nat.ne_of_lt (Nat.lt_of_lt_of_le (Heap.lt_size e) (I.ok.cab x c hfn hc)))).trans e1⟩
  ·by_cases hj:j=i
   ·subst hj
    rw [hi] at e1;cases e1
    rw [List.getElem?_set_self hiσ] at e2
    cases e2
    exact ⟨u,r,.inr ⟨.inl hk,c,hc,hc'⟩⟩
   ·rw [List.getElem?_set_ne (Ne.symm hj)] at e2
    obtain ⟨u',r',q⟩:=hl j y v' e1 e2 e3
    refine ⟨u',r',?_⟩
    rcases q with q | ⟨k,c',e,z'⟩
    ·exact .inl q
    ·refine .inr ⟨k,c',e,z'.sameBut hs ?_⟩
     rintro rfl
     exact hj (J4 hN e1 (I.ok.inj _ _ _ e hc ▸ hi))
  ·by_cases hcc:c'=c
   ·subst hcc;exact ⟨_,hc'⟩
   ·obtain ⟨w2,z2⟩:=I.cell y c' e
    exact ⟨w2,z2.sameBut hs hcc⟩
  ·obtain ⟨e,n,ne,nf,d⟩:=I.pin p hp
   refine ⟨(hs.2 p.1 ?_).trans e,n,ne,nf,d⟩
   intro q
   rw [q,hoc] at e
   have q':oc=p.2:=Option.some.inj e
   exact d w' (by rw [← q'];exact hocd)
theorem qK {M:Model} {A:Around} {E:Value→Shared→Prop} {i:Nat} {x:Str} {v:V} {u:Value} {Q:Unit→Shared→Prop} (I:Inv X pins σ H s) (hN:X.N.Nodup) (hi:X.N[i]?=some x) (hx:Loc X.env.scope x) (r:RelV v u)
  (h:∀ s',Inv X pins (σ.set i (some v)) H s'→Q () s') (hf:X.fn x=true∨X.env.scope.names.lookup x=some .local:=by first | exact .inl rfl | exact .inr rfl | assumption):wpAny M A (storeName X.env x u) Q E s:=
 KJ I hN hi hx r (fun s' I' _=>h s' I') hf
theorem Inv.call' {s':Shared} {ch:List Addr} (I:Inv X pins σ H s) (ho:s'.os=s.os) (u:Un (frs X.stack) ch H H' s.heap s'.heap) (hok:HOk X.prog X.w H' s'.heap) (hg:AllBare s'.gens)
  (hch:∀ b∈ch,(b∈X.ex∨X.s₀.heap.objs.size≤b)∧b≠X.env.locals∧(∀ x c,X.env.cells.lookup x=some c→c≠b)∧∀ p∈X.pn++pins,p.1≠b):Inv X pins σ H' s':=by
 obtain ⟨h',g',d',t',o'⟩:=s'
 have e:o'=s.os:=ho
 subst e
 exact I.call (g':=g') (t':=t') (d':=d') u hok hg hch
end
abbrev XK:=Value→Option Addr→Hp→Prop
abbrev St:=List (Option V)
abbrev VK:=V→Hp→Prop
abbrev TE:=St→Hp→VK→Prop
abbrev TT:=St→Hp→(Bool→Hp→Prop)→Prop
abbrev TA:=St→Hp→(List V→Hp→Prop)→Prop
structure Ends where
 nx:St→Hp→Prop
 rt:VK
 bk:St→Hp→Prop:=fun _ _=>False
 ct:St→Hp→Prop:=fun _ _=>False
abbrev TS:=Ends→St→Hp→Prop
def EP (X:Cx) (pins:List (Addr×Obj)) (σ:St) (Q:VK) (u:Value) (s':Shared):Prop:=∃ v H',Inv X pins σ H' s'∧RelV v u∧Q v H'
def TP (X:Cx) (pins:List (Addr×Obj)) (σ:St) (Q:Bool→Hp→Prop) (b:Bool) (s':Shared):Prop:=∃ H',Inv X pins σ H' s'∧Q b H'
def AP (X:Cx) (pins:List (Addr×Obj)) (σ:St) (Q:List V→Hp→Prop) (us:List Value) (s':Shared):Prop:=∃ vs H',Inv X pins σ H' s'∧Vals vs us∧Q vs H'
def SP (X:Cx) (pins:List (Addr×Obj)) (D:Ends) (f:Flow) (s':Shared):Prop:=
 match f with
 | .next=>∃ σ' H',Inv X pins σ' H' s'∧D.nx σ' H'
 | .brk=>∃ σ' H',Inv X pins σ' H' s'∧D.bk σ' H'
 | .cont=>∃ σ' H',Inv X pins σ' H' s'∧D.ct σ' H'
 | .ret u=>∃ v σ' H',Inv X pins σ' H' s'∧RelV v u∧D.rt v H'
def PE (X:Cx) (e:Expr) (t:TE):Prop:=
 ∀ (pins:List (Addr×Obj)) (s:Shared) (σ:St) (H:Hp) (Q:VK),Inv X pins σ H s→t σ H Q→wpAny (model X.prog X.w) X.A (eval e X.env) (EP X pins σ Q) X.xe s
def PT (X:Cx) (e:Expr) (t:TT):Prop:=
 ∀ (pins:List (Addr×Obj)) (s:Shared) (σ:St) (H:Hp) (Q:Bool→Hp→Prop),Inv X pins σ H s→t σ H Q→wpAny (model X.prog X.w) X.A (isTrue e X.env (eval e X.env)) (TP X pins σ Q) X.xe s
def PW (X:Cx) (e:Expr) (t:TT):Prop:=
 ∀ (whole:Sem Value) (pins:List (Addr×Obj)) (s:Shared) (σ:St) (H:Hp) (Q:Bool→Hp→Prop),Inv X pins σ H s→t σ H Q→wpAny (model X.prog X.w) X.A (isTrue e X.env whole) (TP X pins σ Q) X.xe s
theorem PW.pt {X:Cx} {e:Expr} {t:TT} (h:PW X e t):PT X e t:=h _
def PA (X:Cx) (es:List Expr) (t:TA):Prop:=
 ∀ (pos:Pos) (pins:List (Addr×Obj)) (s:Shared) (σ:St) (H:Hp) (Q:List V→Hp→Prop),Inv X pins σ H s→t σ H Q→wpAny (model X.prog X.w) X.A (spliced (backTo pos (starEach es X.env))) (AP X pins σ Q) X.xe s
def PS (X:Cx) (st:Stmt) (t:TS):Prop:=
 ∀ (pins:List (Addr×Obj)) (s:Shared) (σ:St) (H:Hp) (D:Ends),Inv X pins σ H s→t D σ H→wpAny (model X.prog X.w) X.A (exec st X.env) (SP X pins D) X.xe s
def PSs (X:Cx) (st:List Stmt) (t:TS):Prop:=
 ∀ (pins:List (Addr×Obj)) (s:Shared) (σ:St) (H:Hp) (D:Ends),Inv X pins σ H s→t D σ H→wpAny (model X.prog X.w) X.A (execs st X.env) (SP X pins D) X.xe s
theorem thn {α:Type} {t:Sem α} {Q Q':α→Shared→Prop} {M:Model} {A:Around} {E:Value→Shared→Prop} {s:Shared} (h:wpAny M A t Q E s) (hQ:∀ a s,Q a s→Q' a s):wpAny M A t Q' E s:=wpAny_mono h hQ fun _ _ x=>x
section
variable {X:Cx}
theorem bin {a b:Expr} {ta tb:TE} (ha:PE X a ta) (hb:PE X b tb) {pins:List (Addr×Obj)} {s:Shared} {σ:St} {H:Hp} {R:V→V→Hp→Prop} (I:Inv X pins σ H s) (h:ta σ H fun x H1=>tb σ H1 fun y H2=>R x y H2)
  {α:Type} {Q:α→Shared→Prop} {f:Value→Value→Sem α}
  (hf:∀ v u s2 x y H2,Inv X pins σ H2 s2→RelV x v→RelV y u→R x y H2→wpAny (model X.prog X.w) X.A (f v u) Q X.xe s2) :
  wpAny (model X.prog X.w) X.A (eval a X.env) (fun v s₁=>wpAny (model X.prog X.w) X.A (eval b X.env) (fun u s₂=>wpAny (model X.prog X.w) X.A (f v u) Q X.xe s₂) X.xe s₁) X.xe s:=by
 refine thn (ha pins s σ H _ I h) fun v s1 ⟨x,H1,I1,r1,q1⟩=>?_
 refine thn (hb pins s1 σ H1 _ I1 q1) fun u s2 ⟨y,H2,I2,r2,q2⟩=>?_
 exact hf v u s2 x y H2 I2 r1 r2 q2
def je1 (i:Nat):TE:=fun σ H Q=>∃ v,σ[i]?=some (some v)∧Q v H
def tC (v:V):TE:=fun _ H Q=>Q v H
theorem jcv {i:Nat} {x:Str} {pos:Pos} (hN:X.N[i]?=some x) (hv:Vis X.env.scope x) (hd:(x == ("__debug__" : Str))=false:=by decide) (hcd:(x == ("__classdict__" : Str))=false:=by decide):PE X (.Name x pos) (je1 i):=by
 intro pins s σ H Q I h
 obtain ⟨v,e,h⟩:=h
 obtain ⟨m,hn,hl⟩:=I.loc
 obtain ⟨u,r,l⟩:=hl i x v hN e hv
 have fin:EP X pins σ Q u s:=⟨v,H,I,r,h⟩
 rcases l with ⟨hk,hm⟩ | ⟨hk,c,hc,hcell⟩
 ·exact wpAny_Name (wpAny_loadName_local I.ok.kind hk hn hm fin) hd
 ·rcases hk with hk | hk
  ·exact wpAny_Name (wpAny_loadName_cell I.ok.kind hk hc hcell fin) hd
  ·exact wpAny_Name (wpAny_loadName_free I.ok.kind hk hc hcell fin hcd) hd
theorem jcA {i j pos}:PE X (.Constant (.int i) j pos) (tC (.int i)):=fun _ _ _ H _ I h=>wpAny_Constant_int ⟨.int i,H,I.tok _,⟨_,rfl⟩,h⟩
theorem jgc {b j pos}:PE X (.Constant (.bool b) j pos) (tC (.bl b)):=fun _ _ _ H _ I h=>Constant_bool ⟨.bl b,H,I,rfl,h⟩
theorem jfk {j pos}:PE X (.Constant .none j pos) (tC .non):=fun _ _ _ H _ I h=>Constant_none ⟨.non,H,I,rfl,h⟩
theorem jcx {x j pos}:PE X (.Constant (.str x) j pos) (tC (.str x)):=fun _ _ _ H _ I h=>Calls.Constant_str ⟨.str x,H,I.tok _,⟨_,rfl⟩,h⟩
def Gl (X:Cx) (x:Str):Prop:=X.env.kindOf x=some .globalImplicit
theorem yb {E:Value→Shared→Prop} {pins:List (Addr×Obj)} {s:Shared} {σ:St} {H:Hp} {x:Str} {u:Value} {pos:Pos} {Q:Value→Shared→Prop} (I:Inv X pins σ H s) (hg:Gl X x) (hm:X.mg x=some u) (h:Q u s)
  (hd:(x == ("__debug__" : Str))=false:=by decide):wpAny (model X.prog X.w) X.A (eval (.Name x pos) X.env) Q E s:=
 Calls.Name_function_global I.ok.kind hg (Calls.loadGlobal_global (by rw [I.ok.glob];exact I.mod.glob.keeps I.bk) hm h) hd
theorem zA {E:Value→Shared→Prop} {pins:List (Addr×Obj)} {s:Shared} {σ:St} {H:Hp} {x:Str} {u:Value} {pos:Pos} {Q:Value→Shared→Prop} (I:Inv X pins σ H s) (hg:Gl X x) (hm:X.mg x=none) (hv:bootBuiltins x=some u) (h:Q u s)
  (hn:x≠"__name__":=by decide) (hd:(x == ("__debug__" : Str))=false:=by decide):wpAny (model X.prog X.w) X.A (eval (.Name x pos) X.env) Q E s:=by
 obtain ⟨mb,h1,h2⟩:=I.mod.blt
 exact Calls.Name_function_global I.ok.kind hg (Calls.loadGlobal_builtin (by rw [I.ok.glob];exact I.mod.glob.keeps I.bk) hm (by rw [I.ok.blt];exact h1.keeps I.bk) ((h2 x hn).trans hv) h) hd
theorem jdZ {x:Str} {v:V} {u:Value} {pos:Pos} (hg:Gl X x) (hm:X.mg x=some u) (r:RelV v u) (hd:(x == ("__debug__" : Str))=false:=by decide):PE X (.Name x pos) (tC v):=
 fun _ _ _ H _ I h=>yb I hg hm ⟨v,H,I,r,h⟩ hd
theorem jd3 {x:Str} {v:V} {u:Value} {pos:Pos} (hg:Gl X x) (hm:X.mg x=none) (hv:bootBuiltins x=some u) (r:RelV v u) (hn:x≠"__name__":=by decide) (hd:(x == ("__debug__" : Str))=false:=by decide):PE X (.Name x pos) (tC v):=
 fun _ _ _ H _ I h=>zA I hg hm hv ⟨v,H,I,r,h⟩ hn hd
variable {a b:Expr} {ta tb:TE} {pos:Pos}
def PC (X:Cx) (op:CmpOp) (a b:Expr) (t:TE):Prop:=
 ∀ (pins:List (Addr×Obj)) (s:Shared) (σ:St) (H:Hp) (Q:VK),Inv X pins σ H s→t σ H Q→
  wpAny (model X.prog X.w) X.A (eval a X.env) (fun v s₁=>wpAny (model X.prog X.w) X.A (eval b X.env) (fun u s₂=>wpAny (model X.prog X.w) X.A (compareOp op v u) (EP X pins σ Q) X.xe s₂) X.xe s₁) X.xe s
theorem jcT (b:Expr) {op:CmpOp} (h:op≠.In) (h2:op≠.NotIn):behindInMarks op b=false:=by
 have e1:(op == CmpOp.In)=false:=by cases op <;> first | rfl | exact absurd rfl h
 have e2:(op == CmpOp.NotIn)=false:=by cases op <;> first | rfl | exact absurd rfl h2
 cases b <;> simp [behindInMarks,e1,e2]
def tB (t:TE):TT:=fun σ H Q=>t σ H fun x H1=>∃ c,x=.bl c∧Q c H1
theorem jgx {op:CmpOp} {t:TE} (h:PC X op a b t) (h1:behindInMarks op b=false:=by first | exact jcT _ (by decide) (by decide) | rfl):PT X (.Compare a [op] [b] pos) (tB t):=by
 intro pins s σ H Q I hw
 refine wpAny_isTrue_Compare1 (thn (h pins s σ H _ I hw) fun v s1 h1=>thn h1 fun u s2 h2=>thn h2 fun c s3 ⟨x,H1,I1,r1,q1⟩=>?_) h1
 obtain ⟨d,rfl,q⟩:=q1
 cases r1
 exact wpAny_truthy_bool ⟨H1,I1,q⟩
theorem je8 {e:Expr} {t:TE} (h:PE X e t) (he:∀ whole,isTrue e X.env whole=(do let v ← whole;standAt e.pos;holding [v] (truthy v)):=by intro _;rfl):PT X e (tB t):=by
 intro pins s σ H Q I hw
 refine isTrue_plain (thn (h pins s σ H _ I hw) fun v s1 ⟨x,H1,I1,r1,q1⟩=>?_) (he _)
 obtain ⟨d,rfl,q⟩:=q1
 cases r1
 exact wpAny_truthy_bool ⟨H1,I1,q⟩
variable {tA tB':TT} {qi:List Expr}
def jfW (t u:TT):TT:=fun σ H Q=>t σ H fun c H1=>if c=true then u σ H1 Q else Q false H1
def jfO (t:TT):TT:=fun σ H Q=>t σ H fun c H1=>Q (!c) H1
theorem jdH (ha:PT X a tA):PW X (.BoolOp .And [a] pos) tA:=by
 intro wh pins s σ H Q I h
 refine isTrue_and (thn (ha pins s σ H Q I h) fun c s1 e=>?_)
 cases c with
 | true=>exact isTrue_and_nil e
 | false=>exact e
theorem je7 (ha:PT X a tA) (hb:PW X (.BoolOp .And (b :: qi) pos) tB'):PW X (.BoolOp .And (a :: b :: qi) pos) (jfW tA tB'):=by
 intro wh pins s σ H Q I h
 refine isTrue_and (thn (ha pins s σ H _ I h) fun c s1 ⟨H1,I1,q1⟩=>?_)
 cases c with
 | true=>exact hb wh pins s1 σ H1 Q I1 q1
 | false=>exact ⟨H1,I1,q1⟩
theorem je9 (ha:PT X a tA):PT X (.UnaryOp .Not a pos) (jfO tA):=by
 intro pins s σ H Q I h
 exact isTrue_not (ha pins s σ H (fun c H1=>Q (!c) H1) I h)
def jeG (ta tb:TE):TE:=fun σ H Q=>ta σ H fun x H1=>∃ c,x=.bl c∧if c=true then tb σ H1 Q else Q (.bl false) H1
def jeB (ta:TE):TE:=fun σ H Q=>ta σ H fun x H1=>∃ c,x=.bl c∧Q (.bl (!c)) H1
theorem jfi {op} {t:TE} (h:PE X a t):PE X (.BoolOp op [a] pos) t:=fun pins s σ H Q I hw=>BoolOp_one (h pins s σ H Q I hw)
theorem jfo (ha:PE X a ta) (hb:PE X (.BoolOp .And (b :: qi) pos) tb):PE X (.BoolOp .And (a :: b :: qi) pos) (jeG ta tb):=by
 intro pins s σ H Q I h
 refine BoolOp_and (thn (ha pins s σ H _ I h) fun v s1 ⟨x,H1,I1,r1,q1⟩=>?_)
 obtain ⟨c,rfl,q1⟩:=q1
 cases r1
 refine wpAny_truthy_bool ?_
 cases c with
 | true=>exact hb pins s1 σ H1 Q I1 q1
 | false=>exact ⟨.bl false,H1,I1,rfl,q1⟩
theorem jfj (ha:PE X a ta):PE X (.UnaryOp .Not a pos) (jeB ta):=by
 intro pins s σ H Q I h
 refine UnaryOp_ (thn (ha pins s σ H _ I h) fun v s1 ⟨x,H1,I1,r1,q1⟩=>?_)
 obtain ⟨c,rfl,q1⟩:=q1
 cases r1
 exact not_of (wpAny_truthy_bool ⟨.bl (!c),H1,I1,rfl,q1⟩)
end
def SqL (K:PySem.W.Frag) (H:Hp) (a:Addr) (xs:List V):Prop:=
 Rd H a (.lst xs)∨
  ∃ (o:Obj) (its:Array Value) (n:Nat),K.lookup a=some o∧o.cls=.type "list"∧o.dict=none∧o.data=.seq its n∧its.size≤sizeLine∧Vals xs its.toList
def SqT (K:PySem.W.Frag) (H:Hp) (a:Addr) (xs:List V):Prop:=
 Rd H a (.tup xs)∨
  ∃ (o:Obj) (its:Array Value) (n:Nat),K.lookup a=some o∧o.cls=.type "tuple"∧o.data=.seq its n∧its.size≤sizeLine∧Vals xs its.toList
def jgC:Value→Option V
 | .none=>some .non
 | .bool b=>some (.bl b)
 | .int i _=>some (.int i)
 | .str x _=>some (.str x)
 | .bytes b _=>some (.byt b)
 | .float b _=>some (.flt b)
 | .ref a=>some (.ref a)
 | .type n=>some (.ty n)
 | _=>none
theorem RelV.abs {x:V} {u:Value} (r:RelV x u):jgC u=some x:=by
 cases x with
 | non=>cases r;rfl
 | bl _=>cases r;rfl
 | int _=>obtain ⟨t,rfl⟩:=r;rfl
 | str _=>obtain ⟨t,rfl⟩:=r;rfl
 | byt _=>obtain ⟨t,rfl⟩:=r;rfl
 | flt _=>obtain ⟨t,rfl⟩:=r;rfl
 | ref _=>cases r;rfl
 | ty _=>cases r;rfl
theorem RelV.inj {x y:V} {u:Value} (r:RelV x u) (q:RelV y u):x=y:=Option.some.inj (r.abs.symm.trans q.abs)
theorem Vals.inj:∀ {xs ys:List V} {us:List Value},Vals xs us→Vals ys us→xs=ys
 | _,_,_,.nil,.nil=>rfl
 | _,_,_,.cons r t,.cons r' t'=>by rw [r.inj r',Vals.inj t t']
section
variable {X:Cx} {pins:List (Addr×Obj)} {σ:St} {H:Hp} {s:Shared} {a:Addr} {xs ys:List V}
theorem SqL.of {K:PySem.W.Frag} (h:H a=some (.lst xs)):SqL K H a xs:=.inl (.inl h)
theorem SqT.of {K:PySem.W.Frag} (h:H a=some (.tup xs)):SqT K H a xs:=.inl (.inl h)
theorem Inv.list (I:Inv X pins σ H s) (h:SqL X.K H a xs):∃ its:List Value,Vals xs its∧PlainL s.heap a its.toArray∧xs.length≤sizeLine:=by
 rcases h with h | ⟨o,its,n,hk,hc,hd,hs,hz,r⟩
 ·obtain ⟨z,its,n,r,e⟩:=h.ok I.hok
  exact ⟨its,r,⟨_,n,e,rfl,rfl,rfl⟩,z⟩
 ·refine ⟨its.toList,r,⟨o,n,I.kIn a o hk,hc,hd,by simpa using hs⟩,?_⟩
  have e:=r.length
  simp only [Array.length_toList] at e
  omega
theorem Inv.tuple (I:Inv X pins σ H s) (h:SqT X.K H a xs):∃ its:List Value,Vals xs its∧IsTup s.heap a its.toArray∧xs.length≤sizeLine:=by
 rcases h with h | ⟨o,its,n,hk,hc,hs,hz,r⟩
 ·obtain ⟨z,its,r,p⟩:=h.ok I.hok
  exact ⟨its,r,p,z⟩
 ·refine ⟨its.toList,r,⟨o,I.kIn a o hk,hc,n,by simpa using hs⟩,?_⟩
  have e:=r.length
  simp only [Array.length_toList] at e
  omega
theorem Inv.list_inj (I:Inv X pins σ H s) (h:SqL X.K H a xs) (h':SqL X.K H a ys):xs=ys:=by
 obtain ⟨its,r,⟨o,n,e,_,_,d⟩,_⟩:=I.list h
 obtain ⟨its',r',⟨o',n',e',_,_,d'⟩,_⟩:=I.list h'
 rw [e] at e';cases e'
 rw [d] at d'
 injection d' with d1 _
 have:its=its':=by simpa using congrArg Array.toList d1
 subst this
 exact r.inj r'
theorem Inv.tuple_inj (I:Inv X pins σ H s) (h:SqT X.K H a xs) (h':SqT X.K H a ys):xs=ys:=by
 obtain ⟨its,r,⟨o,e,_,n,d⟩,_⟩:=I.tuple h
 obtain ⟨its',r',⟨o',e',_,n',d'⟩,_⟩:=I.tuple h'
 rw [e] at e';cases e'
 rw [d] at d'
 injection d' with d1 _
 have:its=its':=by simpa using congrArg Array.toList d1
 subst this
 exact r.inj r'
end
abbrev Cx.wish (X:Cx) (E:Value→Shared→Prop):Cx:={ X with xe:=E }
abbrev Cx.nox (X:Cx):Cx:=X.wish fun _ _=>False
theorem Cx.Ok.wish {X:Cx} (ok:X.Ok) (E:Value→Shared→Prop):(X.wish E).Ok:=
 ⟨ok.mod,ok.kind,ok.glob,ok.blt,ok.above,ok.inj,ok.has,ok.cab,ok.hd,ok.frames,ok.stk,ok.exf,ok.bs,ok.bsz,ok.noex,ok.exfs,ok.funs,ok.frf⟩
theorem Cx.Ok.unwish {X:Cx} {E:Value→Shared→Prop} (ok:(X.wish E).Ok):X.Ok:=
 ⟨ok.mod,ok.kind,ok.glob,ok.blt,ok.above,ok.inj,ok.has,ok.cab,ok.hd,ok.frames,ok.stk,ok.exf,ok.bs,ok.bsz,ok.noex,ok.exfs,ok.funs,ok.frf⟩
section
variable {X:Cx} {pins:List (Addr×Obj)} {σ:St} {H:Hp} {s:Shared} {E:Value→Shared→Prop}
theorem Inv.wish (I:Inv X pins σ H s) (E:Value→Shared→Prop):Inv (X.wish E) pins σ H s:=⟨I.ok.wish E,I.os,I.bare,I.base,I.loc,I.cell,I.free,I.freeC,I.pin,I.hok,I.len⟩
theorem Inv.unwish (I:Inv (X.wish E) pins σ H s):Inv X pins σ H s:=⟨I.ok.unwish,I.os,I.bare,I.base,I.loc,I.cell,I.free,I.freeC,I.pin,I.hok,I.len⟩
theorem SP.unwish {D:Ends} {f:Flow} {s':Shared} (h:SP (X.wish E) pins D f s'):SP X pins D f s':=by
 cases f with
 | next=>obtain ⟨σ',H',I,q⟩:=h;exact ⟨σ',H',I.unwish,q⟩
 | brk=>obtain ⟨σ',H',I,q⟩:=h;exact ⟨σ',H',I.unwish,q⟩
 | cont=>obtain ⟨σ',H',I,q⟩:=h;exact ⟨σ',H',I.unwish,q⟩
 | ret u=>obtain ⟨v,σ',H',I,r,q⟩:=h;exact ⟨v,σ',H',I.unwish,r,q⟩
theorem PSs.nox {st:List Stmt} {t:TS} (h:PSs X.nox st t):PSs X st t:=fun pins s σ H D I hw=>
 wpAny_mono (h pins s σ H D (I.wish _) hw) (fun _ _ q=>q.unwish) fun _ _ z=>False.elim z
end
section
variable {X:Cx} {st:Stmt} {qi:List Stmt} {t u:TS} {e:Expr} {te:TE} {pos:Pos}
def jeC:TS:=fun D σ H=>D.nx σ H
def jfM (t u:TS):TS:=fun D σ H=>t { D with nx:=u D } σ H
theorem jdM:PSs X [] jeC:=fun _ _ σ H _ I h=>wpAny_execs_nil ⟨σ,H,I,h⟩
theorem jcn (h1:PS X st t) (h2:PSs X qi u):PSs X (st :: qi) (jfM t u):=by
 intro pins s σ H D I h
 refine wpAny_execs_cons (thn (h1 pins s σ H { D with nx:=u D } I h) fun f s1 q=>?_)
 cases f with
 | next=>
  obtain ⟨σ',H',I',q⟩:=q
  exact h2 pins s1 σ' H' D I' q
 | ret v=>exact q
 | brk=>exact q
 | cont=>exact q
theorem jdL (h1:PS X st t):PSs X [st] t:=by
 intro pins s σ H D I h
 refine wpAny_execs_cons (thn (h1 pins s σ H D I h) fun f s1 q=>?_)
 cases f with
 | next=>exact wpAny_execs_nil q
 | ret v=>exact q
 | brk=>exact q
 | cont=>exact q
theorem Inv.quiet {pins:List (Addr×Obj)} {σ:St} {H:Hp} {s:Shared} (I:Inv X pins σ H s):interactive X.env=false:=by simp [interactive,I.ok.kind]
def jeE (te:TE):TS:=fun D σ H=>te σ H fun _ H1=>D.nx σ H1
theorem jdP (he:PE X e te) (hs:swapsWith e none pos.line X.env=pure false:=by rfl):PS X (.Expr e pos) (jeE te):=by
 intro pins s σ H D I h
 exact wpAny_Expr_any (thn (he pins s σ H _ I h) fun v s1 ⟨x,H1,I1,r1,q1⟩=>⟨σ,H1,I1,q1⟩) I.quiet hs
def jfN (te:TE):TS:=fun D σ H=>te σ H D.rt
theorem jfb (he:PE X e te):PS X (.Return (some e) pos) (jfN te):=by
 intro pins s σ H D I h
 exact wpAny_Return_some (thn (he pins s σ H _ I h) fun v s1 ⟨x,H1,I1,r1,q1⟩=>⟨x,σ,H1,I1,r1,q1⟩)
def jfQ (c:TT) (t u:TS):TS:=fun D σ H=>c σ H fun b H1=>if b=true then t D σ H1 else u D σ H1
theorem jf4 {c:Expr} {a b:List Stmt} {tc:TT} (hc:PT X c tc) (ha:PSs X a t) (hb:PSs X b u):PS X (.If c a b pos) (jfQ tc t u):=by
 intro pins s σ H D I h
 refine wpAny_If (thn (hc pins s σ H _ I h) fun d s1 ⟨H1,I1,q1⟩=>?_)
 cases d with
 | true=>exact ha pins s1 σ H1 D I1 q1
 | false=>exact hb pins s1 σ H1 D I1 q1
def jb6:TS:=fun _ _ _=>False
theorem jcq:PS X st jb6:=fun _ _ _ _ _ _ h=>h.elim
end
abbrev TG:=V→St→Hp→(St→Hp→Prop)→Prop
abbrev TGs:=List V→St→Hp→(St→Hp→Prop)→Prop
def PG (X:Cx) (target:Expr) (t:TG):Prop:=
 ∀ (pins:List (Addr×Obj)) (s:Shared) (σ:St) (H:Hp) (v:V) (u:Value) (Q:St→Hp→Prop),Inv X pins σ H s→RelV v u→t v σ H Q→
  wpAny (model X.prog X.w) X.A (assign target X.env u) (fun _ s'=>∃ σ' H',Inv X pins σ' H' s'∧Q σ' H') X.xe s
def PGs (X:Cx) (ts:List Expr) (t:TGs):Prop:=
 ∀ (pins:List (Addr×Obj)) (s:Shared) (σ:St) (H:Hp) (vs:List V) (us:List Value) (Q:St→Hp→Prop),Inv X pins σ H s→Vals vs us→t vs σ H Q→
  wpAny (model X.prog X.w) X.A (assignInOrder ((assignEach ts X.env).map (·.2)) us) (fun _ s'=>∃ σ' H',Inv X pins σ' H' s'∧Q σ' H') X.xe s
section
variable {X:Cx} {pos:Pos}
def qe (i:Nat):TG:=fun v σ H Q=>Q (σ.set i (some v)) H
theorem jdW {i:Nat} {x:Str} (hN:X.N.Nodup) (hi:X.N[i]?=some x) (hx:Loc X.env.scope x) (hf:X.fn x=true∨X.env.scope.names.lookup x=some .local:=by first | exact .inl rfl | exact .inr rfl | assumption):PG X (.Name x pos) (qe i):=by
 intro pins s σ H v u Q I r h
 exact wpAny_assign_Name (qK I hN hi hx r (fun s' I'=>⟨_,H,I',h⟩) hf)
def jgo:TGs:=fun vs σ H Q=>vs=[]∧Q σ H
def jeU (t:TG) (u:TGs):TGs:=fun vs σ H Q=>∃ v r,vs=v :: r∧t v σ H fun σ' H'=>u r σ' H' Q
theorem jdV:PGs X [] jgo:=by
 intro pins s σ H vs us Q I r h
 obtain ⟨e,h⟩:=h
 subst e
 cases r
 exact assignInOrder_nil ⟨σ,H,I,h⟩
theorem jcu {e:Expr} {es:List Expr} {t:TG} {u:TGs} (h1:PG X e t) (h2:PGs X es u)
  (hs:(assignEach (e :: es) X.env).map (·.2)=assign e X.env :: (assignEach es X.env).map (·.2):=by rfl):PGs X (e :: es) (jeU t u):=by
 intro pins s σ H vs us Q I r h
 obtain ⟨v,vr,e1,h⟩:=h
 subst e1
 cases r with
 | cons r rr=>
  rw [hs]
  refine assignInOrder_cons (thn (h1 pins s σ H _ _ _ I r h) fun _ s1 ⟨σ1,H1,I1,q1⟩=>?_)
  exact h2 pins s1 σ1 H1 _ _ Q I1 rr q1
def jgn (K:PySem.W.Frag) (n:Nat) (t:TGs):TG:=fun v σ H Q=>∃ a xs,v=.ref a∧SqT K H a xs∧xs.length=n∧t xs σ H Q
theorem jfh {es:List Expr} {k:Nat} {t:TGs} {n:Nat} (hc:X.calm=true) (h:PGs X es t)
  (hn:(assignEach es X.env).length=n:=by rfl) (hst:(assignEach es X.env).findIdx? (·.1)=none:=by rfl):PG X (.Tuple es k pos) (jgn X.K n t):=by
 intro pins s σ H v u Q I r hw
 obtain ⟨a,xs,e1,hq,hl,hw⟩:=hw
 subst e1
 cases r
 obtain ⟨its,rv,ht,hz⟩:=I.tuple hq
 refine assign_Tuple_tuple (I.ok.hd hc) ht (by simp [hn,← hl,rv.length]) hst fun h' hx=>?_
 have I1:Inv X pins σ H { s with heap:=h' }:=I.kept (t':=s.toks) fun b o e=>hx b o (Nat.ne_of_lt (Heap.lt_size e)) e
 exact h pins _ σ H xs _ Q I1 (by simpa using rv) hw
def jba (te:TE) (g:TG):TS:=fun D σ H=>te σ H fun x H1=>g x σ H1 D.nx
theorem jfe {tg e:Expr} {te:TE} {g:TG} (he:PE X e te) (hg:PG X tg g) (hs:swapsWithSole [tg] e pos.line X.env=pure false:=by rfl) (hw:swappedStores [tg] e X.env=pure none:=by rfl)
  (h1:(assignEach [tg] X.env).map (·.2)=[assign tg X.env]:=by rfl):PS X (.Assign [tg] e pos) (jba te g):=by
 intro pins s σ H D I h
 refine wpAny_Assign_stores (thn (he pins s σ H _ I h) fun v s1 ⟨x,H1,I1,r1,q1⟩=>?_) hs hw
 rw [h1]
 exact thn (hg pins s1 σ H1 x v _ I1 r1 q1) fun _ s2 q=>q
theorem jfa {i:Nat} {x:Str} {e:Expr} {te:TE} {pos':Pos} (hN:X.N.Nodup) (hi:X.N[i]?=some x) (hx:Loc X.env.scope x) (he:PE X e te) (hs:swapsWith e (some (.Name x pos')) pos.line X.env=pure false:=by rfl) (hf:X.fn x=true∨X.env.scope.names.lookup x=some .local:=by first | exact .inl rfl | exact .inr rfl | assumption) :
  PS X (.Assign [.Name x pos'] e pos) (jba te (qe i)):=by
 intro pins s σ H D I h
 refine wpAny_Assign_Name (thn (he pins s σ H _ I h) fun v s1 ⟨y,H1,I1,r1,q1⟩=>?_) hs
 exact qK I1 hN hi hx r1 (fun s2 I2=>⟨_,H1,I2,q1⟩) hf
end
structure It where
 go:Nat→Hp→Prop
 yld:Nat→Hp→V→Hp→Prop
 stop:Nat→Hp→Prop
def y7 (X:Cx) (pins:List (Addr×Obj)) (H:Hp) (b:Addr):Prop:=
 H b=none∧b≠X.env.locals∧b ∉ X.fs∧(b∈X.ex∨X.s₀.heap.objs.size≤b)∧(∀ x c,X.env.cells.lookup x=some c→c≠b)∧∀ p∈X.pn++pins,p.1≠b
theorem Inv.fpOk {X:Cx} {pins:List (Addr×Obj)} {σ:St} {H H':Hp} {s:Shared} {b:Addr} (I:Inv X pins σ H s) (hb:s.heap.objs.size≤b) (hn:H' b=none):y7 X pins H' b:=by
 refine ⟨hn,Nat.ne_of_gt (Nat.lt_of_lt_of_le I.lt hb),I.nofs hb,.inr (Nat.le_trans I.sz hb),fun x c e z=>?_,fun p hp z=>?_⟩
 ·obtain ⟨v,q⟩:=I.cell x c e
  exact absurd (Nat.lt_of_lt_of_le q.lt (by rw [z];exact hb)) (Nat.lt_irrefl _)
 ·exact absurd (Nat.lt_of_lt_of_le (Heap.lt_size (I.pin p hp).1) (by rw [z];exact hb)) (Nat.lt_irrefl _)
structure Turn (P:Program) (w:World) (K:PySem.W.Frag) (tg:Expr) (J:It) (fp:List Addr) (it:Addr) (tn:Nat→Heap→Prop):Prop where
 mem:it∈fp
 obj:∀ i h,tn i h→∀ b∈fp,∃ o,h.get? b=some o∧∀ v,o.data≠.cell v
 keep:∀ i h h',tn i h→(∀ b∈fp,∀ o,h.get? b=some o→h'.get? b=some o)→tn i h'
 item:∀ (X:Cx),X.prog=P→X.w=w→X.K=K→X.calm=true→∀ (i:Nat) (pins:List (Addr×Obj)) (s:Shared) (σ:St) (H:Hp) (E:Value→Shared→Prop),Inv X pins σ H s→(∀ b∈fp,y7 X pins H b)→tn i s.heap→J.go i H→
  wpAny (model P w) X.A (pyNext (.ref it)) (fun r s1=>∃ u,r=some u∧
   wpAny (model P w) X.A (letOwnedTupleGo tg (.ref it) u) (fun _ s2=>∃ x H',Inv X pins σ H' s2∧RelV x u∧J.yld i H x H'∧tn (i+1) s2.heap∧∀ b∈fp,H' b=none) E s1) E s
 done:∀ (X:Cx),X.prog=P→X.w=w→X.K=K→X.calm=true→∀ (i:Nat) (pins:List (Addr×Obj)) (s:Shared) (σ:St) (H:Hp) (E:Value→Shared→Prop),Inv X pins σ H s→(∀ b∈fp,y7 X pins H b)→tn i s.heap→J.stop i H→
  wpAny (model P w) X.A (pyNext (.ref it)) (fun r s1=>r=none∧Inv X pins σ H s1) E s
 self:∀ (A:Around) (i:Nat) (s:Shared) (Q:Value→Shared→Prop) (E:Value→Shared→Prop),tn i s.heap→Q (.ref it) s→wpAny (model P w) A (pyIter (.ref it)) Q E s
abbrev TI:=St→Hp→(It→Hp→Prop)→Prop
def PIE (X:Cx) (pins:List (Addr×Obj)) (σ:St) (tg:Expr) (R:It→Hp→Prop) (itv:Value) (s2:Shared):Prop:=
 ∃ (it:Addr) (fp:List Addr) (tn:Nat→Heap→Prop) (J:It) (H':Hp),itv=.ref it∧Inv X pins σ H' s2∧Turn X.prog X.w X.K tg J fp it tn∧tn 0 s2.heap∧(∀ b∈fp,y7 X pins H' b)∧R J H'
def PI (X:Cx) (tg iter:Expr) (wi:TI):Prop:=
 ∀ (pins:List (Addr×Obj)) (s:Shared) (σ:St) (H:Hp) (R:It→Hp→Prop),Inv X pins σ H s→wi σ H R→
  wpAny (model X.prog X.w) X.A (eval iter X.env) (fun v s1=>wpAny (model X.prog X.w) X.A (pyIter v) (PIE X pins σ tg R) X.xe s1) X.xe s
theorem jc8 {M:Model} {A:Around} {E:Value→Shared→Prop} {s:Shared} {tg:Expr} {it:Addr} {u:Value} {o:Obj} {n:String} {vs:Array Value} {Q:Unit→Shared→Prop} (ho:s.heap.get? it=some o) (hc:o.cls=.type n) (hd:o.data=.fields vs)
  (hn:["enumerate","zip","dict_itemiterator","dict_reverseitemiterator","odict_iterator","itertools.zip_longest","itertools.pairwise"].contains n=false) (hQ:Q () s):wpAny M A (letOwnedTupleGo tg (.ref it) u) Q E s:=by
 unfold letOwnedTupleGo
 cases tg <;> first
  | exact wpAny_pure hQ
  | (cases u <;> first
    | exact wpAny_pure hQ
    | (refine wpAny_bind (wpAny_load ho ?_)
       rw [hc,hd]
       show wpAny M A (if (["enumerate","zip","dict_itemiterator","dict_reverseitemiterator","odict_iterator","itertools.zip_longest","itertools.pairwise"].contains n && vs[0]? == some (rawInt _))=true then _ else _) Q E s
       rw [if_neg (by intro h;rw [hn,Bool.false_and] at h;cases h)]
       exact wpAny_pure hQ))
def Itl (K:PySem.W.Frag) (a:Addr):It:=
 ⟨fun i H=>∃ xs x,SqL K H a xs∧xs[i]?=some x,fun i H x H'=>H'=H∧∀ xs,SqL K H a xs→xs[i]?=some x,fun i H=>∃ xs,SqL K H a xs∧xs.length≤i⟩
def Itt (K:PySem.W.Frag) (a:Addr):It:=
 ⟨fun i H=>∃ xs x,SqT K H a xs∧xs[i]?=some x,fun i H x H'=>H'=H∧∀ xs,SqT K H a xs→xs[i]?=some x,fun i H=>∃ xs,SqT K H a xs∧xs.length≤i⟩
def Itr (lo:Int) (n:Nat):It:=⟨fun i _=>i < n,fun i H x H'=>H'=H∧x=.int (lo+i),fun i _=>n≤i⟩
theorem ja8 {P:Program} {w:World} {K:PySem.W.Frag} {tg:Expr} (a it:Addr):Turn P w K tg (Itl K a) [it] it (fun i h=>h.IsListIter it a i) where
 mem:=by simp
 obj:=fun i h st b hb=>by
  have e:b=it:=by simpa using hb
  subst e
  obtain ⟨o,e,c,d⟩:=st
  exact ⟨o,e,fun v z=>by rw [d] at z;cases z⟩
 keep:=fun i h h' st k=>st.at fun o e=>k it (by simp) o e
 item:=by
  intro X hP hw hK hc i pins s σ H E I hf st hg
  subst hP hw hK
  obtain ⟨xs,x,hq,hx⟩:=hg
  obtain ⟨its,rv,p,hz⟩:=I.list hq
  obtain ⟨u,hu,ru⟩:=rv.get hx
  obtain ⟨f0,f1,f2,f3,f4,f5⟩:=hf it (by simp)
  refine wpAny_pyNext_list_item st p.isList (x:=u) (by simpa using hu) fun h' st' sb=>?_
  have I1:Inv X pins σ H { s with heap:=h' }:=I.turned (t':=s.toks) (fun b o hb e=>(sb.2 b hb).trans e) f0 f1 f3 f4 f5
  obtain ⟨o,e,c,d⟩:=id st'
  exact ⟨u,rfl,jc8 (s:={ s with heap:=h' }) e c d (by decide) ⟨x,H,I1,ru,⟨rfl,fun ys hy=>by rw [I.list_inj hy hq];exact hx⟩,st',fun b hb=>(hf b hb).1⟩⟩
 done:=by
  intro X hP hw hK hc i pins s σ H E I hf st hg
  subst hP hw hK
  obtain ⟨xs,hq,hx⟩:=hg
  obtain ⟨its,rv,p,hz⟩:=I.list hq
  obtain ⟨f0,f1,f2,f3,f4,f5⟩:=hf it (by simp)
  have hl:=rv.length
  exact wpAny_pyNext_list_end (I.ok.hd hc) st p.isList (by simp;omega) fun h' eb=>⟨rfl,I.turned (t':=s.toks) (fun b o hb e=>eb b o hb e) f0 f1 f3 f4 f5⟩
 self:=fun _ _ _ _ _ st h=>wpAny_pyIter_listiter st h
theorem ZR {P:Program} {w:World} {K:PySem.W.Frag} {tg:Expr} (a it:Addr):Turn P w K tg (Itt K a) [it] it (fun i h=>h.IsTupleIter it a i) where
 mem:=by simp
 obj:=fun i h st b hb=>by
  have e:b=it:=by simpa using hb
  subst e
  obtain ⟨o,e,c,d⟩:=st
  exact ⟨o,e,fun v z=>by rw [d] at z;cases z⟩
 keep:=fun i h h' st k=>st.at fun o e=>k it (by simp) o e
 item:=by
  intro X hP hw hK hc i pins s σ H E I hf st hg
  subst hP hw hK
  obtain ⟨xs,x,hq,hx⟩:=hg
  obtain ⟨its,rv,p,hz⟩:=I.tuple hq
  obtain ⟨u,hu,ru⟩:=rv.get hx
  obtain ⟨f0,f1,f2,f3,f4,f5⟩:=hf it (by simp)
  refine wpAny_pyNext_tuple_item st (show s.heap.IsTuple a its.toArray from p) (x:=u) (by simpa using hu) fun h' st' sb=>?_
  have I1:Inv X pins σ H { s with heap:=h' }:=I.turned (t':=s.toks) (fun b o hb e=>(sb.2 b hb).trans e) f0 f1 f3 f4 f5
  obtain ⟨o,e,c,d⟩:=id st'
  exact ⟨u,rfl,jc8 (s:={ s with heap:=h' }) e c d (by decide) ⟨x,H,I1,ru,⟨rfl,fun ys hy=>by rw [I.tuple_inj hy hq];exact hx⟩,st',fun b hb=>(hf b hb).1⟩⟩
 done:=by
  intro X hP hw hK hc i pins s σ H E I hf st hg
  subst hP hw hK
  obtain ⟨xs,hq,hx⟩:=hg
  obtain ⟨its,rv,p,hz⟩:=I.tuple hq
  obtain ⟨f0,f1,f2,f3,f4,f5⟩:=hf it (by simp)
  have hl:=rv.length
  exact wpAny_pyNext_tuple_end (I.ok.hd hc) st (show s.heap.IsTuple a its.toArray from p) (by simp;omega) fun h' eb=>⟨rfl,I.turned (t':=s.toks) (fun b o hb e=>eb b o hb e) f0 f1 f3 f4 f5⟩
 self:=fun _ _ _ _ _ st h=>wpAny_pyIter_tupleiter st h
theorem ZS {P:Program} {w:World} {K:PySem.W.Frag} {tg:Expr} (it:Addr) (lo:Int) (n:Nat):Turn P w K tg (Itr lo n) [it] it (fun i h=>IsRangeIter h it (lo+(i:Nat) * 1) ((n:Int) - (i:Nat)) 1) where
 mem:=by simp
 obj:=fun i h st b hb=>by
  have e:b=it:=by simpa using hb
  subst e
  exact ⟨_,st,fun v z=>by
   have z':Data.fields _=Data.cell v:=z
   cases z'⟩
 keep:=fun i h h' st k=>k it (by simp) _ st
 item:=by
  intro X hP hw hK hc i pins s σ H E I hf st hg
  subst hP hw hK
  obtain ⟨f0,f1,f2,f3,f4,f5⟩:=hf it (by simp)
  have W:=Walks.range (prog:=X.prog) (w:=X.w) (I.ok.hd hc) it lo 1 n
  refine W.item i s _ _ hg st fun v h' tk hv st' kk=>?_
  obtain ⟨t,rfl⟩:=hv
  have I1:Inv X pins σ H { s with heap:=h',toks:=tk }:=I.turned (fun b o hb e=>kk b o (by simpa using hb) e) f0 f1 f3 f4 f5
  refine ⟨_,rfl,jc8 (s:={ s with heap:=h',toks:=tk }) (n:="range_iterator") st' rfl rfl (by decide) ⟨.int (lo+i),H,I1,⟨t,?_⟩,⟨rfl,rfl⟩,st',fun b hb=>(hf b hb).1⟩⟩
  rw [Int.mul_one]
 done:=by
  intro X hP hw hK hc i pins s σ H E I hf st hg
  subst hP hw hK
  obtain ⟨f0,f1,f2,f3,f4,f5⟩:=hf it (by simp)
  exact wpAny_pyNext_range_end (I.ok.hd hc) st (by have:n≤i:=hg;omega) fun h' eb=>⟨rfl,I.turned (t':=s.toks) (fun b o hb e=>eb b o hb e) f0 f1 f3 f4 f5⟩
 self:=fun _ _ _ _ _ st h=>wpAny_pyIter_rangeiter st h
section
variable {X:Cx} {tg:Expr}
def jeR (K:PySem.W.Frag) (tl:TE):TI:=fun σ H R=>tl σ H fun x H1=>∃ a,x=.ref a∧(∃ xs,SqL K H1 a xs)∧R (Itl K a) H1
def jgm (K:PySem.W.Frag) (tl:TE):TI:=fun σ H R=>tl σ H fun x H1=>∃ a,x=.ref a∧(∃ xs,SqT K H1 a xs)∧R (Itt K a) H1
theorem jdT {l:Expr} {tl:TE} (hl:PE X l tl):PI X tg l (jeR X.K tl):=by
 intro pins s σ H R I h
 refine thn (hl pins s σ H _ I h) fun v s1 ⟨x,H1,I1,r1,q1⟩=>?_
 obtain ⟨a,e,⟨xs,hq⟩,q⟩:=q1
 subst e
 cases r1
 obtain ⟨its,rv,p,hz⟩:=I1.list hq
 refine wpAny_pyIter_list p.isList ?_
 refine ⟨s1.heap.objs.size,[s1.heap.objs.size],_,_,H1,rfl,I1.kept (t':=s1.toks) fun b o e=>Heap.get?_push_of_some _ e,ja8 a _,⟨_,Heap.get?_push_size _ rfl,rfl,rfl⟩,fun b hb=>?_,q⟩
 have e:b=s1.heap.objs.size:=by simpa using hb
 subst e
 exact I1.fpOk (Nat.le_refl _) (I1.hok.fresh (Nat.le_refl _))
theorem jfg {l:Expr} {tl:TE} (hl:PE X l tl):PI X tg l (jgm X.K tl):=by
 intro pins s σ H R I h
 refine thn (hl pins s σ H _ I h) fun v s1 ⟨x,H1,I1,r1,q1⟩=>?_
 obtain ⟨a,e,⟨xs,hq⟩,q⟩:=q1
 subst e
 cases r1
 obtain ⟨its,rv,p,hz⟩:=I1.tuple hq
 refine wpAny_pyIter_tuple (show s1.heap.IsTuple a its.toArray from p) ?_
 refine ⟨s1.heap.objs.size,[s1.heap.objs.size],_,_,H1,rfl,I1.kept (t':=s1.toks) fun b o e=>Heap.get?_push_of_some _ e,ZR a _,⟨_,Heap.get?_push_size _ rfl,rfl,rfl⟩,fun b hb=>?_,q⟩
 have e:b=s1.heap.objs.size:=by simpa using hb
 subst e
 exact I1.fpOk (Nat.le_refl _) (I1.hok.fresh (Nat.le_refl _))
theorem jck {pins:List (Addr×Obj)} {σ:St} {H:Hp} {s:Shared} {R:It→Hp→Prop} {E:Value→Shared→Prop} {lo hi:Int} {t u v:Tok} {tk:Nat} (I:Inv X pins σ H s) (h1:-(2 ^ 62)≤lo) (h2:lo < 2 ^ 62) (h3:-(2 ^ 62)≤hi) (h4:hi < 2 ^ 62)
  (q:R (Itr lo (hi - lo).toNat) H):wpAny (model X.prog X.w) X.A (pyIter (.ref s.heap.objs.size)) (PIE X pins σ tg R) E { s with heap:=s.heap.push { cls:=.type "range",data:=.fields #[.int lo t,.int hi u,.int 1 v] },toks:=tk }:=by
 refine wpAny_pyIter_range (IsRange.new ..) (small_one h1 h2 h3 h4) ?_
 have I1:Inv X pins σ H { s with heap:=s.heap.push { cls:=.type "range",data:=.fields #[.int lo t,.int hi u,.int 1 v] },toks:=tk }:=I.kept fun b o e=>Heap.get?_push_of_some _ e
 refine ⟨(s.heap.push { cls:=.type "range",data:=.fields #[.int lo t,.int hi u,.int 1 v] }).objs.size,[(s.heap.push { cls:=.type "range",data:=.fields #[.int lo t,.int hi u,.int 1 v] }).objs.size],_,_,H,rfl,
  I1.kept (t':=tk) fun b o e=>Heap.get?_push_of_some _ e,ZS _ lo (hi - lo).toNat,?_,fun b hb=>?_,q⟩
 ·have e1:lo+((0:Nat):Int) * 1=lo:=by simp
  have e2:(((hi - lo).toNat:Nat):Int) - ((0:Nat):Int)=Builtin.Range.rangeSize lo hi 1:=by rw [rangeSize_one];split <;> omega
  show IsRangeIter _ _ (lo+((0:Nat):Int) * 1) ((((hi - lo).toNat:Nat):Int) - ((0:Nat):Int)) 1
  rw [e1,e2]
  exact Heap.get?_push_size _ rfl
 ·have e:b=(s.heap.push { cls:=.type "range",data:=.fields #[.int lo t,.int hi u,.int 1 v] }).objs.size:=by simpa using hb
  subst e
  exact I1.fpOk (Nat.le_refl _) (I1.hok.fresh (Nat.le_refl _))
def jeQ (ta:TA):TI:=fun σ H R=>ta σ H fun vs H1=>∃ j:Int,vs=[.int j]∧-(2 ^ 62)≤j∧j < 2 ^ 62∧R (Itr 0 j.toNat) H1
theorem jbh {a:Expr} {ta:TA} {p pos:Pos} (hg:Gl X "range") (hm:X.mg "range" = none) (ha:PA X [a] ta) (hs:starEach [a] X.env=[(false,eval a X.env)]:=by rfl):PI X tg (.Call (.Name "range" p) [a] [] pos) (jeQ ta):=by
 intro pins s σ H R I h
 refine Call_ (zA I hg hm boot_range (PyProof.Rows.callWith_type1 (thn (ha pos pins s σ H _ I h) fun us s1 ⟨vs,H1,I1,r1,q1⟩=>?_) hs rfl))
 obtain ⟨j,e,q1,q2,q⟩:=q1
 subst e
 cases r1 with
 | cons r rr=>
  cases rr
  obtain ⟨t,rfl⟩:=r
  exact call_range_1 (jck I1 (by omega) (by omega) q1 q2 (by simpa using q))
def jfS (wi:TI) (g:TG) (tb:TS):TS:=fun D σ H=>wi σ H fun J H1=>∃ W:Nat→Nat→St→Hp→Prop,(∃ m,W 0 m σ H1)∧∀ i m σ H,W i m σ H→
 (J.stop i H∧D.nx σ H)∨(J.go i H∧∃ N:St→Hp→Prop,(∀ σ' H',N σ' H'→∃ m',m' < m∧W (i+1) m' σ' H')∧∀ x H',J.yld i H x H'→g x σ H' fun σ2 H2=>tb { D with nx:=N,ct:=N,bk:=D.nx } σ2 H2)
def zy (fp:List Addr) (h:Heap):List (Addr×Obj):=fp.filterMap fun b=>(h.get? b).map fun o=>(b,o)
theorem kT {fp:List Addr} {h:Heap} {b:Addr} {o:Obj} (hb:b∈fp) (e:h.get? b=some o):(b,o)∈zy fp h:=List.mem_filterMap.mpr ⟨b,hb,by rw [e];rfl⟩
theorem jbq {fp:List Addr} {h:Heap} {p:Addr×Obj} (hp:p∈zy fp h):p.1∈fp∧h.get? p.1=some p.2:=by
 obtain ⟨b,hb,e⟩:=List.mem_filterMap.mp hp
 cases q:h.get? b with
 | none=>rw [q] at e;cases e
 | some o=>
  rw [q] at e
  have e':(b,o)=p:=Option.some.inj e
  subst e'
  exact ⟨hb,q⟩
theorem Inv.pinned {pins:List (Addr×Obj)} {σ:St} {H:Hp} {s:Shared} {fp:List Addr} (I:Inv X pins σ H s) (hf:∀ b∈fp,y7 X pins H b) (ho:∀ b∈fp,∃ o,s.heap.get? b=some o∧∀ v,o.data≠.cell v):Inv X (pins++zy fp s.heap) σ H s:=
 I.pins_of fun p hp=>(List.mem_append.mp hp).elim (fun z=>I.pin p (List.mem_append_right _ z)) fun z=>by
  obtain ⟨hb,e⟩:=jbq z
  obtain ⟨f0,f1,f2,_⟩:=hf p.1 hb
  obtain ⟨o,e',d⟩:=ho p.1 hb
  rw [e] at e';cases e'
  exact ⟨e,f0,f1,f2,d⟩
theorem Inv.unpinned {pins pl:List (Addr×Obj)} {σ:St} {H:Hp} {s:Shared} (I:Inv X (pins++pl) σ H s):Inv X pins σ H s:=I.pins_of fun p hp=>I.pin p (List.mem_append_right _ (List.mem_append_left _ hp))
theorem jfc {iter:Expr} {body:List Stmt} {wi:TI} {g:TG} {tb:TS} {pos:Pos} (hp:PassesOwn (model X.prog X.w) X.A X.env X.xe) (hc:X.calm=true) (hi:PI X tg iter wi) (hg:PG X tg g) (hb:PSs X body tb)
  (hs:∀ x,foldedSetIterable iter X.env x=pure x:=by intro _;rfl):PS X (.For tg iter body [] pos) (jfS wi g tb):=by
 intro pins s σ H D I h
 refine wpAny_For (thn (hi pins s σ H _ I h) fun v s1 h1=>thn h1 fun itv s2 h2=>?_) hs
 obtain ⟨it,fp,tn,J,H2,e,I2,T,st2,f2,W,⟨m0,w0⟩,turn⟩:=h2
 subst e
 have stat:∀ {H':Hp},(∀ b∈fp,H' b=none)→∀ b∈fp,y7 X pins H' b:=fun hn b hb=>⟨hn b hb,(f2 b hb).2⟩
 refine codeAny_forLoop_any (fun n s'=>∃ i σ' H',Inv X pins σ' H' s'∧tn i s'.heap∧(∀ b∈fp,H' b=none)∧W i n σ' H') ?_ m0 ⟨0,σ,H2,I2,st2,fun b hb=>(f2 b hb).1,w0⟩
 rintro n s3 ⟨i,σ3,H3,I3,st3,fr3,w3⟩
 rcases turn i n σ3 H3 w3 with ⟨stop,qn⟩ | ⟨go,N,hN,step⟩
 ·refine wpAny_passesOwn hp (thn (T.done X rfl rfl rfl hc i pins s3 σ3 H3 X.xe I3 (stat fr3) st3 stop) fun r s4 ⟨hr,I4⟩=>?_)
  subst hr
  exact wpAny_execs_nil ⟨σ3,H3,I4,qn⟩
 ·refine wpAny_passesOwn hp (thn (T.item X rfl rfl rfl hc i pins s3 σ3 H3 X.xe I3 (stat fr3) st3 go) fun r s4 ⟨u,hr,h4⟩=>?_)
  subst hr
  refine wpAny_passesOwn hp (thn h4 fun _ s5 ⟨x,H5,I5,r5,y5,st5,fr5⟩=>?_)
  have I5':=I5.pinned (stat fr5) (T.obj _ _ st5)
  refine wpAny_passesOwn hp (thn (hg _ s5 σ3 H5 x u _ I5' r5 (step x H5 y5)) fun _ s6 ⟨σ6,H6,I6,q6⟩=>?_)
  refine wpAny_passesOwn hp (thn (hb _ s6 σ6 H6 _ I6 q6) fun f s7 q7=>?_)
  have again:∀ {σ7:St} {H7:Hp},Inv X (pins++zy fp s5.heap) σ7 H7 s7→N σ7 H7→∃ m,m < n∧∃ i σ' H',Inv X pins σ' H' s7∧tn i s7.heap∧(∀ b∈fp,H' b=none)∧W i m σ' H':=fun {σ7 H7} I7 n7=>by
   obtain ⟨m',hm,w7⟩:=hN σ7 H7 n7
   refine ⟨m',hm,i+1,σ7,H7,I7.unpinned,T.keep _ _ _ st5 fun b hb o e=>(I7.pin (b,o) (List.mem_append_right _ (List.mem_append_right _ (kT hb e)))).1,fun b hb=>?_,w7⟩
   obtain ⟨o,e,d⟩:=T.obj _ _ st5 b hb
   exact (I7.pin (b,o) (List.mem_append_right _ (List.mem_append_right _ (kT hb e)))).2.1
  cases f with
  | next=>obtain ⟨σ7,H7,I7,n7⟩:=q7;exact again I7 n7
  | cont=>obtain ⟨σ7,H7,I7,n7⟩:=q7;exact again I7 n7
  | brk=>obtain ⟨σ7,H7,I7,q7⟩:=q7;exact ⟨σ7,H7,I7.unpinned,q7⟩
  | ret v=>obtain ⟨x7,σ7,H7,I7,r7,q7⟩:=q7;exact ⟨x7,σ7,H7,I7.unpinned,r7,q7⟩
end
theorem yP {K:PySem.W.Frag} {a:Addr} {xs:List V} {g:TG} {tb:TS} {D:Ends} {σ:St} {H:Hp} (Pv:Nat→St→Hp→Prop) (h0:Pv 0 σ H) (hl:∀ i σ H,i≤xs.length→Pv i σ H→SqL K H a xs)
  (hs:∀ i x σ H,xs[i]?=some x→Pv i σ H→g x σ H fun σ2 H2=>tb { D with nx:=Pv (i+1),ct:=Pv (i+1),bk:=D.nx } σ2 H2) (hd:∀ σ H,Pv xs.length σ H→D.nx σ H) :
  ∃ W:Nat→Nat→St→Hp→Prop,(∃ m,W 0 m σ H)∧∀ i m σ H,W i m σ H→
   ((Itl K a).stop i H∧D.nx σ H)∨((Itl K a).go i H∧∃ N:St→Hp→Prop,(∀ σ' H',N σ' H'→∃ m',m' < m∧W (i+1) m' σ' H')∧∀ x H',(Itl K a).yld i H x H'→g x σ H' fun σ2 H2=>tb { D with nx:=N,ct:=N,bk:=D.nx } σ2 H2):=by
 refine ⟨fun i m σ H=>m=xs.length - i∧i≤xs.length∧Pv i σ H,⟨xs.length,by simp,Nat.zero_le _,h0⟩,?_⟩
 rintro i m σ H ⟨rfl,hi,p⟩
 have q:=hl i σ H hi p
 by_cases hlt:i < xs.length
 ·refine .inr ⟨⟨xs,xs[i],q,by simp [hlt]⟩,Pv (i+1),fun σ' H' p'=>⟨xs.length - (i+1),by omega,rfl,hlt,p'⟩,fun x H' y=>?_⟩
  obtain ⟨e,y⟩:=y
  subst e
  exact hs i x σ _ (y xs q) p
 ·have e:i=xs.length:=by omega
  subst e
  exact .inl ⟨⟨xs,q,Nat.le_refl _⟩,hd σ H p⟩
theorem yO {K:PySem.W.Frag} {a:Addr} {xs:List V} {g:TG} {tb:TS} {D:Ends} {σ:St} {H:Hp} (Pv:Nat→St→Hp→Prop) (h0:Pv 0 σ H) (hl:∀ i σ H,i≤xs.length→Pv i σ H→SqT K H a xs)
  (hs:∀ i x σ H,xs[i]?=some x→Pv i σ H→g x σ H fun σ2 H2=>tb { D with nx:=Pv (i+1),ct:=Pv (i+1),bk:=D.nx } σ2 H2) (hd:∀ σ H,Pv xs.length σ H→D.nx σ H) :
  ∃ W:Nat→Nat→St→Hp→Prop,(∃ m,W 0 m σ H)∧∀ i m σ H,W i m σ H→
   ((Itt K a).stop i H∧D.nx σ H)∨((Itt K a).go i H∧∃ N:St→Hp→Prop,(∀ σ' H',N σ' H'→∃ m',m' < m∧W (i+1) m' σ' H')∧∀ x H',(Itt K a).yld i H x H'→g x σ H' fun σ2 H2=>tb { D with nx:=N,ct:=N,bk:=D.nx } σ2 H2):=by
 refine ⟨fun i m σ H=>m=xs.length - i∧i≤xs.length∧Pv i σ H,⟨xs.length,by simp,Nat.zero_le _,h0⟩,?_⟩
 rintro i m σ H ⟨rfl,hi,p⟩
 have q:=hl i σ H hi p
 by_cases hlt:i < xs.length
 ·refine .inr ⟨⟨xs,xs[i],q,by simp [hlt]⟩,Pv (i+1),fun σ' H' p'=>⟨xs.length - (i+1),by omega,rfl,hlt,p'⟩,fun x H' y=>?_⟩
  obtain ⟨e,y⟩:=y
  subst e
  exact hs i x σ _ (y xs q) p
 ·have e:i=xs.length:=by omega
  subst e
  exact .inl ⟨⟨xs,q,Nat.le_refl _⟩,hd σ H p⟩
theorem jbE {lo:Int} {n:Nat} {g:TG} {tb:TS} {D:Ends} {σ:St} {H:Hp} (Pv:Nat→St→Hp→Prop) (h0:Pv 0 σ H)
  (hs:∀ i σ H,i < n→Pv i σ H→g (.int (lo+i)) σ H fun σ2 H2=>tb { D with nx:=Pv (i+1),ct:=Pv (i+1),bk:=D.nx } σ2 H2) (hd:∀ σ H,Pv n σ H→D.nx σ H) :
  ∃ W:Nat→Nat→St→Hp→Prop,(∃ m,W 0 m σ H)∧∀ i m σ H,W i m σ H→
   ((Itr lo n).stop i H∧D.nx σ H)∨((Itr lo n).go i H∧∃ N:St→Hp→Prop,(∀ σ' H',N σ' H'→∃ m',m' < m∧W (i+1) m' σ' H')∧∀ x H',(Itr lo n).yld i H x H'→g x σ H' fun σ2 H2=>tb { D with nx:=N,ct:=N,bk:=D.nx } σ2 H2):=by
 refine ⟨fun i m σ H=>m=n - i∧i≤n∧Pv i σ H,⟨n,by simp,Nat.zero_le _,h0⟩,?_⟩
 rintro i m σ H ⟨rfl,hi,p⟩
 by_cases hlt:i < n
 ·refine .inr ⟨hlt,Pv (i+1),fun σ' H' p'=>⟨n - (i+1),by omega,rfl,hlt,p'⟩,fun x H' y=>?_⟩
  obtain ⟨e,y⟩:=y
  subst e y
  exact hs i σ _ hlt p
 ·have e:i=n:=by omega
  subst e
  exact .inl ⟨Nat.le_refl _,hd σ H p⟩
abbrev R2:=V→V→Hp→VK→Prop
def OpR (X:Cx) (f:Value→Value→Sem Value) (r:R2):Prop:=
 ∀ (pins:List (Addr×Obj)) (s:Shared) (σ:St) (H:Hp) (x y:V) (v u:Value) (Q:VK),Inv X pins σ H s→RelV x v→RelV y u→r x y H Q→
  wpAny (model X.prog X.w) X.A (f v u) (EP X pins σ Q) X.xe s
def UnR (X:Cx) (f:Value→Sem Value) (r:V→Hp→VK→Prop):Prop:=
 ∀ (pins:List (Addr×Obj)) (s:Shared) (σ:St) (H:Hp) (x:V) (v:Value) (Q:VK),Inv X pins σ H s→RelV x v→r x H Q→
  wpAny (model X.prog X.w) X.A (f v) (EP X pins σ Q) X.xe s
def qo (X:Cx) (f:Value) (r:List V→Hp→VK→Prop):Prop:=
 ∀ (pins:List (Addr×Obj)) (s:Shared) (σ:St) (H:Hp) (xs:List V) (us:List Value) (Q:VK),Inv X pins σ H s→Vals xs us→r xs H Q→
  wpAny (model X.prog X.w) X.A (call f us) (EP X pins σ Q) X.xe s
def tOp (r:R2) (ta tb:TE):TE:=fun σ H Q=>ta σ H fun x H1=>tb σ H1 fun y H2=>r x y H2 Q
def tUn (r:V→Hp→VK→Prop) (ta:TE):TE:=fun σ H Q=>ta σ H fun x H1=>r x H1 Q
def rI (C:Int→Int→Prop) (g:Int→Int→V):R2:=fun x y H Q=>∃ i j,x=.int i∧y=.int j∧C i j∧Q (g i j) H
def rI0 (g:Int→Int→V):R2:=fun x y H Q=>∃ i j,x=.int i∧y=.int j∧Q (g i j) H
def rU (g:Int→V):V→Hp→VK→Prop:=fun x H Q=>∃ i,x=.int i∧Q (g i) H
section
variable {X:Cx} {a b c:Expr} {ta tb tc:TE} {pos:Pos}
theorem jfG (ha:PE X a ta) (hb:PE X b tb) {pins:List (Addr×Obj)} {s:Shared} {σ:St} {H:Hp} {R:V→V→Hp→Prop} (I:Inv X pins σ H s)
  (h:ta σ H fun x H1=>tb σ H1 fun y H2=>R x y H2) {Q:Value→Shared→Prop} {f:Value→Value→Sem Value}
  (hf:∀ v u s2 x y H2,Inv X pins σ H2 s2→RelV x v→RelV y u→R x y H2→wpAny (model X.prog X.w) X.A (f v u) Q X.xe s2) :
  wpAny (model X.prog X.w) X.A (eval a X.env) (fun v s₁=>wpAny (model X.prog X.w) X.A (eval b X.env) (fun u s₂=>wpAny (model X.prog X.w) X.A (f v u) Q X.xe s₂) X.xe s₁) X.xe s:=by
 refine thn (ha pins s σ H _ I h) fun v s1 ⟨x,H1,I1,r1,q1⟩=>?_
 refine thn (hb pins s1 σ H1 _ I1 q1) fun u s2 ⟨y,H2,I2,r2,q2⟩=>?_
 exact hf v u s2 x y H2 I2 r1 r2 q2
theorem jf6 {op:Operator} {r:R2} (ho:OpR X (binaryOp op) r) (ha:PE X a ta) (hb:PE X b tb):PE X (.BinOp a op b pos) (tOp r ta tb):=by
 intro pins s σ H Q I h
 exact wpAny_BinOp (jfG ha hb I h fun v u s2 x y H2 I2 rx ry q=>ho pins s2 σ H2 x y v u Q I2 rx ry q)
theorem jf5 {op:UnaryOp} {r:V→Hp→VK→Prop} (ho:UnR X (unaryOp op) r) (ha:PE X a ta):PE X (.UnaryOp op a pos) (tUn r ta):=by
 intro pins s σ H Q I h
 exact UnaryOp_ (thn (ha pins s σ H _ I h) fun v s1 ⟨x,H1,I1,r1,q1⟩=>ho pins s1 σ H1 x v Q I1 r1 q1)
theorem opI {f:Value→Value→Sem Value} {C:Int→Int→Prop} {g:Int→Int→Int}
  (rule:∀ (i j:Int) (t u:Tok) (s:Shared) (Q:Value→Shared→Prop) (E:Value→Shared→Prop),C i j→Q (.int (g i j) s.toks) { s with toks:=s.toks+1 }→wpAny (model X.prog X.w) X.A (f (.int i t) (.int j u)) Q E s) :
  OpR X f (rI C fun i j=>.int (g i j)):=by
 intro pins s σ H x y v u Q I rx ry h
 obtain ⟨i,j,rfl,rfl,hc,q⟩:=h
 obtain ⟨t,rfl⟩:=rx
 obtain ⟨t',rfl⟩:=ry
 exact rule i j t t' s _ _ hc ⟨.int (g i j),H,I.tok _,⟨_,rfl⟩,q⟩
theorem jgg {f:Value→Value→Sem Value} {g:Int→Int→Int}
  (rule:∀ (i j:Int) (t u:Tok) (s:Shared) (Q:Value→Shared→Prop) (E:Value→Shared→Prop),Q (.int (g i j) s.toks) { s with toks:=s.toks+1 }→wpAny (model X.prog X.w) X.A (f (.int i t) (.int j u)) Q E s) :
  OpR X f (rI0 fun i j=>.int (g i j)):=by
 intro pins s σ H x y v u Q I rx ry h
 obtain ⟨i,j,rfl,rfl,q⟩:=h
 obtain ⟨t,rfl⟩:=rx
 obtain ⟨t',rfl⟩:=ry
 exact rule i j t t' s _ _ ⟨.int (g i j),H,I.tok _,⟨_,rfl⟩,q⟩
theorem jgh {f:Value→Value→Sem Value} {g:Int→Int→Bool}
  (rule:∀ (i j:Int) (t u:Tok) (s:Shared) (Q:Value→Shared→Prop) (E:Value→Shared→Prop),Q (.bool (g i j)) s→wpAny (model X.prog X.w) X.A (f (.int i t) (.int j u)) Q E s) :
  OpR X f (rI0 fun i j=>.bl (g i j)):=by
 intro pins s σ H x y v u Q I rx ry h
 obtain ⟨i,j,rfl,rfl,q⟩:=h
 obtain ⟨t,rfl⟩:=rx
 obtain ⟨t',rfl⟩:=ry
 exact rule i j t t' s _ _ ⟨.bl (g i j),H,I,rfl,q⟩
def jgE (i j:Int):Prop:=0≤j∧j≤1000000∧i.natAbs < 2 ^ 64
def CMul (i j:Int):Prop:=(-(2 ^ 64) < i∧i < 2 ^ 64)∨(-(2 ^ 64) < j∧j < 2 ^ 64)
theorem CMul.ok {i j:Int} (h:CMul i j):IntMulOk i j:=by
 rcases h with ⟨h1,h2⟩ | ⟨h1,h2⟩
 ·exact .of_left (intBits_le_64 h1 h2)
 ·exact .of_right (intBits_le_64 h1 h2)
theorem yt:OpR X (binaryOp .Add) (rI0 fun i j=>.int (i+j)):=jgg fun _ _ _ _ _ _ _ q=>add_int q
theorem Yr:OpR X (binaryOp .Sub) (rI0 fun i j=>.int (i - j)):=jgg fun _ _ _ _ _ _ _ q=>sub_int q
theorem zc:OpR X (binaryOp .Mult) (rI CMul fun i j=>.int (i * j)):=opI fun _ _ _ _ _ _ _ hc q=>mul_int q hc.ok
theorem qy:OpR X (binaryOp .Mod) (rI (fun _ j=>0 < j) fun i j=>.int (i % j)):=opI fun i j _ _ _ _ _ hc q=>by
 have h1:(0:Int) < j:=hc
 exact mod_int' (by omega) (by rw [Int.fmod_eq_emod_of_nonneg i (by omega)];exact q)
theorem Ys:OpR X (binaryOp .Pow) (rI jgE fun i j=>.int (i ^ j.toNat)):=opI fun _ _ _ _ _ _ _ hc q=>pow_int_small hc.1 hc.2.1 hc.2.2 q
theorem unI {f:Value→Sem Value} {g:Int→Int}
  (rule:∀ (i:Int) (t:Tok) (s:Shared) (Q:Value→Shared→Prop) (E:Value→Shared→Prop),Q (.int (g i) s.toks) { s with toks:=s.toks+1 }→wpAny (model X.prog X.w) X.A (f (.int i t)) Q E s) :
  UnR X f (rU fun i=>.int (g i)):=by
 intro pins s σ H x v Q I rx h
 obtain ⟨i,rfl,q⟩:=h
 obtain ⟨t,rfl⟩:=rx
 exact rule i t s _ _ ⟨.int (g i),H,I.tok _,⟨_,rfl⟩,q⟩
theorem jeZ:UnR X (unaryOp .USub) (rU fun i=>.int (-i)):=unI fun _ _ _ _ _ q=>neg_int q
end
def jf0:V→V→Bool
 | .non,.non=>true | .non,.int _=>true | .int _,.non=>true | .non,.bl _=>true | .bl _,.non=>true | .non,.str _=>true | .str _,.non=>true
 | .int _,.int _=>true | .bl _,.bl _=>true | .str _,.str _=>true | .byt _,.byt _=>true
 | .int _,.str _=>true | .str _,.int _=>true | .bl _,.str _=>true | .str _,.bl _=>true
 | _,_=>false
def rEq:R2:=fun x y H Q=>jf0 x y=true∧Q (.bl (decide (x=y))) H
def rNe:R2:=fun x y H Q=>jf0 x y=true∧Q (.bl (!decide (x=y))) H
theorem jaQ {i j:Int}:decide (V.int i=V.int j)=(i == j):=by
 rw [Bool.eq_iff_iff]
 simp
theorem jdf {i j:Bool}:decide (V.bl i=V.bl j)=(i == j):=by
 rw [Bool.eq_iff_iff]
 simp
theorem jaP {i j:Str}:decide (V.str i=V.str j)=(i == j):=by
 rw [Bool.eq_iff_iff]
 simp
theorem jaR {i j:Array UInt8}:decide (V.byt i=V.byt j)=(i.toList == j.toList):=by
 rw [Bool.eq_iff_iff]
 cases i
 cases j
 simp
section
variable {X:Cx} {a b c:Expr} {ta tb tc:TE} {pos:Pos}
theorem jX {pins:List (Addr×Obj)} {σ:St} {H:Hp} {s:Shared} {Q:VK} {k k':Bool} (I:Inv X pins σ H s) (q:Q (.bl k) H) (e:k=k'):EP X pins σ Q (.bool k') s:=by
 subst e
 exact ⟨.bl k,H,I,rfl,q⟩
theorem km:OpR X (compareOp .Eq) rEq:=by
 intro pins s σ H x y v u Q I rx ry h
 obtain ⟨hs,q⟩:=h
 cases x with
 | non=>
  cases rx
  cases y with
  | non=>cases ry;exact PySem.EqNone.eq_none_none (jX I q (by simp))
  | bl j=>cases ry;exact PySem.EqNone.eq_none_bool (jX I q (by simp))
  | int j=>obtain ⟨t',rfl⟩:=ry;exact PySem.EqNone.eq_none_int (jX I q (by simp))
  | str j=>obtain ⟨t',rfl⟩:=ry;exact PySem.EqNone.eq_none_str (jX I q (by simp))
  | _=>exact absurd (show false=true from hs) Bool.false_ne_true
 | bl i=>
  cases rx
  cases y with
  | non=>cases ry;exact PySem.EqNone.eq_bool_none (jX I q (by simp))
  | bl j=>cases ry;exact eq_bool (jX I q jdf)
  | str j=>obtain ⟨t',rfl⟩:=ry;exact PySem.EqMixed.eq_bool_str (jX I q (by simp))
  | _=>exact absurd (show false=true from hs) Bool.false_ne_true
 | int i=>
  obtain ⟨t,rfl⟩:=rx
  cases y with
  | non=>cases ry;exact PySem.EqNone.eq_int_none (jX I q (by simp))
  | int j=>obtain ⟨t',rfl⟩:=ry;exact eq_int (jX I q jaQ)
  | str j=>obtain ⟨t',rfl⟩:=ry;exact PySem.EqMixed.eq_int_str (jX I q (by simp))
  | _=>exact absurd (show false=true from hs) Bool.false_ne_true
 | str i=>
  obtain ⟨t,rfl⟩:=rx
  cases y with
  | non=>cases ry;exact PySem.EqNone.eq_str_none (jX I q (by simp))
  | bl j=>cases ry;exact PySem.EqMixed.eq_str_bool (jX I q (by simp))
  | int j=>obtain ⟨t',rfl⟩:=ry;exact PySem.EqMixed.eq_str_int (jX I q (by simp))
  | str j=>obtain ⟨t',rfl⟩:=ry;exact eq_str (jX I q jaP)
  | _=>exact absurd (show false=true from hs) Bool.false_ne_true
 | byt i=>
  obtain ⟨t,rfl⟩:=rx
  cases y with
  | byt j=>obtain ⟨t',rfl⟩:=ry;exact PySem.W.eq_bytes (jX I q jaR)
  | _=>exact absurd (show false=true from hs) Bool.false_ne_true
 | _=>cases y <;> exact absurd (show false=true from hs) Bool.false_ne_true
theorem jgf:OpR X (compareOp .NotEq) rNe:=by
 intro pins s σ H x y v u Q I rx ry h
 obtain ⟨hs,q⟩:=h
 cases x with
 | non=>
  cases rx
  cases y with
  | non=>cases ry;exact PySem.EqNone.ne_none_none (jX I q (by simp))
  | bl j=>cases ry;exact PySem.EqNone.ne_none_bool (jX I q (by simp))
  | int j=>obtain ⟨t',rfl⟩:=ry;exact PySem.EqNone.ne_none_int (jX I q (by simp))
  | str j=>obtain ⟨t',rfl⟩:=ry;exact PySem.EqNone.ne_none_str (jX I q (by simp))
  | _=>exact absurd (show false=true from hs) Bool.false_ne_true
 | bl i=>
  cases rx
  cases y with
  | non=>cases ry;exact PySem.EqNone.ne_bool_none (jX I q (by simp))
  | bl j=>cases ry;exact ne_bool (jX I q (congrArg not jdf))
  | str j=>obtain ⟨t',rfl⟩:=ry;exact PySem.EqMixed.ne_bool_str (jX I q (by simp))
  | _=>exact absurd (show false=true from hs) Bool.false_ne_true
 | int i=>
  obtain ⟨t,rfl⟩:=rx
  cases y with
  | non=>cases ry;exact PySem.EqNone.ne_int_none (jX I q (by simp))
  | int j=>obtain ⟨t',rfl⟩:=ry;exact ne_int (jX I q (congrArg not jaQ))
  | str j=>obtain ⟨t',rfl⟩:=ry;exact PySem.EqMixed.ne_int_str (jX I q (by simp))
  | _=>exact absurd (show false=true from hs) Bool.false_ne_true
 | str i=>
  obtain ⟨t,rfl⟩:=rx
  cases y with
  | non=>cases ry;exact PySem.EqNone.ne_str_none (jX I q (by simp))
  | bl j=>cases ry;exact PySem.EqMixed.ne_str_bool (jX I q (by simp))
  | int j=>obtain ⟨t',rfl⟩:=ry;exact PySem.EqMixed.ne_str_int (jX I q (by simp))
  | str j=>obtain ⟨t',rfl⟩:=ry;exact ne_str (jX I q (congrArg not jaP))
  | _=>exact absurd (show false=true from hs) Bool.false_ne_true
 | byt i=>
  obtain ⟨t,rfl⟩:=rx
  cases y with
  | byt j=>obtain ⟨t',rfl⟩:=ry;exact PySem.W.ne_bytes (jX I q (congrArg not jaR))
  | _=>exact absurd (show false=true from hs) Bool.false_ne_true
 | _=>cases y <;> exact absurd (show false=true from hs) Bool.false_ne_true
theorem jeM:OpR X (compareOp .Lt) (rI0 fun i j=>.bl (decide (i < j))):=jgh fun _ _ _ _ _ _ _ q=>lt_int q
theorem Zh:OpR X (compareOp .Gt) (rI0 fun i j=>.bl (decide (j < i))):=jgh fun _ _ _ _ _ _ _ q=>gt_int q
theorem jJ (b:Expr) {op:CmpOp} (h:op≠.In:=by decide) (h2:op≠.NotIn:=by decide):behindInMarks op b=false:=by
 have e1:(op == CmpOp.In)=false:=by cases op <;> first | rfl | exact absurd rfl h
 have e2:(op == CmpOp.NotIn)=false:=by cases op <;> first | rfl | exact absurd rfl h2
 cases b <;> simp [behindInMarks,e1,e2]
theorem jd2 {op:CmpOp} {r:R2} (ho:OpR X (compareOp op) r) (ha:PE X a ta) (hb:PE X b tb) (hm:behindInMarks op b=false):PE X (.Compare a [op] [b] pos) (tOp r ta tb):=by
 intro pins s σ H Q I h
 exact wpAny_Compare1 (jfG ha hb I h fun v u s2 x y H2 I2 rx ry q=>ho pins s2 σ H2 x y v u Q I2 rx ry q) hm
def jey (t:TE):TT:=fun σ H Q=>t σ H fun x H'=>∃ k,x=.bl k∧Q k H'
theorem jdK {op:CmpOp} {r:R2} (ho:OpR X (compareOp op) r) (ha:PE X a ta) (hb:PE X b tb) (hm:behindInMarks op b=false):PT X (.Compare a [op] [b] pos) (jey (tOp r ta tb)):=by
 intro pins s σ H Q I h
 refine wpAny_isTrue_Compare1 (thn (ha pins s σ H _ I h) fun v s1 ⟨x,H1,I1,r1,q1⟩=>thn (hb pins s1 σ H1 _ I1 q1) fun u s2 ⟨y,H2,I2,r2,q2⟩=>
  thn (ho pins s2 σ H2 x y v u _ I2 r1 r2 q2) fun c s3 ⟨z,H3,I3,r3,k,e,q3⟩=>?_) hm
 subst e
 cases r3
 exact wpAny_truthy_bool ⟨H3,I3,q3⟩
theorem Z4:(sizeLine:Nat) < 2 ^ 63:=by rw [sizeLine_eq];decide
theorem yk {x:V} {us:List Value} (r:Vals [x] us):∃ u,us=[u]∧RelV x u:=by
 cases r with
 | cons r1 r2=>cases r2;exact ⟨_,rfl,r1⟩
theorem jap {x y:V} {us:List Value} (r:Vals [x,y] us):∃ u w',us=[u,w']∧RelV x u∧RelV y w':=by
 cases r with
 | cons r1 r2=>
  cases r2 with
  | cons r3 r4=>cases r4;exact ⟨_,_,rfl,r1,r3⟩
end
structure ObjM (h:Heap) (x dx C:Addr) (mA:Str→Option Value):Prop where
 obj:h.get? x=some (PySem.W.instObj C dx)
 ns:h.Ns1 dx mA
 ne:dx≠x
theorem jbt {h:Heap} {dx:Addr} {mA:Str→Option Value} (n:h.Ns1 dx mA):∃ od,h.get? dx=some od∧∀ name,PySem.W.lookIn name od=some (mA name):=by
 obtain ⟨o,es,ep,ho,hd,hk,_,hm⟩:=n
 refine ⟨o,ho,fun name=>?_⟩
 have e:=hm name
 unfold nsFind findBy at e
 rw [← Array.find?_toList] at e
 unfold PySem.W.lookIn
 rw [hd]
 dsimp only
 split
 ·rename_i y q
  rw [q] at e
  exact congrArg some e
 ·rename_i q
  rw [q] at e
  have a:es.toList.any (·.refKey)=false:=by
   rw [List.any_eq_false]
   intro y hy
   obtain ⟨z,t,hkey⟩:=hk y (Array.mem_toList_iff.mp hy)
   simp [DictEntry.refKey,hkey]
  have a':¬ es.toList.any (·.refKey)=true:=by rw [a];exact Bool.false_ne_true
  rw [if_neg a']
  exact congrArg some e
theorem ObjM.look {h:Heap} {x dx C:Addr} {mA:Str→Option Value} (I:ObjM h x dx C mA):∃ od,PySem.W.InstAt h x (PySem.W.instObj C dx) C (some od)∧∀ name,PySem.W.lookIn name od=some (mA name):=
 let ⟨od,ho,hl⟩:=jbt I.ns
 ⟨od,⟨I.obj,rfl,rfl,ho⟩,hl⟩
section
variable {prog:Program} {w:World} {A:Around} {E:Value→Shared→Prop} {s:Shared} {K:PySem.W.Frag} {x dx C f:Addr} {mA:Str→Option Value} {name:Str} {v:Value}
theorem jeo {expr:Bool} {Q:Value→Shared→Prop} (X:K.In s.heap) (I:ObjM s.heap x dx C mA) (hg:PySem.W.plainGet K C name=true) (hh:PySem.W.hasDictIn K C=true)
  (ha:PySem.W.findIn K (.ref C) name=some none) (hv:mA name=some v) (hv':PySem.W.handedIn v=true) (h:Q v { s with toks:=s.toks+1 }) :
  wpAny (model prog w) A (getAttr (.ref x) name expr) Q E s:=by
 obtain ⟨od,J,hl⟩:=I.look
 exact PySem.W.get_value X J (PySem.W.plainGet_of hg).1 (PySem.W.findObj_own hh ha rfl (by rw [hl,hv])) hv' h
theorem jdD {ns:List Str} {Q:Unit→Shared→Prop} (X:K.In s.heap) (I:ObjM s.heap x dx C mA)
  (hs:PySem.W.findIn K (.ref C) "__setattr__" = some (some (.builtin "object.__setattr__"))) (hp:PySem.W.plainOver K C=true) (ht:PySem.W.takerIn K C name=some none) (hh:PySem.W.hasDictIn K C=true)
  (hw:PySem.Within mA ns) (hsz:ns.length≤sizeLine)
  (h:∀ h',ObjM h' x dx C (fun y=>if y=name then some v else mA y)→Heap.SameBut dx s.heap h'→Q () { s with heap:=h',toks:=s.toks+2 }) :
  wpAny (model prog w) A (setAttr (.ref x) name v) Q E s:=by
 obtain ⟨od,J,hl⟩:=I.look
 refine PySem.W.set_plain X J hs (PySem.W.osa_open (s:={ s with toks:=s.toks+1 }) (r:=none) X J hp ht fun b=>?_)
 obtain ⟨cd,hc,hd'⟩:=PySem.W.any_some hh
 have hx:s.heap.get? x=some ⟨.ref C,some dx,.plain,#[]⟩:=I.obj
 refine wpAny_bind (wpAny_pure (wpAny_bind (wpAny_bind (wpAny_loadPart hx (wpAny_bind (PySem.W.Looks.here (s:={ s with toks:=s.toks+1 }) (PySem.W.looks_clsIn X hc) ?_))))))
 rw [hd']
 refine wpAny_pure (a:=some dx) (wpAny_bind (wpAny_pure (wpAny_bind ?_)))
 refine wpAny_nsSet1 (s:={ s with toks:=s.toks+1 }) I.ns fun h' hn2 hs2=>?_
 obtain ⟨oD,esD,epD,hoD,hdD,hcD⟩:=hn2.count (PySem.Within.cons name v hw)
 refine wpAny_bind (wpAny_lookBehind hoD (by rw [hdD];exact pastItsLine_dict (Nat.le_trans hcD (by rw [List.length_cons];omega))) ?_)
 exact wpAny_pure (h _ ⟨(hs2.2 _ (Ne.symm I.ne)).trans I.obj,hn2,I.ne⟩ hs2)
theorem jcX {R:Result→Shared→Prop} {vs:List Value} {kw:List (Str×Value)} (X:K.In s.heap) (hm:PySem.W.makesIn K C=true)
  (hi:PySem.W.findIn K (.ref C) "__init__" = some (some (.ref f))) (hf:PySem.W.typeIn K (.ref f)=some (.type "function"))
  (h:codeAny (model prog w) (A.under (.builtin "type.__call__" ⟨.ref C :: vs,kw⟩)) (.call (.ref f) ⟨.ref (s.heap.objs.size+1) :: vs,kw⟩) (PySem.W.InitBack (s.heap.objs.size+1) R)
   { s with heap:=(s.heap.push PySem.W.emptyDict).push (PySem.W.instObj C s.heap.objs.size) }) :
  codeAny (model prog w) A (.call (.ref C) ⟨vs,kw⟩) R s:=by
 obtain ⟨hh,g,d,t,os⟩:=s
 exact PySem.W.make_core (PySem.W.makes_of X hm) (PySem.W.looks_findIn X hi) (fun self=>PySem.W.bind_fn X self hf) (.inl rfl) h
end
def yi (f:Str) (v:V):List (Str×V)→List (Str×V)
 | []=>[(f,v)]
 | (g,x) :: r=>if g=f then (g,v) :: r else (g,x) :: yi f v r
theorem Jz (f g:Str) (v:V):∀ fs:List (Str×V),(yi f v fs).lookup g=if g=f then some v else fs.lookup g
 | []=>by
  show List.lookup g [(f,v)]=_
  by_cases h:g=f
  ·have hb:(g == f)=true:=beq_iff_eq.mpr h
   simp only [List.lookup,hb,if_pos h]
  ·have hb:(g == f)=false:=beq_eq_false_iff_ne.mpr h
   simp only [List.lookup,hb,if_neg h]
 | (k,x) :: r=>by
  have ih:=Jz f g v r
  rw [show yi f v ((k,x) :: r)=(if k=f then (k,v) :: r else (k,x) :: yi f v r) from rfl]
  by_cases hk:k=f
  ·rw [if_pos hk]
   by_cases h:g=k
   ·have hb:(g == k)=true:=beq_iff_eq.mpr h
    simp only [List.lookup,hb,if_pos (h.trans hk)]
   ·have hb:(g == k)=false:=beq_eq_false_iff_ne.mpr h
    simp only [List.lookup,hb,if_neg (fun e:g=f=>h (e.trans hk.symm))]
  ·rw [if_neg hk]
   by_cases h:g=k
   ·have hb:(g == k)=true:=beq_iff_eq.mpr h
    simp only [List.lookup,hb,if_neg (fun e:g=f=>hk (h.symm.trans e))]
   ·have hb:(g == k)=false:=beq_eq_false_iff_ne.mpr h
    simp only [List.lookup,hb]
    exact ih
theorem Jl (f:Str) (v:V):∀ fs:List (Str×V),f∈(yi f v fs).map (·.1)∧∀ g,g∈fs.map (·.1)→g∈(yi f v fs).map (·.1)
 | []=>⟨by simp [yi],fun g h=>by simp at h⟩
 | (k,x) :: r=>by
  obtain ⟨i1,i2⟩:=Jl f v r
  rw [show yi f v ((k,x) :: r)=(if k=f then (k,v) :: r else (k,x) :: yi f v r) from rfl]
  by_cases hk:k=f
  ·rw [if_pos hk]
   subst hk
   exact ⟨by simp,fun g h=>by simpa using h⟩
  ·rw [if_neg hk]
   refine ⟨?_,fun g h=>?_⟩
   ·rw [List.map_cons]
    exact List.mem_cons_of_mem _ i1
   ·rw [List.map_cons] at h ⊢
    rcases List.mem_cons.mp h with e | e
    ·exact List.mem_cons.mpr (.inl e)
    ·exact List.mem_cons_of_mem _ (i2 g e)
theorem JA (f:Str) (v:V):∀ fs:List (Str×V),(yi f v fs).length≤fs.length+1
 | []=>by simp [yi]
 | (k,x) :: r=>by
  have ih:=JA f v r
  rw [show yi f v ((k,x) :: r)=(if k=f then (k,v) :: r else (k,x) :: yi f v r) from rfl]
  by_cases hk:k=f
  ·rw [if_pos hk,List.length_cons,List.length_cons];omega
  ·rw [if_neg hk,List.length_cons,List.length_cons];omega
theorem RelO.some_of {v:V} {o:Option Value} (r:RelO (some v) o):∃ u,o=some u∧RelV v u:=by
 cases o with
 | none=>exact (show False from r).elim
 | some u=>exact ⟨u,rfl,r⟩
theorem jbD {v:V} {u:Value} (r:RelV v u):PySem.W.handedIn u=true:=by
 cases v with
 | non=>cases (show u=Value.none from r);rfl
 | bl b=>cases (show u=Value.bool b from r);rfl
 | int i=>obtain ⟨t,e⟩:=(show ∃ t,u=Value.int i t from r);cases e;rfl
 | str x=>obtain ⟨t,e⟩:=(show ∃ t,u=Value.str x t from r);cases e;rfl
 | byt b=>obtain ⟨t,e⟩:=(show ∃ t,u=Value.bytes b t from r);cases e;rfl
 | flt b=>obtain ⟨t,e⟩:=(show ∃ t,u=Value.float b t from r);cases e;rfl
 | ref a=>cases (show u=Value.ref a from r);rfl
 | ty n=>cases (show u=Value.type n from r);rfl
section
variable {P:Program} {w:World} {H H':Hp} {h h':Heap} {a C dx:Addr} {fs fs':List (Str×V)}
theorem YG (hok:HOk P w H h) (e:H a=some (.ins C dx fs)):∃ mA,ObjM h a dx C mA∧(∀ f,RelO (fs.lookup f) (mA f))∧PySem.Within mA (fs.map (·.1))∧fs.length≤1000∧H dx=some (.own a):=by
 obtain ⟨d,z,ne,ob,mA,n,r,q⟩:=(show ObjOk P w H h a (.ins C dx fs) from hok a _ e)
 exact ⟨mA,⟨ob,n,ne⟩,r,q,z,d⟩
end
structure Cls (K:PySem.W.Frag) (C:Addr):Prop where
 pg:PySem.W.plainGet K C Str.empty=true
 hd:PySem.W.hasDictIn K C=true
 po:PySem.W.plainOver K C=true
 sa:PySem.W.findIn K (.ref C) "__setattr__" = some (some (.builtin "object.__setattr__"))
theorem Cls.get {K:PySem.W.Frag} {C:Addr} (c:Cls K C) (f:Str):PySem.W.plainGet K C f=true:=c.pg
def NoAttr (K:PySem.W.Frag) (C:Addr) (f:Str):Prop:=PySem.W.findIn K (.ref C) f=some none
theorem NoAttr.taker {K:PySem.W.Frag} {C:Addr} {f:Str} (n:NoAttr K C f):PySem.W.takerIn K C f=some none:=by
 unfold PySem.W.takerIn
 rw [show PySem.W.findIn K (.ref C) f=some none from n]
 rfl
section
variable {X:Cx} {pins:List (Addr×Obj)} {σ:St} {H:Hp} {s:Shared} {a C dx:Addr} {fs:List (Str×V)} {f:Str} {v:V} {A:Around} {E:Value→Shared→Prop}
theorem Z8 {b:Bool} {Q:Value→Shared→Prop} (I:Inv X pins σ H s) (e:H a=some (.ins C dx fs)) (c:Cls X.K C) (n:NoAttr X.K C f) (l:fs.lookup f=some v)
  (h:∀ u s',Inv X pins σ H s'→RelV v u→Q u s'):wpAny (model X.prog X.w) A (getAttr (.ref a) f b) Q E s:=by
 obtain ⟨mA,O,r,_,_,_⟩:=YG I.hok e
 obtain ⟨u,hu,ru⟩:=RelO.some_of (v:=v) (o:=mA f) (by rw [← l];exact r f)
 exact jeo I.kIn O (c.get f) c.hd n hu (jbD ru) (h u _ (I.tok _) ru)
theorem ZV {y:V} {u:Value} {Q:Unit→Shared→Prop} (I:Inv X pins σ H s) (e:H a=some (.ins C dx fs)) (c:Cls X.K C) (n:NoAttr X.K C f) (hl:fs.length < 1000) (ry:RelV y u)
  (h:∀ s',Inv X pins σ (upd H a (.ins C dx (yi f y fs))) s'→Q () s'):wpAny (model X.prog X.w) A (setAttr (.ref a) f u) Q E s:=by
 obtain ⟨mA,O,r,wi,_,ho⟩:=YG I.hok e
 have hz:(fs.map (·.1)).length≤sizeLine:=by rw [List.length_map,sizeLine_eq];omega
 refine jdD I.kIn O c.sa c.po n.taker c.hd wi hz fun h' O' sb=>h _ ?_
 have hd:∃ o,h'.get? dx=some o:=let ⟨o,_,_,e',_⟩:=O'.ns;⟨o,e'⟩
 refine I.write (x:=a) (e:=dx) (by rw [e];exact True.intro) (.inr ho) (fun b q hb z=>(sb.2 b hb).trans z) hd ?_
 refine ⟨by rw [jl O.ne];exact ho,?_,O.ne,O'.obj,_,O'.ns,fun g=>?_,fun g hg=>?_⟩
 ·have:=JA f y fs;omega
 ·show RelO ((yi f y fs).lookup g) (if g=f then some u else mA g)
  rw [Jz]
  by_cases q:g=f
  ·rw [if_pos q,if_pos q];exact ry
  ·rw [if_neg q,if_neg q];exact r g
 ·by_cases q:g=f
  ·rw [q];exact (Jl f y fs).1
  ·refine (Jl f y fs).2 g (wi g fun z=>hg ?_)
   show (if g=f then some u else mA g)=none
   rw [if_neg q];exact z
theorem Inv.made (I:Inv X pins σ H s):Inv X pins σ (upd (upd H s.heap.objs.size (.own (s.heap.objs.size+1))) (s.heap.objs.size+1) (.ins C s.heap.objs.size []))
  { s with heap:=(s.heap.push PySem.W.emptyDict).push (PySem.W.instObj C s.heap.objs.size) }:=by
 have e1:(s.heap.push PySem.W.emptyDict).get? s.heap.objs.size=some PySem.W.emptyDict:=Heap.get?_push_size s.heap rfl
 have e2:((s.heap.push PySem.W.emptyDict).push (PySem.W.instObj C s.heap.objs.size)).get? (s.heap.objs.size+1)=some (PySem.W.instObj C s.heap.objs.size):=by
  have:=Heap.get?_push_size (s.heap.push PySem.W.emptyDict) (o:=PySem.W.instObj C s.heap.objs.size) rfl
  rwa [Heap.size_push] at this
 have e3:(s.heap.push PySem.W.emptyDict).Ns s.heap.objs.size (fun _=>none):=⟨PySem.W.emptyDict,#[],_,e1,rfl,(fun e he=>absurd he (by simp)),fun _=>rfl⟩
 have I1:=I.laid (a:=s.heap.objs.size) (o:=.own (s.heap.objs.size+1)) (h':=s.heap.push PySem.W.emptyDict) (t':=s.toks) (fun b u q=>Heap.get?_push_of_some _ q) (Nat.le_refl _) ⟨_,e1⟩
 refine I1.laid (a:=s.heap.objs.size+1) (o:=.ins C s.heap.objs.size []) (t':=s.toks) (fun b u q=>Heap.get?_push_of_some _ q) (Nat.le_of_eq (Heap.size_push _ _)) ?_
 have ne:s.heap.objs.size≠s.heap.objs.size+1:=Nat.ne_of_lt (Nat.lt_succ_self _)
 refine ⟨by rw [jl ne,ja],Nat.zero_le _,ne,e2,fun _=>none,(Heap.Ns1.of_empty e3).at fun o q=>Heap.get?_push_of_some _ q,fun _=>True.intro,fun y hy=>absurd rfl hy⟩
theorem jeu {prog:Program} {w:World} {env:Env} {e:Expr} {f:Str} {pos:Pos} {s:Shared} {Q:Value→Shared→Prop} (hb:attributeBase e f env (eval e env)=eval e env)
  (h:wpAny (model prog w) A (eval e env) (fun o s₁=>wpAny (model prog w) A (getAttr o f true) Q E s₁) E s):wpAny (model prog w) A (eval (.Attribute e f pos) env) Q E s:=
 Attribute_any_ h (by rw [arm_eval_Attribute,hb])
end
def jfU (K:PySem.W.Frag) (ta:TE) (f:Str):TE:=fun σ H Q=>ta σ H fun x H1=>∃ a C dx fs v,x=.ref a∧H1 a=some (.ins C dx fs)∧Cls K C∧NoAttr K C f∧fs.lookup f=some v∧Q v H1
def jf1 (K:PySem.W.Frag) (ta tv:TE) (f:Str):TS:=fun D σ H=>tv σ H fun y H1=>ta σ H1 fun x H2=>∃ a C dx fs,x=.ref a∧H2 a=some (.ins C dx fs)∧Cls K C∧NoAttr K C f∧fs.length < 1000∧
 D.nx σ (upd H2 a (.ins C dx (yi f y fs)))
section
variable {X:Cx} {o e value:Expr} {f:Str} {pos pos' tpos:Pos} {ta tv:TE}
theorem jfn (he:PE X e ta) (hb:attributeBase e f X.env (eval e X.env)=eval e X.env):PE X (.Attribute e f pos) (jfU X.K ta f):=by
 intro pins s σ H Q I h
 refine jeu hb (thn (he pins s σ H _ I h) fun u s1 ⟨x,H1,I1,rx,a,C,dx,fs,v,ex,ea,c,n,l,q⟩=>?_)
 subst ex
 obtain rfl:u=Value.ref a:=rx
 exact Z8 I1 ea c n l fun u' s2 I2 ru=>⟨v,H1,I2,ru,q⟩
theorem jfd (ha:PE X o ta) (hv:PE X value tv) (hs:swapsWith value (some (.Attribute o f pos')) pos.line X.env=pure false):PS X (.Assign [.Attribute o f pos'] value pos) (jf1 X.K ta tv f):=by
 intro pins s σ H D I h
 refine plainObj_wpAny_Assign_Attribute (thn (hv pins s σ H _ I h) fun u s1 ⟨y,H1,I1,ry,q⟩=>thn (ha pins s1 σ H1 _ I1 q) fun ov s2 ⟨x,H2,I2,rx,a,C,dx,fs,ex,ea,c,n,l,q2⟩=>?_) hs
 subst ex
 obtain rfl:ov=Value.ref a:=rx
 exact ZV I2 ea c n l ry fun s3 I3=>⟨σ,_,I3,q2⟩
end
section
variable {X:Cx} {pins:List (Addr×Obj)} {σ:St} {H:Hp} {s:Shared} {A:Around} {E:Value→Shared→Prop} {Q:Value→Shared→Prop} {c:Value} {b:Bool}
inductive TyOf (K:PySem.W.Frag) (H:Hp):V→Value→Prop where
 | non:TyOf K H .non (.type "NoneType")
 | bl (x:Bool):TyOf K H (.bl x) (.type "bool")
 | int (i:Int):TyOf K H (.int i) (.type "int")
 | str (x:Str):TyOf K H (.str x) (.type "str")
 | flt (x:UInt64):TyOf K H (.flt x) (.type "float")
 | lst {a:Addr} {xs:List V} (e:H a=some (.lst xs)):TyOf K H (.ref a) (.type "list")
 | frz {a:Addr} {o:Obj} {xs:List V} (e:H a=some (.frz o (.lst xs))):TyOf K H (.ref a) (.type "list")
 | tup {a:Addr} {xs:List V} (e:H a=some (.tup xs)):TyOf K H (.ref a) (.type "tuple")
 | dK {a:Addr} {kvs:List (Key×V)} (e:H a=some (.dK kvs)):TyOf K H (.ref a) (.type "dict")
 | dT {a:Addr} {kvs:List (List Key×V)} (e:H a=some (.dT kvs)):TyOf K H (.ref a) (.type "dict")
 | ins {a C dx:Addr} {fs:List (Str×V)} (e:H a=some (.ins C dx fs)) (cl:Cls K C) (ha:PySem.W.findIn K (.ref C) "__class__" = some (some (.builtin "object.__class__")))
   (hn:PySem.W.specialIn K (.builtin "object.__class__") "__get__" = some (some (.builtin "getset_descriptor.__get__"))) (htk:PySem.W.takesIn K (.builtin "object.__class__")=some true)
   (hm:PySem.W.mroIn K C (.type "object")=some true):TyOf K H (.ref a) (.ref C)
theorem jbz {x:V} {u t:Value} (I:Inv X pins σ H s) (rx:RelV x u) (ty:TyOf X.K H x t) (e:PySem.W.kitOne X.K t c=some b) (h:∀ tk,Q (.bool b) { s with toks:=tk }) :
  wpAny (model X.prog X.w) A (call (.builtin "isinstance") [u,c]) Q E s:=by
 cases ty with
 | non=>cases (show u=Value.none from rx);exact PySem.W.kia_one PySem.W.kitx_none I.kIn True.intro e (fun z=>nomatch z) h
 | bl y=>cases (show u=Value.bool y from rx);exact PySem.W.kia_one PySem.W.kitx_bool I.kIn True.intro e (fun z=>nomatch z) h
 | int i=>obtain ⟨t,q⟩:=(show ∃ t,u=Value.int i t from rx);cases q;exact PySem.W.kia_one PySem.W.kitx_int I.kIn True.intro e (fun z=>nomatch z) h
 | str y=>obtain ⟨t,q⟩:=(show ∃ t,u=Value.str y t from rx);cases q;exact PySem.W.kia_one PySem.W.kitx_str I.kIn True.intro e (fun z=>nomatch z) h
 | flt y=>obtain ⟨t,q⟩:=(show ∃ t,u=Value.float y t from rx);cases q;exact PySem.W.kia_one PySem.W.kitx_float I.kIn True.intro e (fun z=>nomatch z) h
 | @lst a xs ea=>
  cases (show u=Value.ref a from rx)
  obtain ⟨_,_,n,_,h1⟩:=(show ObjOk X.prog X.w H s.heap a (.lst xs) from I.hok a _ ea)
  exact PySem.W.kia_one PySem.W.kitx_list I.kIn ⟨_,h1,rfl⟩ e (fun z=>nomatch z) h
 | @frz a ob xs ea=>
  cases (show u=Value.ref a from rx)
  obtain ⟨_,_,_,n,_,h1⟩:=(show ObjOk X.prog X.w H s.heap a (.frz ob (.lst xs)) from I.hok a _ ea)
  exact PySem.W.kia_one PySem.W.kitx_list I.kIn ⟨_,h1,rfl⟩ e (fun z=>nomatch z) h
 | @tup a xs ea=>
  cases (show u=Value.ref a from rx)
  obtain ⟨_,_,_,p⟩:=(show ObjOk X.prog X.w H s.heap a (.tup xs) from I.hok a _ ea)
  obtain ⟨o,h1,h2,_⟩:=p
  exact PySem.W.kia_one PySem.W.kitx_tuple I.kIn ⟨o,h1,h2⟩ e (fun z=>nomatch z) h
 | @dK a kvs ea=>
  cases (show u=Value.ref a from rx)
  obtain ⟨_,_,vs,_,p⟩:=(show ObjOk X.prog X.w H s.heap a (.dK kvs) from I.hok a _ ea)
  obtain ⟨o,es,ep,h1,h2,_⟩:=p
  exact PySem.W.kia_one PySem.W.kitx_dict I.kIn ⟨o,h1,h2.1⟩ e (fun z=>nomatch z) h
 | @dT a kvs ea=>
  cases (show u=Value.ref a from rx)
  obtain ⟨_,_,xs,_,o,es,ep,h1,h2,_⟩:=(show ObjOk X.prog X.w H s.heap a (.dT kvs) from I.hok a _ ea)
  exact PySem.W.kia_one PySem.W.kitx_dict I.kIn ⟨o,h1,h2.1⟩ e (fun z=>nomatch z) h
 | @ins a C dx fs ea cl ha hn htk hm=>
  cases (show u=Value.ref a from rx)
  obtain ⟨mA,O,_⟩:=YG I.hok ea
  obtain ⟨od,J,_⟩:=O.look
  exact PySem.W.kia_one (PySem.W.kitx_own (cl.get _) cl.hd ha hn htk hm) I.kIn J e (fun z=>nomatch z) h
end
structure Room (k:Nat) (A:Around):Prop where
 hd:A.handled=none
 dp:A.depth+3 * k+5 < recursionLimit
 un:A.units+16 * k+200 < cLine
theorem Room.mono {j k:Nat} {A:Around} (r:Room k A) (h:j≤k):Room j A:=⟨r.hd,by have:=r.dp;omega,by have:=r.un;omega⟩
theorem Room.deeper {k:Nat} {A:Around} (r:Room (k+1) A) (env:Env):Room k (A.deeper env):=
 ⟨r.hd,by have:=r.dp;show A.depth+1+3 * k+5 < _;omega,by have:=r.un;show A.units+3+16 * k+200 < _;omega⟩
theorem Room.in1 {k:Nat} {A:Around} (r:Room (k+1) A):Room k A.in1:=
 ⟨r.hd,by have:=r.dp;show A.depth+3 * k+5 < _;omega,by have:=r.un;show A.units+1+16 * k+200 < _;omega⟩
theorem Z3 {A:Around} {C:Addr} {us:List Value} {kw:List (Str×Value)}:(A.under (.builtin "type.__call__" ⟨.ref C :: us,kw⟩)).depth=A.depth+1:=by
 first | rfl | simp [Around.under,Code.weight,Code.isCreation,Code.isGuard,Code.isCaller,Code.frames,Code.isFrame,guardIds]
theorem Z2 {A:Around} {C:Addr} {us:List Value} {kw:List (Str×Value)}:(A.under (.builtin "type.__call__" ⟨.ref C :: us,kw⟩)).units=A.units+1:=by
 first | rfl | simp [Around.under,Code.cUnits,Code.frames,Code.isFrame]
theorem Room.make {k:Nat} {A:Around} (r:Room (k+1) A) (C:Addr) (us:List Value) (kw:List (Str×Value)):Room k (A.under (.builtin "type.__call__" ⟨.ref C :: us,kw⟩)):=
 ⟨r.hd,by have:=r.dp;rw [Z3];omega,by have:=r.un;rw [Z2];omega⟩
theorem Room.depth {k:Nat} {A:Around} (r:Room k A):A.depth < recursionLimit:=by have:=r.dp;omega
theorem Room.units {k:Nat} {A:Around} (r:Room k A):A.units+64 < cLine:=by have:=r.un;omega
def jdA:TA:=fun _ H Q=>Q [] H
def jb9 (ta:TE) (tr:TA):TA:=fun σ H Q=>ta σ H fun x H1=>tr σ H1 fun xs H2=>Q (x :: xs) H2
section
variable {X:Cx} {e:Expr} {es:List Expr} {te:TE} {t:TA} {pos:Pos}
theorem jcF:PA X [] jdA:=fun _ _ _ _ H Q I h=>Calls.spliced_nil ⟨[],H,I,.nil,h⟩
theorem jd4 (ha:PE X e te) (hr:PA X es t) (hs:starEach (e :: es) X.env=(false,eval e X.env) :: starEach es X.env:=by rfl):PA X (e :: es) (jb9 te t):=by
 intro pos pins s σ H Q I h
 rw [hs]
 show wpAny _ _ (spliced ((false,eval e X.env) :: backTo pos (starEach es X.env))) _ _ s
 refine Calls.spliced_cons (thn (ha pins s σ H _ I h) fun u s1 ⟨x,H1,I1,r1,q1⟩=>?_)
 exact thn (hr pos pins s1 σ H1 _ I1 q1) fun us s2 ⟨xs,H2,I2,r2,q2⟩=>⟨x :: xs,H2,I2,.cons r1 r2,q2⟩
def jfL (t:TA):TE:=fun σ H Q=>t σ H fun xs H1=>xs.length≤sizeLine∧∀ p,H1 p=none→Q (.ref p) (upd H1 p (.tup xs))
def jfP (t:TA):TE:=fun σ H Q=>t σ H fun xs H1=>xs.length≤sizeLine∧∀ p,H1 p=none→Q (.ref p) (upd H1 p (.lst xs))
theorem jcw {x1} (h:PA X es t):PE X (.Tuple es x1 pos) (jfL t):=by
 intro pins s σ H Q I hq
 refine wpAny_Tuple_spliced (thn (h pos pins s σ H _ I hq) fun us s1 ⟨xs,H1,I1,r,z,q⟩=>⟨by rw [← r.length];exact z,?_⟩)
 have hf:H1 s1.heap.objs.size=none:=I1.hok.fresh (Nat.le_refl _)
 refine ⟨.ref s1.heap.objs.size,upd H1 s1.heap.objs.size (.tup xs),I1.laid (t':=s1.toks) (fun b u e=>Heap.get?_push_of_some _ e) (Nat.le_refl _) ?_,rfl,q _ hf⟩
 exact ⟨z,us,r,⟨_,Heap.get?_push_size _ rfl,rfl,_,rfl⟩⟩
theorem jfl (h:PA X es t):PE X (.List es pos) (jfP t):=by
 intro pins s σ H Q I hq
 refine wpAny_List_spliced (thn (h pos pins s σ H _ I hq) fun us s1 ⟨xs,H1,I1,r,z,q⟩=>⟨by rw [← r.length];exact z,?_⟩)
 have hf:H1 s1.heap.objs.size=none:=I1.hok.fresh (Nat.le_refl _)
 refine ⟨.ref s1.heap.objs.size,upd H1 s1.heap.objs.size (.lst xs),I1.laid (t':=s1.toks) (fun b u e=>Heap.get?_push_of_some _ e) (Nat.le_refl _) ?_,rfl,q _ hf⟩
 exact ⟨z,us,0,r,Heap.get?_push_size _ rfl⟩
end
abbrev Sp:=List V→Hp→VK→XK→Prop
abbrev CXT:=List Env→Hp→Shared→XK→Value→Shared→Prop
structure Env0 (P:Program) (w:World) (K:PySem.W.Frag) (mg:Str→Option Value) (base:Heap) (A:Around) (outer:List Env) (s:Shared) (H:Hp):Prop where
 frames:A.frames=some outer
 mod:Mod K mg base
 bs:∀ b o,base.get? b=some o→s.heap.get? b=some o∧H b=none
 bsz:base.objs.size≤s.heap.objs.size
 funs:s.heap.FunFrames base outer
 frf:∀ b∈frs outer,H b=none
 hok:HOk P w H s.heap
 bare:AllBare s.gens
def CE (outer:List Env) (P:Program) (w:World) (H:Hp) (s:Shared) (Q:VK) (u:Value) (s':Shared):Prop:=
 ∃ v H',s'.os=s.os∧AllBare s'.gens∧Un (frs outer) [] H H' s.heap s'.heap∧HOk P w H' s'.heap∧RelV v u∧Q v H'
def CR (CX:CXT) (outer:List Env) (P:Program) (w:World) (H:Hp) (s:Shared) (Q:VK) (E:XK) (r:Result) (s':Shared):Prop:=
 match r with
 | .ok (.ret u)=>CE outer P w H s Q u s'
 | .ok _=>False
 | .error e=>CX outer H s E e s'
structure FnOk (P:Program) (w:World) (K:PySem.W.Frag) (mg:Str→Option Value) (base:Heap) (CX:CXT) (k:Nat) (f:Addr) (fd:FuncData) (ps:List Str) (sp:Sp):Prop where
 len:∀ vs H Q E,sp vs H Q E→vs.length=ps.length
 run:∀ (A:Around) (outer:List Env) (s:Shared) (H:Hp) (args:Args) (us:List Value) (vs:List V) (Q:VK) (E:XK),Room k A→Env0 P w K mg base A outer s H→BindsTo s fd args (ps.zip us)→Vals vs us→sp vs H Q E→
  codeAny (model P w) A (.call (.ref f) args) (CR CX outer P w H s Q E) s
theorem Env0.make {P:Program} {w:World} {K:PySem.W.Frag} {mg:Str→Option Value} {base:Heap} {A:Around} {outer:List Env} {s:Shared} {H:Hp} (e:Env0 P w K mg base A outer s H) (C:Addr) (us:List Value) (kw:List (Str×Value)) :
  Env0 P w K mg base (A.under (.builtin "type.__call__" ⟨.ref C :: us,kw⟩)) outer s H:=⟨by first | exact e.frames | (simpa [Around.under,Code.envs,Code.isFrame,pushEnvs] using e.frames),e.mod,e.bs,e.bsz,e.funs,e.frf,e.hok,e.bare⟩
theorem Env0.in1 {P:Program} {w:World} {K:PySem.W.Frag} {mg:Str→Option Value} {base:Heap} {A:Around} {outer:List Env} {s:Shared} {H:Hp} (e:Env0 P w K mg base A outer s H) :
  Env0 P w K mg base A.in1 outer s H:=⟨e.frames,e.mod,e.bs,e.bsz,e.funs,e.frf,e.hok,e.bare⟩
section
variable {X:Cx} {pins:List (Addr×Obj)} {σ:St} {H:Hp} {s s':Shared}
theorem Inv.env0 (I:Inv X pins σ H s):Env0 X.prog X.w X.K X.mg X.base X.A X.stack s H:=
 ⟨I.ok.frames,I.ok.mod,I.bs,Nat.le_trans I.ok.bsz I.sz,I.stack,I.stkFree,I.hok,I.bare⟩
theorem Inv.after {Q:VK} {u:Value} (I:Inv X pins σ H s) (h:CE X.stack X.prog X.w H s Q u s'):EP X pins σ Q u s':=by
 obtain ⟨v,H',os,bare,un,hok,r,q⟩:=h
 obtain ⟨hh,g,d,t,os'⟩:=s'
 obtain rfl:os'=s.os:=os
 exact ⟨v,H',I.call (h':=hh) (g':=g) (d':=d) (t':=t) (ch:=[]) un hok bare (fun b z=>absurd z (by simp)),r,q⟩
end
def KH (sp:Sp) (dvs:List V) (E:XK) (t:TA):TE:=fun σ H Q=>t σ H fun vs H1=>sp (vs++dvs) H1 Q E
def jb7 (C:Addr) (sp:Sp) (dvs:List V) (E:XK) (t:TA):TE:=fun σ H Q=>t σ H fun vs H1=>∀ x dx,H1 x=none→H1 dx=none→dx≠x→
 sp (.ref x :: (vs++dvs)) (upd (upd H1 dx (.own x)) x (.ins C dx [])) (fun v H2=>v=.non∧Q (.ref x) H2) E
def Binds (K:PySem.W.Frag) (fd:FuncData) (ps:List Str) (ds:List Value):Prop:=
 ∀ (s:Shared) (us:List Value),K.In s.heap→(us++ds).length=ps.length→BindsTo s fd ⟨us,[]⟩ (ps.zip (us++ds))
theorem Binds.all {K:PySem.W.Frag} {fd:FuncData} {ps:List Str} (h:∀ us:List Value,us.length=ps.length→bindArgs fd ⟨us,[]⟩=pure (ps.zip us)):Binds K fd ps []:=fun s us _ hl=>by
 rw [List.append_nil] at hl ⊢
 exact .of_eq (h us hl)
def Jt (CX:CXT) (X:Cx) (E:XK):Prop:=∀ (pins:List (Addr×Obj)) (σ:St) (H:Hp) (s:Shared) (e:Value) (s':Shared),Inv X pins σ H s→CX X.stack H s E e s'→X.xe e s'
section
variable {X:Cx} {CX:CXT} {k:Nat} {f C:Addr} {fd:FuncData} {ps:List Str} {sp:Sp} {dvs:List V} {ds:List Value} {E:XK} {x m:Str} {p pos apos:Pos} {e o:Expr} {es:List Expr} {ta:TE} {t:TA}
theorem je5 {pins:List (Addr×Obj)} {σ:St} {H:Hp} {s:Shared} {Q:VK} {us:List Value} {vs:List V} (F:FnOk X.prog X.w X.K X.mg X.base CX k f fd ps sp) (hr:Room k X.A) (hb:Binds X.K fd ps ds) (hd:Vals dvs ds) (hx:Jt CX X E)
  (I:Inv X pins σ H s) (r:Vals vs us) (h:sp (vs++dvs) H Q E):wpAny (model X.prog X.w) X.A (call (.ref f) us) (EP X pins σ Q) X.xe s:=by
 have r2:Vals (vs++dvs) (us++ds):=r.append hd
 have hl:(us++ds).length=ps.length:=by rw [← r2.length];exact F.len _ _ _ _ h
 refine wpAny_call (codeAny_mono (F.run X.A X.stack s H ⟨us,[]⟩ (us++ds) (vs++dvs) Q E hr I.env0 (hb s us I.kIn hl) r2 h) fun r s' hq=>?_)
 cases r with
 | error e=>exact hx pins σ H s e s' I hq
 | ok fl=>
  cases fl with
  | ret u=>exact I.after hq
  | next=>exact False.elim hq
  | brk=>exact False.elim hq
  | cont=>exact False.elim hq
theorem jaF (F:FnOk X.prog X.w X.K X.mg X.base CX k f fd ps sp) (hr:Room k X.A) (hg:Gl X x) (hm:X.mg x=some (.ref f)) (hk:PySem.W.keepIn X.K (.ref f)=true) (hb:Binds X.K fd ps ds) (hd:Vals dvs ds) (hx:Jt CX X E)
  (ha:PA X (e :: es) t) (hdb:(x == ("__debug__" : Str))=false:=by decide) (he:starEach (e :: es) X.env=(false,eval e X.env) :: starEach es X.env:=by rfl) (hpl:(backTo pos (starEach es X.env)).any (·.1)=false:=by rfl) :
  PE X (.Call (.Name x p) (e :: es) [] pos) (KH sp dvs E t):=by
 intro pins s σ H Q I h
 refine wpAny_Call_Name_kw (yb I hg hm ?_ hdb)
 refine PySem.W.callWith_K (h₀:=X.base) I.ok.mod.kin hk (thn (ha pos pins s σ H _ I h) fun us s1 ⟨vs,H1,I1,r,q⟩=>⟨I1.kIn,?_⟩) he hpl
 exact je5 F hr hb hd hx I1 r q
structure Mk (K:PySem.W.Frag) (C f:Addr):Prop where
 makes:PySem.W.makesIn K C=true
 init:PySem.W.findIn K (.ref C) "__init__" = some (some (.ref f))
 fn:PySem.W.isFn K (.ref f)=true
 kp:PySem.W.keepIn K (.ref C)=true
theorem jch {pins:List (Addr×Obj)} {σ:St} {H:Hp} {s:Shared} {Q:VK} {us:List Value} {vs:List V} (M:Mk X.K C f) (F:FnOk X.prog X.w X.K X.mg X.base CX k f fd ps sp) (hr:Room (k+1) X.A) (hb:Binds X.K fd ps ds) (hd:Vals dvs ds)
  (hx:Jt CX X E) (I:Inv X pins σ H s) (r:Vals vs us)
  (h:∀ x dx,H x=none→H dx=none→dx≠x→sp (.ref x :: (vs++dvs)) (upd (upd H dx (.own x)) x (.ins C dx [])) (fun v H2=>v=.non∧Q (.ref x) H2) E) :
  wpAny (model X.prog X.w) X.A (call (.ref C) us) (EP X pins σ Q) X.xe s:=by
 have hq:=h (s.heap.objs.size+1) s.heap.objs.size (I.hok.fresh (Nat.le_succ _)) (I.hok.fresh (Nat.le_refl _)) (Nat.ne_of_lt (Nat.lt_succ_self _))
 have I2:=Inv.made (C:=C) I
 have r2:Vals (V.ref (s.heap.objs.size+1) :: (vs++dvs)) (Value.ref (s.heap.objs.size+1) :: (us++ds)):=.cons rfl (r.append hd)
 have hl:(Value.ref (s.heap.objs.size+1) :: us++ds).length=ps.length:=by
  have e:=r2.length
  rw [F.len _ _ _ _ hq] at e
  exact e.symm
 refine wpAny_call (jcX (f:=f) I.kIn M.makes M.init (beq_iff_eq.mp M.fn) (codeAny_mono (F.run _ X.stack _ _ ⟨Value.ref (s.heap.objs.size+1) :: us,[]⟩ (Value.ref (s.heap.objs.size+1) :: (us++ds)) _ _ E (hr.make C us [])
  (I2.env0.make C us []) (hb _ (Value.ref (s.heap.objs.size+1) :: us) I2.kIn hl) r2 hq) fun r s' hq'=>?_))
 cases r with
 | error e=>exact hx pins σ _ _ e s' I2 hq'
 | ok fl=>
  cases fl with
  | ret u=>
   obtain ⟨v,H',I3,rv,ev,q3⟩:=I2.after hq'
   subst ev
   exact ⟨rv,⟨V.ref (s.heap.objs.size+1),H',I3,rfl,q3⟩⟩
  | next=>exact False.elim hq'
  | brk=>exact False.elim hq'
  | cont=>exact False.elim hq'
theorem jdY (M:Mk X.K C f) (F:FnOk X.prog X.w X.K X.mg X.base CX k f fd ps sp) (hr:Room (k+1) X.A) (hg:Gl X x) (hm:X.mg x=some (.ref C)) (hb:Binds X.K fd ps ds) (hd:Vals dvs ds) (hx:Jt CX X E)
  (ha:PA X (e :: es) t) (hdb:(x == ("__debug__" : Str))=false:=by decide) (he:starEach (e :: es) X.env=(false,eval e X.env) :: starEach es X.env:=by rfl) (hpl:(backTo pos (starEach es X.env)).any (·.1)=false:=by rfl) :
  PE X (.Call (.Name x p) (e :: es) [] pos) (jb7 C sp dvs E t):=by
 intro pins s σ H Q I h
 refine wpAny_Call_Name_kw (yb I hg hm ?_ hdb)
 refine PySem.W.callWith_K (h₀:=X.base) I.ok.mod.kin M.kp (thn (ha pos pins s σ H _ I h) fun us s1 ⟨vs,H1,I1,r,q⟩=>⟨I1.kIn,?_⟩) he hpl
 exact jch M F hr hb hd hx I1 r q
end
structure FnScope (N P:List Str) (sc:Scope):Prop where
 kind:sc.kind=.function
 co:sc.isCoroutine=false
 gen:sc.isGenerator=false
 nd:N.Nodup
 pre:N.take P.length=P
 par:∀ x∈P,sc.names.lookup x=some .local∨sc.names.lookup x=some .cell
 nofree:∀ y∈sc.names,y.2≠.free
theorem Ya {kindOf:Str→Option NameKind} {x:Str}:∀ {binds:List (Str×Value)} {m:Str→Option Value},(∀ v,(x,v) ∉ binds)→bindL kindOf binds m x=m x
 | [],_,_=>rfl
 | (n,v) :: r,m,h=>by
  unfold bindL
  rw [Ya fun w hw=>h w (List.mem_cons_of_mem _ hw)]
  split
  ·have:x≠n:=by rintro rfl;exact h v List.mem_cons_self
   simp [this]
  ·rfl
theorem Yc {kindOf:Str→Option NameKind} {x:Str}:∀ {binds:List (Str×Value)} {m:Str→Option Value},(∀ v,(x,v) ∉ binds)→bindC kindOf binds m x=m x
 | [],_,_=>rfl
 | (n,v) :: r,m,h=>by
  unfold bindC
  rw [Yc fun w hw=>h w (List.mem_cons_of_mem _ hw)]
  split
  ·rfl
  ·have:x≠n:=by rintro rfl;exact h v List.mem_cons_self
   simp [this]
theorem Yb {kindOf:Str→Option NameKind} {x:Str} {v:Value}:∀ {P:List Str} {vs:List Value} {i:Nat} {m:Str→Option Value},P.Nodup→P[i]?=some x→vs[i]?=some v→kindOf x=some .local→
  bindL kindOf (P.zip vs) m x=some v
 | [],_,_,_,_,h,_,_=>by simp at h
 | _ :: _,[],_,_,_,_,h,_=>by simp at h
 | p :: P,w :: vs,0,m,nd,h1,h2,hk=>by
  simp at h1 h2;subst h1;subst h2
  show bindL kindOf ((p,w) :: P.zip vs) m p=_
  unfold bindL
  rw [Ya fun v hv=>(List.nodup_cons.mp nd).1 (List.of_mem_zip hv).1,if_pos hk]
  simp
 | p :: P,w :: vs,i+1,m,nd,h1,h2,hk=>by
  show bindL kindOf ((p,w) :: P.zip vs) m x=_
  unfold bindL
  exact Yb (i:=i) (List.nodup_cons.mp nd).2 (by simpa using h1) (by simpa using h2) hk
theorem Yd {kindOf:Str→Option NameKind} {x:Str} {v:Value}:∀ {P:List Str} {vs:List Value} {i:Nat} {m:Str→Option Value},P.Nodup→P[i]?=some x→vs[i]?=some v→kindOf x≠some .local→
  bindC kindOf (P.zip vs) m x=some v
 | [],_,_,_,_,h,_,_=>by simp at h
 | _ :: _,[],_,_,_,_,h,_=>by simp at h
 | p :: P,w :: vs,0,m,nd,h1,h2,hk=>by
  simp at h1 h2;subst h1;subst h2
  show bindC kindOf ((p,w) :: P.zip vs) m p=_
  unfold bindC
  rw [Yc fun v hv=>(List.nodup_cons.mp nd).1 (List.of_mem_zip hv).1,if_neg hk]
  simp
 | p :: P,w :: vs,i+1,m,nd,h1,h2,hk=>by
  show bindC kindOf ((p,w) :: P.zip vs) m x=_
  unfold bindC
  exact Yd (i:=i) (List.nodup_cons.mp nd).2 (by simpa using h1) (by simpa using h2) hk
def zI (N:List Str) (vs:List V):St:=vs.map some++List.replicate (N.length - vs.length) none
def Kv (CX:CXT) (P:Program) (w:World) (K:PySem.W.Frag) (mg:Str→Option Value) (base:Heap) (N:List Str) (qual:Str) (scope:Scope) (f:Addr) (cd:Value) (A:Around) (outer:List Env) (s:Shared) (H:Hp) (E:XK):Cx where
 prog:=P
 w:=w
 K:=K
 mg:=mg
 base:=base
 A:=A.deeper (envOfC qual scope s.heap.objs.size f cd)
 N:=N
 s₀:=s
 H₀:=H
 env:=envOfC qual scope s.heap.objs.size f cd
 outer:=outer
 stack:=envOfC qual scope s.heap.objs.size f cd :: outer
 ex:=[]
 calm:=true
 fn:=fun _=>true
 pn:=[]
 xe:=fun e s'=>wpAny (model P w) (A.deeper (envOfC qual scope s.heap.objs.size f cd)) (leaving (envOfC qual scope s.heap.objs.size f cd) e) (fun _ s''=>CX outer H s E e s'') (fun e' s''=>CX outer H s E e' s'') s'
theorem ZH {sc:Scope} {n:Nat} {x:Str} (h:sc.names.lookup x=some .cell):∃ c,(cellsFrom n sc.names []).lookup x=some c:=by
 have q:=PySem.W.cellsFrom_some sc.names n [] (.inl h)
 exact Option.isSome_iff_exists.mp q
theorem jbA {CX:CXT} {P:Program} {w:World} {K:PySem.W.Frag} {mg:Str→Option Value} {base:Heap} {N ps:List Str} {qual:Str} {scope:Scope} {f:Addr} {cd:Value} {A:Around} {outer:List Env} {s s1:Shared} {H:Hp} {E:XK} {us:List Value} {vs:List V}
  (S:FnScope N ps scope) (hd:A.handled=none) (e0:Env0 P w K mg base A outer s H) (hl:vs.length=ps.length) (r:Vals vs us)
  (x:InCallC s s.heap.objs.size (bindL (envOfC qual scope s.heap.objs.size f cd).kindOf (ps.zip us) fun _=>none) (cellsFrom (s.heap.objs.size+1) scope.names []) (bindC (envOfC qual scope s.heap.objs.size f cd).kindOf (ps.zip us) fun _=>none) s1) :
  Inv (Kv CX P w K mg base N qual scope f cd A outer s H E) [] (zI N vs) H s1:=by
 have hpl:ps.length≤N.length:=by have:=congrArg List.length S.pre;rw [List.length_take] at this;omega
 obtain ⟨h1,tk,rfl,hk⟩:=x.done
 have noA:∀ b:Addr,b ∉ (Kv CX P w K mg base N qual scope f cd A outer s H E).ex:=fun b z=>absurd (show b∈([]:List Addr) from z) (by simp)
 refine ⟨⟨e0.mod,S.kind,rfl,rfl,Nat.le_refl _,fun y z c h1 h2=>?_,fun y hy=>?_,fun y c _ h=>?_,fun _=>hd,Around.frames_deeper e0.frames,.inr ⟨rfl,rfl⟩,fun b z=>absurd z (noA b),e0.bs,e0.bsz,fun b _ _=>noA b,fun b z=>absurd z (noA b),e0.funs,e0.frf⟩,
  rfl,e0.bare,Un.kept hk,⟨_,x.toInCall.ns,fun i y v h1 h2 h3=>?_⟩,fun y c h=>⟨_,x.cell y c h⟩,e0.hok.fresh (Nat.le_refl _),fun y c h=>?_,fun p hp=>absurd (show p∈([]:List (Addr×Obj)) from hp) (by simp),e0.hok.kept hk,?_⟩
 ·exact name_of_addr x.apart (PySem.mem_of_lookup h1) (PySem.mem_of_lookup h2)
 ·have hy:scope.names.lookup y=some .cell∨scope.names.lookup y=some .free:=hy
  rcases hy with hy | hy
  ·exact ZH hy
  ·exact absurd rfl (S.nofree _ (PySem.mem_of_lookup hy))
 ·exact Nat.le_of_lt (x.above y c (PySem.mem_of_lookup h))
 ·have hi:i < vs.length:=by
   unfold zI at h2
   by_cases hi:i < vs.length
   ·exact hi
   ·rw [List.getElem?_append_right (by simpa using hi)] at h2
    rw [List.getElem?_replicate] at h2
    split at h2 <;> cases h2
  have ha:vs[i]?=some v:=by
   unfold zI at h2
   rw [List.getElem?_append_left (by simpa using hi),List.getElem?_map] at h2
   cases e:vs[i]? with
   | none=>rw [e] at h2;cases h2
   | some a=>rw [e] at h2;cases h2;rfl
  obtain ⟨u,hu,rv⟩:=r.get ha
  have hp:ps[i]?=some y:=by
   rw [← S.pre,List.getElem?_take_of_lt (by omega)];exact h1
  have ndP:ps.Nodup:=by rw [← S.pre];exact S.nd.sublist (List.take_sublist _ _)
  refine ⟨u,rv,?_⟩
  rcases S.par y (List.mem_of_getElem? hp) with k | k
  ·exact .inl ⟨k,Yb ndP hp hu k⟩
  ·obtain ⟨c,e⟩:=ZH (n:=s.heap.objs.size+1) k
   refine .inr ⟨.inl k,c,e,?_⟩
   have q:=x.cell y c e
   rw [Yd ndP hp hu (by show scope.names.lookup y≠_;rw [k];decide)] at q
   exact q
 ·exact e0.hok.fresh (Nat.le_of_lt (x.above y c (PySem.mem_of_lookup h)))
 ·unfold zI
  show _=N.length
  rw [List.length_append,List.length_map,List.length_replicate]
  omega
theorem jda {CX:CXT} {P:Program} {w:World} {K:PySem.W.Frag} {mg:Str→Option Value} {base:Heap} {k:Nat} {f:Addr} {name qual:Str} {params:Arguments} {body:List Stmt} {scope:Scope} {dV kV doc pm cdv ct oc:Value} {an od:Option Addr}
  {osl:Array (Option Value)} {N ps:List Str} {sp:Sp} (lk:K.lookup f=some ⟨oc,od,.func (PySem.W.fnOf name qual params body scope dV kV doc pm an cdv ct),osl⟩) (hcd:PySem.W.codeIn K cdv qual=true) (S:FnScope N ps scope)
  (len:∀ vs H Q E,sp vs H Q E→vs.length=ps.length)
  (hbody:∀ (A:Around) (outer:List Env) (s:Shared) (H:Hp) (vs:List V) (Q:VK) (E:XK),Room k (A.deeper (envOfC qual scope s.heap.objs.size f cdv))→sp vs H Q E→
   ∃ t,PSs (Kv CX P w K mg base N qual scope f cdv A outer s H E) body t∧t { nx:=fun _ H'=>Q .non H',rt:=Q } (zI N vs) H) :
  FnOk P w K mg base CX (k+1) f (PySem.W.fnOf name qual params body scope dV kV doc pm an cdv ct) ps sp:=by
 refine ⟨len,fun A outer s H args us vs Q E hr e0 hb r hsp=>?_⟩
 have hl:=len _ _ _ _ hsp
 have KX:K.In s.heap:=e0.mod.kin.keeps fun b o e=>(e0.bs b o e).1
 have lim:s.heap.NoLimit:=e0.mod.nolimit.keeps fun b o e=>(e0.bs b o e).1
 have hkind:∀ y∈ps.zip us,scope.names.lookup y.1=some .local∨(scope.names.lookup y.1=some .cell∧((cellsFrom (s.heap.objs.size+1) scope.names []).lookup y.1).isSome=true):=fun ⟨n,v⟩ hy=>by
  rcases S.par n (List.of_mem_zip hy).1 with q | q
  ·exact .inl q
  ·exact .inr ⟨q,PySem.W.cellsFrom_some _ _ _ (.inl q)⟩
 refine codeAny_call_function hr.depth (KX _ _ lk) rfl S.co S.gen rfl (PySem.W.codeRec_of KX hcd) (hb _ _ _ _ ?_)
 refine wpAny_newFunctionEnv_cells S.kind hkind fun env he s1 x=>?_
 subst he
 refine ⟨lim.keeps x.toInCall.keep,codeAny_func ?_⟩
 obtain ⟨t,ht,hq⟩:=hbody A outer s H vs Q E (hr.deeper _) hsp
 have I:Inv (Kv CX P w K mg base N qual scope f cdv A outer s H E) [] (zI N vs) H s1:=jbA S hr.hd e0 hl r x
 refine wpAny_mono (ht [] s1 (zI N vs) H _ I hq) (fun fl s' hs=>?_) fun e s' hs=>hs
 have fin:∀ {σ':St} {H':Hp} {v:V} {u:Value},Inv (Kv CX P w K mg base N qual scope f cdv A outer s H E) [] σ' H' s'→RelV v u→Q v H'→CE outer P w H s Q u s':=
  fun {σ' H' v u} J rv q=>⟨v,H',J.os,J.bare,J.base,J.hok,rv,q⟩
 cases fl with
 | ret u=>
  obtain ⟨v,σ',H',J,rv,q⟩:=hs
  exact fin J rv q
 | next=>
  obtain ⟨σ',H',J,q⟩:=hs
  exact fin (v:=V.non) (u:=Value.none) J rfl q
 | brk=>
  obtain ⟨_,_,_,q⟩:=hs
  exact False.elim q
 | cont=>
  obtain ⟨_,_,_,q⟩:=hs
  exact False.elim q
section
variable {X:Cx} {x:Str} {p pos:Pos} {e:Expr} {es:List Expr} {t:TA} {id T:String} {r:List V→Hp→VK→Prop}
def tCB (r:List V→Hp→VK→Prop) (t:TA):TE:=fun σ H Q=>t σ H fun vs H1=>r vs H1 Q
theorem jcE (hc:qo X (.builtin id) r) (hg:Gl X x) (hm:X.mg x=none) (hv:bootBuiltins x=some (.builtin id)) (ha:PA X (e :: es) t) (hn:x≠"__name__":=by decide) (hdb:(x == ("__debug__" : Str))=false:=by decide)
  (he:starEach (e :: es) X.env=(false,eval e X.env) :: starEach es X.env:=by rfl) (hpl:(backTo pos (starEach es X.env)).any (·.1)=false:=by rfl):PE X (.Call (.Name x p) (e :: es) [] pos) (tCB r t):=by
 intro pins s σ H Q I h
 refine wpAny_Call_Name_kw (zA I hg hm hv ?_ hn hdb)
 exact PyProof.Rows.callWith_builtin1 (thn (ha pos pins s σ H _ I h) fun us s1 ⟨vs,H1,I1,r1,q1⟩=>hc pins s1 σ H1 vs us Q I1 r1 q1) he hpl
theorem jbi (hc:qo X (.type T) r) (hg:Gl X x) (hm:X.mg x=none) (hv:bootBuiltins x=some (.type T)) (ha:PA X (e :: es) t) (hn:x≠"__name__":=by decide) (hdb:(x == ("__debug__" : Str))=false:=by decide)
  (he:starEach (e :: es) X.env=(false,eval e X.env) :: starEach es X.env:=by rfl) (hpl:(backTo pos (starEach es X.env)).any (·.1)=false:=by rfl):PE X (.Call (.Name x p) (e :: es) [] pos) (tCB r t):=by
 intro pins s σ H Q I h
 refine wpAny_Call_Name_kw (zA I hg hm hv ?_ hn hdb)
 exact PyProof.Rows.callWith_type1 (thn (ha pos pins s σ H _ I h) fun us s1 ⟨vs,H1,I1,r1,q1⟩=>hc pins s1 σ H1 vs us Q I1 r1 q1) he hpl
end
end L2
namespace HT
open PySem PyProof.Rows
section
variable {prog:Program} {w:World} {A:Around} {E:Value→Shared→Prop} {s:Shared}
theorem cat_tup {t b:Addr} {vs ws:List Value} {Q:Value→Shared→Prop} (ht:IsTup s.heap t vs.toArray) (hb:IsTup s.heap b ws.toArray) (hv:vs≠[])
  (h1:ws=[]→Q (.ref t) s) (h2:ws≠[]→Q (.ref s.heap.objs.size) { s with heap:=s.heap.push { cls:=.type "tuple",data:=.seq (vs++ws).toArray } })
  (hsz:vs.length+ws.length≤sizeLine):wpAny (model prog w) A (binaryOp .Add (.ref t) (.ref b)) Q E s:=by
 obtain ⟨⟨cls,dd,data,sl⟩,ho,hc,n,hd⟩:=id ht
 obtain ⟨⟨cls2,dd2,data2,sl2⟩,ho2,hc2,n2,hd2⟩:=id hb
 simp only at hc hd hc2 hd2
 subst hc hd hc2 hd2
 have e:vs.toArray++ws.toArray=(vs++ws).toArray:=by simp
 by_cases hw:ws=[]
 ·exact concat_meets ⟨_,ho,rfl⟩ ⟨_,ho2,rfl⟩ noFill_tuple_add seq_tuple_add PySem.F.slot_tuple_add PySem.F.entry_tuple_add (PySem.F.args_tuple_add_2 _ _)
   (tuple_addW1 t b vs.toArray ws.toArray n n2 dd dd2 sl sl2 (by simpa using hv) (by simp [hw])) ⟨ho,ho2,h1 hw⟩
 ·refine concat_meets ⟨_,ho,rfl⟩ ⟨_,ho2,rfl⟩ noFill_tuple_add seq_tuple_add PySem.F.slot_tuple_add PySem.F.entry_tuple_add (PySem.F.args_tuple_add_2 _ _)
   (tuple_addW2 t b vs.toArray ws.toArray n n2 dd dd2 sl sl2 (by simpa using hv) (by simpa using hw) (by rw [List.size_toArray,List.size_toArray];exact hsz)) ⟨ho,ho2,?_⟩
  rw [e]
  exact h2 hw
def sIx (n d:Nat):Option Int→Nat
 | none=>d
 | some v=>if v < 0 then (v+(n:Int)).toNat else min v.toNat n
theorem sIx_none (n d:Nat):sIx n d none=d:=rfl
theorem sIx_nat (n d k:Nat):sIx n d (some (k:Int))=min k n:=by
 show (if (k:Int) < 0 then ((k:Int)+(n:Int)).toNat else min (k:Int).toNat n)=min k n
 rw [if_neg (by omega),Int.toNat_natCast]
theorem je4 (n d:Nat) (hd:d≤n) (o:Option Int):sIx n d o≤n:=by
 cases o with
 | none=>exact hd
 | some v=>
  show (if v < 0 then (v+(n:Int)).toNat else min v.toNat n)≤n
  by_cases hv:v < 0
  ·rw [if_pos hv];omega
  ·rw [if_neg hv];exact Nat.min_le_right _ _
theorem jaT (v:Int) (n d:Nat):(if v < 0 then max (v+(n:Int)) 0 else min v (n:Int))=((sIx n d (some v):Nat):Int):=by
 show (if v < 0 then max (v+(n:Int)) 0 else min v (n:Int))=(((if v < 0 then (v+(n:Int)).toNat else min v.toNat n):Nat):Int)
 by_cases hv:v < 0
 ·simp only [if_pos hv];omega
 ·simp only [if_neg hv];omega
theorem jah (lo hi:Option Int) (n:Nat):Builtin.Slice.sliceAdjust lo hi 1 (n:Int)=(((sIx n 0 lo:Nat):Int),((sIx n n hi:Nat):Int)):=by
 have h1:¬ ((1:Int) < 0):=by omega
 unfold Builtin.Slice.sliceAdjust
 simp only [h1,if_false]
 refine Prod.ext ?_ ?_
 ·cases lo with
  | none=>rfl
  | some v=>exact jaT v n 0
 ·cases hi with
  | none=>rfl
  | some v=>exact jaT v n n
theorem ZX (i j:Nat):Builtin.Slice.slicePlaces (i:Int) (j:Int) 1=j - i:=by
 unfold Builtin.Slice.slicePlaces
 have h1:(1:Int) > 0:=by omega
 simp only [h1,if_true,Int.ediv_one]
 split <;> omega
theorem JZ {v:Value} {o:Option Int} {Q:Option Int→Shared→Prop} (p:IsPart v o) (h:Q o s):wpAny (model prog w) A (Builtin.Slice.slicePartIndex v) Q E s:=by
 cases p with
 | none=>exact slicePart_none h
 | int i t=>exact slicePart_int h
theorem Jd {sl:Addr} {vl vu:Value} {lo hi:Option Int} {n:Nat} {Q:Int×Int×Nat→Shared→Prop} (hs:s.heap.IsSliceOf sl vl vu .none) (pl:IsPart vl lo) (pu:IsPart vu hi)
  (h:Q (((sIx n 0 lo:Nat):Int),1,sIx n n hi - sIx n 0 lo) s):wpAny (model prog w) A (Builtin.Slice.sliceApplied (.ref sl) (pure (n:Int))) Q E s:=by
 obtain ⟨os,hos,hcs,hds⟩:=id hs
 unfold Builtin.Slice.sliceApplied Builtin.Slice.sliceFields
 refine wpAny_bind (wpAny_bind (wpAny_field hos hds (x:=vl) rfl (wpAny_bind (wpAny_field hos hds (x:=vu) rfl (wpAny_bind (wpAny_field hos hds (x:=.none) rfl (wpAny_pure ?_)))))))
 refine wpAny_bind (slicePart_none ?_)
 show wpAny _ _ (if ((1:Int) == 0)=true then _ else _) _ _ s
 rw [if_neg (by decide)]
 refine wpAny_bind (JZ pl (wpAny_bind (JZ pu (wpAny_bind (wpAny_pure ?_)))))
 show wpAny _ _ (match Builtin.Slice.sliceAdjust lo hi 1 (n:Int) with | (lo,hi)=>pure (lo,(1:Int),Builtin.Slice.slicePlaces lo hi 1)) _ _ s
 rw [jah lo hi n]
 show wpAny _ _ (pure (((sIx n 0 lo:Nat):Int),(1:Int),Builtin.Slice.slicePlaces ((sIx n 0 lo:Nat):Int) ((sIx n n hi:Nat):Int) 1)) _ _ s
 rw [ZX]
 exact wpAny_pure h
theorem jcs (xs:Array Value) (i k:Nat):((List.range k).filterMap fun (m:Nat)=>xs[((i:Int)+(m:Int) * 1).toNat]?).toArray=((xs.toList.drop i).take k).toArray:=by
 have e:(fun (m:Nat)=>xs[((i:Int)+(m:Int) * 1).toNat]?)=fun m=>xs[i+m]?:=by
  funext m
  have:((i:Int)+(m:Int) * 1).toNat=i+m:=by omega
  rw [this]
 rw [e]
 have:=pick_run xs i k
 rw [List.filterMap_map] at this
 have e2:((fun x=>xs[x]?) ∘ fun x=>i+x)=fun m=>xs[i+m]?:=rfl
 rw [e2] at this
 rw [this]
theorem getItem_tuple_cut {t sl:Addr} {items:Array Value} {vl vu:Value} {lo hi:Option Int} {Q:Value→Shared→Prop} (ht:IsTup s.heap t items) (hs:s.heap.IsSliceOf sl vl vu .none) (pl:IsPart vl lo) (pu:IsPart vu hi)
  (hw:¬ (sIx items.size 0 lo=0∧sIx items.size items.size hi=items.size))
  (h:Q (.ref s.heap.objs.size) { s with heap:=s.heap.push { cls:=.type "tuple",data:=.seq ((items.toList.drop (sIx items.size 0 lo)).take (sIx items.size items.size hi - sIx items.size 0 lo)).toArray } })
  (hsz:items.size≤sizeLine):wpAny (model prog w) A (getItem (.ref t) (.ref sl)) Q E s:=by
 have htake:sizeOk (.seq ((items.toList.drop (sIx items.size 0 lo)).take (sIx items.size items.size hi - sIx items.size 0 lo)).toArray):=by
  show ((items.toList.drop (sIx items.size 0 lo)).take (sIx items.size items.size hi - sIx items.size 0 lo)).toArray.size≤sizeLine
  rw [List.size_toArray,List.length_take,List.length_drop,Array.length_toList]
  omega
 have hj:sIx items.size items.size hi≤items.size:=je4 _ _ (Nat.le_refl _) hi
 obtain ⟨os,hos,hcs,hds⟩:=id hs
 have hTs:s.TypeIs (.ref sl) "slice":=⟨os,hos,hcs⟩
 unfold getItem
 try with_reducible refine wpAny_holding ?_
 first | refine wpAny_bind (wpAny_pure ?_) | skip
 refine wpAny_bind (wpAny_sequenceKey ht.typeIs (by decide) ?_)
 refine wpAny_bind (wpAny_callSpecial?_slot (name:=Str.ofString "__getitem__") ht.typeIs PyProof.Rows.slot_tuple_getitem
  (wpAny_call_entry PyProof.Rows.slot_tuple_getitem ht.typeIs entry_tuple_getitem ?_ (args_tuple_getitem _ _)))
 show wpAny _ _ (Builtin.Tuple.tupleItemsOf (.ref t) >>= _) _ _ s
 refine wpAny_bind (tupleItemsOf_ ht ?_)
 refine wpAny_bind (wpAny_typeOf hTs ?_)
 rw [if_pos (by decide)]
 refine wpAny_bind (Jd hs pl pu ?_)
 have hno:¬ ((((sIx items.size 0 lo:Nat):Int) == 0 && (1:Int) == 1 && (sIx items.size items.size hi - sIx items.size 0 lo) == items.size)=true):=by
  intro q
  rw [Bool.and_eq_true,Bool.and_eq_true] at q
  have q1:((sIx items.size 0 lo:Nat):Int)=0:=eq_of_beq q.1.1
  have q2:sIx items.size items.size hi - sIx items.size 0 lo=items.size:=eq_of_beq q.2
  exact hw ⟨by omega,by omega⟩
 show wpAny _ _ (if (((sIx items.size 0 lo:Nat):Int) == 0 && (1:Int) == 1 && (sIx items.size items.size hi - sIx items.size 0 lo) == items.size)=true then _ else _) _ _ s
 rw [if_neg hno,jcs]
 first
  | exact wpAny_bind (m:=Builtin.Tuple.tupleExact _) (wpAny_newObj_type (wpAny_pure ⟨_,rfl,wpAny_pure h⟩) htake)
  | exact wpAny_bind (m:=Builtin.Tuple.tupleExact _) (wpAny_newObj_type (wpAny_bind (wpAny_pure (wpAny_pure ⟨_,rfl,wpAny_pure h⟩))) htake)
  | exact wpAny_bind (wpAny_bind (m:=Builtin.Tuple.tupleExact _) (wpAny_newObj_type (wpAny_pure (wpAny_pure ⟨_,rfl,wpAny_pure h⟩)) htake))
  | exact wpAny_bind (wpAny_bind (m:=Builtin.Tuple.tupleExact _) (wpAny_newObj_type (wpAny_pure ⟨_,rfl,wpAny_pure h⟩) htake))
end
end HT
namespace L2
open PySem PySem.Spec PyProof.Rows
abbrev TO:=St→Hp→(Option Int→Hp→Prop)→Prop
def PO (X:Cx) (e:Option Expr) (t:TO):Prop:=
 ∀ (pins:List (Addr×Obj)) (s:Shared) (σ:St) (H:Hp) (Q:Option Int→Hp→Prop),Inv X pins σ H s→t σ H Q→
  wpAny (model X.prog X.w) X.A (evalPart e X.env) (fun u s'=>∃ o H',Inv X pins σ H' s'∧IsPart u o∧Q o H') X.xe s
def jar:TO:=fun _ H Q=>Q none H
def jez (t:TE):TO:=fun σ H Q=>t σ H fun x H1=>∃ i,x=.int i∧Q (some i) H1
section
variable {X:Cx} {e:Expr} {te:TE} {lo hi:Option Expr} {tl th:TO} {pos p2:Pos}
theorem jdS:PO X none jar:=by
 intro pins s σ H Q I h
 rw [evalPart_none]
 exact wpAny_pure ⟨none,H,I,.none,h⟩
theorem jdR (h:PE X e te):PO X (some e) (jez te):=by
 intro pins s σ H Q I hw
 rw [evalPart_some]
 refine thn (h pins s σ H _ I hw) fun u s1 ⟨x,H1,I1,r1,q1⟩=>?_
 obtain ⟨i,rfl,q⟩:=q1
 obtain ⟨t,rfl⟩:=r1
 exact ⟨some i,H1,I1,.int i t,q⟩
def SlR (X:Cx) (r:V→Option Int→Option Int→Hp→VK→Prop):Prop:=
 ∀ (pins:List (Addr×Obj)) (s:Shared) (σ:St) (H:Hp) (x:V) (v vl vu:Value) (lo hi:Option Int) (sl:Addr) (Q:VK),Inv X pins σ H s→RelV x v→s.heap.IsSliceOf sl vl vu .none→IsPart vl lo→IsPart vu hi→r x lo hi H Q→
  ∃ T id,typeLookup (.type T) "__getitem__" = pure (some (.builtin id))∧s.TypeIs v T∧wpAny (model X.prog X.w) X.A (getItem v (.ref sl)) (EP X pins σ Q) X.xe s
def tSl (r:V→Option Int→Option Int→Hp→VK→Prop) (te:TE) (tl th:TO):TE:=fun σ H Q=>te σ H fun x H1=>tl σ H1 fun l H2=>th σ H2 fun u H3=>r x l u H3 Q
theorem jcy {r:V→Option Int→Option Int→Hp→VK→Prop} (hr:SlR X r) (he:PE X e te) (hl:PO X lo tl) (hu:PO X hi th):PE X (.Subscript e (.Slice lo hi none p2) pos) (tSl r te tl th):=by
 intro pins s σ H Q I h
 refine Subscript_ (thn (he pins s σ H _ I h) fun v s1 ⟨x,H1,I1,r1,q1⟩=>?_)
 refine wpAny_Slice (thn (hl pins s1 σ H1 _ I1 q1) fun vl s2 ⟨l,H2,I2,pl,q2⟩=>thn (hu pins s2 σ H2 _ I2 q2) fun vu s3 ⟨u,H3,I3,pu,q3⟩=>?_)
 rw [evalPart_none]
 refine wpAny_pure ?_
 have I4:Inv X pins σ H3 { s3 with heap:=s3.heap.push { cls:=.type "slice",data:=.fields #[vl,vu,.none] } }:=I3.kept (t':=s3.toks) fun b ob q=>Heap.get?_push_of_some _ q
 obtain ⟨T,id,hT,ht,hg⟩:=hr pins { s3 with heap:=s3.heap.push { cls:=.type "slice",data:=.fields #[vl,vu,.none] } } σ H3 x v vl vu l u s3.heap.objs.size Q I4 r1 (Heap.IsSliceOf.new ..) pl pu q3
 show wpAny (model X.prog X.w) X.A (subscriptTail e (.Slice lo hi none p2) v (.ref s3.heap.objs.size)) (EP X pins σ Q) X.xe { s3 with heap:=s3.heap.push { cls:=.type "slice",data:=.fields #[vl,vu,.none] } }
 exact tail_any (ops:=[.ref s3.heap.objs.size,v]) ht hT hg (by with_unfolding_all rfl)
def j8 (xs:List V) (lo hi:Option Int):List V:=(xs.drop (HT.sIx xs.length 0 lo)).take (HT.sIx xs.length xs.length hi - HT.sIx xs.length 0 lo)
theorem JB (xs:List V) (lo hi:Option Int):(j8 xs lo hi).length≤xs.length:=by
 unfold j8
 rw [List.length_take,List.length_drop]
 omega
def jgt (K:PySem.W.Frag):V→Option Int→Option Int→Hp→VK→Prop:=fun x lo hi H Q=>∃ a xs,x=.ref a∧SqT K H a xs∧
 ¬ (HT.sIx xs.length 0 lo=0∧HT.sIx xs.length xs.length hi=xs.length)∧∀ p,H p=none→Q (.ref p) (upd H p (.tup (j8 xs lo hi)))
theorem qD:SlR X (jgt X.K):=by
 intro pins s σ H x v vl vu lo hi sl Q I rx hs pl pu h
 obtain ⟨a,xs,rfl,hx,hw,q⟩:=h
 cases rx
 obtain ⟨its,r,ht,hz⟩:=I.tuple hx
 have hlen:its.toArray.size=xs.length:=by rw [List.size_toArray];exact r.length.symm
 refine ⟨"tuple",_,PyProof.Rows.slot_tuple_getitem.lookup,ht.typeIs,?_⟩
 refine HT.getItem_tuple_cut ht hs pl pu (by rw [hlen];exact hw) ?_ (by rw [hlen];exact hz)
 rw [hlen]
 refine ⟨.ref s.heap.objs.size,_,I.laid (t':=s.toks) (o:=.tup (j8 xs lo hi)) (fun b ob q=>Heap.get?_push_of_some _ q) (Nat.le_refl _) ?_,rfl,q _ (I.hok.fresh (Nat.le_refl _))⟩
 exact ⟨Nat.le_trans (JB xs lo hi) hz,_,(r.drop (HT.sIx xs.length 0 lo)).take (HT.sIx xs.length xs.length hi - HT.sIx xs.length 0 lo),IsTup.new _ _⟩
def jf3 (K:PySem.W.Frag):R2:=fun x y H Q=>∃ a b xs ys,x=.ref a∧y=.ref b∧SqT K H a xs∧SqT K H b ys∧xs≠[]∧xs.length+ys.length≤sizeLine∧
 (ys=[]→Q (.ref a) H)∧(ys≠[]→∀ p,H p=none→Q (.ref p) (upd H p (.tup (xs++ys))))
theorem Vals.nil_iff {xs:List V} {us:List Value} (r:Vals xs us):us=[]↔xs=[]:=by
 cases r with
 | nil=>simp
 | cons _ _=>simp
theorem jd5:OpR X (binaryOp .Add) (jf3 X.K):=by
 intro pins s σ H x y v u Q I rx ry h
 obtain ⟨a,b,xs,ys,rfl,rfl,ha,hb,hx,hz,q1,q2⟩:=h
 cases rx
 cases ry
 obtain ⟨its,r1,p1,_⟩:=I.tuple ha
 obtain ⟨its2,r2,p2,_⟩:=I.tuple hb
 refine HT.cat_tup p1 p2 (fun z=>hx (r1.nil_iff.mp z)) (fun z=>⟨.ref a,H,I,rfl,q1 (r2.nil_iff.mp z)⟩) (fun z=>?_) (by rw [← r1.length,← r2.length];exact hz)
 refine ⟨.ref s.heap.objs.size,_,I.laid (t':=s.toks) (o:=.tup (xs++ys)) (fun b ob q=>Heap.get?_push_of_some _ q) (Nat.le_refl _) ?_,rfl,q2 (fun w=>z (r2.nil_iff.mpr w)) _ (I.hok.fresh (Nat.le_refl _))⟩
 exact ⟨by rw [List.length_append];exact hz,_,r1.append r2,IsTup.new _ _⟩
end
def ixN (n:Nat) (i:Int):Option Nat:=if 0≤i then (if i < n then some i.toNat else none) else if -(n:Int)≤i then some (i+n).toNat else none
def atI {α:Type} (xs:List α) (i:Int):Option α:=(ixN xs.length i).bind fun j=>xs[j]?
theorem jem {n:Nat} {i:Int} {j:Nat} (h:ixN n i=some j):seqIndex? i n=some j∧j < n∧-(n:Int)≤i∧i < n:=by
 unfold ixN at h
 by_cases h0:0≤i
 ·rw [if_pos h0] at h
  by_cases h1:i < n
  ·rw [if_pos h1] at h
   have e:i.toNat=j:=Option.some.inj h
   exact ⟨by rw [seqIndex_of h0 h1,e],by omega,by omega,h1⟩
  ·rw [if_neg h1] at h;cases h
 ·rw [if_neg h0] at h
  by_cases h1:-(n:Int)≤i
  ·rw [if_pos h1] at h
   have e:(i+n).toNat=j:=Option.some.inj h
   exact ⟨by rw [seqIndex_neg (by omega) h1,e],by omega,h1,by omega⟩
  ·rw [if_neg h1] at h;cases h
theorem jaU {α:Type} {xs:List α} {i:Int} {v:α} (h:atI xs i=some v):∃ j,seqIndex? i xs.length=some j∧xs[j]?=some v∧j < xs.length∧-(xs.length:Int)≤i∧i < xs.length:=by
 unfold atI at h
 cases e:ixN xs.length i with
 | none=>rw [e] at h;cases h
 | some j=>
  rw [e] at h
  obtain ⟨h1,h2,h3,h4⟩:=jem e
  exact ⟨j,h1,h,h2,h3,h4⟩
theorem yY {α:Type} {xs:List α} {j:Nat} {v:α} (h:xs[j]?=some v):atI xs (j:Int)=some v:=by
 have hj:j < xs.length:=(List.getElem?_eq_some_iff.mp h).1
 have e:ixN xs.length (j:Int)=some j:=by
  unfold ixN
  rw [if_pos (by omega),if_pos (by omega)];simp
 unfold atI;rw [e];exact h
theorem jdn {α:Type} (xs:List α) (v:α):atI (xs++[v]) (-1)=some v:=by
 have hl:(xs++[v]).length=xs.length+1:=by simp
 have e:ixN (xs++[v]).length (-1)=some xs.length:=by
  unfold ixN
  rw [hl,if_neg (by decide),if_pos (by omega)]
  congr 1
  omega
 unfold atI
 rw [e]
 show (xs++[v])[xs.length]?=some v
 simp
def jaV (b:Expr):Prop:=∀ o i,subscripted b false o i=operate [o,i] (getItem o i)
def IxR (X:Cx) (r:R2):Prop:=
 ∀ (value slice:Expr) (pins:List (Addr×Obj)) (s:Shared) (σ:St) (H:Hp) (x y:V) (v u:Value) (Q:VK),Inv X pins σ H s→RelV x v→RelV y u→r x y H Q→
  subscripted slice false v u=operate [v,u] (getItem v u)→wpAny (model X.prog X.w) X.A (subscriptTail value slice v u) (EP X pins σ Q) X.xe s
def MtR (X:Cx) (id:String) (r:V→List V→Hp→VK→Prop):Prop:=
 ∀ (pins:List (Addr×Obj)) (s:Shared) (σ:St) (H:Hp) (x:V) (xs:List V) (v:Value) (us:List Value) (Q:VK),Inv X pins σ H s→RelV x v→Vals xs us→r x xs H Q→
  wpAny (model X.prog X.w) X.A (call (.builtin id) (v :: us)) (EP X pins σ Q) X.xe s
section
variable {X:Cx} {a b:Expr} {ta tb:TE} {pos:Pos}
theorem jf8 {r:R2} (hr:IxR X r) (ha:PE X a ta) (hb:PE X b tb) (hs:jaV b):PE X (.Subscript a b pos) (tOp r ta tb):=by
 intro pins s σ H Q I h
 exact Subscript_ (jfG ha hb I h fun v u s2 x y H2 I2 rx ry q=>hr a b pins s2 σ H2 x y v u Q I2 rx ry q (hs _ _))
def jgv (K:PySem.W.Frag):R2:=fun x y H Q=>∃ p xs i v,x=.ref p∧y=.int i∧SqL K H p xs∧atI xs i=some v∧Q v H
def jf2 (K:PySem.W.Frag):R2:=fun x y H Q=>∃ p xs i v,x=.ref p∧y=.int i∧SqT K H p xs∧atI xs i=some v∧Q v H
theorem q8:IxR X (jgv X.K):=by
 intro value slice pins s σ H x y v u Q I rx ry h hs
 obtain ⟨p,xs,i,z,rfl,rfl,hq,he,q⟩:=h
 cases rx
 obtain ⟨t,rfl⟩:=ry
 obtain ⟨its,r,pl,hz⟩:=I.list hq
 obtain ⟨j,h1,h2,h3,h4,h5⟩:=jaU he
 obtain ⟨w,ew,rw'⟩:=r.get h2
 have hl:=r.length
 have hn:=Z4
 have fin:EP X pins σ Q w s:=⟨z,H,I,rw',q⟩
 by_cases h0:0≤i
 ·have hj:i.toNat=j:=by
   rw [seqIndex_of h0 h5] at h1
   exact Option.some.inj h1
  exact item_listR pl.isList h0 (by omega) (by rw [hj];simpa using ew) fin hs
 ·have hj:(i+(its.toArray.size:Int)).toNat=j:=by
   rw [seqIndex_neg (by omega) h4] at h1
   rw [List.size_toArray,← hl]
   exact Option.some.inj h1
  exact subscriptTail_builtinR (x:=w) pl.isList.typeIs slot_list_getitem.lookup
   (wpAny_getItem_list_neg (Q:=fun r s'=>r=w∧EP X pins σ Q r s') pl.isList (by omega) (by rw [List.size_toArray] <;> omega) (by omega) (by rw [hj];simpa using ew) ⟨rfl,fin⟩) hs
theorem jF:IxR X (jf2 X.K):=by
 intro value slice pins s σ H x y v u Q I rx ry h hs
 obtain ⟨p,xs,i,z,rfl,rfl,hq,he,q⟩:=h
 cases rx
 obtain ⟨t,rfl⟩:=ry
 obtain ⟨its,r,pl,hz⟩:=I.tuple hq
 obtain ⟨j,h1,h2,h3,h4,h5⟩:=jaU he
 obtain ⟨w,ew,rw'⟩:=r.get h2
 have hl:=r.length
 have hn:=Z4
 have fin:EP X pins σ Q w s:=⟨z,H,I,rw',q⟩
 exact subscriptTail_builtinR (x:=w) pl.typeIs slot_tuple_getitem.lookup
  (getItem_tuple (j:=j) (Q:=fun r s'=>r=w∧EP X pins σ Q r s') pl (by omega) (by omega) (by rw [List.size_toArray,← hl];exact h1) (by simpa using ew) ⟨rfl,fin⟩) hs
theorem Inv.lst {pins:List (Addr×Obj)} {σ:St} {H:Hp} {s:Shared} {p:Addr} {xs:List V} (I:Inv X pins σ H s) (h:H p=some (.lst xs)) :
  ∃ (its:List Value) (n:Nat),Vals xs its∧s.heap.get? p=some { cls:=.type "list",data:=.seq its.toArray n }∧xs.length≤sizeLine:=by
 obtain ⟨z,its,n,r,e⟩:=I.hok p _ h
 exact ⟨its,n,r,e,z⟩
theorem Yn (lo hi:Option Int) (n:Nat):(sliceBounds lo hi none n).1=((HT.sIx n 0 lo:Nat):Int)∧(sliceBounds lo hi none n).2.1=((HT.sIx n n hi:Nat):Int)∧(sliceBounds lo hi none n).2.2=1:=by
 refine ⟨?_,?_,rfl⟩
 ·cases lo with
  | none=>simp [sliceBounds,HT.sIx]
  | some i=>
   simp only [sliceBounds,HT.sIx,Option.getD_none,show (1:Int) > 0 by decide,if_true]
   by_cases h:i < 0
   ·simp only [h,if_true] <;> omega
   ·simp only [h,if_false] <;> omega
 ·cases hi with
  | none=>simp [sliceBounds,HT.sIx]
  | some i=>
   simp only [sliceBounds,HT.sIx,Option.getD_none,show (1:Int) > 0 by decide,if_true]
   by_cases h:i < 0
   ·simp only [h,if_true] <;> omega
   ·simp only [h,if_false] <;> omega
theorem Kq (its:List Value) (lo hi:Option Int):slicePick its.toArray lo hi none=((its.drop (HT.sIx its.length 0 lo)).take (HT.sIx its.length its.length hi - HT.sIx its.length 0 lo)).toArray:=by
 obtain ⟨h1,h2,h3⟩:=Yn lo hi its.toArray.size
 unfold slicePick
 rw [h1,h2,h3]
 simp only [sliceRange_one,pick_run,List.size_toArray] <;> rfl
def jgu (K:PySem.W.Frag):V→Option Int→Option Int→Hp→VK→Prop:=fun x lo hi H Q=>∃ a xs,x=.ref a∧SqL K H a xs∧∀ p,H p=none→Q (.ref p) (upd H p (.lst (j8 xs lo hi)))
theorem yG:SlR X (jgu X.K):=by
 intro pins s σ H x v vl vu lo hi sl Q I rx hs pl pu h
 obtain ⟨a,xs,rfl,hx,q⟩:=h
 cases rx
 obtain ⟨its,r,ht,hz⟩:=I.list hx
 have hlen:=r.length
 refine ⟨"list",_,slot_list_getitem.lookup,ht.isList.typeIs,?_⟩
 refine wpAny_getItem_list_slice ht.isList hs pl pu .none (by simp) ?_ (by rw [List.size_toArray] <;> omega)
 rw [Kq,← hlen]
 refine ⟨.ref s.heap.objs.size,_,I.laid (t':=s.toks) (o:=.lst (j8 xs lo hi)) (fun b ob q=>Heap.get?_push_of_some _ q) (Nat.le_refl _) ?_,rfl,q _ (I.hok.fresh (Nat.le_refl _))⟩
 exact ⟨Nat.le_trans (JB xs lo hi) hz,_,0,(r.drop (HT.sIx xs.length 0 lo)).take (HT.sIx xs.length xs.length hi - HT.sIx xs.length 0 lo),Heap.get?_push_size _ rfl⟩
def yQ:V→Bool
 | .non=>true
 | .bl _=>true
 | .int _=>true
 | .str _=>true
 | _=>false
def eqV:V→V→Bool
 | .non,.non=>true
 | .bl a,.bl b=>a == b
 | .bl a,.int b=>(if a then 1 else 0) == b
 | .int a,.bl b=>a == (if b then 1 else 0)
 | .int a,.int b=>a == b
 | .str a,.str b=>a == b
 | _,_=>false
theorem jfD {A:Around} {s:Shared} {y x:V} {u v:Value} (ry:RelV y u) (rx:RelV x v) (fy:yQ y=true) (fx:yQ x=true):SeqAt.EqAt A s u v (eqV y x):=by
 cases y with
 | non=>
  cases ry
  cases x with
  | non=>cases rx;exact SeqAt.EqAt.same _
  | bl b=>cases rx;exact SeqAt.EqAt.none_bool b
  | int b=>obtain ⟨t,rfl⟩:=rx;exact SeqAt.EqAt.none_int b t
  | str b=>obtain ⟨t,rfl⟩:=rx;exact SeqAt.EqAt.none_str b t
  | _=>exact absurd (show false=true from fx) Bool.false_ne_true
 | bl a=>
  cases ry
  cases x with
  | non=>cases rx;exact SeqAt.EqAt.bool_none a
  | bl b=>cases rx;exact SeqAt.EqAt.bool_bool a b
  | int b=>obtain ⟨t,rfl⟩:=rx;exact SeqAt.EqAt.bool_int a b t
  | str b=>obtain ⟨t,rfl⟩:=rx;exact SeqAt.EqAt.bool_str a b t
  | _=>exact absurd (show false=true from fx) Bool.false_ne_true
 | int a=>
  obtain ⟨t',rfl⟩:=ry
  cases x with
  | non=>cases rx;exact SeqAt.EqAt.int_none a t'
  | bl b=>cases rx;exact SeqAt.EqAt.int_bool a t' b
  | int b=>obtain ⟨t,rfl⟩:=rx;exact SeqAt.EqAt.int_int a t' b t
  | str b=>obtain ⟨t,rfl⟩:=rx;exact SeqAt.EqAt.int_str a t' b t
  | _=>exact absurd (show false=true from fx) Bool.false_ne_true
 | str a=>
  obtain ⟨t',rfl⟩:=ry
  cases x with
  | non=>cases rx;exact SeqAt.EqAt.str_none a t'
  | bl b=>cases rx;exact SeqAt.EqAt.str_bool a t' b
  | int b=>obtain ⟨t,rfl⟩:=rx;exact SeqAt.EqAt.str_int a t' b t
  | str b=>obtain ⟨t,rfl⟩:=rx;exact SeqAt.EqAt.str_str a t' b t
  | _=>exact absurd (show false=true from fx) Bool.false_ne_true
 | _=>exact absurd (show false=true from fy) Bool.false_ne_true
def eqU (x:V) (u:Value):Bool:=match u with
 | .none=>eqV .non x
 | .bool b=>eqV (.bl b) x
 | .int i _=>eqV (.int i) x
 | .str z _=>eqV (.str z) x
 | _=>false
theorem jdc {x y:V} {u:Value} (r:RelV y u) (f:yQ y=true):eqU x u=eqV y x:=by
 cases y with
 | non=>cases r;rfl
 | bl b=>cases r;rfl
 | int i=>obtain ⟨t,rfl⟩:=r;rfl
 | str z=>obtain ⟨t,rfl⟩:=r;rfl
 | _=>exact absurd (show false=true from f) Bool.false_ne_true
theorem YQ {x:V}:∀ {xs:List V} {us:List Value},Vals xs us→xs.all yQ=true→us.any (eqU x)=xs.any fun y=>eqV y x
 | _,_,.nil,_=>rfl
 | y :: xs,u :: us,.cons r t,f=>by
  rw [List.all_cons,Bool.and_eq_true] at f
  rw [List.any_cons,List.any_cons,jdc r f.1,YQ t f.2]
theorem J7 {A:Around} {s:Shared} {x:V} {v:Value} (rx:RelV x v) (fx:yQ x=true):∀ {xs:List V} {us:List Value},Vals xs us→xs.all yQ=true→∀ u∈us,SeqAt.EqAt A s u v (eqU x u)
 | _,_,.nil,_=>fun u hu=>by cases hu
 | y :: xs,u :: us,.cons r t,f=>fun u' hu=>by
  rw [List.all_cons,Bool.and_eq_true] at f
  rcases List.mem_cons.mp hu with rfl | hu
  ·rw [jdc r f.1];exact jfD r rx f.1 fx
  ·exact J7 rx fx t f.2 u' hu
def inV (x:V) (xs:List V):Bool:=xs.any fun y=>eqV y x
def rIn (K:PySem.W.Frag) (neg:Bool):R2:=fun x y H Q=>∃ p xs,y=.ref p∧(SqL K H p xs∨SqT K H p xs)∧yQ x=true∧xs.all yQ=true∧Q (.bl (if neg then !inV x xs else inV x xs)) H
theorem Yt:OpR X (compareOp .NotIn) (rIn X.K true):=by
 intro pins s σ H x y v u Q I rx ry h
 obtain ⟨p,xs,rfl,hq,fx,fs,q⟩:=h
 cases ry
 rcases hq with hq | hq
 ·obtain ⟨its,r,pl,hz⟩:=I.list hq
  refine SeqAt.notIn_listAt (eqU x) pl.isList (fun w hw=>J7 rx fx r fs w (by simpa using hw)) ⟨.bl _,H,I,rfl,?_⟩
  rw [show its.toArray.any (eqU x)=its.any (eqU x) by simp,YQ r fs]
  exact q
 ·obtain ⟨its,r,pl,hz⟩:=I.tuple hq
  refine SeqAt.notIn_tupleAt (eqU x) pl (fun w hw=>J7 rx fx r fs w (by simpa using hw)) ⟨.bl _,H,I,rfl,?_⟩
  rw [show its.toArray.any (eqU x)=its.any (eqU x) by simp,YQ r fs]
  exact q
theorem jZ:qo X (.builtin "len") (fun xs H Q=>∃ p ys,xs=[.ref p]∧(SqL X.K H p ys∨SqT X.K H p ys)∧Q (.int ys.length) H):=by
 intro pins s σ H xs us Q I r h
 obtain ⟨p,ys,rfl,hq,q⟩:=h
 obtain ⟨u,rfl,rx⟩:=yk r
 cases rx
 have hn:=Z4
 rcases hq with hq | hq
 ·obtain ⟨its,r',pl,hz⟩:=I.list hq
  have hlen:=r'.length
  exact Calls.call_len_list pl.isList (by simp only [List.size_toArray] <;> omega) ⟨.int ys.length,H,I.tok _,⟨s.toks+1,by rw [List.size_toArray,hlen]⟩,q⟩
 ·obtain ⟨its,r',pl,hz⟩:=I.tuple hq
  have hlen:=r'.length
  exact len_tuple pl (by simp only [List.size_toArray] <;> omega) ⟨.int ys.length,H,I.tok _,⟨s.toks+1,by rw [List.size_toArray,hlen]⟩,q⟩
theorem zD:qo X (.type "list") (fun xs H Q=>∃ p ys,xs=[.ref p]∧(SqL X.K H p ys∨SqT X.K H p ys)∧∀ l,H l=none→Q (.ref l) (upd H l (.lst ys))):=by
 intro pins s σ H xs us Q I r h
 obtain ⟨p,ys,rfl,hq,q⟩:=h
 obtain ⟨u,rfl,rx⟩:=yk r
 cases rx
 have fin:∀ (its:List Value),Vals ys its→ys.length≤sizeLine→∀ (h':Heap) (c':Nat),(∀ b o',s.heap.get? b=some o'→h'.get? b=some o')→
   h'.get? s.heap.objs.size=some { cls:=.type "list",dict:=none,data:=.seq its.toArray c',slots:=#[] }→EP X pins σ Q (.ref s.heap.objs.size) { s with heap:=h' }:=fun its r' hz h' c' kp e=>
  ⟨.ref s.heap.objs.size,_,I.laid (t':=s.toks) kp (Nat.le_refl _) (show ObjOk X.prog X.w _ h' _ (.lst ys) from ⟨hz,its,c',r',e⟩),rfl,q _ (I.hok.fresh (Nat.le_refl _))⟩
 rcases hq with hq | hq
 ·obtain ⟨its,r',pl,hz⟩:=I.list hq
  have hlen:=r'.length
  obtain ⟨o,ho,hc,n,hd⟩:=pl.isList
  exact call_list_seq p (.inl rfl) ho hc hd (fun h' c' kp e=>fin its r' hz h' c' kp e) (by simp only [List.size_toArray] <;> omega)
 ·obtain ⟨its,r',pl,hz⟩:=I.tuple hq
  have hlen:=r'.length
  obtain ⟨o,ho,hc,n,hd⟩:=pl
  exact call_list_seq p (.inr rfl) ho hc hd (fun h' c' kp e=>fin its r' hz h' c' kp e) (by simp only [List.size_toArray] <;> omega)
theorem yn:qo X (.type "tuple") (fun xs H Q=>∃ p ys,xs=[.ref p]∧((SqL X.K H p ys∧∀ l,H l=none→Q (.ref l) (upd H l (.tup ys)))∨(SqT X.K H p ys∧Q (.ref p) H))):=by
 intro pins s σ H xs us Q I r h
 obtain ⟨p,ys,rfl,h⟩:=h
 obtain ⟨u,rfl,rx⟩:=yk r
 cases rx
 rcases h with ⟨hq,q⟩ | ⟨hq,q⟩
 ·obtain ⟨its,r',pl,hz⟩:=I.list hq
  have hlen:=r'.length
  refine call_tuple_list pl.isList (fun h' kp=>?_) (by simp only [List.size_toArray] <;> omega)
  have I1:Inv X pins σ H { s with heap:=h' }:=I.kept (t':=s.toks) kp
  have I2:Inv X pins σ (upd H h'.objs.size (.tup ys)) { s with heap:=h'.push { cls:=.type "tuple",data:=.seq its.toArray } }:=
   I1.laid (t':=s.toks) (fun b o e=>Heap.get?_push_of_some _ e) (Nat.le_refl _) (show ObjOk X.prog X.w _ _ _ (.tup ys) from ⟨hz,its,r',IsTup.new _ _⟩)
  exact ⟨.ref h'.objs.size,_,I2,rfl,q _ (I1.hok.fresh (Nat.le_refl _))⟩
 ·obtain ⟨its,r',pl,hz⟩:=I.tuple hq
  exact call_tuple_same pl ⟨.ref p,H,I,rfl,q⟩
def tyV (K:PySem.W.Frag) (T:String) (x:V) (H:Hp):Prop:=match x with
 | .str _=>T = "str"
 | .int _=>T = "int"
 | .ref p=>(T = "list"∧∃ xs,SqL K H p xs)∨(T = "tuple"∧∃ o,K.lookup p=some o∧o.cls=.type "tuple"∧o.dict=none)∨
   (T = "dict"∧((∃ kvs,H p=some (.dK kvs))∨∃ kvs,H p=some (.dT kvs)))∨(T = "set"∧∃ S n,H p=some (.set S n))
 | _=>False
theorem je0 {pins:List (Addr×Obj)} {σ:St} {H:Hp} {s:Shared} {T:String} {x:V} {v:Value} (I:Inv X pins σ H s) (r:RelV x v) (ty:tyV X.K T x H) :
  s.TypeIs v T∧∀ a,v=.ref a→∃ ob,s.heap.get? a=some ob∧ob.dict=none:=by
 cases x with
 | str z=>
  obtain ⟨t,rfl⟩:=r
  cases (show T = "str" from ty)
  exact ⟨typeIs_str s z t,fun _ e=>nomatch e⟩
 | int i=>
  obtain ⟨t,rfl⟩:=r
  cases (show T = "int" from ty)
  exact ⟨typeIs_int s i t,fun _ e=>nomatch e⟩
 | ref p=>
  cases r
  rcases ty with ⟨rfl,xs,hq⟩ | ⟨rfl,o,hk,hc,hd⟩ | ⟨rfl,hk⟩ | ⟨rfl,S,n,hk⟩
  ·obtain ⟨its,_,pl,_⟩:=I.list hq
   refine ⟨pl.isList.typeIs,fun a e=>?_⟩
   cases e
   obtain ⟨o,n,e,c,hd,_⟩:=pl
   exact ⟨o,e,hd⟩
  ·refine ⟨⟨o,I.kIn p o hk,hc⟩,fun a e=>?_⟩
   cases e
   exact ⟨o,I.kIn _ o hk,hd⟩
  ·have z:∃ o,s.heap.get? p=some o∧o.ExactDict:=by
    rcases hk with ⟨kvs,hk⟩ | ⟨kvs,hk⟩
    ·obtain ⟨_,_,_,_,o,_,_,e,ex,_⟩:=I.hok p _ hk
     exact ⟨o,e,ex⟩
    ·obtain ⟨_,_,_,_,o,_,_,e,ex,_⟩:=I.hok p _ hk
     exact ⟨o,e,ex⟩
   obtain ⟨o,e,ex⟩:=z
   refine ⟨⟨o,e,ex.1⟩,fun a e2=>?_⟩
   cases e2
   exact ⟨o,e,ex.2.1⟩
  ·obtain ⟨o,_,_,_,e,ex,_⟩:=I.hok p _ hk
   refine ⟨⟨o,e,ex.1⟩,fun a e2=>?_⟩
   cases e2
   exact ⟨o,e,ex.2.1⟩
 | _=>exact False.elim ty
def tBM (K:PySem.W.Frag) (T:String) (r:V→List V→Hp→VK→Prop) (to:TE) (t:TA):TE:=fun σ H Q=>to σ H fun x H1=>tyV K T x H1∧t σ H1 fun xs H2=>r x xs H2 Q
variable {o e:Expr} {es:List Expr} {to:TE} {t:TA} {name:Str} {apos cpos:Pos} {T id:String} {r:V→List V→Hp→VK→Prop}
theorem jgb (pa:PlainAttrs T) (slot:Slot T name id) (hty:typeOf (.builtin id)=pure (.type "method_descriptor")) (hm:MtR X id r) (ho:PE X o to) (ha:PA X (e :: es) t)
  (hbase:attributeBase o name X.env (eval o X.env)=eval o X.env:=by rfl)
  (hfew:((backTo cpos (starEach (e :: es) X.env)).all (fun x=>!x.1) && (backToKw cpos (keywordEach [] X.env)).all (fun x=>x.1.isSome)
   && decide ((e :: es).length+([]:List Keyword).length+(if ([]:List Keyword).isEmpty then 0 else 1) < 30))=true:=by rfl)
  (hline:(apos.endLine == cpos.line)=true:=by rfl) (hs:starEach (e :: es) X.env=(false,eval e X.env) :: starEach es X.env:=by rfl) (hplain:(backTo cpos (starEach es X.env)).any (·.1)=false:=by rfl) :
  PE X (.Call (.Attribute o name apos) (e :: es) [] cpos) (tBM X.K T r to t):=by
 intro pins s σ H Q I h
 refine wpAny_Call_method_late hbase hfew hline rfl (thn (ho pins s σ H _ I h) fun v s1 ⟨x,H1,I1,r1,ty,q1⟩=>?_)
 obtain ⟨h1,h2⟩:=je0 I1 r1 ty
 refine ⟨T,id,pa,slot,hty,h1,h2,?_⟩
 have hA:=ha cpos pins s1 σ H1 _ I1 q1
 rw [hs] at hA ⊢
 refine Calls.callWith_builtin (by show (false || (backTo cpos (starEach es X.env)).any (·.1))=false;rw [hplain] <;> rfl) (Calls.evalArgs_plain ?_)
 exact thn hA fun us s2 ⟨vs,H2,I2,r2,q2⟩=>hm pins s2 σ H2 x vs v us Q I2 r1 r2 q2
end
def MtM (X:Cx) (id:String) (r:V→List V→Hp→VK→Prop):Prop:=
 ∀ (pins:List (Addr×Obj)) (s:Shared) (σ:St) (H:Hp) (x:V) (xs:List V) (v:Value) (us:List Value) (Q:VK),Inv X pins σ H s→RelV x v→Vals xs us→r x xs H Q→
  wpAny (model X.prog X.w) X.A (call (.builtin id) (v :: us)) (EP X pins σ Q) X.xe s
theorem Vals.one:∀ {x:V} {us:List Value},Vals [x] us→∃ u,us=[u]∧RelV x u
 | _,_,.cons r .nil=>⟨_,rfl,r⟩
theorem Vals.zero:∀ {us:List Value},Vals [] us→us=[]
 | _,.nil=>rfl
theorem Vals.eraseIdx:∀ {xs:List V} {us:List Value} (i:Nat),Vals xs us→Vals (xs.eraseIdx i) (us.eraseIdx i)
 | _,_,_,.nil=>.nil
 | _,_,0,.cons _ t=>t
 | _,_,i+1,.cons r t=>.cons r (Vals.eraseIdx i t)
theorem Vals.reverse {xs:List V} {us:List Value} (h:Vals xs us):Vals xs.reverse us.reverse:=by
 induction h with
 | nil=>exact .nil
 | cons r t ih=>rw [List.reverse_cons,List.reverse_cons];exact Vals.append ih (.cons r .nil)
section
variable {X:Cx} {pins:List (Addr×Obj)} {σ:St} {H:Hp} {s:Shared} {l b:Addr} {xs ys zs:List V}
theorem Inv.lset {its its':List Value} {n:Nat} {f:Array Value→Array Value} {t':Nat} (I:Inv X pins σ H s) (hH:H l=some (.lst xs))
  (e:s.heap.get? l=some { cls:=.type "list",data:=.seq its.toArray n }) (hf:f its.toArray=its'.toArray) (hv:Vals ys its') (hz:ys.length≤sizeLine) :
  Inv X pins σ (upd H l (.lst ys)) { s with heap:=s.heap.update l (Obj.mapSeq f),toks:=t' }:=by
 have q:=PySem.IsL.update e f
 rw [hf] at q
 refine I.write (x:=l) (e:=l) (by rw [hH];exact trivial) (.inl rfl) (fun b' u hb hu=>(Heap.get?_update_other s.heap (Obj.mapSeq f) (Ne.symm hb)).trans hu) ⟨_,q⟩ ?_
 exact ⟨hz,its',_,hv,q⟩
theorem Inv.lnew {its:List Value} {t':Nat} (I:Inv X pins σ H s) (hv:Vals ys its) (hz:ys.length≤sizeLine) :
  Inv X pins σ (upd H s.heap.objs.size (.lst ys)) { s with heap:=s.heap.push { cls:=.type "list",data:=.seq its.toArray },toks:=t' }:=
 I.laid (fun _ _ q=>Heap.get?_push_of_some _ q) (Nat.le_refl _) ⟨hz,its,0,hv,Heap.get?_push_size _ rfl⟩
theorem Inv.fresh (I:Inv X pins σ H s):H s.heap.objs.size=none:=I.hok.fresh (Nat.le_refl _)
theorem Inv.lstM (I:Inv X pins σ H s) (hH:H l=some (.lst xs)):xs.length≤sizeLine∧∃ (its:List Value) (n:Nat),Vals xs its∧xs.length=its.length∧s.heap.get? l=some { cls:=.type "list",data:=.seq its.toArray n }:=by
 obtain ⟨z,its,n,r,e⟩:=I.hok l _ hH
 exact ⟨z,its,n,r,r.length,e⟩
theorem jcS {n:Nat} (h:n≤sizeLine):Builtin.List.listTooLong n=false:=by
 unfold Builtin.List.listTooLong
 exact decide_eq_false (by omega)
end
section
variable {X:Cx}
def jdG:V→List V→Hp→VK→Prop:=fun x vs H Q=>∃ l xs y,x=.ref l∧vs=[y]∧H l=some (.lst xs)∧xs.length < sizeLine∧Q .non (upd H l (.lst (xs++[y])))
theorem kO:MtM X "list.append" jdG:=by
 intro pins s σ H x vs v us Q I rx rv h
 obtain ⟨l,xs,y,rfl,rfl,hH,hz,q⟩:=h
 cases rx
 obtain ⟨u,rfl,ru⟩:=rv.one
 obtain ⟨z,its,n,r,hl,e⟩:=I.lstM hH
 refine call_meets F.slot_list_append ⟨_,e,rfl⟩ F.entry_list_append (F.args_list_append_2 _ _) (PySem.list_append l its.toArray n u (by rw [List.size_toArray];omega)) ⟨e,?_⟩
 refine ⟨.non,_,I.lset (its':=its++[u]) hH e (by simp) (r.append (.cons ru .nil)) ?_,rfl,q⟩
 rw [List.length_append,List.length_singleton]
 omega
def jdF:V→List V→Hp→VK→Prop:=fun x vs H Q=>∃ l b xs zs,x=.ref l∧vs=[.ref b]∧H l=some (.lst xs)∧H b=some (.lst zs)∧xs.length+zs.length≤sizeLine∧Q .non (upd H l (.lst (xs++zs)))
theorem zj:MtM X "list.extend" jdF:=by
 intro pins s σ H x vs v us Q I rx rv h
 obtain ⟨l,b,xs,zs,rfl,rfl,hH,hB,hz,q⟩:=h
 cases rx
 obtain ⟨u,rfl,ru⟩:=rv.one
 cases ru
 obtain ⟨z,its,n,r,hl,e⟩:=I.lstM hH
 obtain ⟨z2,its2,n2,r2,hl2,e2⟩:=I.lstM hB
 have hsz:its.toArray.size+its2.toArray.size≤sizeLine:=by rw [List.size_toArray,List.size_toArray];omega
 have hlong:¬ (!its.toArray.isEmpty && Builtin.List.listTooLong (its.toArray.size+its2.toArray.size))=true:=by
  rw [jcS hsz,Bool.and_false]
  exact Bool.false_ne_true
 refine call_meets F.slot_list_extend ⟨_,e,rfl⟩ F.entry_list_extend (F.args_list_extend_2 _ _)
  (AutoSeq1.list_extend_list_list_0 l its.toArray n b its2.toArray n2 hlong (by rw [List.size_toArray];omega) (by omega)) ⟨e,e2,?_⟩
 refine ⟨.non,_,I.lset (its':=its++its2) hH e (by simp) (r.append r2) ?_,rfl,q⟩
 rw [List.length_append]
 omega
def jgw:R2:=fun x y H Q=>∃ l b xs zs,x=.ref l∧y=.ref b∧H l=some (.lst xs)∧H b=some (.lst zs)∧xs.length+zs.length≤sizeLine∧∀ p,H p=none→Q (.ref p) (upd H p (.lst (xs++zs)))
theorem qO:OpR X (binaryOp .Add) jgw:=by
 intro pins s σ H x y v u Q I rx ry h
 obtain ⟨l,b,xs,zs,rfl,rfl,hH,hB,hz,q⟩:=h
 cases rx
 cases ry
 obtain ⟨z,its,n,r,hl,e⟩:=I.lstM hH
 obtain ⟨z2,its2,n2,r2,hl2,e2⟩:=I.lstM hB
 refine PySem.P.add_list e e2 ?_ (by rw [List.size_toArray,List.size_toArray];omega)
 have ea:its.toArray++its2.toArray=(its++its2).toArray:=by simp
 rw [ea]
 exact ⟨.ref _,_,I.lnew (t':=s.toks) (r.append r2) (by rw [List.length_append];omega),rfl,q _ I.fresh⟩
end
section
variable {κ:Type} [DecidableEq κ]
def qr (kvs:List (κ×V)) (k:κ):Option V:=(kvs.find? fun kv=>decide (kv.1=k)).map (·.2)
def qa (kvs:List (κ×V)) (k:κ) (v:V):List (κ×V):=
 if (kvs.any fun kv=>decide (kv.1=k))=true then kvs.map (fun kv=>if kv.1=k then (kv.1,v) else kv) else kvs++[(k,v)]
theorem kK {p:κ×V} {r:List (κ×V)} {k:κ} (e:p.1=k):qr (p :: r) k=some p.2:=by simp [qr,List.find?_cons,e]
theorem kL {p:κ×V} {r:List (κ×V)} {k:κ} (e:¬ p.1=k):qr (p :: r) k=qr r k:=by simp [qr,List.find?_cons,e]
theorem yC (k:κ):∀ kvs:List (κ×V),(kvs.any fun kv=>decide (kv.1=k))=(qr kvs k).isSome
 | []=>rfl
 | p :: r=>by
  rw [List.any_cons]
  by_cases e:p.1=k
  ·simp only [kK e,decide_eq_true e,Bool.true_or,Option.isSome_some]
  ·rw [kL e,decide_eq_false e,Bool.false_or];exact yC k r
theorem Y3 (k j:κ) (y:V):∀ kvs:List (κ×V),qr (kvs.map fun kv=>if kv.1=k then (kv.1,y) else kv) j=(qr kvs j).map fun x=>if j=k then y else x
 | []=>rfl
 | p :: r=>by
  have ih:=Y3 k j y r
  rw [List.map_cons]
  by_cases h:p.1=k
  ·rw [if_pos h]
   by_cases e:p.1=j
   ·rw [kK (p:=(p.1,y)) e,kK e,Option.map_some,if_pos (e.symm.trans h)]
   ·rw [kL (p:=(p.1,y)) e,kL e,ih]
  ·rw [if_neg h]
   by_cases e:p.1=j
   ·rw [kK (p:=p) e,kK e,Option.map_some,if_neg (fun z=>h (e.trans z))]
   ·rw [kL (p:=p) e,kL e,ih]
theorem KD (k j:κ) (y:V):∀ kvs:List (κ×V),qr kvs k=none→qr (kvs++[(k,y)]) j=if j=k then some y else qr kvs j
 | [],_=>by
  by_cases e:k=j
  ·rw [if_pos e.symm];exact kK (p:=(k,y)) e
  ·rw [if_neg (fun z=>e z.symm)];exact kL (p:=(k,y)) e
 | p :: r,hn=>by
  rw [List.cons_append]
  have hk:¬ p.1=k:=fun z=>by rw [kK z] at hn;cases hn
  rw [kL hk] at hn
  have ih:=KD k j y r hn
  by_cases e:p.1=j
  ·rw [kK e,kK e,if_neg (fun z=>hk (e.trans z))]
  ·rw [kL e,kL e,ih]
theorem zH (kvs:List (κ×V)) (k j:κ) (y:V):qr (qa kvs k y) j=if j=k then some y else qr kvs j:=by
 unfold qa
 by_cases a:(kvs.any fun kv=>decide (kv.1=k))=true
 ·rw [if_pos a,Y3]
  rw [yC] at a
  by_cases e:j=k
  ·obtain ⟨x,hx⟩:=Option.isSome_iff_exists.mp a
   rw [if_pos e,e,hx,Option.map_some,if_pos rfl]
  ·rw [if_neg e]
   cases qr kvs j with
   | none=>rfl
   | some x=>rw [Option.map_some,if_neg e]
 ·rw [if_neg a]
  refine KD k j y kvs ?_
  rw [yC] at a
  cases q:qr kvs k with
  | none=>rfl
  | some x=>rw [q] at a;exact (a rfl).elim
theorem zQ (kvs:List (κ×V)) (k:κ) (v:V):(qa kvs k v).length≤kvs.length+1:=by
 unfold qa
 split
 ·rw [List.length_map];omega
 ·rw [List.length_append,List.length_cons,List.length_nil];omega
theorem RelO.isSome_eq {o:Option V} {u:Option Value} (r:RelO o u):o.isSome=u.isSome:=by
 cases o with
 | none=>cases u with
  | none=>rfl
  | some _=>exact (show False from r).elim
 | some _=>cases u with
  | none=>exact (show False from r).elim
  | some _=>rfl
theorem RelO.getD {o:Option V} {u:Option Value} {d:V} {d':Value} (r:RelO o u) (rd:RelV d d'):RelV (o.getD d) (u.getD d'):=by
 cases o with
 | none=>cases u with
  | none=>exact rd
  | some _=>exact (show False from r).elim
 | some _=>cases u with
  | none=>exact (show False from r).elim
  | some _=>exact r
theorem KV.val {kvs:List (κ×V)} {vs:List (κ×Value)} (r:KV kvs vs) (k:κ):RelO (qr kvs k) (valueAt vs k):=by
 unfold KV at r
 induction r with
 | nil=>exact True.intro
 | @cons p q ps qs h t ih=>
  obtain ⟨h1,h2⟩:=h
  by_cases e:p.1=k
  ·have e':q.1=k:=h1.symm.trans e
   have b:valueAt (q :: qs) k=some q.2:=by simp [valueAt,List.find?_cons,e']
   rw [kK e,b];exact h2
  ·have e':¬ q.1=k:=fun z=>e (h1.trans z)
   have b:valueAt (q :: qs) k=valueAt qs k:=by simp [valueAt,List.find?_cons,e']
   rw [kL e,b];exact ih
theorem KV.any {kvs:List (κ×V)} {vs:List (κ×Value)} (r:KV kvs vs) (k:κ):(kvs.any fun kv=>decide (kv.1=k))=vs.any fun kv=>decide (kv.1=k):=by
 unfold KV at r
 induction r with
 | nil=>rfl
 | cons h t ih=>rw [List.any_cons,List.any_cons,ih,h.1]
theorem KV.repl {kvs:List (κ×V)} {vs:List (κ×Value)} (r:KV kvs vs) (k:κ) {y:V} {u:Value} (ry:RelV y u) :
  KV (kvs.map fun kv=>if kv.1=k then (kv.1,y) else kv) (vs.map fun kv=>if kv.1=k then (kv.1,u) else kv):=by
 unfold KV at r ⊢
 induction r with
 | nil=>exact .nil
 | @cons p q ps qs h t ih=>
  rw [List.map_cons,List.map_cons]
  refine .cons ?_ ih
  obtain ⟨h1,h2⟩:=h
  by_cases e:p.1=k
  ·rw [if_pos e,if_pos (h1.symm.trans e)];exact ⟨h1,ry⟩
  ·rw [if_neg e,if_neg (fun z=>e (h1.trans z))];exact ⟨h1,h2⟩
theorem KV.put {kvs:List (κ×V)} {vs:List (κ×Value)} (r:KV kvs vs) (k:κ) {y:V} {u:Value} (ry:RelV y u):KV (qa kvs k y) (stored vs k u):=by
 unfold qa stored
 rw [r.any k]
 by_cases e:(vs.any fun kv=>decide (kv.1=k))=true
 ·rw [if_pos e,if_pos e];exact r.repl k ry
 ·rw [if_neg e,if_neg e];exact Paired.snoc r ⟨rfl,ry⟩
theorem KV.keys {kvs:List (κ×V)} {vs:List (κ×Value)} (r:KV kvs vs):kvs.map (·.1)=vs.map (·.1):=by
 unfold KV at r
 induction r with
 | nil=>rfl
 | cons h t ih=>rw [List.map_cons,List.map_cons,ih,h.1]
theorem KV.length {kvs:List (κ×V)} {vs:List (κ×Value)} (r:KV kvs vs):kvs.length=vs.length:=Paired.length r
end
theorem K0 {P:Program} {w:World} {k:Key} {u:Value} (r:RelV (kV k) u):(j9 P w).is k u=true:=by
 cases k with
 | inl i=>obtain ⟨t,e⟩:=(show ∃ t,u=Value.int i t from r);subst e;exact Zk P w i t
 | inr x=>obtain ⟨t,e⟩:=(show ∃ t,u=Value.str x t from r);subst e;exact Zj P w x t
theorem K1 {P:Program} {w:World}:∀ {ks:List Key} {us:List Value},Vals (ks.map kV) us→ItemsAre (j9 P w) ks us
 | [],_,r=>by rw [List.map_nil] at r;cases r;exact .nil
 | k :: ks,_,r=>by
  rw [List.map_cons] at r
  cases r with
  | cons h t=>exact .cons (K0 h) (K1 t)
abbrev KT (H:Hp):List (List Key×V)→List (List Key×Addr×Value)→Prop:=Paired fun p q=>p.1=q.1∧H q.2.1=some (.tup (p.1.map kV))∧RelV p.2 q.2.2
theorem KT.val {H:Hp} {kvs:List (List Key×V)} {xs:List (List Key×Addr×Value)} (r:KT H kvs xs) (k:List Key):RelO (qr kvs k) ((atKey xs k).map (·.2)):=by
 induction r with
 | nil=>exact True.intro
 | @cons p q ps qs h t ih=>
  obtain ⟨h1,_,h2⟩:=h
  by_cases e:p.1=k
  ·have e':q.1=k:=h1.symm.trans e
   have b:atKey (q :: qs) k=some q.2:=by simp [atKey,List.find?_cons,e']
   rw [kK e,b];exact h2
  ·have e':¬ q.1=k:=fun z=>e (h1.trans z)
   have b:atKey (q :: qs) k=atKey qs k:=by simp [atKey,List.find?_cons,e']
   rw [kL e,b];exact ih
theorem KT.repl {H:Hp} {kvs:List (List Key×V)} {xs:List (List Key×Addr×Value)} (r:KT H kvs xs) (k:List Key) {y:V} {u:Value} (ry:RelV y u) :
  KT H (kvs.map fun kv=>if kv.1=k then (kv.1,y) else kv) (xs.map (putAt k u)):=by
 induction r with
 | nil=>exact .nil
 | @cons p q ps qs h t ih=>
  rw [List.map_cons,List.map_cons]
  refine .cons ?_ ih
  obtain ⟨h1,h2,h3⟩:=h
  unfold putAt
  by_cases e:p.1=k
  ·rw [if_pos e,if_pos (h1.symm.trans e)];exact ⟨h1,h2,ry⟩
  ·rw [if_neg e,if_neg (fun z=>e (h1.trans z))];exact ⟨h1,h2,h3⟩
theorem KT.put {H:Hp} {kvs:List (List Key×V)} {xs:List (List Key×Addr×Value)} (r:KT H kvs xs) (k:List Key) {b:Addr} {y:V} {u:Value} (hb:H b=some (.tup (k.map kV))) (ry:RelV y u) :
  KT H (qa kvs k y) (storedH xs k b u):=by
 have e:(kvs.any fun kv=>decide (kv.1=k))=(atKey xs k).isSome:=by
  rw [yC,(r.val k).isSome_eq,Option.isSome_map]
 unfold qa storedH
 rw [e]
 by_cases q:(atKey xs k).isSome=true
 ·rw [if_pos q,if_pos q];exact r.repl k ry
 ·rw [if_neg q,if_neg q];exact Paired.snoc r ⟨rfl,hb,ry⟩
theorem KT.keeps {H H':Hp} {kvs:List (List Key×V)} {xs:List (List Key×Addr×Value)} (r:KT H kvs xs) (ht:∀ b ys,H b=some (.tup ys)→H' b=some (.tup ys)):KT H' kvs xs:=
 Paired.mapP r fun _ _ z=>⟨z.1,ht _ _ z.2.1,z.2.2⟩
section
variable {P:Program} {w:World} {H:Hp} {h:Heap} {a:Addr}
theorem jeJ {u:HO} (ok:HOk P w H h) (e:Rd H a u):ObjOk P w H h a u:=e.ok ok
theorem ZD {kvs:List (Key×V)} (ok:HOk P w H h) (e:Rd H a (.dK kvs)):kvs.length≤sizeLine∧(a == sysModules)=false∧∃ vs,KV kvs vs∧h.DictOf (j9 P w) a vs:=
 show ObjOk P w H h a (.dK kvs) from jeJ ok e
theorem jeV {kvs:List (Key×V)} (ok:HOk P w H h) (e:H a=some (.dK kvs)):kvs.length≤sizeLine∧(a == sysModules)=false∧∃ vs,KV kvs vs∧h.DictOf (j9 P w) a vs:=ZD ok (.inl e)
theorem YC {ks:List Key} (ok:HOk P w H h) (e:H a=some (.tup (ks.map kV))):(tupleKind (j9 P w)).is h ks a:=by
 obtain ⟨_,its,r,o,h1,h2,n,h3⟩:=(show ObjOk P w H h a (.tup (ks.map kV)) from ok a _ e)
 exact ⟨o,its.toArray,n,h1,h2,h3,by simpa using K1 r⟩
theorem ZB {kvs:List (List Key×V)} (ok:HOk P w H h) (e:Rd H a (.dT kvs)):kvs.length≤sizeLine∧(a == sysModules)=false∧
  ∃ xs,KT H kvs xs∧h.DictOfH (tupleKind (j9 P w)) a xs:=by
 obtain ⟨z,y,xs,r,o,es,ep,h1,h2,h3,h4,h5⟩:=(show ObjOk P w H h a (.dT kvs) from jeJ ok e)
 refine ⟨z,y,xs,r,o,es,ep,h1,h2,h3,h4,fun x hx=>?_,h5⟩
 have all:∀ {l:List (List Key×V)} {m:List (List Key×Addr×Value)},KT H l m→∀ x∈m,(tupleKind (j9 P w)).is h x.1 x.2.1:=by
  intro l m q
  induction q with
  | nil=>intro x hx;exact nomatch hx
  | @cons p q ps qs hq t ih=>
   intro x hx
   rcases List.mem_cons.mp hx with e | hx
   ·subst e
    exact YC ok (by rw [← hq.1];exact hq.2.1)
   ·exact ih x hx
 exact all r x hx
theorem jgp {kvs:List (List Key×V)} (ok:HOk P w H h) (e:H a=some (.dT kvs)):kvs.length≤sizeLine∧(a == sysModules)=false∧
  ∃ xs,KT H kvs xs∧h.DictOfH (tupleKind (j9 P w)) a xs:=ZB ok (.inl e)
end
def DGet (H:Hp) (a:Addr) (y:V) (r:Option V):Prop:=
 (∃ kvs k,Rd H a (.dK kvs)∧y=kV k∧r=qr kvs k)∨∃ kvs k b,Rd H a (.dT kvs)∧y=.ref b∧H b=some (.tup (k.map kV))∧r=qr kvs k
def DPut (H:Hp) (a:Addr) (y v:V) (H':Hp):Prop:=
 (∃ kvs k,H a=some (.dK kvs)∧y=kV k∧kvs.length < sizeLine∧H'=upd H a (.dK (qa kvs k v)))∨
 ∃ kvs k b,H a=some (.dT kvs)∧y=.ref b∧H b=some (.tup (k.map kV))∧kvs.length < sizeLine∧H'=upd H a (.dT (qa kvs k v))
theorem DGet.k {H:Hp} {a:Addr} {kvs:List (Key×V)} {k:Key} (e:H a=some (.dK kvs)):DGet H a (kV k) (qr kvs k):=.inl ⟨kvs,k,.inl e,rfl,rfl⟩
theorem DGet.t {H:Hp} {a b:Addr} {kvs:List (List Key×V)} {k:List Key} (e:H a=some (.dT kvs)) (eb:H b=some (.tup (k.map kV))):DGet H a (.ref b) (qr kvs k):=.inr ⟨kvs,k,b,.inl e,rfl,eb,rfl⟩
theorem DPut.k {H:Hp} {a:Addr} {kvs:List (Key×V)} {k:Key} {v:V} (e:H a=some (.dK kvs)) (hl:kvs.length < sizeLine):DPut H a (kV k) v (upd H a (.dK (qa kvs k v))):=.inl ⟨kvs,k,e,rfl,hl,rfl⟩
theorem DPut.t {H:Hp} {a b:Addr} {kvs:List (List Key×V)} {k:List Key} {v:V} (e:H a=some (.dT kvs)) (eb:H b=some (.tup (k.map kV))) (hl:kvs.length < sizeLine) :
  DPut H a (.ref b) v (upd H a (.dT (qa kvs k v))):=.inr ⟨kvs,k,b,e,rfl,eb,hl,rfl⟩
section
variable {X:Cx} {pins:List (Addr×Obj)} {σ:St} {H:Hp} {s:Shared} {a:Addr} {y v:V} {u r:Value} {o:Option V} {A:Around} {E:Value→Shared→Prop}
theorem Inv.big (I:Inv X pins σ H s):sysModules < s.heap.objs.size:=by
 have h:mainGlobals < s.heap.objs.size:=(I.mod.glob.keeps I.bk).lt
 exact Nat.lt_trans (by decide) h
theorem jbK {Q:Value→Shared→Prop} (hu:A.units+1 < cLine) (I:Inv X pins σ H s) (g:DGet H a y (some v)) (ry:RelV y u) (h:∀ w' s',Inv X pins σ H s'→RelV v w'→Q w' s') :
  wpAny (model X.prog X.w) A (getItem (.ref a) u) Q E s:=by
 rcases g with ⟨kvs,k,e,ey,l⟩ | ⟨kvs,k,b,e,ey,eb,l⟩
 ·subst ey
  obtain ⟨z,hd,vs,rel,dd⟩:=ZD I.hok e
  obtain ⟨w',hw,rw'⟩:=RelO.some_of (v:=v) (o:=valueAt vs k) (by rw [l];exact rel.val k)
  exact wpAny_getItem_of (K0 ry) dd.mapOf hw (h w' _ (I.tok _) rw')
 ·subst ey
  cases (show u=Value.ref b from ry)
  obtain ⟨z,hd,xs,rel,dd⟩:=ZB I.hok e
  obtain ⟨w',hw,rw'⟩:=RelO.some_of (v:=v) (o:=(atKey xs k).map (·.2)) (by rw [l];exact rel.val k)
  obtain ⟨p,hp,hp2⟩:=Option.map_eq_some_iff.mp hw
  refine wpAny_getItem_heap (tupleKind_room_in1 hu) (YC I.hok eb) dd hp ?_
  rw [hp2]
  exact h w' _ (I.tok _) rw'
theorem YK {h':Heap} {t':Nat} {ob:HO} (I:Inv X pins σ H s) (mu:Mut (H a)) (hs:Heap.SameBut a s.heap h') (he:∃ q,h'.get? a=some q) (new:ObjOk X.prog X.w (upd H a ob) h' a ob) :
  Inv X pins σ (upd H a ob) { s with heap:=h',toks:=t' }:=
 I.write (x:=a) (e:=a) mu (.inl rfl) (fun b q hb z=>(hs.2 b hb).trans z) he new
theorem jab {P:Program} {w:World} {H':Hp} {h':Heap} {kvs:List (Key×V)} {vs:List (Key×Value)} (z:kvs.length≤sizeLine) (hd:(a == sysModules)=false) (rel:KV kvs vs) (dd:h'.DictOf (j9 P w) a vs) :
  ObjOk P w H' h' a (.dK kvs):=⟨z,hd,vs,rel,dd⟩
theorem jbJ {H':Hp} {Q:Unit→Shared→Prop} (hu:A.units+1 < cLine) (I:Inv X pins σ H s) (g:DPut H a y v H') (ry:RelV y u) (rv:RelV v r) (h:∀ s',Inv X pins σ H' s'→Q () s') :
  wpAny (model X.prog X.w) A (setItem (.ref a) u r) Q E s:=by
 rcases g with ⟨kvs,k,e,ey,l,eH⟩ | ⟨kvs,k,b,e,ey,eb,l,eH⟩
 ·subst ey eH
  obtain ⟨z,hd,vs,rel,dd⟩:=jeV I.hok e
  have hz:vs.length≤sizeLine:=by rw [← rel.length];exact z
  have hl:(qa kvs k v).length≤sizeLine:=by have:=zQ kvs k v;omega
  refine wpAny_setItem_pairs (hsz:=hz) (K0 ry) dd fun h' dd' hs=>h _ ?_
  have he:∃ q,h'.get? a=some q:=let ⟨q,_,_,hq,_⟩:=dd';⟨q,hq⟩
  exact YK I (by rw [e];exact True.intro) hs he (jab hl hd (rel.put k rv) dd')
 ·subst ey eH
  cases (show u=Value.ref b from ry)
  obtain ⟨z,hd,xs,rel,dd⟩:=jgp I.hok e
  have hz:xs.length≤sizeLine:=by rw [← Paired.length rel];exact z
  have hl:(qa kvs k v).length≤sizeLine:=by have:=zQ kvs k v;omega
  refine wpAny_setItem_heap (hsz:=hz) (tupleKind_room_in1 hu) (YC I.hok eb) dd fun h' dd' hs=>h _ ?_
  obtain ⟨q,es,ep,hq,h2,h3,h4,_,h5⟩:=dd'
  refine YK I (by rw [e];exact True.intro) hs ⟨q,hq⟩ ⟨hl,hd,_,(rel.put k eb rv).keeps fun c ys ec=>?_,q,es,ep,hq,h2,h3,h4,h5⟩
  rw [jl (jeN ec e (fun z=>nomatch z))]
  exact ec
end
def jfI (i:Expr):Prop:=∀ ov iv,subscripted i false ov iv=operate [ov,iv] (getItem ov iv)
theorem jdB {prog:Program} {w:World} {A:Around} {E:Value→Shared→Prop} {s:Shared} {env:Env} {value slice:Expr} {pos:Pos} {T id:String} {Q:Value→Shared→Prop}
  (hl:typeLookup (.type T) "__getitem__" = pure (some (.builtin id))) (hs:jfI slice)
  (h:wpAny (model prog w) A (eval value env) (fun o s₁=>wpAny (model prog w) A (eval slice env) (fun i s₂=>s₂.TypeIs o T∧wpAny (model prog w) A (getItem o i) Q E s₂) E s₁) E s) :
  wpAny (model prog w) A (eval (.Subscript value slice pos) env) Q E s:=by
 refine Subscript_ (wpAny_mono h (fun o s₁ h₁=>wpAny_mono h₁ (fun i s₂ h₂=>?_) fun _ _ x=>x) fun _ _ x=>x)
 obtain ⟨hT,h₂⟩:=h₂
 unfold subscriptTail
 refine wpAny_bind ?_
 rw [getitemInPython_of_ne hT.not_modules]
 refine wpAny_bind (wpAny_specialOf hT hl ?_)
 have fin:wpAny (model prog w) A (subscripted slice false o i) (fun r s₃=>wpAny (model prog w) A (letTemporaryGo value o r >>= fun _=>pure r) Q E s₃) E s₂:=by
  rw [hs o i]
  exact wpAny_operating (wpAny_mono h₂ (fun r s₃ h₃=>wpAny_bind (wpAny_letTemporaryGo (wpAny_pure h₃))) fun _ _ x=>x)
 first
  | exact wpAny_pure (wpAny_bind fin)
  | exact wpAny_bind (wpAny_pure (wpAny_bind fin))
  | exact wpAny_bind fin
theorem ZE {X:Cx} {pins:List (Addr×Obj)} {σ:St} {H:Hp} {s:Shared} {a:Addr} {y:V} {o:Option V} (I:Inv X pins σ H s) (g:DGet H a y o):s.TypeIs (.ref a) "dict":=by
 rcases g with ⟨kvs,k,e,_,_⟩ | ⟨kvs,k,b,e,_,_,_⟩
 ·obtain ⟨_,_,vs,_,dd⟩:=ZD I.hok e
  exact dd.typeIs
 ·obtain ⟨_,_,xs,_,dd⟩:=ZB I.hok e
  exact dd.typeIs
def jeF (td ty:TE):TE:=fun σ H Q=>td σ H fun x H1=>ty σ H1 fun y H2=>∃ a v,x=.ref a∧DGet H2 a y (some v)∧Q v H2
def jeI (td ty tv:TE):TS:=fun D σ H=>tv σ H fun v H1=>td σ H1 fun x H2=>ty σ H2 fun y H3=>∃ a H4,x=.ref a∧DPut H3 a y v H4∧D.nx σ H4
section
variable {X:Cx} {o i e value:Expr} {pos pos' tpos:Pos} {td ty tv:TE}
theorem jd0 (hu:X.A.units+1 < cLine) (ho:PE X o td) (hi:PE X i ty) (hs:jfI i):PE X (.Subscript o i pos) (jeF td ty):=by
 intro pins s σ H Q I h
 refine jdB PySem.F.slot_dict_getitem.lookup hs (thn (ho pins s σ H _ I h) fun u s1 ⟨x,H1,I1,rx,q1⟩=>thn (hi pins s1 σ H1 _ I1 q1) fun iv s2 ⟨y,H2,I2,ry,a,v,ex,g,q2⟩=>?_)
 subst ex
 obtain rfl:u=Value.ref a:=rx
 exact ⟨ZE I2 g,jbK hu I2 g ry fun w' s3 I3 rw'=>⟨v,H2,I3,rw',q2⟩⟩
theorem jdQ (hu:X.A.units+1 < cLine) (ho:PE X o td) (hi:PE X i ty) (hv:PE X value tv) (hs:swapsWith value (some (.Subscript o i pos')) pos.line X.env=pure false) :
  PS X (.Assign [.Subscript o i pos'] value pos) (jeI td ty tv):=by
 intro pins s σ H D I h
 refine wpAny_Assign_Subscript (thn (hv pins s σ H _ I h) fun r s1 ⟨v,H1,I1,rv,q1⟩=>thn (ho pins s1 σ H1 _ I1 q1) fun u s2 ⟨x,H2,I2,rx,q2⟩=>thn (hi pins s2 σ H2 _ I2 q2) fun iv s3 ⟨y,H3,I3,ry,a,H4,ex,g,q3⟩=>?_) hs
 subst ex
 obtain rfl:u=Value.ref a:=rx
 exact jbJ hu I3 g ry rv fun s4 I4=>⟨σ,H4,I4,q3⟩
end
theorem jde {P:Program} {w:World} {H:Hp} (h:Heap) (hb:sysModules < h.objs.size):ObjOk P w H (h.push { cls:=.type "dict",data:=.dict #[] }) h.objs.size (.dK []):=
 ⟨Nat.zero_le _,beq_eq_false_iff_ne.mpr (Ne.symm (Nat.ne_of_lt hb)),[],.nil,Heap.DictOf.new h⟩
def jfv (kvs more:List (Key×V)):List (Key×V):=more.foldl (fun acc kv=>qa acc kv.1 kv.2) kvs
theorem KV.merge:∀ {more:List (Key×V)} {rs:List (Key×Value)} {kvs:List (Key×V)} {vs:List (Key×Value)},KV more rs→KV kvs vs→KV (jfv kvs more) (merged vs rs):=by
 intro more rs kvs vs r
 unfold KV at r
 induction r generalizing kvs vs with
 | nil=>intro q;exact q
 | @cons p q ps qs h t ih=>
  intro r0
  have e:KV (qa kvs p.1 p.2) (stored vs q.1 q.2):=by
   have:=r0.put p.1 h.2
   rw [← h.1];exact this
  exact ih e
structure M2 (X:Cx) (o:Expr) (m:Str) (apos:Pos) (e f:Expr) (cpos:Pos):Prop where
 base:attributeBase o m X.env (eval o X.env)=eval o X.env
 few:((backTo cpos (starEach [e,f] X.env)).all (fun x=>!x.1) && (backToKw cpos (keywordEach [] X.env)).all (fun x=>x.1.isSome)
  && decide (([e,f]:List Expr).length+([]:List Keyword).length+(if ([]:List Keyword).isEmpty then 0 else 1) < 30))=true
 line:(apos.endLine == cpos.line)=true
 trees:backTo cpos (starEach [e,f] X.env)=[(false,eval e X.env),(false,eval f X.env)]
def IsD (H:Hp) (a:Addr):Prop:=(∃ kvs,Rd H a (.dK kvs))∨∃ kvs,Rd H a (.dT kvs)
theorem jfC {X:Cx} {pins:List (Addr×Obj)} {σ:St} {H:Hp} {s:Shared} {a:Addr} (I:Inv X pins σ H s) (d:IsD H a) :
  s.TypeIs (.ref a) "dict"∧(∀ b,Value.ref a=.ref b→∃ ob,s.heap.get? b=some ob∧ob.dict=none)∧(a == sysModules)=false:=by
 rcases d with ⟨kvs,e⟩ | ⟨kvs,e⟩
 ·obtain ⟨_,hd,vs,_,dd⟩:=ZD I.hok e
  refine ⟨dd.typeIs,fun b q=>?_,hd⟩
  cases q
  obtain ⟨ob,_,_,h1,h2,_⟩:=dd
  exact ⟨ob,h1,h2.2.1⟩
 ·obtain ⟨_,hd,xs,_,dd⟩:=ZB I.hok e
  refine ⟨dd.typeIs,fun b q=>?_,hd⟩
  cases q
  obtain ⟨ob,_,_,h1,h2,_⟩:=dd
  exact ⟨ob,h1,h2.2.1⟩
section
variable {X:Cx} {pins:List (Addr×Obj)} {σ:St} {H:Hp} {s:Shared} {a:Addr} {y d:V} {u r:Value} {o:Option V} {A:Around} {E:Value→Shared→Prop}
theorem jfE {Q:Value→Shared→Prop} (hu:A.units+1 < cLine) (I:Inv X pins σ H s) (g:DGet H a y o) (ry:RelV y u) (rd:RelV d r) (h:∀ w' s',Inv X pins σ H s'→RelV (o.getD d) w'→Q w' s') :
  wpAny (model X.prog X.w) A (call (.builtin "dict.get") [.ref a,u,r]) Q E s:=by
 rcases g with ⟨kvs,k,e,ey,l⟩ | ⟨kvs,k,b,e,ey,eb,l⟩
 ·subst ey
  obtain ⟨z,hd,vs,rel,dd⟩:=ZD I.hok e
  refine call_meetsIn PySem.F.slot_dict_get dd.typeIs PySem.F.entry_dict_get (PySem.F.args_dict_get_3 _ _ _) (meets_dict_get_default (j9 X.prog X.w) a (K0 ry) hd r) ⟨_,dd.mapOf,h _ _ (I.tok _) ?_⟩
  rw [l]
  exact (rel.val k).getD rd
 ·subst ey
  cases (show u=Value.ref b from ry)
  obtain ⟨z,hd,xs,rel,dd⟩:=ZB I.hok e
  refine call_meetsIn PySem.F.slot_dict_get dd.typeIs PySem.F.entry_dict_get (PySem.F.args_dict_get_3 _ _ _) (meetsH_dict_get_default (tupleKind (j9 X.prog X.w)) a b hd r) ⟨tupleKind_room_in1 hu,k,xs,YC I.hok eb,dd,h _ _ (I.tok _) ?_⟩
  rw [l]
  exact (rel.val k).getD rd
end
def jb8 (td ty tx:TE):TE:=fun σ H Q=>td σ H fun x H1=>∃ a,x=.ref a∧IsD H1 a∧ty σ H1 fun y H2=>tx σ H2 fun z H3=>∃ o,DGet H3 a y o∧Q (o.getD z) H3
section
variable {X:Cx} {o e f:Expr} {apos cpos:Pos} {td ty tx:TE}
theorem jcC (hu:X.A.units+1 < cLine) (ho:PE X o td) (he:PE X e ty) (hf:PE X f tx) (m:M2 X o "get" apos e f cpos):PE X (.Call (.Attribute o "get" apos) [e,f] [] cpos) (jb8 td ty tx):=by
 intro pins s σ H Q I h
 refine wpAny_Call_method m.base m.few m.line PySem.F.plainAttrs_dict PySem.F.slot_dict_get PySem.F.type_dict_get (thn (ho pins s σ H _ I h) fun u s1 ⟨x,H1,I1,rx,a,ex,d,q1⟩=>?_)
 subst ex
 obtain rfl:u=Value.ref a:=rx
 obtain ⟨t1,t2,_⟩:=jfC I1 d
 refine ⟨t1,t2,?_⟩
 rw [m.trees]
 refine Calls.callWith_builtin rfl (Calls.evalArgs_plain (Calls.spliced_cons (thn (he pins s1 σ H1 _ I1 q1) fun iv s2 ⟨y,H2,I2,ry,q2⟩=>
  Calls.spliced_cons (thn (hf pins s2 σ H2 _ I2 q2) fun fv s3 ⟨z,H3,I3,rz,ov,g,q3⟩=>Calls.spliced_nil ?_))))
 exact jfE hu I3 g ry rz fun w' s4 I4 rw'=>⟨_,H3,I4,rw',q3⟩
end
end L2
namespace Att
open PySem PySem.W PySem.Calls PyProof.Rows
theorem JD {P:Params} {h:Heap}:∀ (ns:List Int) (vs:List Value),WellAll P h vs (ns.map WData.int)→IntsAre vs ns:=by
 intro ns
 induction ns with
 | nil=>
  intro vs w
  rw [List.map_nil] at w
  cases w
  exact .nil
 | cons n ns ih=>
  intro vs w
  rw [List.map_cons] at w
  cases w with
  | cons a b=>
   cases a
   exact .cons _ _ (ih _ b)
theorem jbd {l:OpenLaw} {n:Nat} (hn:l.most=some n) {P:Params} {h:Heap} {args:List WData} {vals:List Value}
  (hpre:l.row.toRowW.claim.pre args=true) (hwl:WellAll P h vals args) :
  ∃ a vs ns,vals=[Value.ref a]∧args=[WData.list (ns.map WData.int)]∧h.get? a=some { cls:=.type "list",data:=.seq vs.toArray }∧IntsAre vs ns∧ns.length≤n:=by
 have hsh:WShape.hasAll [] args [.list .int]=true:=(pre_splitW hpre).1
 have hc:l.pre.holds [] { args:=args }=true:=(pre_splitW hpre).2
 obtain ⟨d,r,rfl,h1,h2⟩:=hasAllW_cons hsh
 obtain rfl:=hasAllW_nil h2
 obtain ⟨xs,rfl,h3⟩:=hasW_list h1
 obtain ⟨ns,rfl⟩:=items_int h3
 have hlen:ns.length≤n:=by
  unfold OpenLaw.pre at hc
  have h4:(WTm.not (.lt (.lit (.int (n:Int))) (.len (.arg 0)))).holds [] { args:=[.list (ns.map .int)] }=true:=by
   have h4:=(holds_andW hc).1
   rw [hn] at h4
   exact h4
  have h5:=condW_of h4 (w_not (w_lt w_lit (w_len_list (w_arg rfl))))
  rw [List.length_map] at h5
  refine Nat.le_of_not_lt fun q=>?_
  have q':(n:Int) < ((ns.length:Nat):Int):=by omega
  first
   | (rw [decide_eq_true q'] at h5;exact absurd h5 (by decide))
   | (simp at h5;omega)
 cases hwl with
 | cons w1 w2=>
  cases w2
  cases w1 with
  | list ho hall=>exact ⟨_,_,ns,rfl,rfl,ho,JD ns _ hall,hlen⟩
theorem jbf (l:OpenLaw) (args:List WData):l.row.toRowW.claim.post args (.bool true) args=true:=
 postW_of (r:=l.row.toRowW) (X:=(true == true))
  (show WShape.has [] (.bool true) .bool=true by first | rfl | decide | simp [WShape.has,WShape.arms,WShape.armsAll])
  (show (WTm.eq .res (.lit (.bool true))).value [] { args:=args,res:=some (.bool true),after:=args }=some (.bool (true == true)) from w_eq_bool (w_res rfl) w_lit) rfl
theorem attach_call {l:OpenLaw} {n:Nat} {q:Program} {loose:List Str} {XP:(Str→Option Value)→Heap→Prop} {YP:World→Heap→Prop} {d:DefRec}
  (hn:l.most=some n) (hdf:d.params.defaults=[])
  (call:∀ (w:World) (s₀ s₁:Shared) (mg mb:Str→Option Value) (fa:Addr) (o:Obj) (pm cd doc:Value) (a:Addr) (vs:List Value) (ns:List Int),
   Ground q loose [] XP w s₀ mg mb s₁.heap→YP w s₁.heap→
   s₁.heap.get? fa=some o→o.data=.func (docDef d.name d.params d.body d.scope pm cd doc)→s₁.heap.CodeRec cd d.name→mg d.name=some (.ref fa)→
   s₁.heap.get? a=some { cls:=.type "list",data:=.seq vs.toArray }→IntsAre vs ns→ns.length≤n→s₁.gens=#[]→
   codeAny (model l.prog w) callerA (.call (.ref fa) ⟨[.ref a],[]⟩) (fun r s'=>r=.ok (.ret (.bool true))∧OldK s₁.heap s'.heap∧s'.os=s₁.os∧AllBare s'.gens) s₁) :
  WalkO q loose XP YP l.row.toRowW d [] (fun f vs=>PySem.call f vs):=by
 intro w s₀ s₁ mg mb G Y fa o pm cd doc dV kV ho hd hcd hD hmg hg args vals as hpre hlay hrd hwl hlo
 obtain rfl:dV=.none:=Dflts.none hD hdf
 obtain rfl:kV=.none:=Dflts.noKw hD
 obtain ⟨a,vs,ns,rfl,rfl,hobj,hints,hlen⟩:=jbd hn hpre hwl
 refine enter_call (codeAny_mono (call w s₀ s₁ mg mb fa o pm cd doc a vs ns G Y ho (fd_plain hd) hcd hmg hobj hints hlen hg) fun r s' hq=>?_)
 obtain ⟨rfl,h2,h3,h4⟩:=hq
 exact ⟨.inl ⟨.bool true,.bool true,[],rfl,fun _=>rfl,.bool true,jbf l _,fun _=>⟨List.Pairwise.nil,fun _ hm=>(nomatch hm)⟩⟩,h2,h3,h4⟩
end Att
namespace L2
open PySem PySem.Spec PyProof.Rows
theorem KC:∀ {vs:List Value} {ns:List Int},IntsAre vs ns→Vals (ns.map V.int) vs
 | _,_,.nil=>.nil
 | _,_,.cons n t h=>.cons ⟨t,rfl⟩ (KC h)
def jfH (H:Hp):Prop:=∀ b,H b=none∨∃ o xs,H b=some (.frz o (.lst xs))
theorem jc2 {P:Program} {w:World} {K:PySem.W.Frag} {mg mb:Str→Option Value} {CX:CXT} {k:Nat} {fa a:Addr} {fd:FuncData} {x:Str} {sp:Sp} {s₁:Shared} {vs:List Value} {ns:List Int}
  (KX:K.In s₁.heap) (hns:s₁.heap.Ns mainGlobals mg) (hb:s₁.heap.Ns builtinsNs mb) (hbb:∀ x:Str,x≠"__name__"→mb x=bootBuiltins x) (hlim:s₁.heap.NoLimit) (hg:s₁.gens=#[])
  (ha:s₁.heap.get? a=some { cls:=.type "list",data:=.seq vs.toArray }) (hi:IntsAre vs ns) (hl:ns.length≤sizeLine) (hr:Room k callerA)
  (F:∀ base:Heap,K.In base→base.Ns mainGlobals mg→FnOk P w K mg base CX k fa fd [x] sp) (hbind:∀ (s:Shared) (u:Value),BindsTo s fd ⟨[u],[]⟩ [(x,u)])
  (hsp:∀ H:Hp,jfH H→SqL K H a (ns.map V.int)→sp [.ref a] H (fun v _=>v=.bl true) fun _ _ _=>False)
  (hCX:∀ H e s',CX [] H s₁ (fun _ _ _=>False) e s'→False) :
  codeAny (model P w) callerA (.call (.ref fa) ⟨[.ref a],[]⟩) (fun r s'=>r=.ok (.ret (.bool true))∧OldK s₁.heap s'.heap∧s'.os=s₁.os∧AllBare s'.gens) s₁:=by
 have rv:=KC hi
 have lenV:=hi.length
 have core:∀ H:Hp,jfH H→SqL K H a (ns.map V.int)→HOk P w H s₁.heap→(∀ b,H b≠none→b=a)→(H a≠none→K.lookup a=none)→
   codeAny (model P w) callerA (.call (.ref fa) ⟨[.ref a],[]⟩) (fun r s'=>r=.ok (.ret (.bool true))∧OldK s₁.heap s'.heap∧s'.os=s₁.os∧AllBare s'.gens) s₁:=by
  intro H hO hS hok hA hK
  have base_of:∀ {b:Addr} {o:Obj},s₁.heap.get? b=some o→H b=none→(YH s₁.heap H).get? b=some o:=fun e n=>jc7 e n
  have noA:∀ {b:Addr} {o:Obj} {es:Array DictEntry} {ep:Nat},s₁.heap.get? b=some o→o.data=.dict es ep→H b=none:=fun {b o es ep} e d=>by
   cases q:H b with
   | none=>rfl
   | some u=>
    have e':b=a:=hA b (by rw [q];simp)
    subst e'
    rw [ha] at e;cases e
    have d':Data.seq vs.toArray _=Data.dict es ep:=d
    cases d'
  have nsK:∀ {b:Addr} {m:Str→Option Value},s₁.heap.Ns b m→(YH s₁.heap H).Ns b m:=fun {b m} ⟨o,es,ep,e,d,r⟩=>⟨o,es,ep,base_of e (noA e d),d,r⟩
  have hKb:K.In (YH s₁.heap H):=fun b o e=>base_of (KX b o e) (by
   cases q:H b with
   | none=>rfl
   | some u=>
    have e':b=a:=hA b (by rw [q];simp)
    subst e'
    rw [hK (by rw [q];simp)] at e;cases e)
  have hM:Mod K mg (YH s₁.heap H):=⟨hKb,nsK hns,⟨mb,nsK hb,hbb⟩,let ⟨mc,h1,h2⟩:=hlim;⟨mc,nsK h1,h2⟩⟩
  have e0:Env0 P w K mg (YH s₁.heap H) callerA [] s₁ H:=⟨rfl,hM,fun b o e=>jee e,Nat.le_of_eq (jbC _ _),trivial,fun b hb=>absurd (show b∈([]:List Addr) from hb) (by simp),hok,.of_eq hg⟩
  refine codeAny_mono ((F _ hKb (nsK hns)).run callerA [] s₁ H ⟨[.ref a],[]⟩ [.ref a] [.ref a] _ _ hr e0 (hbind s₁ (.ref a)) (.cons rfl .nil) (hsp H hO hS)) fun r s' h=>?_
  cases r with
  | error e=>exact (hCX H e s' h).elim
  | ok fl=>
   cases fl with
   | next=>exact False.elim h
   | brk=>exact False.elim h
   | cont=>exact False.elim h
   | ret u=>
    obtain ⟨v,H',os,bare,un,hok',r',q⟩:=h
    have q':v=.bl true:=q
    subst q'
    obtain rfl:u=Value.bool true:=r'
    refine ⟨rfl,OldK.of_keep fun b o e=>?_,os,bare⟩
    cases q:H b with
    | none=>exact un.keep b o e q (by intro z;exact absurd (show b∈([]:List Addr) from z) (by simp)) (by simp)
    | some u=>
     rcases hO b with z | ⟨ob,xs,z⟩
     ·rw [q] at z;cases z
     ·have z2:=un.frzs b ob _ z
      obtain ⟨e1,_⟩:=hok b _ z
      obtain ⟨e2,_⟩:=hok' b _ z2
      rw [e] at e1;cases e1
      exact e2
 cases hk:K.lookup a with
 | some o=>
  have e:=KX a o hk
  rw [ha] at e
  cases e
  refine core (fun _=>none) (fun _=>.inl rfl) (.inr ⟨_,vs.toArray,_,hk,rfl,rfl,rfl,by rw [List.size_toArray,lenV];exact hl,by simpa using rv⟩) (fun b u z=>by have z':(none:Option HO)=some u:=z;cases z') (fun b z=>absurd rfl z) fun z=>absurd rfl z
 | none=>
  refine core (fun b=>if b=a then some (.frz { cls:=.type "list",data:=.seq vs.toArray } (.lst (ns.map V.int))) else none) (fun b=>?_) (.inl (.inr ⟨{ cls:=.type "list",data:=.seq vs.toArray },if_pos rfl⟩)) (fun b u z=>?_) (fun b z=>?_) fun _=>hk
  ·by_cases hb:b=a
   ·exact .inr ⟨_,_,if_pos hb⟩
   ·exact .inl (if_neg hb)
  ·by_cases hb:b=a
   ·have z':=(if_pos hb).symm.trans z
    cases z'
    subst hb
    exact ⟨ha,by rw [List.length_map];exact hl,vs,_,rv,ha⟩
   ·have z':=(if_neg hb).symm.trans z
    cases z'
  ·by_cases hb:b=a
   ·exact hb
   ·exact absurd (if_neg hb) z
theorem walk_of {l:PySem.W.OpenLaw} {n k:Nat} {q:Program} {loose:List Str} {XP:(Str→Option Value)→Heap→Prop} {YP:World→Heap→Prop} {d:DefRec} {K:Params→PySem.W.Frag} {CX:World→CXT} {sp:World→Sp} {x:Str}
  (hn:l.most=some n) (hn2:n≤sizeLine) (hdf:d.params.defaults=[]) (hr:Room k callerA)
  (hY:∀ (w:World) (h:Heap),YP w h→(K w.params).In h)
  (F:∀ (w:World) (mg:Str→Option Value) (fa:Addr) (h:Heap),(K w.params).In h→h.Ns mainGlobals mg→mg d.name=some (.ref fa)→
   ∃ fd:FuncData,(∀ (s:Shared) (u:Value),BindsTo s fd ⟨[u],[]⟩ [(x,u)])∧
    ∀ base:Heap,(K w.params).In base→base.Ns mainGlobals mg→FnOk l.prog w (K w.params) mg base (CX w) k fa fd [x] (sp w))
  (hsp:∀ (w:World) (H:Hp) (a:Addr) (ns:List Int),ns.length≤n→jfH H→SqL (K w.params) H a (ns.map V.int)→sp w [.ref a] H (fun v _=>v=.bl true) fun _ _ _=>False)
  (hCX:∀ (w:World) (H:Hp) (s:Shared) (e:Value) (s':Shared),CX w [] H s (fun _ _ _=>False) e s'→False) :
  PySem.W.WalkO q loose XP YP l.row.toRowW d [] (fun f vs=>PySem.call f vs):=by
 refine Att.attach_call hn hdf fun w s₀ s₁ mg mb fa o pm cd doc a vs ns G Y ho hd hcd hmg hobj hints hlen hg=>?_
 have KX:=hY w _ Y
 obtain ⟨fd,hb,hF⟩:=F w mg fa _ KX G.T.g hmg
 exact jc2 KX G.T.g G.T.b G.T.builtins G.T.nolimit hg hobj hints (Nat.le_trans hlen hn2) hr hF hb (fun H hO hS=>hsp w H a ns hlen hO hS) fun H e s'=>hCX w H s₁ e s'
def jen (s:Stmt) (j:Nat):Stmt:=match s with
 | .ClassDef _ _ _ body _ _ _ _ _ _ _=>body.getD j (.Pass ⟨0,0,0,0⟩)
 | _=>.Pass ⟨0,0,0,0⟩
def yf (s:Stmt):Arguments:=match s with
 | .FunctionDef _ a _ _ _ _ _ _ _ _=>a
 | _=>{ posonlyargs:=[],args:=[],vararg:=none,kwonlyargs:=[],kw_defaults:=[],kwarg:=none,defaults:=[] }
def qH (s:Stmt):List Stmt:=match s with
 | .FunctionDef _ _ b _ _ _ _ _ _ _=>b
 | _=>[]
def jm (s:Stmt):Scope:=match s with
 | .FunctionDef _ _ _ _ _ _ sc _ _ _=>sc
 | _=>{ kind:=.function,names:=[],isGenerator:=false,isCoroutine:=false }
abbrev CX0:CXT:=fun _ _ _ _ _ _=>False
abbrev E0:XK:=fun _ _ _=>False
theorem jeL {X:Cx}:Jt CX0 X E0:=fun _ _ _ _ _ _ _ h=>h.elim
structure Fun (K:PySem.W.Frag) (x qual:Str) (st:Stmt) (f:Addr) (fd:FuncData):Prop where
 ex:∃ (oc:Value) (od:Option Addr) (kV doc pm:Value) (an:Option Addr) (cdv ct:Value) (osl:Array (Option Value)),
  fd=PySem.W.fnOf x qual (yf st) (qH st) (jm st) .none kV doc pm an cdv ct∧K.lookup f=some ⟨oc,od,.func fd,osl⟩∧PySem.W.codeIn K cdv qual=true
 kp:PySem.W.keepIn K (.ref f)=true
section
variable {P:Program} {w:World} {K:PySem.W.Frag} {mg:Str→Option Value} {base:Heap}
theorem Fun.ok {x qual:Str} {st:Stmt} {f:Addr} {fd:FuncData} {N ps:List Str} {k:Nat} {sp:Sp} (F:Fun K x qual st f fd) (S:FnScope N ps (jm st)) (len:∀ vs H Q E,sp vs H Q E→vs.length=ps.length)
  (hbody:∀ (cdv:Value) (A:Around) (outer:List Env) (s:Shared) (H:Hp) (vs:List V) (Q:VK) (E:XK),Room k (A.deeper (envOfC qual (jm st) s.heap.objs.size f cdv))→sp vs H Q E→
   ∃ t,PSs (Kv CX0 P w K mg base N qual (jm st) f cdv A outer s H E).nox (qH st) t∧t { nx:=fun _ H'=>Q .non H',rt:=Q } (zI N vs) H):FnOk P w K mg base CX0 (k+1) f fd ps sp:=by
 obtain ⟨oc,od,kV,doc,pm,an,cdv,ct,osl,rfl,lk,hcd⟩:=F.ex
 refine jda lk hcd S len fun A outer s H vs Q E hr hsp=>?_
 obtain ⟨t,h,q⟩:=hbody cdv A outer s H vs Q E hr hsp
 exact ⟨t,h.nox,q⟩
theorem Fun.binds {x qual:Str} {st:Stmt} {f:Addr} {fd:FuncData} {ps:List Str} (F:Fun K x qual st f fd)
  (h:∀ (kV doc pm:Value) (an:Option Addr) (cdv ct:Value) (us:List Value),us.length=ps.length→bindArgs (PySem.W.fnOf x qual (yf st) (qH st) (jm st) .none kV doc pm an cdv ct) ⟨us,[]⟩=pure (ps.zip us)):Binds K fd ps []:=by
 obtain ⟨oc,od,kV,doc,pm,an,cdv,ct,osl,rfl,lk,hcd⟩:=F.ex
 exact .all (h kV doc pm an cdv ct)
theorem jS {x qual:Str} {st:Stmt} {f:Addr} {oc:Value} {od an:Option Addr} {osl:Array (Option Value)} {kV doc pm cdv ct:Value} (l:K.lookup f=some ⟨oc,od,.func (PySem.W.fnOf x qual (yf st) (qH st) (jm st) .none kV doc pm an cdv ct),osl⟩)
  (c:PySem.W.codeIn K cdv qual=true) (k:PySem.W.keepIn K (.ref f)=true):Fun K x qual st f (PySem.W.fnOf x qual (yf st) (qH st) (jm st) .none kV doc pm an cdv ct):=⟨⟨oc,od,kV,doc,pm,an,cdv,ct,osl,rfl,l,c⟩,k⟩
end
theorem jeT {A:Around} {k:Nat} (hr:Room k A):A.units+1 < cLine:=Nat.lt_of_le_of_lt (Nat.add_le_add_left (by decide:1≤64) _) hr.units
theorem jA {n:Nat} (h:n≤1000):n < sizeLine:=Nat.lt_of_le_of_lt h (by decide)
section
variable {X:Cx}
theorem pv (i:Nat) {x:Str} {pos:Pos} (hN:X.N[i]?=some x:=by rfl) (hv:Vis X.env.scope x:=by first | exact Or.inl rfl | exact Or.inr (Or.inl rfl) | exact Or.inr (Or.inr rfl)) (hd:(x == ("__debug__" : Str))=false:=by decide)
  (hcd:(x == ("__classdict__" : Str))=false:=by decide):PE X (.Name x pos) (je1 i):=jcv hN hv hd hcd
end
theorem jfB {A B:Prop} (h:B):if false=true then A else B:=by
 rw [if_neg Bool.false_ne_true]
 exact h
theorem YE {A B:Prop} (h:A):if true=true then A else B:=by
 rw [if_pos rfl]
 exact h
theorem jL {c A B:Prop} [Decidable c] (h1:c→A) (h2:¬ c→B):if c then A else B:=by
 by_cases h:c
 ·rw [if_pos h]
  exact h1 h
 ·rw [if_neg h]
  exact h2 h
def Same (H H':Hp):Prop:=∀ b o,H b=some o→H' b=some o
theorem Same.refl (H:Hp):Same H H:=fun _ _ h=>h
theorem Same.trans {H H1 H2:Hp} (a:Same H H1) (b:Same H1 H2):Same H H2:=fun c o h=>b c o (a c o h)
theorem Same.free {H H':Hp} (e:Same H H') {l:Addr} (h:H' l=Option.none):H l=Option.none:=by
 cases q:H l with
 | none=>rfl
 | some o=>
  rw [e l o q] at h
  cases h
theorem Same.seq {K:PySem.W.Frag} {H H':Hp} {a:Addr} {xs:List V} (e:Same H H') (h:SqL K H a xs):SqL K H' a xs:=by
 rcases h with (h | ⟨o,h⟩) | h
 ·exact .inl (.inl (e _ _ h))
 ·exact .inl (.inr ⟨o,e _ _ h⟩)
 ·exact .inr h
theorem yT {prog:Program} {w:World} {A:Around} {s:Shared} {elt target iter:Expr} {ifs:List Expr} {scope:Scope} {pos:Pos} {it acc:Value} {env:Env} {R:Result→Shared→Prop} (I:Nat→Shared→Prop)
  (turn:∀ n s,I n s→wpAny (model prog w) A (pyNext it) (fun r s1=>match r with
   | none=>R (.ok .next) s1
   | some v=>wpAny (model prog w) A (letOwnedTupleGo target it v) (fun _ s1'=>wpAny (model prog w) A (assign target env v) (fun _ s2=>
     wpAny (model prog w) A (forIn ifs true fun c r=>if r=true then do let ok ← isTrue c env (eval c env);pure (ForInStep.yield ok) else pure (ForInStep.yield r)) (fun ok s3=>
      if ok=true then wpAny (model prog w) A (eval elt env) (fun x s4=>
       wpAny (model prog w) A (call (.builtin "list.append") [acc,x]) (fun _ s5=>∃ m,m < n∧I m s5) (fun _ _=>False) s4) (fun _ _=>False) s3
      else ∃ m,m < n∧I m s3) (fun _ _=>False) s2) (fun _ _=>False) s1') (fun _ _=>False) s1) (fun _ _=>False) s)
  (n:Nat) (h:I n s):codeAny (model prog w) A (.compLoop (.ListComp elt [⟨target,iter,ifs,0⟩] scope pos) 0 it acc env) R s:=by
 have no:∀ (x:Value) (s':Shared),False→notedBy (model prog w) A env (fun e s'=>R (.error e) s') x s':=fun _ _ z=>z.elim
 refine codeAny_loop rfl I (fun n s hI=>?_) n h
 show wpAny _ A ((compTurn (.ListComp elt [⟨target,iter,ifs,0⟩] scope pos) 0 it acc env).onRaise (fun x=>do noteFrame x env;theTreesLotGoes x)) _ _ s
 refine wpAny_noted ?_
 rw [compTurn_list]
 refine wpAny_bind (wpAny_standAt (wpAny_bind (wpAny_mono (turn n s hI) (fun r s1 h1=>?_) no)))
 cases r with
 | none=>exact wpAny_pure h1
 | some v=>
  refine wpAny_bind (wpAny_mono h1 (fun _ s1' h1'=>?_) no)
  refine wpAny_bind (wpAny_mono h1' (fun _ s2 h2=>wpAny_bind (wpAny_mono h2 (fun ok s3 h3=>?_) no)) no)
  cases ok with
  | false=>exact wpAny_pure ⟨rfl,h3⟩
  | true=>
   exact wpAny_bind (wpAny_bind (wpAny_mono h3 (fun x s4 h4=>wpAny_bind (wpAny_mono h4 (fun _ s5 h5=>wpAny_pure (wpAny_pure ⟨rfl,h5⟩)) no)) no))
theorem jdb:(NameKind.free == NameKind.free)=true:=rfl
def zG (cells:List (Str×Addr)):List (Str×NameKind)→List (Str×Addr)→List (Str×Addr)
 | [],acc=>acc
 | (n,k) :: r,acc=>if k == .free then zG cells r ((n,(cells.lookup n).getD 0) :: acc) else zG cells r acc
theorem Zs {env:Env}:∀ (names:List (Str×NameKind)) (acc:List (Str×Addr)),(∀ x∈names,x.2=.free→(env.cells.lookup x.1).isSome=true)→
  (forIn names acc fun x (cs:List (Str×Addr))=>(match x with | (name,kind)=>if (kind == NameKind.free)=true then do let c ← cellOf env name;pure (ForInStep.yield ((name,c) :: cs)) else pure (ForInStep.yield cs):Sem (ForInStep (List (Str×Addr)))))=(pure (zG env.cells names acc):Sem (List (Str×Addr)))
 | [],acc,_=>by simp only [List.forIn_nil];rfl
 | (n,k) :: r,acc,h=>by
  have ih:=fun a=>Zs (env:=env) r a fun x hx=>h x (List.mem_cons_of_mem _ hx)
  rw [List.forIn_cons]
  by_cases hk:k=.free
  ·subst hk
   have q:=h (n,.free) List.mem_cons_self rfl
   obtain ⟨c,hc⟩:=Option.isSome_iff_exists.mp q
   have e:cellOf env n=pure c:=by unfold cellOf;rw [show env.cells.lookup n=some c from hc]
   simp only [beq_self_eq_true,if_true,e,pure_bind]
   rw [ih]
   show _=pure (if (NameKind.free == NameKind.free)=true then zG env.cells r ((n,(env.cells.lookup n).getD 0) :: acc) else _)
   rw [if_pos jdb,show env.cells.lookup n=some c from hc]
   rfl
  ·have hb:(k == NameKind.free)=false:=by simpa using hk
   simp only [hb,Bool.false_eq_true,if_false,pure_bind]
   rw [ih]
   show _=pure (if (k == NameKind.free)=true then _ else zG env.cells r acc)
   rw [hb]
   rfl
theorem yz {scope:Scope} {env:Env} (h:∀ x∈scope.names,x.2=.free→(env.cells.lookup x.1).isSome=true):closureFor scope env=pure (zG env.cells scope.names []):=by
 unfold closureFor
 have e:=Zs (env:=env) scope.names [] h
 simp only [bind_pure] at *
 exact e
theorem jac {cells:List (Str×Addr)}:∀ (names:List (Str×NameKind)) (acc:List (Str×Addr)),(∀ x∈names,x.2=.free→(cells.lookup x.1).isSome=true)→(∀ x c,acc.lookup x=some c→cells.lookup x=some c)→
  ∀ x c,(zG cells names acc).lookup x=some c→cells.lookup x=some c
 | [],acc,_,ha=>ha
 | (n,k) :: r,acc,h,ha=>by
  unfold zG
  by_cases hk:k=.free
  ·subst hk
   rw [if_pos jdb]
   refine jac r _ (fun x hx=>h x (List.mem_cons_of_mem _ hx)) fun x c e=>?_
   by_cases hx:x=n
   ·subst hx
    rw [List.lookup_cons_self] at e
    obtain ⟨d,hd⟩:=Option.isSome_iff_exists.mp (h (x,.free) List.mem_cons_self rfl)
    have hd':cells.lookup x=some d:=hd
    rw [hd'] at e ⊢
    exact e
   ·rw [List.lookup_cons,beq_eq_false_iff_ne.mpr hx] at e
    exact ha x c e
  ·rw [if_neg (by simpa using hk)]
   exact jac r _ (fun x hx=>h x (List.mem_cons_of_mem _ hx)) ha
theorem YM {cells:List (Str×Addr)}:∀ (names:List (Str×NameKind)) (acc:List (Str×Addr)) (x:Str),(acc.lookup x).isSome=true→((zG cells names acc).lookup x).isSome=true
 | [],acc,_,ha=>ha
 | (n,k) :: r,acc,x,ha=>by
  unfold zG
  split
  ·refine YM r _ x ?_
   rw [List.lookup_cons]
   split
   ·rfl
   ·exact ha
  ·exact YM r _ x ha
theorem jad {cells:List (Str×Addr)}:∀ (names:List (Str×NameKind)) (acc:List (Str×Addr)) (x:Str),(x,NameKind.free)∈names→((zG cells names acc).lookup x).isSome=true
 | [],_,_,h=>by simp at h
 | (n,k) :: r,acc,x,h=>by
  unfold zG
  rcases List.mem_cons.mp h with e | h
  ·obtain ⟨e1,e2⟩:=Prod.mk.inj e
   subst e1 e2
   rw [if_pos jdb]
   refine YM r _ _ ?_
   rw [List.lookup_cons_self]
   rfl
  ·split
   ·exact jad r _ x h
   ·exact jad r _ x h
theorem qV {env:Env}:∀ {names:List (Str×NameKind)} {x:Str} {k:NameKind},
  (names.map fun (n,k)=>if (k == NameKind.free && env.scope.kind == .function && env.kindOf n == some .cell) then (n,NameKind.cell) else (n,k)).lookup x=some k→
   names.lookup x=some k∨(k=.cell∧names.lookup x=some .free)
 | [],_,_,h=>by simp at h
 | (n,k') :: r,x,k,h=>by
  rw [List.map_cons] at h
  by_cases hx:x=n
  ·subst hx
   rw [List.lookup_cons_self]
   by_cases hc:(k' == NameKind.free && env.scope.kind == .function && env.kindOf x == some .cell)=true
   ·simp only [hc,if_true] at h
    rw [List.lookup_cons_self] at h
    have hk:k'=.free:=by
     simp only [Bool.and_eq_true,beq_iff_eq] at hc
     exact hc.1.1
    exact .inr ⟨(Option.some.inj h).symm,by rw [hk]⟩
   ·simp only [hc] at h
    rw [if_neg (by simp),List.lookup_cons_self] at h
    exact .inl h
  ·have e:(x == n)=false:=beq_eq_false_iff_ne.mpr hx
   have h':(r.map fun (n,k)=>if (k == NameKind.free && env.scope.kind == .function && env.kindOf n == some .cell) then (n,NameKind.cell) else (n,k)).lookup x=some k:=by
    by_cases hc:(k' == NameKind.free && env.scope.kind == .function && env.kindOf n == some .cell)=true
    ·simp only [hc,if_true] at h
     rw [List.lookup_cons,e] at h
     exact h
    ·simp only [hc] at h
     rw [if_neg (by simp),List.lookup_cons,e] at h
     exact h
   have ih:=@qV env r x k h'
   rw [List.lookup_cons,e]
   exact ih
theorem yJ {env:Env}:∀ {names:List (Str×NameKind)} {x:Str},names.lookup x=some .free→
  (names.map fun (n,k)=>if (k == NameKind.free && env.scope.kind == .function && env.kindOf n == some .cell) then (n,NameKind.cell) else (n,k)).lookup x=some .cell∨
  (names.map fun (n,k)=>if (k == NameKind.free && env.scope.kind == .function && env.kindOf n == some .cell) then (n,NameKind.cell) else (n,k)).lookup x=some .free
 | [],_,h=>by simp at h
 | (n,k') :: r,x,h=>by
  rw [List.map_cons]
  by_cases hx:x=n
  ·subst hx
   rw [List.lookup_cons_self] at h
   cases h
   by_cases hc:(NameKind.free == NameKind.free && env.scope.kind == .function && env.kindOf x == some .cell)=true
   ·simp only [hc,if_true]
    exact .inl List.lookup_cons_self
   ·simp only [hc]
    rw [if_neg (by simp)]
    exact .inr List.lookup_cons_self
  ·have e:(x == n)=false:=beq_eq_false_iff_ne.mpr hx
   rw [List.lookup_cons,e] at h
   have ih:=@yJ env r x h
   by_cases hc:(k' == NameKind.free && env.scope.kind == .function && env.kindOf n == some .cell)=true
   ·simp only [hc,if_true]
    rw [List.lookup_cons,e]
    exact ih
   ·simp only [hc]
    rw [if_neg (by simp),List.lookup_cons,e]
    exact ih
def blk (X:Cx) (scope:Scope) (own:List Str) (fr:List Nat) (s:Shared) (H:Hp) (ex:List Addr):Cx where
 prog:=X.prog
 w:=X.w
 K:=X.K
 mg:=X.mg
 base:=X.base
 A:=X.A
 N:=own++fr.map fun j=>X.N.getD j (Str.ofString "")
 s₀:=s
 H₀:=H
 env:=compEnvC scope (zG X.env.cells scope.names []) s.heap.objs.size X.env
 outer:=X.stack
 stack:=X.stack
 ex:=ex
 fn:=fun _=>false
 calm:=X.calm
 pn:=[]
 xe:=fun _ _=>False
def jbO (own:List Str) (fr:List Nat) (σ:St):St:=own.map (fun _=>none)++fr.map fun j=>(σ[j]?).join
structure CompOk (X:Cx) (scope:Scope) (fr:List Nat):Prop where
 kind:scope.kind=.function
 nocell:∀ y∈scope.names,y.2≠.cell
 loc:∀ y∈scope.names,y.2=.local→scope.names.lookup y.1=some .local
 frees:∀ y∈scope.names,y.2=.free→X.env.scope.names.lookup y.1=some .cell∨X.env.scope.names.lookup y.1=some .free
 fr:∀ j∈fr,scope.names.lookup (X.N.getD j (Str.ofString ""))=some .free
theorem YF {X:Cx} {scope:Scope} {own:List Str} {fr:List Nat} {pins:List (Addr×Obj)} {σ:St} {H:Hp} {s:Shared} {ex:List Addr} {h1:Heap} {t1:Nat} (I:Inv X pins σ H s) (O:CompOk X scope fr)
  (hex:∀ b∈ex,y7 X pins H b∧b < s.heap.objs.size) (hns:h1.Ns s.heap.objs.size fun _=>none) (hk:∀ b o,s.heap.get? b=some o→h1.get? b=some o) :
  Inv (blk X scope own fr s H ex) [] (jbO own fr σ) H { s with heap:=h1,toks:=t1 }:=by
 have hsome:∀ x∈scope.names,x.2=.free→(X.env.cells.lookup x.1).isSome=true:=fun x hx e=>by
  obtain ⟨c,hc⟩:=I.ok.has x.1 (O.frees x hx e)
  rw [hc];rfl
 have sub:∀ x c,(zG X.env.cells scope.names []).lookup x=some c→X.env.cells.lookup x=some c:=jac scope.names [] hsome fun x c e=>by simp at e
 have hasc:∀ x,scope.names.lookup x=some .free→∃ c,(zG X.env.cells scope.names []).lookup x=some c:=fun x e=>Option.isSome_iff_exists.mp (jad scope.names [] x (PySem.mem_of_lookup e))
 have hcne:∀ x c,X.env.cells.lookup x=some c→c < s.heap.objs.size:=fun x c e=>by
  obtain ⟨v,q⟩:=I.cell x c e
  exact q.lt
 have hN:σ.length=X.N.length:=I.len
 refine ⟨⟨I.ok.mod,O.kind,I.ok.glob,I.ok.blt,Nat.le_refl _,fun x y c e1 e2=>I.ok.inj x y c (sub x c e1) (sub y c e2),fun x hx=>?_,fun x c z=>absurd z (by simp [blk]),I.ok.hd,I.ok.frames,.inl rfl,fun b hb=>⟨Nat.ne_of_lt (hex b hb).2,fun x c e=>(hex b hb).1.2.2.2.2.1 x c (sub x c e)⟩,
  fun b o e=>I.bs b o e,Nat.le_trans I.ok.bsz I.sz,fun b o e hb=>?_,fun b hb z=>?_,I.stack,I.stkFree⟩,
  rfl,I.bare,Un.kept hk,⟨_,hns,fun i x v e1 e2 e3=>?_⟩,fun x c e=>?_,I.fresh,fun x c e=>I.freeC x c (sub x c e),fun p hp=>absurd hp (by simp [blk]),I.hok.kept hk,?_⟩
 ·have hx':(relabel scope X.env).names.lookup x=some .cell∨(relabel scope X.env).names.lookup x=some .free:=hx
  rcases hx' with hx | hx
  ·rcases qV hx with q | ⟨_,q⟩
   ·exact absurd rfl (O.nocell _ (PySem.mem_of_lookup q))
   ·exact hasc x q
  ·rcases qV hx with q | ⟨q,_⟩
   ·exact hasc x q
   ·cases q
 ·rcases (hex b hb).1.2.2.2.1 with z | z
  ·exact I.ok.noex b o e z
  ·exact absurd (Nat.lt_of_lt_of_le (Heap.lt_size e) (Nat.le_trans I.ok.bsz z)) (Nat.lt_irrefl _)
 ·obtain ⟨_,f1,f2,_⟩:=(hex b hb).1
  rcases List.mem_cons.mp (I.stkSub b z) with q | q
  ·exact f1 q
  ·exact f2 q
 ·have e1':(own++fr.map fun j=>X.N.getD j (Str.ofString ""))[i]?=some x:=e1
  unfold jbO at e2
  have hi:own.length≤i:=by
   by_cases h:own.length≤i
   ·exact h
   ·rw [List.getElem?_append_left (by simpa using Nat.lt_of_not_le h),List.getElem?_map] at e2
    cases q:own[i]? with
    | none=>rw [q] at e2;cases e2
    | some z=>rw [q] at e2;cases e2
  rw [List.getElem?_append_right hi,List.getElem?_map] at e1'
  rw [List.getElem?_append_right (by simpa using hi),List.getElem?_map,List.length_map] at e2
  cases q:fr[i - own.length]? with
  | none=>rw [q] at e2;cases e2
  | some j=>
   rw [q] at e1' e2
   have e1'':X.N.getD j (Str.ofString "")=x:=Option.some.inj e1'
   have e2':(σ[j]?).join=some v:=Option.some.inj e2
   have e2'':σ[j]?=some (some v):=by
    cases z:σ[j]? with
    | none=>rw [z] at e2';cases e2'
    | some y=>rw [z] at e2';rw [← e2'];rfl
   have hj:j < X.N.length:=by rw [← hN];exact (List.getElem?_eq_some_iff.mp e2'').1
   have e3':X.N[j]?=some x:=by
    rw [List.getElem?_eq_getElem hj,← e1'',List.getD_eq_getElem?_getD,List.getElem?_eq_getElem hj]
    rfl
   have hf:=O.fr j (List.mem_of_getElem? q)
   rw [e1''] at hf
   have hv:=O.frees _ (PySem.mem_of_lookup hf) rfl
   obtain ⟨m,_,hl⟩:=I.loc
   obtain ⟨u,ru,lk⟩:=hl j x v e3' e2'' (.inr hv)
   refine ⟨u,ru,.inr ⟨?_,?_⟩⟩
   ·exact yJ hf
   ·obtain ⟨c,hc⟩:=hasc x hf
    refine ⟨c,hc,?_⟩
    rcases lk with ⟨k,_⟩ | ⟨_,c',hc',z⟩
    ·have k':X.env.scope.names.lookup x=some .local:=k
     rcases hv with hv | hv <;> · rw [k'] at hv;cases hv
    ·have:=sub x c hc
     rw [hc'] at this
     cases this
     obtain ⟨o,ho,hd⟩:=z
     exact ⟨o,hk _ _ ho,hd⟩
 ·obtain ⟨v,o,ho,hd⟩:=I.cell x c (sub x c e)
  exact ⟨v,o,hk _ _ ho,hd⟩
 ·show (jbO own fr σ).length=(own++fr.map fun j=>X.N.getD j (Str.ofString "")).length
  unfold jbO
  rw [List.length_append,List.length_append,List.length_map,List.length_map,List.length_map]
theorem zn {X:Cx} {scope:Scope} {own:List Str} {fr:List Nat} {pins:List (Addr×Obj)} {σ σ':St} {H H':Hp} {s s':Shared} {ex:List Addr} (I:Inv X pins σ H s) (hex:∀ b∈ex,y7 X pins H b∧b < s.heap.objs.size)
  (J:Inv (blk X scope own fr s H ex) [] σ' H' s') {h':Heap} (hs:Heap.SameBut s.heap.objs.size s'.heap h'):Inv X pins σ H' { s' with heap:=h' }:=by
 have hC:H' s.heap.objs.size=none:=J.free
 have u:Un (frs X.stack) ex H H' s.heap s'.heap:=J.base
 have ne:∀ b o,s.heap.get? b=some o→b≠s.heap.objs.size:=fun b o e=>Nat.ne_of_lt (Heap.lt_size e)
 have at':∀ b o,b≠s.heap.objs.size→s'.heap.get? b=some o→h'.get? b=some o:=fun b o hb e=>(hs.2 b hb).trans e
 refine I.call' (ch:=ex) J.os ⟨fun b o e n hb hx=>?_,fun b o e n hb hx=>?_,u.free,fun b o e hx=>?_,u.tups,u.frzs,u.tbls⟩ (fun b o e=>?_) J.bare fun b hb=>?_
 ·exact at' b o (ne b o e) (u.keep b o e n hb hx)
 ·obtain ⟨sl,q⟩:=u.slot b o e n hb hx
  exact ⟨sl,at' b _ (ne b o e) q⟩
 ·obtain ⟨o',q⟩:=u.there b o e hx
  exact ⟨o',at' b _ (ne b o e) q⟩
 ·refine (J.hok b o e).stay (fun c v hc q=>at' c v ?_ q) (fun _ q=>q) fun _ _ q=>q
  rintro z
  rcases hc with y | y
  ·rw [y] at z;rw [z,hC] at e;cases e
  ·rw [z,hC] at y;cases y
 ·obtain ⟨f0,f1,f2,f3,f4,f5⟩:=(hex b hb).1
  exact ⟨f3,f1,f4,f5⟩
def PTs (X:Cx) (ifs:List Expr) (t:TT):Prop:=
 ∀ (pins:List (Addr×Obj)) (s:Shared) (σ:St) (H:Hp) (Q:Bool→Hp→Prop),Inv X pins σ H s→t σ H Q→
  wpAny (model X.prog X.w) X.A (forIn ifs true fun c r=>if r=true then do let ok ← isTrue c X.env (eval c X.env);pure (ForInStep.yield ok) else pure (ForInStep.yield r)) (TP X pins σ Q) X.xe s
def Yi:TT:=fun _ H Q=>Q true H
theorem jdJ {X:Cx}:PTs X [] Yi:=fun _ _ _ H _ I h=>wpAny_tests_nil ⟨H,I,h⟩
theorem jdI {X:Cx} {c:Expr} {t:TT} (h:PT X c t):PTs X [c] t:=fun pins s σ H Q I q=>wpAny_tests_one (h pins s σ H Q I q)
def YS (J:It) (p:Addr) (g:TG) (tt:TT) (te:TE) (Q:VK) (σ:St) (H:Hp):Prop:=∃ W:Nat→Nat→St→Hp→Prop,(∃ m,W 0 m σ H)∧
 ∀ i m σ' H',W i m σ' H'→(J.stop i H'∧Q (.ref p) H')∨(J.go i H'∧∃ N:St→Hp→Prop,(∀ σ3 H3,N σ3 H3→∃ m',m' < m∧W (i+1) m' σ3 H3)∧∀ x H2,J.yld i H' x H2→g x σ' H2 fun σ3 H3=>tt σ3 H3 fun c H4=>
  if c=true then te σ3 H4 fun y H5=>∃ ys,H5 p=some (.lst ys)∧ys.length < sizeLine∧N σ3 (upd H5 p (.lst (ys++[y]))) else N σ3 H4)
def KG (own:List Str) (fr:List Nat) (wi:TI) (g:TG) (tt:TT) (te:TE):TE:=fun σ H Q=>wi σ H fun J H1=>∀ p,H1 p=none→YS J p g tt te Q (jbO own fr σ) (upd H1 p (.lst []))
theorem jdg {X:Cx} {scope:Scope} {own:List Str} {fr:List Nat} {elt tg iter:Expr} {ifs:List Expr} {pos:Pos} {wi:TI} {g:TG} {tt:TT} {te:TE} {use:Option (Value→Sem Unit)} (hc:X.calm=true) (O:CompOk X scope fr) (hi:PI X tg iter wi)
  (hb:∀ s H ex,PG (blk X scope own fr s H ex) tg g∧PTs (blk X scope own fr s H ex) ifs tt∧PE (blk X scope own fr s H ex) elt te)
  (hs:∀ x,foldedSetIterable iter X.env x=pure x) {pins:List (Addr×Obj)} {s:Shared} {σ:St} {H:Hp} {Q:VK} {R:Value→Shared→Prop} (I:Inv X pins σ H s) (h:KG own fr wi g tt te σ H Q) (hx:∀ e s',X.xe e s'↔False)
  (fin:∀ (p C:Addr) (H':Hp) (s':Shared) (m:Str→Option Value),s'.heap.Ns C m→H' C=none→C≠X.env.locals→(∀ x c,X.env.cells.lookup x=some c→c≠C)→Inv X pins σ H' s'→(∀ h',Heap.SameBut C s'.heap h'→Inv X pins σ H' { s' with heap:=h' })→Q (.ref p) H'→
   compPost (model X.prog X.w) X.A X.xe use R (.ref p) C (.ok .next) s') :
  wpAny (model X.prog X.w) X.A (comprehension (.ListComp elt [⟨tg,iter,ifs,0⟩] scope pos) scope X.env (firstIterPos [⟨tg,iter,ifs,0⟩] pos) (newList []) false (eval iter X.env) use) R X.xe s:=by
 have hsome:∀ x∈scope.names,x.2=.free→(X.env.cells.lookup x.1).isSome=true:=fun x hx' e=>by
  obtain ⟨c,hc⟩:=I.ok.has x.1 (O.frees x hx' e)
  rw [hc];rfl
 have no:∀ (E:Value→Shared→Prop) (x:Value) (s':Shared),X.xe x s'→E x s':=fun E x s' z=>((hx x s').mp z).elim
 refine wpAny_comprehension_free (cl:=zG X.env.cells scope.names []) rfl hs (yz hsome) O.kind O.loc ?_
 refine thn (hi pins s σ H _ I h) fun v s1 h1=>thn h1 fun itv s2 h2=>?_
 obtain ⟨it,fp,tn,J,H2,e,I2,T,st2,f2,q2⟩:=h2
 subst e
 refine wpAny_newObj_type ?_
 have nw:H2 s2.heap.objs.size=none:=I2.fresh
 obtain ⟨W,⟨m0,w0⟩,turn⟩:=q2 _ nw
 generalize hp:s2.heap.objs.size=p at *
 have I3:Inv X pins σ (upd H2 p (.lst [])) { s2 with heap:=s2.heap.push { cls:=.type "list",dict:=none,data:=.seq ([]:List Value).toArray } }:=by
  have:=I2.lnew (ys:=[]) (its:=[]) (t':=s2.toks) .nil (Nat.zero_le _)
  rw [hp] at this
  exact this
 have lt2:∀ b∈fp,b < s2.heap.objs.size:=fun b hb=>by
  obtain ⟨o,ho,_⟩:=T.obj _ _ st2 b hb
  exact Heap.lt_size ho
 have fpn:∀ b∈fp,(upd H2 p (.lst [])) b=none:=fun b hb=>by
  rw [jl (by rw [← hp];exact Nat.ne_of_lt (lt2 b hb))]
  exact (f2 b hb).1
 generalize hs3:({ s2 with heap:=s2.heap.push { cls:=.type "list",dict:=none,data:=.seq ([]:List Value).toArray } }:Shared)=s3 at *
 have sz3:s3.heap.objs.size=p+1:=by
  rw [← hs3]
  show (s2.heap.push _).objs.size=_
  rw [Heap.size_push,hp]
 have st3:tn 0 s3.heap:=T.keep 0 _ _ st2 fun b hb o e=>by
  rw [← hs3]
  exact Heap.get?_push_of_some _ e
 refine wpAny_newFunctionEnv O.nocell (by intro y hy;simp at hy) (fun h4 hns4 hsb4=>?_) O.kind
 have k4:∀ b o,s3.heap.get? b=some o→h4.get? b=some o:=fun b o e=>hsb4.extBut b o (Nat.ne_of_lt (Heap.lt_size e)) (Heap.get?_push_of_some _ e)
 have hns4':h4.Ns s3.heap.objs.size fun _=>none:=by
  have z:(fun x:Str=>([]:List (Str×Value)).reverse.lookup x)=fun _=>none:=by funext x;rfl
  rw [z] at hns4
  exact hns4
 have fo:∀ b∈fp,y7 X pins (upd H2 p (.lst [])) b∧b < s3.heap.objs.size:=fun b hb=>⟨⟨fpn b hb,(f2 b hb).2⟩,by rw [sz3,← hp];exact Nat.lt_succ_of_lt (lt2 b hb)⟩
 have I4:=YF (own:=own) (fr:=fr) (t1:=s3.toks+([]:List (Str×Value)).length) I3 O fo hns4' k4
 have st4:tn 0 h4:=T.keep 0 _ _ st3 fun b hb o e=>k4 b o e
 obtain ⟨hg,ht,he⟩:=hb s3 (upd H2 p (.lst [])) fp
 have stat:∀ {H':Hp} {pn:List (Addr×Obj)} {s':Shared} {σ':St},Inv (blk X scope own fr s3 (upd H2 p (.lst [])) fp) [] σ' H' s'→(∀ b∈fp,H' b=none)→∀ b∈fp,y7 (blk X scope own fr s3 (upd H2 p (.lst [])) fp) [] H' b:=fun {H' pn s' σ'} J hn b hb'=>
  ⟨hn b hb',(J.ok.exf b hb').1,J.ok.exfs b hb',.inl hb',(J.ok.exf b hb').2,fun p hp=>absurd hp (by simp [blk])⟩
 have nocells:∀ x c,X.env.cells.lookup x=some c→c≠s3.heap.objs.size:=fun x c e=>by
  obtain ⟨v,q⟩:=I3.cell x c e
  exact Nat.ne_of_lt q.lt
 have loop:∀ s5:Shared,s5={ s3 with heap:=h4,toks:=s3.toks+([]:List (Str×Value)).length }→
   codeAny (model X.prog X.w) X.A (.compLoop (.ListComp elt [⟨tg,iter,ifs,0⟩] scope pos) 0 (.ref it) (.ref p) (blk X scope own fr s3 (upd H2 p (.lst [])) fp).env) (compPost (model X.prog X.w) X.A X.xe use R (.ref p) s3.heap.objs.size) s5:=by
  rintro s5 rfl
  refine yT (fun n s'=>∃ i σ' H',Inv (blk X scope own fr s3 (upd H2 p (.lst [])) fp) [] σ' H' s'∧tn i s'.heap∧(∀ b∈fp,H' b=none)∧W i n σ' H') ?_ m0 ⟨0,_,_,I4,st4,fpn,w0⟩
  rintro n s6 ⟨i,σ6,H6,I6,st6,fr6,w6⟩
  rcases turn i n σ6 H6 w6 with ⟨stop,qn⟩ | ⟨go,N,hN,step⟩
  ·refine thn (T.done (blk X scope own fr s3 (upd H2 p (.lst [])) fp) rfl rfl rfl hc i [] s6 σ6 H6 _ I6 (stat (pn:=[]) I6 fr6) st6 stop) fun r s7 ⟨hr,I7⟩=>?_
   subst hr
   obtain ⟨m,hm,_⟩:=I7.loc
   exact fin p _ H6 s7 m hm I7.free (Nat.ne_of_gt I3.lt) nocells (zn I3 fo I7 (Heap.SameBut.refl ..)) (fun h' hs'=>zn I3 fo I7 hs') qn
  ·refine thn (T.item (blk X scope own fr s3 (upd H2 p (.lst [])) fp) rfl rfl rfl hc i [] s6 σ6 H6 _ I6 (stat (pn:=[]) I6 fr6) st6 go) fun r s7 ⟨u,hr,h7⟩=>?_
   subst hr
   refine thn h7 fun _ s8 ⟨x,H8,I8,r8,y8,st8,fr8⟩=>?_
   have I8':=I8.pinned (stat (pn:=[]) I8 fr8) (T.obj _ _ st8)
   refine thn (hg _ s8 σ6 H8 x u _ I8' r8 (step x H8 y8)) fun _ s9 ⟨σ9,H9,I9,q9⟩=>?_
   refine thn (ht _ s9 σ9 H9 _ I9 q9) fun ok s10 ⟨H10,I10,q10⟩=>?_
   have again:∀ {H11:Hp} {s11:Shared},Inv (blk X scope own fr s3 (upd H2 p (.lst [])) fp) ([]++zy fp s8.heap) σ9 H11 s11→(∃ m',m' < n∧W (i+1) m' σ9 H11)→
     ∃ m,m < n∧∃ i σ' H',Inv (blk X scope own fr s3 (upd H2 p (.lst [])) fp) [] σ' H' s11∧tn i s11.heap∧(∀ b∈fp,H' b=none)∧W i m σ' H':=fun {H11 s11} I11 ⟨m',hm,w11⟩=>by
    refine ⟨m',hm,i+1,σ9,H11,I11.unpinned,T.keep _ _ _ st8 fun b hb' o e=>(I11.pin (b,o) (List.mem_append_right _ (List.mem_append_right _ (kT hb' e)))).1,fun b hb'=>?_,w11⟩
    obtain ⟨o,e,d⟩:=T.obj _ _ st8 b hb'
    exact (I11.pin (b,o) (List.mem_append_right _ (List.mem_append_right _ (kT hb' e)))).2.1
   cases ok with
   | false=>
    rw [if_neg Bool.false_ne_true] at q10 ⊢
    exact again I10 (hN _ _ q10)
   | true=>
    rw [if_pos rfl] at q10 ⊢
    refine thn (he _ s10 σ9 H10 _ I10 q10) fun yv s11 ⟨y,H11,I11,r11,ys,hys,hlen,q11⟩=>?_
    have ap:=kO (X:=blk X scope own fr s3 (upd H2 p (.lst [])) fp) ([]++zy fp s8.heap) s11 σ9 H11 (.ref p) [y] (.ref p) [yv] (fun _ H12=>∃ m',m' < n∧W (i+1) m' σ9 H12) I11 rfl (.cons r11 .nil) ⟨p,ys,y,rfl,rfl,hys,hlen,hN _ _ q11⟩
    exact thn ap fun _ s12 ⟨_,H12,I12,_,q12⟩=>again I12 q12
 refine codeAny_compStart_list (loop _ rfl) (T.self X.A 0 _ _ _ st4 (loop _ rfl))
theorem jd1 {X:Cx} {scope:Scope} {elt tg iter:Expr} {ifs:List Expr} {pos:Pos} {wi:TI} {g:TG} {tt:TT} {te:TE} (own:List Str) (fr:List Nat) (hc:X.calm=true) (O:CompOk X scope fr) (hi:PI X.nox tg iter wi)
  (hb:∀ s H ex,PG (blk X.nox scope own fr s H ex) tg g∧PTs (blk X.nox scope own fr s H ex) ifs tt∧PE (blk X.nox scope own fr s H ex) elt te)
  (hs:∀ x,foldedSetIterable iter X.env x=pure x:=by intro _;rfl):PE X.nox (.ListComp elt [⟨tg,iter,ifs,0⟩] scope pos) (KG own fr wi g tt te):=by
 intro pins s σ H Q I h
 rw [eval_ListComp]
 refine jdg (X:=X.nox) (use:=none) (Q:=Q) hc ⟨O.kind,O.nocell,O.loc,O.frees,O.fr⟩ hi hb hs I h (fun _ _=>Iff.rfl) fun p C H' s' m hm hC _ _ I' back q=>?_
 exact ⟨m,hm,fun h' hs'=>⟨.ref p,H',back h' hs',rfl,q⟩⟩
section
variable {p:Addr} {g:TG} {tt:TT} {te:TE} {σ:St} {H:Hp} {Q:VK}
theorem jaS (J:It) (n:Nat) (Pv:Nat→St→Hp→Prop) (h0:Pv 0 σ H) (stop:∀ σ' H',Pv n σ' H'→J.stop n H') (go:∀ i σ' H',i < n→Pv i σ' H'→J.go i H')
  (hs:∀ i σ' H',i < n→Pv i σ' H'→∀ x H2,J.yld i H' x H2→g x σ' H2 fun σ3 H3=>tt σ3 H3 fun c H4=>if c=true then te σ3 H4 fun y H5=>∃ ys,H5 p=some (.lst ys)∧ys.length < sizeLine∧Pv (i+1) σ3 (upd H5 p (.lst (ys++[y]))) else Pv (i+1) σ3 H4)
  (hd:∀ σ' H',Pv n σ' H'→Q (.ref p) H'):YS J p g tt te Q σ H:=by
 refine ⟨fun i m σ H=>m=n - i∧i≤n∧Pv i σ H,⟨n,by simp,Nat.zero_le _,h0⟩,?_⟩
 rintro i m σ1 H1 ⟨rfl,hi,pv⟩
 by_cases hlt:i < n
 ·exact .inr ⟨go i σ1 H1 hlt pv,Pv (i+1),fun σ3 H3 q=>⟨n - (i+1),by omega,rfl,hlt,q⟩,hs i σ1 H1 hlt pv⟩
 ·have e:i=n:=by omega
  subst e
  exact .inl ⟨stop σ1 H1 pv,hd σ1 H1 pv⟩
theorem yS {K:PySem.W.Frag} {a:Addr} {xs:List V} (Pv:Nat→St→Hp→Prop) (h0:Pv 0 σ H) (hl:∀ i σ' H',i≤xs.length→Pv i σ' H'→SqT K H' a xs)
  (hs:∀ i x σ' H',xs[i]?=some x→Pv i σ' H'→g x σ' H' fun σ3 H3=>tt σ3 H3 fun c H4=>if c=true then te σ3 H4 fun y H5=>∃ ys,H5 p=some (.lst ys)∧ys.length < sizeLine∧Pv (i+1) σ3 (upd H5 p (.lst (ys++[y]))) else Pv (i+1) σ3 H4)
  (hd:∀ σ' H',Pv xs.length σ' H'→Q (.ref p) H'):YS (Itt K a) p g tt te Q σ H:=
 jaS (Itt K a) xs.length Pv h0 (fun σ' H' pv=>⟨xs,hl _ σ' H' (Nat.le_refl _) pv,Nat.le_refl _⟩) (fun i σ' H' h pv=>⟨xs,xs[i],hl i σ' H' (Nat.le_of_lt h) pv,by simp [h]⟩) (fun i σ' H' h pv x H2 y=>by
  obtain ⟨e1,e2⟩:=y
  subst e1
  exact hs i x σ' _ (e2 xs (hl i σ' _ (Nat.le_of_lt h) pv)) pv) hd
theorem ql {K:PySem.W.Frag} {a:Addr} {xs:List V} (Pv:Nat→St→Hp→Prop) (h0:Pv 0 σ H) (hl:∀ i σ' H',i≤xs.length→Pv i σ' H'→SqL K H' a xs)
  (hs:∀ i x σ' H',xs[i]?=some x→Pv i σ' H'→g x σ' H' fun σ3 H3=>tt σ3 H3 fun c H4=>if c=true then te σ3 H4 fun y H5=>∃ ys,H5 p=some (.lst ys)∧ys.length < sizeLine∧Pv (i+1) σ3 (upd H5 p (.lst (ys++[y]))) else Pv (i+1) σ3 H4)
  (hd:∀ σ' H',Pv xs.length σ' H'→Q (.ref p) H'):YS (Itl K a) p g tt te Q σ H:=
 jaS (Itl K a) xs.length Pv h0 (fun σ' H' pv=>⟨xs,hl _ σ' H' (Nat.le_refl _) pv,Nat.le_refl _⟩) (fun i σ' H' h pv=>⟨xs,xs[i],hl i σ' H' (Nat.le_of_lt h) pv,by simp [h]⟩) (fun i σ' H' h pv x H2 y=>by
  obtain ⟨e1,e2⟩:=y
  subst e1
  exact hs i x σ' _ (e2 xs (hl i σ' _ (Nat.le_of_lt h) pv)) pv) hd
end
inductive D where
 | int (i:Int) | str (x:Str) | tup (ds:List D)
mutual
def Held (H:Hp):D→V→Prop
 | .int i,v=>v=.int i
 | .str x,v=>v=.str x
 | .tup ds,v=>∃ a xs,v=.ref a∧H a=some (.tup xs)∧HeldL H ds xs
def HeldL (H:Hp):List D→List V→Prop
 | [],vs=>vs=[]
 | d :: ds,vs=>∃ v r,vs=v :: r∧Held H d v∧HeldL H ds r
end
mutual
theorem Held.mono {H H':Hp} (e:Same H H'):∀ {d:D} {v:V},Held H d v→Held H' d v
 | .int i,v,h=>by unfold Held at h ⊢;exact h
 | .str x,v,h=>by unfold Held at h ⊢;exact h
 | .tup ds,v,h=>by
  unfold Held at h ⊢
  obtain ⟨a,xs,e1,e2,e3⟩:=h
  exact ⟨a,xs,e1,e a _ e2,HeldL.mono e e3⟩
theorem HeldL.mono {H H':Hp} (e:Same H H'):∀ {ds:List D} {vs:List V},HeldL H ds vs→HeldL H' ds vs
 | [],vs,h=>by unfold HeldL at h ⊢;exact h
 | d :: ds,vs,h=>by
  unfold HeldL at h ⊢
  obtain ⟨v,r,e1,e2,e3⟩:=h
  exact ⟨v,r,e1,Held.mono e e2,HeldL.mono e e3⟩
end
theorem qd {H:Hp} {i:Int}:Held H (.int i) (.int i):=by unfold Held;rfl
theorem jG {H:Hp} {x:Str}:Held H (.str x) (.str x):=by unfold Held;rfl
theorem qW {H:Hp} {a:Addr} {xs:List V} {ds:List D} (e:H a=some (.tup xs)) (h:HeldL H ds xs):Held H (.tup ds) (.ref a):=by unfold Held;exact ⟨a,xs,rfl,e,h⟩
theorem jp {H:Hp}:HeldL H [] []:=by unfold HeldL;rfl
theorem jj {H:Hp} {d:D} {ds:List D} {v:V} {r:List V} (h:Held H d v) (t:HeldL H ds r):HeldL H (d :: ds) (v :: r):=by unfold HeldL;exact ⟨v,r,rfl,h,t⟩
theorem HeldL.length {H:Hp}:∀ {ds:List D} {vs:List V},HeldL H ds vs→ds.length=vs.length
 | [],vs,h=>by unfold HeldL at h;subst h;rfl
 | d :: ds,vs,h=>by
  unfold HeldL at h
  obtain ⟨v,r,e1,_,e3⟩:=h
  subst e1
  rw [List.length_cons,List.length_cons,HeldL.length e3]
theorem HeldL.get {H:Hp}:∀ {ds:List D} {vs:List V} {j:Nat} {d:D},HeldL H ds vs→ds[j]?=some d→∃ v,vs[j]?=some v∧Held H d v
 | [],_,_,_,_,e=>by simp at e
 | d :: ds,vs,0,d',h,e=>by
  unfold HeldL at h
  obtain ⟨v,r,e1,e2,e3⟩:=h
  simp at e;subst e e1
  exact ⟨v,rfl,e2⟩
 | d :: ds,vs,j+1,d',h,e=>by
  unfold HeldL at h
  obtain ⟨v,r,e1,e2,e3⟩:=h
  subst e1
  obtain ⟨w,h1,h2⟩:=HeldL.get (j:=j) (d:=d') e3 (by simpa using e)
  exact ⟨w,by simpa using h1,h2⟩
theorem zi {X:Cx}:OpR X (binaryOp .FloorDiv) (rI (fun _ j=>0 < j∧j < 2 ^ 200) fun i j=>.int (i / j)):=opI fun i j _ _ _ _ _ hc q=>by
 refine floordiv_int (by omega) ?_ (.inl (PyProof.noPylong_of_log2 ?_))
 ·rw [Int.fdiv_eq_ediv_of_nonneg _ (by omega)]
  exact q
 ·have h0:j.natAbs≠0:=by omega
  exact Nat.lt_trans ((Nat.log2_lt h0).mpr (show j.natAbs < 2 ^ 200 by omega)) (by decide)
theorem ZI {X:Cx}:qo X (.builtin "isinstance") (fun xs H Q=>∃ x t T b,xs=[x,.ty T]∧TyOf X.K H x t∧PySem.W.kitOne X.K t (.type T)=some b∧Q (.bl b) H):=by
 intro pins s σ H xs us Q I r h
 obtain ⟨x,t,T,b,rfl,ty,e,q⟩:=h
 obtain ⟨u,v,rfl,ru,rv⟩:=jap r
 cases rv
 exact jbz I ru ty e fun tk=>⟨.bl b,H,I.tok _,rfl,q⟩
def j5:Expr→Bool
 | .Starred _ _=>false
 | _=>true
theorem kR {e:Expr} (h:j5 e=true) (qi:List Expr) (env:Env):starEach (e :: qi) env=(false,eval e env) :: starEach qi env:=by
 cases e <;> first | rfl | cases h
theorem zb (pos:Pos) (env:Env):∀ es:List Expr,es.all j5=true→(backTo pos (starEach es env)).any (·.1)=false
 | [],_=>rfl
 | e :: es,h=>by
  rw [List.all_cons,Bool.and_eq_true] at h
  rw [kR h.1]
  have ih:=zb pos env es h.2
  show (false || (backTo pos (starEach es env)).any (·.1))=false
  rw [ih]
  rfl
theorem jge {X:Cx} {e:Expr} {es:List Expr} {te:TE} {t:TA} (ha:PE X e te) (hr:PA X es t) (hp:j5 e=true:=by rfl):PA X (e :: es) (jb9 te t):=jd4 ha hr (kR hp es X.env)
theorem jga {X:Cx} {x:Str} {p pos:Pos} {e:Expr} {es:List Expr} {t:TA} {id:String} {r:List V→Hp→VK→Prop} (hc:qo X (.builtin id) r) (hg:Gl X x) (hm:X.mg x=none) (hv:bootBuiltins x=some (.builtin id)) (ha:PA X (e :: es) t) (hp:(e :: es).all j5=true:=by rfl) (hn:x≠"__name__":=by decide) (hdb:(x == ("__debug__" : Str))=false:=by decide) :
  PE X (.Call (.Name x p) (e :: es) [] pos) (tCB r t):=by
 rw [List.all_cons,Bool.and_eq_true] at hp
 exact jcE hc hg hm hv ha hn hdb (kR hp.1 es X.env) (zb pos X.env es hp.2)
theorem jf9 {X:Cx} {x:Str} {p pos:Pos} {e:Expr} {es:List Expr} {t:TA} {T:String} {r:List V→Hp→VK→Prop} (hc:qo X (.type T) r) (hg:Gl X x) (hm:X.mg x=none) (hv:bootBuiltins x=some (.type T)) (ha:PA X (e :: es) t) (hp:(e :: es).all j5=true:=by rfl) (hn:x≠"__name__":=by decide) (hdb:(x == ("__debug__" : Str))=false:=by decide) :
  PE X (.Call (.Name x p) (e :: es) [] pos) (tCB r t):=by
 rw [List.all_cons,Bool.and_eq_true] at hp
 exact jbi hc hg hm hv ha hn hdb (kR hp.1 es X.env) (zb pos X.env es hp.2)
structure Fn (P:Program) (w:World) (K:PySem.W.Frag) (mg:Str→Option Value) (base:Heap) (k:Nat) (x:Str) (ps:List Str) (sp:Sp):Prop where
 ex:∃ f fd,FnOk P w K mg base CX0 k f fd ps sp∧Binds K fd ps []∧PySem.W.keepIn K (.ref f)=true∧mg x=some (.ref f)
theorem jeK {X:Cx} {k k':Nat} {x:Str} {ps:List Str} {sp:Sp} {e:Expr} {es:List Expr} {t:TA} {p pos:Pos} (F:Fn X.prog X.w X.K X.mg X.base k x ps sp) (hr:Room k' X.A) (ha:PA X (e :: es) t) (hk:k≤k':=by decide) (hg:Gl X x:=by rfl)
  (hd:(x == ("__debug__" : Str))=false:=by decide) (hp:(e :: es).all j5=true:=by rfl):PE X (.Call (.Name x p) (e :: es) [] pos) (KH sp [] E0 t):=by
 obtain ⟨f,fd,G,b,kp,m⟩:=F.ex
 rw [List.all_cons,Bool.and_eq_true] at hp
 exact jaF G (hr.mono hk) hg m kp b .nil jeL ha hd (kR hp.1 es X.env) (zb pos X.env es hp.2)
theorem Fn.mk' {P:Program} {w:World} {K:PySem.W.Frag} {mg:Str→Option Value} {base:Heap} {k:Nat} {x:Str} {ps:List Str} {sp:Sp} {st:Stmt} {f:Addr} {fd:FuncData} (F:Fun K x x st f fd) (b:Binds K fd ps []) (m:mg x=some (.ref f)) (G:FnOk P w K mg base CX0 k f fd ps sp):Fn P w K mg base k x ps sp:=⟨f,fd,G,b,F.kp,m⟩
theorem kY {X:Cx} {scope:Scope} {fr:List Nat} {sc:Scope} {N:List Str} (h1:X.env.scope=sc) (h2:X.N=N) (h:scope.kind=.function∧(∀ y∈scope.names,y.2≠.cell)∧(∀ y∈scope.names,y.2=.local→scope.names.lookup y.1=some .local)∧
  (∀ y∈scope.names,y.2=.free→sc.names.lookup y.1=some .cell∨sc.names.lookup y.1=some .free)∧∀ j∈fr,scope.names.lookup (N.getD j (Str.ofString ""))=some .free):CompOk X scope fr:=by
 obtain ⟨a,b,c,d,e⟩:=h
 exact ⟨a,b,c,by rw [h1];exact d,by rw [h2];exact e⟩
theorem qX:bootBuiltins "len" = some (.builtin "len"):=by decide +kernel
theorem jfF:bootBuiltins "max" = some (.builtin "max"):=by decide +kernel
theorem qI:bootBuiltins "isinstance" = some (.builtin "isinstance"):=by decide +kernel
theorem jbN:bootBuiltins "sorted" = some (.builtin "sorted"):=by decide +kernel
theorem ZK:bootBuiltins "tuple" = some (.type "tuple"):=by decide +kernel
theorem JP:bootBuiltins "list" = some (.type "list"):=by decide +kernel
theorem jet:bootBuiltins "dict" = some (.type "dict"):=by decide +kernel
theorem jdj:bootBuiltins "set" = some (.type "set"):=by decide +kernel
structure Free0 (mg:Str→Option Value):Prop where
 len_:mg "len" = none
 max_:mg "max" = none
 min_:mg "min" = none
 all_:mg "all" = none
 isinstance_:mg "isinstance" = none
 abs_:mg "abs" = none
 sorted_:mg "sorted" = none
 int_:mg "int" = none
 str_:mg "str" = none
 bool_:mg "bool" = none
 tuple_:mg "tuple" = none
 list_:mg "list" = none
 dict_:mg "dict" = none
 range_:mg "range" = none
 set_:mg "set" = none
theorem yN {X:Cx} {K:PySem.W.Frag} (h:X.K=K:=by rfl):IxR X (jf2 K):=by subst h;exact jF
structure QS (X:Cx) (st:Stmt) (t:TS):Prop where
 h:PS X st t
structure QSs (X:Cx) (st:List Stmt) (t:TS):Prop where
 h:PSs X st t
theorem qs {X:Cx} {st:Stmt} {t:TS} (h:PS X st t):QS X st t:=⟨h⟩
theorem Kc:∀ {ns:List Int} {its:List Value},Vals (ns.map V.int) its→IntsAre its ns
 | [],_,r=>by cases r;exact .nil
 | n :: ns,_,r=>by
  cases r with
  | cons h r=>
   obtain ⟨t,rfl⟩:=h
   exact .cons n t (Kc r)
theorem KB:∀ {its:List Value} {ns:List Str},StrsAre its ns→Vals (ns.map V.str) its
 | _,_,.nil=>.nil
 | _,_,.cons n t h=>.cons ⟨t,rfl⟩ (KB h)
theorem jcZ:64≤(sizeLine:Nat):=by rw [sizeLine_eq];decide
open PySem PySem.Spec PyProof.Rows PySem.W
def OkP (N:Nat) (p:Array Nat):Prop:=p.toList.Perm (List.range N)
theorem OkP.size {N:Nat} {p:Array Nat} (h:OkP N p):p.size=N:=by
 have:=h.length_eq
 rw [List.length_range] at this
 simpa using this
end L2
namespace PySem
open Sem (wp)
namespace F
theorem sub_attr_attr:isSubtype (.type "AttributeError") (.type "AttributeError")=pure true:=by rw [isSubtype_type];kernel_rfl
end F
section
variable {prog:Program} {w:World} {A:Around} {E:Value→Shared→Prop} {h:Heap} {g:Array GenState} {d:Drawn} {t:Nat} {os:OsState} {a:Addr} {its:Array Value} {n:Nat} {sl:Array (Option Value)}
theorem jag {α:Type} {m:Str} {Q:α→Shared→Prop} (hm:m.length≤sizeLine) (hh:A.handled=none)
   (hq:∀ h' t' e,(∀ b u,h.get? b=some u→h'.get? b=some u)→(∃ oe,h'.get? e=some oe∧oe.cls=.type "AttributeError")→E (.ref e) ⟨h',g,d,t',os⟩) :
  wpAny (model prog w) A (raiseAttrError (.ref a) (Str.ofString "keys") m:Sem α) Q E ⟨h,g,d,t,os⟩:=by
 unfold raiseAttrError
 refine wpAny_bind (wpAny_mkStr (wpAny_bind ?_) hm)
 unfold newExc newTuple
 refine wpAny_bind (wpAny_newObj_type ?_ (by show 1≤sizeLine;rw [sizeLine_eq];decide))
 refine wpAny_bind (m:=firstArgMember _ _) (wpAny_of_eq (a:=Value.none) (by kernel_rfl) ?_)
 refine wpAny_newObj_type ?_ (by size_fits)
 refine wpAny_bind (wpAny_mkText ?_)
 dsimp only
 have hsub:isSubtype (.type "AttributeError") (.type "AttributeError")=pure true:=by rw [isSubtype_type];kernel_rfl
 generalize hf:(#[Value.ref h.objs.size,Value.none,Value.none,Value.none,Value.bool false,Value.none]++ownMembersOf (Value.type "AttributeError") [Value.str m t])=fs
 have e1:((h.push { cls:=.type "tuple",data:=.seq #[Value.str m t] }).push { cls:=.type "AttributeError",data:=.fields fs }).get? (h.push { cls:=.type "tuple",data:=.seq #[Value.str m t] }).objs.size=some { cls:=.type "AttributeError",data:=.fields fs }:=Heap.get?_push_size _ rfl
 have old:∀ b u,h.get? b=some u→((h.push { cls:=.type "tuple",data:=.seq #[Value.str m t] }).push { cls:=.type "AttributeError",data:=.fields fs }).get? b=some u:=fun b u q=>Heap.get?_push_of_some _ (Heap.get?_push_of_some _ q)
 have oldn:∀ b u,h.get? b=some u→b≠(h.push { cls:=.type "tuple",data:=.seq #[Value.str m t] }).objs.size:=fun b u q=>Nat.ne_of_lt (Heap.lt_size (Heap.get?_push_of_some _ q))
 generalize ((h.push { cls:=.type "tuple",data:=.seq #[Value.str m t] }).push { cls:=.type "AttributeError",data:=.fields fs })=h2 at *
 generalize (h.push { cls:=.type "tuple",data:=.seq #[Value.str m t] }).objs.size=e at *
 refine wpAny_bind ?_
 have hT:(⟨h2,g,d,t+1+1,os⟩:Shared).TypeIs (.ref e) "AttributeError":=⟨_,e1,rfl⟩
 unfold noteAttr
 dsimp only
 refine wpAny_bind ?_
 unfold lacksNameAndObj
 dsimp only
 refine wpAny_bind (wpAny_isInstance hT hsub ?_)
 simp only [Bool.not_true,Bool.false_eq_true,if_false]
 refine wpAny_bind (wpAny_load e1 ?_)
 dsimp only
 have e6:fs[6]?=some unsetMember:=by rw [← hf];rfl
 have e7:fs[7]?=some unsetMember:=by rw [← hf];rfl
 rw [if_neg (by rw [e6,e7];decide),if_neg (by rw [e6,e7];decide)]
 refine wpAny_pure ?_
 rw [if_pos rfl]
 refine wpAny_bind (wpAny_rule (wpAny_bind (wpAny_typeOf hT ?_)))
 dsimp only
 unfold layMembers
 refine wpAny_bind (wpAny_load e1 ?_)
 dsimp only
 refine wpAny_update e1 ?_
 unfold raiseNew
 refine wpAny_bind (wpAny_handled ?_)
 rw [hh]
 refine wpAny_bind (wpAny_pure (wpAny_throw ?_))
 refine hq _ _ e (fun b u q=>?_) ⟨_,Heap.get?_update_self _ e1 rfl,rfl⟩
 rw [Heap.get?_update_ne _ _ _ _ (oldn b u q)]
 exact old b u q
end
end PySem
namespace L2
open PySem PySem.Spec PyProof.Rows PySem.W
theorem zV:entryFor table "dict.update.loop" = some Builtin.«dict.update.loop»:=entryFor_of_tree (by kernel_rfl)
theorem qx:plainId "dict.update.loop" = true:=by decide +kernel
section
variable {prog:Program} {w:World} {A:Around} {E:Value→Shared→Prop} {R:Result→Shared→Prop}
theorem jel {kvs:List (Key×V)} {vs:List (Key×Value)} (r:KV kvs vs):vs.map (·.1)=kvs.map (·.1):=by
 unfold KV at r
 induction r with
 | nil=>rfl
 | cons h _ ih=>rw [List.map_cons,List.map_cons,ih,h.1]
theorem jek {kvs:List (Key×V)} {vs:List (Key×Value)} {k:Key} {x:V} {v:Value} (r:KV kvs vs) (h:RelV x v):KV (kvs++[(k,x)]) (vs++[(k,v)]):=by
 unfold KV at r ⊢
 induction r with
 | nil=>exact .cons ⟨rfl,h⟩ .nil
 | cons h' _ ih=>exact .cons h' ih
end
theorem Inv.more {X:Cx} {pins:List (Addr×Obj)} {σ:St} {H H':Hp} {s:Shared} {h':Heap} {t':Nat} (I:Inv X pins σ H s) (k:∀ b u,s.heap.get? b=some u→h'.get? b=some u) (same:Same H H')
  (new:∀ b o,H b=none→H' b=some o→s.heap.objs.size≤b∧ObjOk X.prog X.w H' h' b o):Inv X pins σ H' { s with heap:=h',toks:=t' }:=by
 refine I.un ⟨fun b u q _ _ _=>k b u q,fun b u q _ _ _=>⟨u.slots,k b u q⟩,fun b u q n _=>?_,fun b u q _=>⟨u,k b u q⟩,fun b xs q=>same _ _ q,fun b u xs q=>same _ _ q,fun b ps q=>⟨#[],by rw [same _ _ q];simp⟩⟩ fun b o e=>?_
 ·cases e:H' b with
  | none=>rfl
  | some o=>exact absurd (Heap.lt_size q) (Nat.not_lt.mpr (new b o n e).1)
 ·cases q:H b with
  | none=>exact (new b o q e).2
  | some u=>
   have:=same _ _ q
   rw [e] at this
   cases this
   exact (I.hok b o q).stay (fun c v _ q=>k c v q) (fun c q=>same _ _ q) fun c xs q=>same _ _ q
abbrev Up (xs:Array Nat):Prop:=xs.toList.Pairwise (· < ·)
structure TabOk (led:Bool) (t:SetTable):Prop where
 led_:t.led=led
 none_:t.dummies=#[]
 up:Up t.place
theorem jaq {xs:Array Nat} (h:Up xs) {i j:Nat} (hij:i < j) (hj:j < xs.size):xs.getD i 0 < xs.getD j 0:=by
 have hi:i < xs.size:=by omega
 have:=List.pairwise_iff_getElem.mp h i j (by simpa using hi) (by simpa using hj) hij
 simpa [Array.getD,hi,hj] using this
theorem Kn {xs:Array Nat} (h:Up xs) (j:Nat):∀ (f lo hi:Nat),lo≤hi→hi≤xs.size→hi≤lo+f→(∀ i,i < lo→xs.getD i 0 < j)→(∀ i,hi≤i→i < xs.size→j≤xs.getD i 0)→
  (SetTable.below.go xs j f lo hi)≤xs.size∧(∀ i,i < SetTable.below.go xs j f lo hi→xs.getD i 0 < j)∧∀ i,SetTable.below.go xs j f lo hi≤i→i < xs.size→j≤xs.getD i 0
 | 0,lo,hi,h1,h2,h3,a,b=>by
  unfold SetTable.below.go
  exact ⟨by omega,a,fun i hi'=>b i (by omega)⟩
 | f+1,lo,hi,h1,h2,h3,a,b=>by
  unfold SetTable.below.go
  by_cases e:lo < hi
  ·rw [if_pos e]
   dsimp only
   have hm:(lo+hi) / 2 < xs.size:=by omega
   have eg:xs.getD ((lo+hi) / 2) j=xs.getD ((lo+hi) / 2) 0:=by simp [Array.getD,hm]
   rw [eg]
   by_cases c:xs.getD ((lo+hi) / 2) 0 < j
   ·rw [if_pos c]
    refine Kn h j f ((lo+hi) / 2+1) hi (by omega) h2 (by omega) (fun i hi'=>?_) b
    rcases Nat.lt_or_ge i ((lo+hi) / 2) with z | z
    ·exact Nat.lt_trans (jaq h z hm) c
    ·have:i=(lo+hi) / 2:=by omega
     subst this
     exact c
   ·rw [if_neg c]
    refine Kn h j f lo ((lo+hi) / 2) (by omega) (by omega) (by omega) a fun i hi' hs=>?_
    rcases Nat.lt_or_ge ((lo+hi) / 2) i with z | z
    ·exact Nat.le_trans (Nat.le_of_not_lt c) (Nat.le_of_lt (jaq h z hs))
    ·have:i=(lo+hi) / 2:=by omega
     subst this
     exact Nat.le_of_not_lt c
  ·rw [if_neg e]
   exact ⟨by omega,a,fun i hi'=>b i (by omega)⟩
theorem Km {xs:Array Nat} (h:Up xs) (j:Nat):SetTable.below xs j≤xs.size∧(∀ i,i < SetTable.below xs j→xs.getD i 0 < j)∧∀ i,SetTable.below xs j≤i→i < xs.size→j≤xs.getD i 0:=
 Kn h j xs.size 0 xs.size (Nat.zero_le _) (Nat.le_refl _) (by omega) (fun i h=>by omega) fun i h1 h2=>by omega
theorem jep {xs:Array Nat} {i:Nat} (h:i < xs.size):xs[i]?=some (xs.getD i 0):=by simp [Array.getD,h]
theorem jbB {xs:Array Nat} (h:Up xs) {j:Nat} (hj:xs[SetTable.below xs j]?≠some j):Up (SetTable.insertAt xs (SetTable.below xs j) j):=by
 obtain ⟨b1,b2,b3⟩:=Km h j
 unfold Up
 rw [SetTable.toList_insertAt]
 have hd:∀ x∈xs.toList.drop (SetTable.below xs j),j < x:=fun x hx=>by
  obtain ⟨i,hi,rfl⟩:=List.mem_iff_getElem.mp hx
  rw [List.length_drop] at hi
  rw [List.getElem_drop]
  have hs:SetTable.below xs j+i < xs.size:=by simpa using (by omega:SetTable.below xs j+i < xs.toList.length)
  have e:xs.toList[SetTable.below xs j+i]'(by simpa using hs)=xs.getD (SetTable.below xs j+i) 0:=by simp [Array.getD,hs]
  rw [e]
  have ge:=b3 (SetTable.below xs j+i) (by omega) hs
  rcases Nat.lt_or_ge j (xs.getD (SetTable.below xs j+i) 0) with z | z
  ·exact z
  ·have eq:xs.getD (SetTable.below xs j+i) 0=j:=by omega
   rcases Nat.eq_zero_or_pos i with rfl | hp
   ·exact absurd (by rw [Nat.add_zero] at eq hs;rw [jep hs,eq]) hj
   ·have:=jaq h (i:=SetTable.below xs j) (j:=SetTable.below xs j+i) (by omega) hs
    have:=b3 (SetTable.below xs j) (Nat.le_refl _) (by omega)
    omega
 have ht:∀ x∈xs.toList.take (SetTable.below xs j),x < j:=fun x hx=>by
  obtain ⟨i,hi,rfl⟩:=List.mem_iff_getElem.mp hx
  rw [List.length_take] at hi
  rw [List.getElem_take]
  have hs:i < xs.size:=by simpa using (by omega:i < xs.toList.length)
  have e:xs.toList[i]'(by simpa using hs)=xs.getD i 0:=by simp [Array.getD,hs]
  rw [e]
  exact b2 i (by omega)
 refine List.pairwise_append.mpr ⟨h.sublist (List.take_sublist _ _),List.pairwise_cons.mpr ⟨hd,h.sublist (List.drop_sublist _ _)⟩,fun x hx y hy=>?_⟩
 rcases List.mem_cons.mp hy with rfl | hy
 ·exact ht x hx
 ·exact Nat.lt_trans (ht x hx) (hd y hy)
theorem Zd {led:Bool} {t:SetTable} (h:TabOk led t) {hashAt:Nat→Int} {hh:Int} (hne:∀ i,(hashAt i == hh)=false):∀ (f:Nat) (p:SetTable.Probe) (m:SetTable.Met),p.dummy=none→SetTable.probe.go t hashAt hh f p=some m→∃ j,m=.empty j none∧t.slot j=.empty
 | 0,p,m,_,e=>by
  unfold SetTable.probe.go at e
  cases e
 | f+1,p,m,hd,e=>by
  unfold SetTable.probe.go at e
  cases hs:t.slot p.j with
  | empty=>
   rw [hs] at e
   cases e
   exact ⟨p.j,by rw [hd],hs⟩
  | dummy=>
   exfalso
   unfold SetTable.slot at hs
   dsimp only at hs
   rw [h.none_] at hs
   split at hs
   ·cases hs
   ·simp [SetTable.has] at hs
  | live i=>
   rw [hs] at e
   dsimp only at e
   rw [hne i] at e
   rw [if_neg Bool.false_ne_true] at e
   refine Zd h hne f _ m ?_ e
   unfold SetTable.advance
   split
   ·exact hd
   ·exact hd
theorem jaN {led:Bool} {t:SetTable} (h:TabOk led t) {hh:Int} {j:Nat} {d:Bool} (e:t.freeSlot hh=some (j,d)):t.place[SetTable.below t.place j]?≠some j:=by
 unfold SetTable.freeSlot at e
 cases hp:t.probe (fun _=>hh+1) hh (t.probeStart hh) with
 | none=>rw [hp] at e;cases e
 | some m=>
  obtain ⟨j',rfl,hs⟩:=Zd h (fun _=>beq_eq_false_iff_ne.mpr (by omega)) _ _ m rfl (show SetTable.probe.go t (fun _=>hh+1) hh _ _=some m from hp)
  rw [hp] at e
  cases e
  unfold SetTable.slot at hs
  dsimp only at hs
  intro z
  split at hs
  ·cases hs
  ·next c=>
   refine c ?_
   have z':t.place[SetTable.below t.place j']?=some j':=z
   rw [z']
   simp
theorem jb2 (n:Nat):Up (Array.range n):=by
 unfold Up
 rw [Array.toList_range]
 exact List.pairwise_lt_range
theorem yD {led:Bool} {t:SetTable} (h:t.led=led) (n:Nat):TabOk led (t.standIn n):=⟨h,rfl,jb2 n⟩
theorem jcm {led:Bool} {t:SetTable} (h:TabOk led t) {j:Nat} (hj:t.place[SetTable.below t.place j]?≠some j):TabOk led (t.put j).1:=by
 refine ⟨h.led_,?_,jbB h.up hj⟩
 unfold SetTable.put
 dsimp only
 rw [h.none_]
 split
 ·simp [SetTable.eraseAt]
 ·rfl
theorem jbu {led:Bool} {t:SetTable} (h:TabOk led t) (es:Array (Int×Value)) (hh:Int) (x:Value):TabOk led (layNew t es hh x).2.1:=by
 unfold layNew
 split
 ·next slot d e=>
  dsimp only
  unfold SetTable.orStandIn
  split
  ·exact jcm h (jaN h e)
  ·exact yD (jcm h (jaN h e)).led_ _
 ·exact yD h.led_ _
theorem jaK {mask finger moves:Nat} {led plain:Bool} {hashes:Array Int} {t:SetTable} {o:Array Nat} (h:SetTable.laid mask finger moves led plain hashes=some (t,o)):TabOk led t:=by
 unfold SetTable.laid at h
 cases hl:SetTable.layClean mask hashes with
 | none=>rw [hl] at h;cases h
 | some owner=>
  rw [hl] at h
  cases h
  refine ⟨rfl,rfl,?_⟩
  unfold Up
  dsimp only
  have key:∀ l:List Nat,(l.filterMap fun j=>(owner.getD j none).map (fun k=>(j,k))).map (·.1)=l.filter fun j=>(owner.getD j none).isSome:=by
   intro l
   induction l with
   | nil=>rfl
   | cons a l ih=>
    rw [List.filterMap_cons,List.filter_cons]
    cases owner.getD a none with
    | none=>simpa using ih
    | some k=>
     show a :: List.map _ _=_
     rw [ih]
     rfl
  show List.Pairwise _ (List.map _ _)
  rw [key]
  exact List.pairwise_lt_range.sublist List.filter_sublist
theorem jcj {led:Bool} {t:SetTable} (h:TabOk led t) (es:Array (Int×Value)) (n:Nat):TabOk led (relayAll t es n).2.1:=by
 unfold relayAll
 split
 ·next t' o e=>
  dsimp only
  split
  ·have:=jaK (show SetTable.laid _ _ _ _ _ _=some (t',o) from e)
   rw [h.led_] at this
   exact this
  ·exact yD h.led_ _
 ·exact yD h.led_ _
theorem jbg {led:Bool} {t:SetTable} (h:TabOk led t):TabOk led { t with plain:=false }:=⟨h.led_,h.none_,h.up⟩
abbrev ledOf (w:World):Bool:=!(w.params.followText "set-order")
end L2
namespace PySem
section
variable {prog:Program} {w:World} {A:Around} {E:Value→Shared→Prop} {s:Shared}
theorem Jy (a:Value) {Q₁:Value→Shared→Prop}
  (h:Q₁ (.ref s.heap.objs.size) { s with heap:=s.heap.push { cls:=.type "set",dict:=none,data:=.set #[] 0 (.fresh 0 0 (L2.ledOf w)) } }) :
  codeAny (model prog w) A (.call (.builtin "set.__new__") ⟨[.type "set",a],[]⟩) (wants Q₁ E) s:=by
 refine codeAny_of_tree ?_
 show wpAny _ A.in1 (do checkBuiltinCall "set.__new__" ⟨[.type "set",a],[]⟩;again (.builtin "set.__new__" ⟨[.type "set",a],[]⟩)) _ _ s
 refine wpAny_bind (wpAny_of_eq (F.newCall_set_1 a) (wpAny_pure ⟨plainId_quiet F.plain_set_new _,codeAny_builtin F.entry_set_new ?_⟩))
 rw [Around.under_plainId F.plain_set_new _]
 unfold Builtin.«set.__new__» Builtin.Frozenset.newClass
 have hsub:=sub_set_self
 obtain ⟨hp,g,d,tk,os⟩:=s
 dsimp only
 wp_walk
 refine wpAny_askSetting (wpAny_pure ?_)
 dsimp only
 simp only [newObj]
 refine wpAny_bind (wpAny_alloc (wpAny_pure ?_))
 exact wpAny_pure h
end
namespace F
theorem slot_seti_next:Slot "set_iterator" "__next__" "set_iterator.__next__":=
 .of (owner:="set_iterator") (n:="__next__") (by rw [typeLookup_type,builtinLookup_eq_fast];kernel_rfl) (by decide +kernel) (by decide +kernel) (by decide +kernel)
  (by first | exact .inl (by decide +kernel) | exact .inr (by decide +kernel)) (by rw [isSubtype_type];kernel_rfl)
theorem entry_seti_next:entryFor table "set_iterator.__next__" = some Builtin.«set_iterator.__next__»:=entryFor_of_tree (by kernel_rfl)
theorem args_seti_next (a:Value):argsOk "set_iterator.__next__" ⟨[a],[]⟩:=by unfold argsOk;kernel_rfl
theorem entry_set_iter':entryFor table "set.__iter__" = some Builtin.«frozenset.__iter__»:=entryFor_alias (id':="frozenset.__iter__") (by kernel_rfl) (by first | rfl | decide +kernel) (by decide +kernel) (by kernel_rfl)
end F
end PySem
namespace L2
open PySem PySem.Spec PyProof.Rows PySem.W
abbrev kd (es:Array (Int×Value)) (ep:Nat) (t:SetTable):Obj:={ cls:=.type "set",dict:=none,data:=.set es ep t }
abbrev K2 (first:Value) (i:Nat) (a:Addr) (n ep:Nat):Obj:={ cls:=.type "set_iterator",data:=.fields #[first,.int i 0,.ref a,.int n 0,.int ep 0] }
def zB (es:Array (Int×Value)) (t:SetTable):Bool:=!t.plain && decide (es.size > 1)
section
variable {prog:Program} {w:World} {A:Around} {E:Value→Shared→Prop} {s:Shared}
theorem jae {src:Source} {n:Nat} {Q:Nat→Shared→Prop} (hn:n≠0) (h:∀ i d',i < n→Q i { s with drawn:=d' }):wpAny (model prog w) A (choose src n) Q E s:=by
 intro Γ p hΓ
 show Sem.wp _ _ (.choose src n .pure) _ _ _ _
 rw [Sem.wp_choose]
 exact ⟨hn,h _ _ (Nat.mod_lt _ (Nat.pos_of_ne_zero hn))⟩
theorem yw {α:Type}:∀ {l:List α} {i:Nat} {x:α},l[i]?=some x→(x :: l.eraseIdx i).Perm l
 | [],i,x,e=>by simp at e
 | a :: l,0,x,e=>by
  simp at e
  subst e
  exact List.Perm.refl _
 | a :: l,i+1,x,e=>by
  simp at e
  have ih:=yw (l:=l) (i:=i) (x:=x) e
  show (x :: a :: l.eraseIdx i).Perm (a :: l)
  exact (List.Perm.swap a x _).trans (ih.cons a)
theorem Kg {α:Type}:∀ (n:Nat) (xs:List α) (s:Shared) (Q:List α→Shared→Prop),xs.length=n→(∀ ys d',ys.Perm xs→Q ys { s with drawn:=d' })→wpAny (model prog w) A (drawOrder n xs) Q E s
 | 0,xs,s,Q,hl,h=>by
  have:xs=[]:=List.length_eq_zero_iff.mp hl
  subst this
  unfold drawOrder
  exact wpAny_pure (h [] s.drawn (List.Perm.refl _))
 | n+1,[],s,Q,hl,h=>by simp at hl
 | n+1,x :: xs,s,Q,hl,h=>by
  unfold drawOrder
  refine wpAny_bind (jae (by simp) fun i d' hi=>?_)
  have hg:(x :: xs)[i]?=some (x :: xs)[i]:=List.getElem?_eq_getElem hi
  rw [hg]
  dsimp only
  refine wpAny_bind (Kg n _ _ _ (by rw [List.length_eraseIdx,if_pos hi];omega) fun ys d2 hp=>?_)
  exact wpAny_pure (h _ d2 ((hp.cons _).trans (yw hg)))
theorem KQ {α:Type} (next:Nat→Nat) (xs:Array α):(pickOrder next xs).toList.Perm xs.toList:=by
 have key:∀ (f k:Nat) (left:List α) (out:Array α),left.length=f→(pickOrder.go next f k left out).toList.Perm (out.toList++left):=by
  intro f
  induction f with
  | zero=>
   intro k left out h
   have:left=[]:=List.length_eq_zero_iff.mp h
   subst this
   unfold pickOrder.go
   rw [List.append_nil]
  | succ f ih=>
   intro k left out h
   unfold pickOrder.go
   have hm:next k % left.length < left.length:=Nat.mod_lt _ (by omega)
   have hg:left[next k % left.length]?=some (left[next k % left.length]'hm):=List.getElem?_eq_getElem hm
   rw [hg]
   dsimp only
   refine (ih (k+1) _ _ (by rw [List.length_eraseIdx,if_pos hm];omega)).trans ?_
   rw [Array.toList_push,List.append_assoc]
   exact (yw hg).append_left _
 have:=key xs.size 0 xs.toList #[] (by simp)
 simpa [pickOrder] using this
theorem ya {I a:Addr} {first:Value} {i:Nat} {es:Array (Int×Value)} {ep:Nat} {t:SetTable} {Q:Option Value→Shared→Prop} (hI:s.heap.get? I=some (K2 first i a es.size ep)) (ha:s.heap.get? a=some (kd es ep t)) (hf:t.fits es.size=true)
  (h:wpAny (model prog w) A.in1 (if let .int slot _:=first then
   (do match ← setNext a slot.toNat i ep with
    | some (x,next)=>
     setField (.ref I) 0 (rawInt next)
     setField (.ref I) 1 (rawInt ((i:Int)+1))
     ret x
    | none=>setField (.ref I) 2 .none;raiseNew (← newExc (.type "StopIteration") []):Sem Fin)
   else (do
    let some places ← seqItems? first | unsupported "internal:set_iterator"
    match places[i]? with
    | some (.int place _)=>
     let x ← setNextDrawn a place.toNat ep
     setField (.ref I) 1 (rawInt ((i:Int)+1))
     ret x
    | some _=>unsupported "internal:set_iterator"
    | none=>setField (.ref I) 0 (rawInt 0);setField (.ref I) 2 .none;raiseNew (← newExc (.type "StopIteration") []):Sem Fin))
   (fun fin s'=>∃ v,fin=.done (.ret v)∧Q (some v) s') (fun e s'=>∃ c o,e=.ref c∧s'.heap.get? c=some o∧o.cls=.type "StopIteration"∧Q none s') s):wpAny (model prog w) A (pyNext (.ref I)) Q E s:=by
 have hT:s.TypeIs (.ref I) "set_iterator":=⟨_,hI,rfl⟩
 unfold pyNext
 refine wpAny_bind (wpAny_attempt (wpAny_callSpecial?_slot (name:=Str.ofString "__next__") hT F.slot_seti_next
  (wpAny_call_entry F.slot_seti_next hT F.entry_seti_next ?_ (F.args_seti_next _))))
 unfold Builtin.«set_iterator.__next__»
 refine wpAny_bind (wpAny_pure (wpAny_bind (wpAny_fieldsOf hI rfl ?_)))
 dsimp only
 refine wpAny_bind ?_
 unfold setEntries
 refine wpAny_bind (wpAny_setState_of ha rfl hf (wpAny_pure ?_))
 rw [if_neg (by simp)]
 simp only [Int.toNat_natCast]
 refine wpAny_mono h (fun fin s' x=>?_) fun e s' x=>?_
 ·obtain ⟨v,rfl,q⟩:=x
  exact ⟨v,rfl,wpAny_pure q⟩
 ·obtain ⟨c,o,rfl,e1,e2,q⟩:=x
  refine wpAny_bind (wpAny_isInstance (T:="StopIteration") ⟨o,e1,e2⟩ isSubtype_stop ?_)
  rw [if_pos rfl]
  exact wpAny_pure q
def ItSt (w:World) (h:Heap) (I a:Addr) (es:Array (Int×Value)) (ep:Nat) (t:SetTable) (vals:List Value) (i:Nat):Prop:=h.get? a=some (kd es ep t)∧
 ((w.params.followText "set-order" = true∧h.get? I=some (K2 (.int 0 0) i a es.size ep)∧vals=(pickOrder (w.params.setOrder a ep) es).toList.map (·.2))∨
   (w.params.followText "set-order" = false∧∃ (T:Addr) (ps:List Nat),h.get? I=some (K2 (.ref T) i a es.size ep)∧h.get? T=some { cls:=.type "tuple",data:=.seq (ps.map fun (p:Nat)=>rawInt p).toArray }∧T≠I∧(∀ p∈ps,p < es.size)∧vals=ps.map fun p=>(es.getD p (0,.none)).2)∨
   (w.params.followText "set-order" = false∧zB es t=false∧∃ slot:Nat,h.get? I=some (K2 (.int slot 0) i a es.size ep)∧SetTable.below t.place slot=i∧vals=es.toList.map (·.2)))
theorem Yj {I:Addr} {o:Obj} {vs:Array Value} {k:Nat} {x:Value} {Q:Option Value→Shared→Prop} (hh:A.handled=none) (hI:s.heap.get? I=some o) (hd:o.data=.fields vs) (hk:k < vs.size) (h:∀ h',(∀ b u,b≠I→s.heap.get? b=some u→h'.get? b=some u)→Q none { s with heap:=h' }) :
  wpAny (model prog w) A.in1 (do setField (.ref I) k x;raiseNew (← newExc (.type "StopIteration") []):Sem Fin) (fun fin s'=>∃ v,fin=.done (.ret v)∧Q (some v) s') (fun e s'=>∃ c o,e=.ref c∧s'.heap.get? c=some o∧o.cls=.type "StopIteration"∧Q none s') s:=by
 refine wpAny_bind (wpAny_setField hI hd hk ?_)
 refine wpAny_bind ?_
 simp only [newExc,newTuple]
 refine wpAny_bind (wpAny_newObj_type ?_ (by size_fits))
 refine wpAny_bind (m:=firstArgMember _ _) (wpAny_of_eq (a:=Value.none) (by first | rfl | (simp only [firstArgMember];rfl)) ?_)
 refine wpAny_newObj_type ?_ (by size_fits)
 simp only [raiseNew]
 refine wpAny_bind (wpAny_handled ?_)
 rw [show A.in1.handled=none from hh]
 refine wpAny_bind (wpAny_pure (wpAny_throw ?_))
 refine ⟨_,_,rfl,Heap.get?_push_size _ rfl,rfl,h _ fun b u hb e=>?_⟩
 exact Heap.get?_push_of_some _ (Heap.get?_push_of_some _ ((Heap.get?_update_ne _ _ _ _ hb).trans e))
theorem zE {Q:Bool→Shared→Prop} (h:Q (w.params.followText "set-order") s):wpAny (model prog w) A setsByText Q E s:=by
 unfold setsByText
 exact wpAny_bind (wpAny_askSetting (wpAny_pure h))
theorem Je {I:Addr} {first:Value} {i:Nat} {a:Addr} {n ep k:Nat} {x:Value} {Q:Unit→Shared→Prop} (hI:s.heap.get? I=some (K2 first i a n ep)) (hk:k < 5)
  (h:∀ h',h'.get? I=some { cls:=.type "set_iterator",data:=.fields (#[first,.int i 0,.ref a,.int n 0,.int ep 0].setIfInBounds k x) }→(∀ b u,b≠I→s.heap.get? b=some u→h'.get? b=some u)→Q () { s with heap:=h' }):wpAny (model prog w) A (setField (.ref I) k x) Q E s:=
 wpAny_setField_rec hI hk fun h' e sb=>h h' e fun b u hb e=>(sb.2 b hb).trans e
theorem jbr {I a:Addr} {es:Array (Int×Value)} {ep:Nat} {t:SetTable} {vals:List Value} {i:Nat} {Q:Option Value→Shared→Prop} (hf:t.fits es.size=true) (ht:TabOk (ledOf w) t) (hIa:a≠I) (hst:ItSt w s.heap I a es ep t vals i) (hi:i < vals.length)
  (h:∀ h',ItSt w h' I a es ep t vals (i+1)→(∀ b u,b≠I→s.heap.get? b=some u→h'.get? b=some u)→Q (some (vals.getD i Value.none)) { s with heap:=h' }):wpAny (model prog w) A (pyNext (.ref I)) Q E s:=by
 obtain ⟨ha,hm⟩:=hst
 rcases hm with ⟨hb,hI,hv⟩ | ⟨hb,T,ps,hI,hT,hTI,hps,hv⟩ | ⟨hb,hd,slot,hI,hs,hv⟩
 ·refine ya hI ha hf ?_
  show wpAny _ _ (setNext a (Int.toNat 0) i ep >>= _) _ _ _
  refine wpAny_bind ?_
  unfold setNext
  refine wpAny_bind (wpAny_setState_of ha rfl hf (wpAny_bind (zE ?_)))
  dsimp only
  rw [hb,if_pos rfl,if_neg (by simp)]
  refine wpAny_bind ?_
  unfold setWalk
  refine wpAny_bind (wpAny_setState_of ha rfl hf (wpAny_bind (zE ?_)))
  rw [hb,if_pos rfl]
  refine wpAny_bind (wpAny_askSetting (wpAny_pure (wpAny_pure ?_)))
  have hg:(pickOrder (w.params.setOrder a ep) es)[i]?=some ((pickOrder (w.params.setOrder a ep) es)[i]'(by rw [hv] at hi;simpa using hi)):=Array.getElem?_eq_getElem _
  have hvi:vals.getD i Value.none=((pickOrder (w.params.setOrder a ep) es)[i]'(by rw [hv] at hi;simpa using hi)).2:=by
   subst hv
   have hi':i < (pickOrder (w.params.setOrder a ep) es).size:=by simpa using hi
   simp [hi']
  show wpAny _ _ (match ((pickOrder (w.params.setOrder a ep) es)[i]?).map fun e=>(e.2,Int.toNat 0) with | some (x,next)=>_ | none=>_) _ _ _
  rw [hg]
  dsimp only [Option.map]
  refine wpAny_bind (Je hI (by decide) fun h1 e1 k1=>?_)
  refine wpAny_bind (Je (s:={ s with heap:=h1 }) (first:=.int 0 0) e1 (by decide) fun h2 e2 k2=>wpAny_pure ⟨_,rfl,?_⟩)
  rw [← hvi]
  refine h h2 ⟨k2 _ _ hIa (k1 _ _ hIa ha),.inl ⟨hb,?_,hv⟩⟩ fun b u hb e=>k2 _ _ hb (k1 _ _ hb e)
  exact e2
 ·refine ya hI ha hf ?_
  show wpAny _ _ (seqItems? (.ref T) >>= _) _ _ _
  refine wpAny_bind (wpAny_seqItems hT rfl ?_)
  have hi':i < ps.length:=by rw [hv,List.length_map] at hi;exact hi
  have hg:(List.map (fun (p:Nat)=>rawInt p) ps).toArray[i]?=some (rawInt ps[i]):=by simp [hi']
  dsimp only
  rw [hg]
  have hpl:=hps _ (List.getElem_mem hi')
  show wpAny _ _ (setNextDrawn a (Int.toNat (ps[i]:Nat)) ep >>= _) _ _ _
  rw [Int.toNat_natCast]
  refine wpAny_bind ?_
  unfold setNextDrawn
  refine wpAny_bind (wpAny_setState_of ha rfl hf ?_)
  dsimp only
  rw [if_neg (by simp),Array.getElem?_eq_getElem hpl]
  refine wpAny_pure ?_
  refine wpAny_bind (Je hI (by decide) fun h1 e1 k1=>wpAny_pure ⟨_,rfl,?_⟩)
  have hvi:vals.getD i Value.none=es[ps[i]].2:=by
   subst hv
   simp [hi',hpl]
  show Q (some es[ps[i]].2) _
  rw [← hvi]
  refine h h1 ⟨k1 _ _ hIa ha,.inr (.inl ⟨hb,T,ps,?_,k1 _ _ hTI hT,hTI,hps,hv⟩)⟩ k1
  exact e1
 ·refine ya hI ha hf ?_
  show wpAny _ _ (setNext a (Int.toNat (slot:Nat)) i ep >>= _) _ _ _
  rw [Int.toNat_natCast]
  refine wpAny_bind ?_
  unfold setNext
  refine wpAny_bind (wpAny_setState_of ha rfl hf (wpAny_bind (zE ?_)))
  dsimp only
  rw [hb,if_neg Bool.false_ne_true]
  have hi':i < es.size:=by rw [hv,List.length_map,Array.length_toList] at hi;exact hi
  have hled:t.led=true:=by rw [ht.led_];unfold ledOf;rw [hb];rfl
  have hpz:t.place.size=es.size:=by
   simp only [SetTable.fits,Bool.and_eq_true,beq_iff_eq] at hf
   exact hf.1
  show wpAny _ _ (if zB es t=true then _ else _) _ _ _
  rw [hd,if_neg Bool.false_ne_true]
  refine wpAny_bind ?_
  show wpAny _ _ (if (!t.led && !es.isEmpty)=true then _ else _) _ _ _
  rw [hled,if_neg (by simp)]
  refine wpAny_pure (wpAny_pure ?_)
  rw [hs,Array.getElem?_eq_getElem hi',Array.getElem?_eq_getElem (by omega)]
  dsimp only
  refine wpAny_bind (Je hI (by decide) fun h1 e1 k1=>?_)
  refine wpAny_bind (Je (s:={ s with heap:=h1 }) (first:=.int ((t.place[i]'(by omega)+1:Nat):Int) 0) e1 (by decide) fun h2 e2 k2=>wpAny_pure ⟨_,rfl,?_⟩)
  have hvi:vals.getD i Value.none=es[i].2:=by
   subst hv
   simp [hi']
  rw [← hvi]
  refine h h2 ⟨k2 _ _ hIa (k1 _ _ hIa ha),.inr (.inr ⟨hb,hd,t.place[i]'(by omega)+1,?_,?_,hv⟩)⟩ fun b u hb e=>k2 _ _ hb (k1 _ _ hb e)
  ·exact e2
  ·obtain ⟨b1,b2,b3⟩:=Km ht.up (t.place[i]'(by omega)+1)
   have eg:t.place.getD i 0=t.place[i]'(by omega):=by
    have hlt:i < t.place.size:=by omega
    simp [Array.getD,hlt]
   have h1:i < SetTable.below t.place (t.place[i]'(by omega)+1):=by
    rcases Nat.lt_or_ge i (SetTable.below t.place (t.place[i]'(by omega)+1)) with z | z
    ·exact z
    ·have:=b3 i z (by omega)
     omega
   rcases Nat.lt_or_ge (i+1) (SetTable.below t.place (t.place[i]'(by omega)+1)) with z | z
   ·have h2:=b2 (i+1) z
    have h3:=jaq ht.up (i:=i) (j:=i+1) (by omega) (by omega)
    omega
   ·omega
theorem jcU {I a:Addr} {es:Array (Int×Value)} {ep:Nat} {t:SetTable} {vals:List Value} {i:Nat} {Q:Option Value→Shared→Prop} (hh:A.handled=none) (hf:t.fits es.size=true) (ht:TabOk (ledOf w) t) (hIa:a≠I) (hst:ItSt w s.heap I a es ep t vals i) (hi:i=vals.length)
  (h:∀ h',(∀ b u,b≠I→s.heap.get? b=some u→h'.get? b=some u)→Q none { s with heap:=h' }):wpAny (model prog w) A (pyNext (.ref I)) Q E s:=by
 obtain ⟨ha,hm⟩:=hst
 rcases hm with ⟨hb,hI,hv⟩ | ⟨hb,T,ps,hI,hT,hTI,hps,hv⟩ | ⟨hb,hd,slot,hI,hs,hv⟩
 ·refine ya hI ha hf ?_
  show wpAny _ _ (setNext a (Int.toNat 0) i ep >>= _) _ _ _
  refine wpAny_bind ?_
  unfold setNext
  refine wpAny_bind (wpAny_setState_of ha rfl hf (wpAny_bind (zE ?_)))
  dsimp only
  rw [hb,if_pos rfl,if_neg (by simp)]
  refine wpAny_bind ?_
  unfold setWalk
  refine wpAny_bind (wpAny_setState_of ha rfl hf (wpAny_bind (zE ?_)))
  rw [hb,if_pos rfl]
  refine wpAny_bind (wpAny_askSetting (wpAny_pure (wpAny_pure ?_)))
  have hg:(pickOrder (w.params.setOrder a ep) es)[i]?=none:=by
   rw [hi,hv]
   simp
  show wpAny _ _ (match ((pickOrder (w.params.setOrder a ep) es)[i]?).map fun e=>(e.2,Int.toNat 0) with | some (x,next)=>_ | none=>_) _ _ _
  rw [hg]
  exact Yj hh hI rfl (by simp) h
 ·refine ya hI ha hf ?_
  show wpAny _ _ (seqItems? (.ref T) >>= _) _ _ _
  refine wpAny_bind (wpAny_seqItems hT rfl ?_)
  have hg:(List.map (fun (p:Nat)=>rawInt p) ps).toArray[i]?=none:=by
   rw [hi,hv]
   simp
  dsimp only
  rw [hg]
  dsimp only
  refine wpAny_bind (Je hI (by decide) fun h1 e1 k1=>?_)
  exact Yj (s:={ s with heap:=h1 }) hh e1 rfl (by simp) fun h' k=>h h' fun b u hb e=>k _ _ hb (k1 _ _ hb e)
 ·refine ya hI ha hf ?_
  show wpAny _ _ (setNext a (Int.toNat (slot:Nat)) i ep >>= _) _ _ _
  rw [Int.toNat_natCast]
  refine wpAny_bind ?_
  unfold setNext
  refine wpAny_bind (wpAny_setState_of ha rfl hf (wpAny_bind (zE ?_)))
  dsimp only
  rw [hb,if_neg Bool.false_ne_true]
  have hled:t.led=true:=by rw [ht.led_];unfold ledOf;rw [hb];rfl
  show wpAny _ _ (if zB es t=true then _ else _) _ _ _
  rw [hd,if_neg Bool.false_ne_true]
  refine wpAny_bind ?_
  show wpAny _ _ (if (!t.led && !es.isEmpty)=true then _ else _) _ _ _
  rw [hled,if_neg (by simp)]
  refine wpAny_pure (wpAny_pure ?_)
  have hg:es[i]?=none:=by
   rw [hi,hv]
   simp
  rw [hs,hg]
  dsimp only
  exact Yj hh hI rfl (by simp) h
end
section
variable {prog:Program} {w:World} {A:Around} {E:Value→Shared→Prop} {s:Shared}
theorem ItSt.kept {h h':Heap} {I a:Addr} {es:Array (Int×Value)} {ep:Nat} {t:SetTable} {vals:List Value} {i:Nat} (x:ItSt w h I a es ep t vals i) (k:∀ b o,h.get? b=some o→o.cls≠.type "list"→h'.get? b=some o):ItSt w h' I a es ep t vals i:=by
 obtain ⟨ha,hm⟩:=x
 refine ⟨k _ _ ha (by simp),?_⟩
 rcases hm with ⟨hb,hI,hv⟩ | ⟨hb,T,ps,hI,hT,r⟩ | ⟨hb,hd,slot,hI,r⟩
 ·exact .inl ⟨hb,k _ _ hI (by simp),hv⟩
 ·exact .inr (.inl ⟨hb,T,ps,k _ _ hI (by simp),k _ _ hT (by simp),r⟩)
 ·exact .inr (.inr ⟨hb,hd,slot,k _ _ hI (by simp),r⟩)
theorem jc3 {a:Addr} {es:Array (Int×Value)} {ep:Nat} {t:SetTable} {Q:Value→Shared→Prop} (ha:s.heap.get? a=some (kd es ep t)) (hf:t.fits es.size=true) (ht:TabOk (ledOf w) t) (hz:es.size≤1000)
  (h:∀ I h' d' vals,s.heap.objs.size≤I→ItSt w h' I a es ep t vals 0→vals.Perm (es.toList.map (·.2))→(∀ b o,s.heap.get? b=some o→h'.get? b=some o)→Q (.ref I) { s with heap:=h',drawn:=d' }):wpAny (model prog w) A (pyIter (.ref a)) Q E s:=by
 have hT:s.TypeIs (.ref a) "set":=⟨_,ha,rfl⟩
 refine wpAny_pyIter_slot hT PySem.F.slot_set_iter (wpAny_call_entry PySem.F.slot_set_iter hT PySem.F.entry_set_iter' ?_ (PySem.F.args_set_iter_1 _))
 unfold Builtin.«frozenset.__iter__»
 refine wpAny_bind (wpAny_pure (wpAny_bind ?_))
 unfold Builtin.Frozenset.sizeOf setEntries
 refine wpAny_bind (wpAny_bind (wpAny_setState_of ha rfl hf (wpAny_pure (wpAny_pure ?_))))
 refine wpAny_bind ?_
 unfold setDrawn
 refine wpAny_bind (wpAny_setState_of ha rfl hf (wpAny_bind (zE (wpAny_pure ?_))))
 dsimp only
 show wpAny _ _ (if (!(w.params.followText "set-order") && zB es t)=true then _ else _) _ _ _
 have fin:∀ (first:Value) (s1:Shared) (vals:List Value),s1.heap.get? a=some (kd es ep t)→vals.Perm (es.toList.map (·.2))→(∀ b o,s.heap.get? b=some o→s1.heap.get? b=some o)→s1.gens=s.gens→s1.toks=s.toks→s1.os=s.os→s.heap.objs.size≤s1.heap.objs.size→
   (∀ h' I,(∀ b o,s1.heap.get? b=some o→h'.get? b=some o)→s1.heap.objs.size=I→h'.get? I=some (K2 first 0 a es.size ep)→ItSt w h' I a es ep t vals 0)→
   wpAny (model prog w) A.in1 (do let e ← setEpoch a;let i ← newFields "set_iterator" [first,rawInt 0,.ref a,rawInt es.size,rawInt e];ret i) (fun fin s'=>∃ v,fin=Fin.done (Flow.ret v)∧∃ T' r,s'.TypeIs v T'∧typeLookup (.type T') "__next__" = pure (some r)∧Q v s') E s1:=by
  intro first s1 vals h1 hp hk eg et eo hle hst
  refine wpAny_bind (wpAny_setEpoch_of h1 rfl hf ?_)
  refine wpAny_bind (wpAny_newObj_type (wpAny_pure ⟨_,rfl,"set_iterator",_,⟨_,Heap.get?_push_size _ rfl,rfl⟩,PySem.F.slot_seti_next.lookup,?_⟩))
  obtain ⟨hp1,g1,d1,t1,o1⟩:=s1
  dsimp only at eg et eo
  subst eg et eo
  exact h _ _ d1 vals hle (hst _ _ (fun b o e=>Heap.get?_push_of_some _ e) rfl (Heap.get?_push_size _ rfl)) hp fun b o e=>Heap.get?_push_of_some _ (hk b o e)
 cases hb:w.params.followText "set-order" with
 | true=>
  rw [if_neg (by simp)]
  refine wpAny_bind (wpAny_pure ?_)
  refine fin (rawInt 0) s ((pickOrder (w.params.setOrder a ep) es).toList.map (·.2)) ha ((KQ _ _).map _) (fun _ _ e=>e) rfl rfl rfl (Nat.le_refl _) fun h' I k _ hI=>?_
  exact ⟨k _ _ ha,.inl ⟨hb,hI,rfl⟩⟩
 | false=>
  cases hd:zB es t with
  | true=>
   rw [if_pos (by simp)]
   refine wpAny_bind (Kg es.size (List.range es.size) s _ (by simp) fun ps d' hp=>?_)
   refine wpAny_bind (wpAny_newObj_type ?_ (by show (List.map _ ps).length≤_;rw [List.length_map,hp.length_eq,List.length_range];exact Nat.le_of_lt (jA hz)))
   have hps:∀ p∈ps,p < es.size:=fun p h=>List.mem_range.mp (hp.mem_iff.mp h)
   have hvp:(ps.map fun p=>(es.getD p (0,.none)).2).Perm (es.toList.map (·.2)):=by
    have h1:=hp.map fun p=>(es.getD p (0,.none)).2
    have e:((List.range es.size).map fun p=>(es.getD p (0,Value.none)).2)=es.toList.map (·.2):=by
     apply List.ext_getElem
     ·simp
     ·intro i h1 h2
      have hi:i < es.size:=by simpa using h1
      simp [hi]
    rw [e] at h1
    exact h1
   have lt:∀ o:Obj,s.heap.objs.size < (s.heap.push o).objs.size:=fun o=>by rw [size_push'];exact Nat.lt_succ_self _
   refine fin (.ref s.heap.objs.size) _ (ps.map fun p=>(es.getD p (0,.none)).2) (Heap.get?_push_of_some _ ha) hvp (fun b o e=>Heap.get?_push_of_some _ e) rfl rfl rfl (Nat.le_of_lt (lt _)) fun h' I k eI hI=>?_
   refine ⟨k _ _ (Heap.get?_push_of_some _ ha),.inr (.inl ⟨hb,s.heap.objs.size,ps,hI,k _ _ (Heap.get?_push_size _ rfl),?_,hps,rfl⟩)⟩
   rw [← eI]
   exact Nat.ne_of_lt (lt _)
  | false=>
   rw [if_neg (by simp)]
   refine wpAny_bind (wpAny_pure ?_)
   refine fin (rawInt 0) s (es.toList.map (·.2)) ha (List.Perm.refl _) (fun _ _ e=>e) rfl rfl rfl (Nat.le_refl _) fun h' I k _ hI=>?_
   refine ⟨k _ _ ha,.inr (.inr ⟨hb,hd,0,hI,?_,rfl⟩)⟩
   obtain ⟨b1,b2,b3⟩:=Km ht.up 0
   rcases Nat.eq_zero_or_pos (SetTable.below t.place 0) with z | z
   ·exact z
   ·exact absurd (b2 0 z) (Nat.not_lt_zero _)
theorem Zw {S I a:Addr} {es:Array (Int×Value)} {ep:Nat} {t:SetTable} {vals:List Value} {res:Value} {R:Result→Shared→Prop} (hh:A.handled=none) (hf:t.fits es.size=true) (ht:TabOk (ledOf w) t) (hIa:a≠I) (hSI:S≠I) (hz:vals.length≤1000) :
  ∀ (k i:Nat) (s:Shared) (c:Nat),i+k=vals.length→ItSt w s.heap I a es ep t vals i→s.heap.get? S=some { cls:=.type "list",dict:=none,data:=.seq (vals.take i).toArray c,slots:=#[] }→
   (∀ h' c',h'.get? S=some { cls:=.type "list",dict:=none,data:=.seq vals.toArray c',slots:=#[] }→(∀ b o,b≠S→b≠I→s.heap.get? b=some o→h'.get? b=some o)→R (.ok (.ret res)) { s with heap:=h' })→
   codeAny (model prog w) A (.builtin "list.extend.loop" ⟨[.ref S,.ref I,res],[]⟩) R s:=by
 intro k
 induction k with
 | zero=>
  intro i s c hk hst hS hR
  have hi:i=vals.length:=by omega
  refine codeAny_builtin PySem.F.entry_extend_loop ?_
  rw [Around.under_plainId PySem.F.plain_extend_loop _]
  show wpAny _ A.in1 (pyNext (.ref I) >>= _) _ _ s
  refine wpAny_bind (jcU (A:=A.in1) hh hf ht hIa hst hi fun h1 k1=>?_)
  refine wpAny_pure ?_
  rw [hi,List.take_length] at hS
  exact hR h1 c (k1 _ _ hSI hS) fun b o _ hb e=>k1 _ _ hb e
 | succ k ih=>
  intro i s c hk hst hS hR
  have hi:i < vals.length:=by omega
  refine codeAny_builtin PySem.F.entry_extend_loop ?_
  rw [Around.under_plainId PySem.F.plain_extend_loop _]
  show wpAny _ A.in1 (pyNext (.ref I) >>= _) _ _ s
  refine wpAny_bind (jbr (A:=A.in1) hf ht hIa hst hi fun h1 st1 k1=>?_)
  dsimp only
  have hS1:=k1 _ _ hSI hS
  refine wpAny_bind ?_
  show wpAny _ _ (updateSeq S (·.push (vals.getD i Value.none))) _ _ _
  refine wpAny_updateSeq hS1 rfl ?_ (by simp only [List.size_toArray,List.length_take];exact Nat.le_of_lt (jA (by omega))) (by simp only [Array.size_push,List.size_toArray,List.length_take];exact Nat.le_succ_of_le (Nat.le_of_lt (jA (by omega))))
  refine wpAny_pure ⟨plainId_quiet PySem.F.plain_extend_loop _,?_⟩
  obtain ⟨c2,hS2⟩:∃ c2,(h1.update S (Obj.mapSeq (·.push (vals.getD i Value.none)))).get? S=some (seqObj "list" ((vals.take i).toArray.push (vals.getD i Value.none)) c2):=⟨_,get?_update_seq hS1 _⟩
  have oth:∀ b o,b≠S→h1.get? b=some o→(h1.update S (Obj.mapSeq (·.push (vals.getD i Value.none)))).get? b=some o:=fun b o hb e=>(Heap.get?_update_other _ _ (Ne.symm hb)).trans e
  have et:((vals.take i).toArray.push (vals.getD i Value.none))=(vals.take (i+1)).toArray:=by
   rw [List.take_succ,List.getElem?_eq_getElem hi]
   simp [hi]
  rw [et] at hS2
  refine ih (i+1) _ c2 (by omega) (st1.kept fun b o e hc=>oth b o (fun z=>?_) e) hS2 fun h' c' e1 e2=>hR h' c' e1 fun b o hb hb2 e=>e2 b o hb hb2 (oth b o hb (k1 _ _ hb2 e))
  rw [z,hS1] at e
  cases e
  exact hc rfl
end
open PySem PySem.Spec PySem.Calls PyProof.Rows PySem.W
section
variable {prog:Program} {w:World} {A:Around} {E:Value→Shared→Prop} {s:Shared}
theorem jc6 {r:Addr} {Q:Bool→Shared→Prop} (hT:s.TypeIs (.ref r) "set") (h:Q false s):wpAny (model prog w) A (Builtin.List.listLengthHint (.ref r)) Q E s:=by
 unfold Builtin.List.listLengthHint
 refine wpAny_bind (wpAny_specialOf hT PySem.F.slot_set_len.lookup ?_)
 generalize hid:("set.__len__" : String)=id0
 wp_delta
 rw [show splitId id0=some ("set","__len__") from by subst hid;decide +kernel]
 subst hid
 refine wpAny_bind (wpAny_isInstance (T:="set") (b:=true) hT (by rw [isSubtype_type];kernel_rfl) ?_)
 refine wpAny_ite_split (fun hab=>absurd hab (by decide)) (fun _=>?_)
 refine wpAny_ite_split (fun _=>?_) (fun hab=>absurd (by decide +kernel) hab)
 exact wpAny_bind (wpAny_typeOf hT (wpAny_pure h))
theorem ZG {a:Addr} {es:Array (Int×Value)} {ep:Nat} {t:SetTable} {R:List Value→Shared→Prop} (hh:A.handled=none) (ha:s.heap.get? a=some (kd es ep t)) (hf:t.fits es.size=true) (ht:TabOk (ledOf w) t) (hz:es.size≤1000)
  (h:∀ h' d' vals,vals.Perm (es.toList.map (·.2))→(∀ b o,s.heap.get? b=some o→h'.get? b=some o)→R vals { s with heap:=h',drawn:=d' }):wpAny (model prog w) A (collect (.ref a)) R E s:=by
 have haS:a < s.heap.objs.size:=Heap.lt_size ha
 unfold collect
 refine wpAny_bind (wpAny_runValue (codeAny_builtin entry_proto_collect' ?_))
 rw [Around.under_plainId PySem.F.plain_proto_collect _]
 show wpAny _ A.in1 (newList [] >>= fun l=>again (.builtin "list.__iadd__" ⟨[l,.ref a],[]⟩)) _ _ s
 refine wpAny_bind (wpAny_newObj_type ?_)
 refine wpAny_pure ⟨plainId_quiet PySem.F.plain_list_iadd _,codeAny_builtin entry_list_iadd' ?_⟩
 rw [Around.under_plainId PySem.F.plain_list_iadd _]
 show wpAny _ A.in1 (Builtin.List.listExtendWith (.ref s.heap.objs.size) (.ref a) (.ref s.heap.objs.size)) _ _ _
 have hS:(s.heap.push { cls:=.type "list",data:=.seq ([]:List Value).toArray }).get? s.heap.objs.size=some { cls:=.type "list",data:=.seq #[] }:=Heap.get?_push_size _ rfl
 have ha1:(s.heap.push { cls:=.type "list",data:=.seq ([]:List Value).toArray }).get? a=some (kd es ep t):=Heap.get?_push_of_some _ ha
 have old1:∀ b o,s.heap.get? b=some o→(s.heap.push { cls:=.type "list",data:=.seq ([]:List Value).toArray }).get? b=some o:=fun b o e=>Heap.get?_push_of_some _ e
 have sz1:s.heap.objs.size < (s.heap.push { cls:=.type "list",data:=.seq ([]:List Value).toArray }).objs.size:=Heap.lt_size hS
 generalize (s.heap.push { cls:=.type "list",data:=.seq ([]:List Value).toArray })=h1 at *
 unfold Builtin.List.listExtendWith
 refine wpAny_bind (wpAny_typeOf (T:="set") ⟨_,ha1,rfl⟩ ?_)
 have e1:Builtin.List.listSameRef (.ref s.heap.objs.size) (.ref a)=false:=by
  have:s.heap.objs.size≠a:=Nat.ne_of_gt haS
  simp [Builtin.List.listSameRef,this]
 rw [if_neg (by rw [e1];decide)]
 refine wpAny_bind (jc3 (A:=A.in1) (s:={ s with heap:=h1 }) ha1 hf ht hz fun I h2 d2 vals hI st hp old2=>?_)
 have ha2:=old2 _ _ ha1
 have hS2:=old2 _ _ hS
 have hSI:s.heap.objs.size≠I:=Nat.ne_of_lt (Nat.lt_of_lt_of_le sz1 hI)
 have hIa:a≠I:=Nat.ne_of_lt (Nat.lt_of_lt_of_le (Nat.lt_trans haS sz1) hI)
 have hvz:vals.length≤1000:=by
  rw [hp.length_eq,List.length_map,Array.length_toList]
  exact hz
 refine wpAny_bind (wpAny_holding (jc6 ⟨_,ha2,rfl⟩ ?_))
 refine wpAny_ite_split (fun _=>?_) (fun _=>?_)
 ·refine wpAny_bind (wpAny_rule (wpAny_bind ?_))
  show wpAny _ _ (updateSeq s.heap.objs.size (·.push .none) >>= fun _=>updateSeq s.heap.objs.size (·.pop)) _ _ _
  refine wpAny_bind (wpAny_updateSeq hS2 rfl ?_ (by decide) (by show 1≤sizeLine+1;omega))
  obtain ⟨c3,hS3⟩:∃ c3,(h2.update s.heap.objs.size (Obj.mapSeq (·.push Value.none))).get? s.heap.objs.size=some (seqObj "list" (#[].push Value.none) c3):=⟨_,get?_update_seq hS2 _⟩
  refine wpAny_updateSeq hS3 rfl ?_ (by show 1≤sizeLine;rw [sizeLine_eq];decide) (by show 0≤sizeLine+1;omega)
  obtain ⟨c4,hS4⟩:∃ c4,((h2.update s.heap.objs.size (Obj.mapSeq (·.push Value.none))).update s.heap.objs.size (Obj.mapSeq (·.pop))).get? s.heap.objs.size=some (seqObj "list" ((#[].push Value.none).pop) c4):=⟨_,get?_update_seq hS3 _⟩
  have oth:∀ b o,b≠s.heap.objs.size→h2.get? b=some o→((h2.update s.heap.objs.size (Obj.mapSeq (·.push Value.none))).update s.heap.objs.size (Obj.mapSeq (·.pop))).get? b=some o:=fun b o hb e=>(Heap.get?_update_other _ _ (Ne.symm hb)).trans ((Heap.get?_update_other _ _ (Ne.symm hb)).trans e)
  refine wpAny_pure ⟨plainId_quiet PySem.F.plain_extend_loop _,Zw hh hf ht hIa hSI hvz vals.length 0 _ c4 (by omega) (st.kept fun b o e hc=>oth b o (fun z=>?_) e) hS4 fun h' c' e k=>?_⟩
  ·rw [z,hS2] at e
   cases e
   exact hc rfl
  ·show wpAny _ A (load s.heap.objs.size >>= _) _ _ _
   refine wpAny_bind (wpAny_load e (wpAny_pure ?_))
   refine h h' d2 vals hp fun b o q=>?_
   have hb:=Heap.lt_size q
   exact k b o (Nat.ne_of_lt hb) (Nat.ne_of_lt (Nat.lt_of_lt_of_le (Nat.lt_trans hb sz1) hI)) (oth b o (Nat.ne_of_lt hb) (old2 _ _ (old1 _ _ q)))
 ·refine wpAny_pure ⟨plainId_quiet PySem.F.plain_extend_loop _,Zw hh hf ht hIa hSI hvz vals.length 0 _ _ (by omega) st hS2 fun h' c' e k=>?_⟩
  show wpAny _ A (load s.heap.objs.size >>= _) _ _ _
  refine wpAny_bind (wpAny_load e (wpAny_pure ?_))
  refine h h' d2 vals hp fun b o q=>?_
  have hb:=Heap.lt_size q
  exact k b o (Nat.ne_of_lt hb) (Nat.ne_of_lt (Nat.lt_of_lt_of_le (Nat.lt_trans hb sz1) hI)) (old2 _ _ (old1 _ _ q))
end
theorem Inv.drawn {X:Cx} {pins:List (Addr×Obj)} {σ:St} {H:Hp} {s:Shared} {h':Heap} {d':Drawn} (I:Inv X pins σ H s) (k:∀ b u,s.heap.get? b=some u→h'.get? b=some u):Inv X pins σ H { s with heap:=h',drawn:=d' }:=
 I.call (g':=s.gens) (t':=s.toks) (d':=d') (ch:=[]) (Un.kept k) (I.hok.kept k) I.bare fun _ z=>nomatch z
theorem jbL {X:Cx} {scope:Scope} {own:List Str} {fr:List Nat} {elt tg iter:Expr} {ifs:List Expr} {pos:Pos} {wi:TI} {g:TG} {tt:TT} {te:TE} {use:Option (Value→Sem Unit)} (hc:X.calm=true) (O:CompOk X scope fr) (hi:PI X tg iter wi)
  (hb:∀ s H ex,PG (blk X scope own fr s H ex) tg g∧PTs (blk X scope own fr s H ex) ifs tt∧PE (blk X scope own fr s H ex) elt te)
  (hs:∀ x,foldedSetIterable iter X.env x=pure x) {pins:List (Addr×Obj)} {s:Shared} {σ:St} {H:Hp} {Q:VK} {R:Value→Shared→Prop} (I:Inv X pins σ H s) (h:KG own fr wi g tt te σ H Q) (hx:∀ e s',X.xe e s'↔False)
  (fin:∀ (p C:Addr) (H':Hp) (s':Shared) (m:Str→Option Value),s'.heap.Ns C m→H' C=none→C≠X.env.locals→(∀ x c,X.env.cells.lookup x=some c→c≠C)→X.s₀.heap.objs.size≤C→(∀ p∈X.pn++pins,p.1≠C)→Inv X pins σ H' s'→(∀ h',Heap.SameBut C s'.heap h'→Inv X pins σ H' { s' with heap:=h' })→Q (.ref p) H'→
   compPost (model X.prog X.w) X.A X.xe use R (.ref p) C (.ok .next) s') :
  wpAny (model X.prog X.w) X.A (comprehension (.ListComp elt [⟨tg,iter,ifs,0⟩] scope pos) scope X.env (firstIterPos [⟨tg,iter,ifs,0⟩] pos) (newList []) false (eval iter X.env) use) R X.xe s:=by
 have hsome:∀ x∈scope.names,x.2=.free→(X.env.cells.lookup x.1).isSome=true:=fun x hx' e=>by
  obtain ⟨c,hc⟩:=I.ok.has x.1 (O.frees x hx' e)
  rw [hc];rfl
 have no:∀ (E:Value→Shared→Prop) (x:Value) (s':Shared),X.xe x s'→E x s':=fun E x s' z=>((hx x s').mp z).elim
 refine wpAny_comprehension_free (cl:=zG X.env.cells scope.names []) rfl hs (yz hsome) O.kind O.loc ?_
 refine thn (hi pins s σ H _ I h) fun v s1 h1=>thn h1 fun itv s2 h2=>?_
 obtain ⟨it,fp,tn,J,H2,e,I2,T,st2,f2,q2⟩:=h2
 subst e
 refine wpAny_newObj_type ?_
 have nw:H2 s2.heap.objs.size=none:=I2.fresh
 obtain ⟨W,⟨m0,w0⟩,turn⟩:=q2 _ nw
 generalize hp:s2.heap.objs.size=p at *
 have I3:Inv X pins σ (upd H2 p (.lst [])) { s2 with heap:=s2.heap.push { cls:=.type "list",dict:=none,data:=.seq ([]:List Value).toArray } }:=by
  have:=I2.lnew (ys:=[]) (its:=[]) (t':=s2.toks) .nil (Nat.zero_le _)
  rw [hp] at this
  exact this
 have lt2:∀ b∈fp,b < s2.heap.objs.size:=fun b hb=>by
  obtain ⟨o,ho,_⟩:=T.obj _ _ st2 b hb
  exact Heap.lt_size ho
 have fpn:∀ b∈fp,(upd H2 p (.lst [])) b=none:=fun b hb=>by
  rw [jl (by rw [← hp];exact Nat.ne_of_lt (lt2 b hb))]
  exact (f2 b hb).1
 generalize hs3:({ s2 with heap:=s2.heap.push { cls:=.type "list",dict:=none,data:=.seq ([]:List Value).toArray } }:Shared)=s3 at *
 have sz3:s3.heap.objs.size=p+1:=by
  rw [← hs3]
  show (s2.heap.push _).objs.size=_
  rw [Heap.size_push,hp]
 have st3:tn 0 s3.heap:=T.keep 0 _ _ st2 fun b hb o e=>by
  rw [← hs3]
  exact Heap.get?_push_of_some _ e
 refine wpAny_newFunctionEnv O.nocell (by intro y hy;simp at hy) (fun h4 hns4 hsb4=>?_) O.kind
 have k4:∀ b o,s3.heap.get? b=some o→h4.get? b=some o:=fun b o e=>hsb4.extBut b o (Nat.ne_of_lt (Heap.lt_size e)) (Heap.get?_push_of_some _ e)
 have hns4':h4.Ns s3.heap.objs.size fun _=>none:=by
  have z:(fun x:Str=>([]:List (Str×Value)).reverse.lookup x)=fun _=>none:=by funext x;rfl
  rw [z] at hns4
  exact hns4
 have fo:∀ b∈fp,y7 X pins (upd H2 p (.lst [])) b∧b < s3.heap.objs.size:=fun b hb=>⟨⟨fpn b hb,(f2 b hb).2⟩,by rw [sz3,← hp];exact Nat.lt_succ_of_lt (lt2 b hb)⟩
 have I4:=YF (own:=own) (fr:=fr) (t1:=s3.toks+([]:List (Str×Value)).length) I3 O fo hns4' k4
 have st4:tn 0 h4:=T.keep 0 _ _ st3 fun b hb o e=>k4 b o e
 obtain ⟨hg,ht,he⟩:=hb s3 (upd H2 p (.lst [])) fp
 have stat:∀ {H':Hp} {pn:List (Addr×Obj)} {s':Shared} {σ':St},Inv (blk X scope own fr s3 (upd H2 p (.lst [])) fp) [] σ' H' s'→(∀ b∈fp,H' b=none)→∀ b∈fp,y7 (blk X scope own fr s3 (upd H2 p (.lst [])) fp) [] H' b:=fun {H' pn s' σ'} J hn b hb'=>
  ⟨hn b hb',(J.ok.exf b hb').1,J.ok.exfs b hb',.inl hb',(J.ok.exf b hb').2,fun p hp=>absurd hp (by simp [blk])⟩
 have nocells:∀ x c,X.env.cells.lookup x=some c→c≠s3.heap.objs.size:=fun x c e=>by
  obtain ⟨v,q⟩:=I3.cell x c e
  exact Nat.ne_of_lt q.lt
 have loop:∀ s5:Shared,s5={ s3 with heap:=h4,toks:=s3.toks+([]:List (Str×Value)).length }→
   codeAny (model X.prog X.w) X.A (.compLoop (.ListComp elt [⟨tg,iter,ifs,0⟩] scope pos) 0 (.ref it) (.ref p) (blk X scope own fr s3 (upd H2 p (.lst [])) fp).env) (compPost (model X.prog X.w) X.A X.xe use R (.ref p) s3.heap.objs.size) s5:=by
  rintro s5 rfl
  refine yT (fun n s'=>∃ i σ' H',Inv (blk X scope own fr s3 (upd H2 p (.lst [])) fp) [] σ' H' s'∧tn i s'.heap∧(∀ b∈fp,H' b=none)∧W i n σ' H') ?_ m0 ⟨0,_,_,I4,st4,fpn,w0⟩
  rintro n s6 ⟨i,σ6,H6,I6,st6,fr6,w6⟩
  rcases turn i n σ6 H6 w6 with ⟨stop,qn⟩ | ⟨go,N,hN,step⟩
  ·refine thn (T.done (blk X scope own fr s3 (upd H2 p (.lst [])) fp) rfl rfl rfl hc i [] s6 σ6 H6 _ I6 (stat (pn:=[]) I6 fr6) st6 stop) fun r s7 ⟨hr,I7⟩=>?_
   subst hr
   obtain ⟨m,hm,_⟩:=I7.loc
   exact fin p _ H6 s7 m hm I7.free (Nat.ne_of_gt I3.lt) nocells I3.sz (fun p hp=>Nat.ne_of_lt (Heap.lt_size (I3.pin p hp).1)) (zn I3 fo I7 (Heap.SameBut.refl ..)) (fun h' hs'=>zn I3 fo I7 hs') qn
  ·refine thn (T.item (blk X scope own fr s3 (upd H2 p (.lst [])) fp) rfl rfl rfl hc i [] s6 σ6 H6 _ I6 (stat (pn:=[]) I6 fr6) st6 go) fun r s7 ⟨u,hr,h7⟩=>?_
   subst hr
   refine thn h7 fun _ s8 ⟨x,H8,I8,r8,y8,st8,fr8⟩=>?_
   have I8':=I8.pinned (stat (pn:=[]) I8 fr8) (T.obj _ _ st8)
   refine thn (hg _ s8 σ6 H8 x u _ I8' r8 (step x H8 y8)) fun _ s9 ⟨σ9,H9,I9,q9⟩=>?_
   refine thn (ht _ s9 σ9 H9 _ I9 q9) fun ok s10 ⟨H10,I10,q10⟩=>?_
   have again:∀ {H11:Hp} {s11:Shared},Inv (blk X scope own fr s3 (upd H2 p (.lst [])) fp) ([]++zy fp s8.heap) σ9 H11 s11→(∃ m',m' < n∧W (i+1) m' σ9 H11)→
     ∃ m,m < n∧∃ i σ' H',Inv (blk X scope own fr s3 (upd H2 p (.lst [])) fp) [] σ' H' s11∧tn i s11.heap∧(∀ b∈fp,H' b=none)∧W i m σ' H':=fun {H11 s11} I11 ⟨m',hm,w11⟩=>by
    refine ⟨m',hm,i+1,σ9,H11,I11.unpinned,T.keep _ _ _ st8 fun b hb' o e=>(I11.pin (b,o) (List.mem_append_right _ (List.mem_append_right _ (kT hb' e)))).1,fun b hb'=>?_,w11⟩
    obtain ⟨o,e,d⟩:=T.obj _ _ st8 b hb'
    exact (I11.pin (b,o) (List.mem_append_right _ (List.mem_append_right _ (kT hb' e)))).2.1
   cases ok with
   | false=>
    rw [if_neg Bool.false_ne_true] at q10 ⊢
    exact again I10 (hN _ _ q10)
   | true=>
    rw [if_pos rfl] at q10 ⊢
    refine thn (he _ s10 σ9 H10 _ I10 q10) fun yv s11 ⟨y,H11,I11,r11,ys,hys,hlen,q11⟩=>?_
    have ap:=kO (X:=blk X scope own fr s3 (upd H2 p (.lst [])) fp) ([]++zy fp s8.heap) s11 σ9 H11 (.ref p) [y] (.ref p) [yv] (fun _ H12=>∃ m',m' < n∧W (i+1) m' σ9 H12) I11 rfl (.cons r11 .nil) ⟨p,ys,y,rfl,rfl,hys,hlen,hN _ _ q11⟩
    exact thn ap fun _ s12 ⟨_,H12,I12,_,q12⟩=>again I12 q12
 refine codeAny_compStart_list (loop _ rfl) (T.self X.A 0 _ _ _ st4 (loop _ rfl))
theorem ZW {X:Cx} {scope:Scope} {elt tg iter:Expr} {ifs:List Expr} {pos:Pos} {wi:TI} {g:TG} {tt:TT} {te:TE} {i:Nat} {y:Str} {py spos:Pos} (hN:X.N.Nodup) (hi':X.N[i]?=some y) (hy:Loc X.env.scope y) (own:List Str) (fr:List Nat) (hc:X.calm=true) (O:CompOk X scope fr) (hi:PI X.nox tg iter wi)
  (hb:∀ s H ex,PG (blk X.nox scope own fr s H ex) tg g∧PTs (blk X.nox scope own fr s H ex) ifs tt∧PE (blk X.nox scope own fr s H ex) elt te)
  (hs:∀ x,foldedSetIterable iter X.env x=pure x:=by intro _;rfl)
  (hsw:swapsWith (.ListComp elt [⟨tg,iter,ifs,0⟩] scope pos) (some (.Name y py)) spos.line X.env=pure true:=by rfl)
  (hf:X.fn y=true∨X.env.scope.names.lookup y=some .local:=by first | exact .inl rfl | exact .inr rfl | assumption) :
  PS X.nox (.Assign [.Name y py] (.ListComp elt [⟨tg,iter,ifs,0⟩] scope pos) spos) (jba (KG own fr wi g tt te) (qe i)):=by
 intro pins s σ H D I h
 rw [exec_Assign_Name_used _ _ _ _ hsw]
 refine wpAny_bind (wpAny_standAt (wpAny_bind ?_))
 show wpAny _ _ (do let _ ← comprehension (.ListComp elt [⟨tg,iter,ifs,0⟩] scope pos) scope X.nox.env _ (newList []) false (eval iter X.nox.env) (some (assign (.Name y py) X.nox.env))) _ _ s
 refine wpAny_bind (wpAny_mono (jbL (X:=X.nox) (use:=some (assign (.Name y py) X.nox.env)) (R:=fun _ s'=>SP X.nox pins D .next s') hc ⟨O.kind,O.nocell,O.loc,O.frees,O.fr⟩ hi hb hs I h (fun _ _=>Iff.rfl)
  fun p C H' s' m hm hC hL hcs hz hpn I' back q=>?_) (fun _ s' hq=>wpAny_pure (wpAny_pure hq)) fun _ _ e=>e)
 show wpAny _ _ (assign (.Name y py) X.nox.env (.ref p)) _ _ _
 refine wpAny_assign_Name (KJ (v:=.ref p) I' hN hi' hy rfl (fun s2 I2 hsb=>?_) hf)
 obtain ⟨a,hsa,ha⟩:=hsb
 have hCa:C≠a:=by
  rcases ha with rfl | e
  ·exact hL
  ·exact fun z=>hcs _ _ e z.symm
 refine ⟨m,hm.sameBut hsa hCa,fun h' hs'=>?_⟩
 exact ⟨_,H',I2.turned (t':=s2.toks) (fun b o hb e=>(hs'.2 b hb).trans e) hC hL (.inr hz) hcs hpn,q⟩
section
variable {X:Cx} {pins:List (Addr×Obj)} {σ:St} {H:Hp} {s:Shared} {tg:Expr}
theorem Inv.relabel {a:Addr} {u v:HO} (I:Inv X pins σ H s) (hu:H a=some u) (h1:∀ xs,u≠.tup xs) (h2:∀ ps,u≠.tbl ps) (h3:∀ o z,X.H₀ a≠some (.frz o z)) (h4:∀ x,u≠.own x) (hv:ObjOk X.prog X.w (upd H a v) s.heap a v):Inv X pins σ (upd H a v) s:=by
 have ne:∀ b,H b=none→b≠a:=fun b n z=>by rw [z,hu] at n;cases n
 have nt:∀ b xs,H b=some (.tup xs)→b≠a:=fun b xs n z=>by rw [z,hu] at n;exact h1 xs (Option.some.inj n)
 have no:∀ b x,H b=some (.own x)→b≠a:=fun b x n z=>by rw [z,hu] at n;exact h4 x (Option.some.inj n)
 refine ⟨I.ok,I.os,I.bare,⟨I.base.keep,I.base.slot,fun b o e n hx=>?_,I.base.there,fun b xs e=>?_,fun b o z e=>?_,fun b ps e=>?_⟩,I.loc,I.cell,?_,fun x c e=>?_,fun p hp=>?_,fun b o e=>?_,I.len⟩
 ·have q:=I.base.free b o e n hx
  rw [jl (ne b q)];exact q
 ·have q:=I.base.tups b xs e
  rw [jl (nt b xs q)];exact q
 ·have hb:b≠a:=fun z'=>by subst z';exact h3 _ _ e
  rw [jl hb]
  exact I.base.frzs b o z e
 ·obtain ⟨m,q⟩:=I.base.tbls b ps e
  have hb:b≠a:=fun z'=>by rw [z',hu] at q;exact h2 _ (Option.some.inj q)
  exact ⟨m,by rw [jl hb];exact q⟩
 ·rw [jl (ne _ I.free)];exact I.free
 ·rw [jl (ne _ (I.freeC x c e))];exact I.freeC x c e
 ·obtain ⟨q1,q2,q3⟩:=I.pin p hp
  exact ⟨q1,by rw [jl (ne _ q2)];exact q2,q3⟩
 ·by_cases hb:b=a
  ·subst hb
   rw [ja] at e
   cases e
   exact hv
  ·rw [jl hb] at e
   exact (I.hok b o e).stay (fun _ _ _ q=>q) (fun c q=>by rw [jl (no c _ q)];exact q) fun c xs q=>by rw [jl (nt c xs q)];exact q
end
theorem yX:bootBuiltins "enumerate" = some (.type "enumerate"):=by decide +kernel
def Ite (K:PySem.W.Frag) (l:Addr):It:=
 ⟨fun i H=>∃ xs x,SqL K H l xs∧xs[i]?=some x,fun i H x H'=>∃ t y,H t=none∧(∀ xs,SqL K H l xs→xs[i]?=some y)∧x=.ref t∧H'=upd H t (.tup [.int i,y]),fun i H=>∃ xs,SqL K H l xs∧xs.length≤i⟩
theorem ja9 {P:Program} {w:World} {K:PySem.W.Frag} {elts:List Expr} {x1:Nat} {tp:Pos} (l e it:Addr) (hne:e≠it):Turn P w K (.Tuple elts x1 tp) (Ite K l) [e,it] e (fun i h=>(∃ old,IsEnum h e it i old)∧h.IsListIter it l i) where
 mem:=by simp
 obj:=fun i h st b hb=>by
  obtain ⟨⟨old,h1⟩,o,e2,c,d⟩:=st
  rcases List.mem_cons.mp hb with rfl | hb
  ·exact ⟨_,h1,fun v z=>by cases z⟩
  ·rw [List.mem_singleton.mp hb]
   exact ⟨o,e2,fun v z=>by rw [d] at z;cases z⟩
 keep:=fun i h h' st k=>by
  obtain ⟨⟨old,h1⟩,o,e2,c,d⟩:=st
  exact ⟨⟨old,k e (by simp) _ h1⟩,o,k it (by simp) o e2,c,d⟩
 item:=by
  intro X hP hw hK hc i pins s σ H E I hf st hg
  subst hP hw hK
  obtain ⟨xs,x,hq,hx⟩:=hg
  obtain ⟨⟨old,hE⟩,hit⟩:=st
  obtain ⟨its,rv,p,hz⟩:=I.list hq
  obtain ⟨u,hu,ru⟩:=rv.get hx
  obtain ⟨a0,a1,a2,a3,a4,a5⟩:=hf e (by simp)
  obtain ⟨f0,f1,f2,f3,f4,f5⟩:=hf it (by simp)
  refine wpAny_pyNext_enum_item hE hit p.isList (x:=u) (by simpa using hu) hne fun h' o1 o2 o3 o4 o5=>?_
  refine ⟨_,rfl,wpAny_letOwnedTupleGo_enum (s:={ s with heap:=h',toks:=s.toks+1 }) o1 fun h2 g1 g2=>?_⟩
  have hfr:H s.heap.objs.size=none:=I.hok.fresh (Nat.le_refl _)
  have kp:∀ b o,b≠e→b≠it→s.heap.get? b=some o→h2.get? b=some o:=fun b o hb hb' q=>(g2.2 b hb).trans (o5 b o hb hb' q)
  have nt:∀ b o,s.heap.get? b=some o→b≠s.heap.objs.size:=fun b o q=>Nat.ne_of_lt (Heap.lt_size q)
  have ne:∀ b z,H b=some z→b≠e∧b≠it:=fun b z q=>⟨fun t=>(by rw [t,a0] at q;cases q),fun t=>(by rw [t,f0] at q;cases q)⟩
  have het:s.heap.objs.size≠e:=fun z=>absurd (Heap.lt_size hE) (by rw [← z];exact Nat.lt_irrefl _)
  have I1:Inv X pins σ (upd H s.heap.objs.size (.tup [.int i,x])) { s with heap:=h2,gens:=s.gens,drawn:=s.drawn,toks:=s.toks+1 }:=by
   refine I.step (g':=s.gens) (d':=s.drawn) (ch:=[e,it]) (fun b hb=>?_) (fun b o _ _ hc' q _=>kp b o (fun z=>hc' (by simp [z])) (fun z=>hc' (by simp [z])) q) (fun b o _ _ hc' q _=>⟨o.slots,kp b o (fun z=>hc' (by simp [z])) (fun z=>hc' (by simp [z])) q⟩)
    (fun b o _ q n=>by rw [jl (nt b o q)];exact n) (fun b o hc' q=>⟨o,kp b o (fun z=>hc' (by simp [z])) (fun z=>hc' (by simp [z])) q⟩) (fun b ys q=>by rw [jl (jk q hfr)];exact q) (fun b o z q=>by rw [jl (jk q hfr)];exact q)
    (fun b ps q=>⟨#[],by rw [jl (jk q hfr),q];simp⟩) (fun m hm=>?_) (fun b z q=>?_) I.bare
   ·rcases List.mem_cons.mp hb with rfl | hb
    ·exact ⟨a3,a1,a4,a5⟩
    ·rw [List.mem_singleton.mp hb];exact ⟨f3,f1,f4,f5⟩
   ·obtain ⟨o,es,ep,ho,r⟩:=hm
    exact ⟨o,es,ep,kp _ o (Ne.symm a1) (Ne.symm f1) ho,r⟩
   ·by_cases hb:b=s.heap.objs.size
    ·subst hb
     rw [ja] at q
     cases q
     refine ⟨?_,[Value.int (i:Int) s.toks,u],.cons ⟨_,rfl⟩ (.cons ru .nil),_,(g2.2 _ het).trans o3,rfl,0,rfl⟩
     show 2≤sizeLine
     rw [sizeLine_eq]
     decide
    ·rw [jl hb] at q
     refine (I.hok b z q).stay (fun c v hc' q'=>?_) (fun c q'=>by rw [jl (jk q' hfr)];exact q') fun c ys q'=>by rw [jl (jk q' hfr)];exact q'
     rcases hc' with rfl | hc'
     ·exact kp c v (ne c z q).1 (ne c z q).2 q'
     ·exact kp c v (ne c _ hc').1 (ne c _ hc').2 q'
  refine ⟨.ref s.heap.objs.size,_,I1,rfl,⟨_,x,hfr,fun ys hy=>by rw [I.list_inj hy hq];exact hx,rfl,rfl⟩,⟨⟨_,g1⟩,?_⟩,fun b hb=>?_⟩
  ·obtain ⟨o,z1,z2,z3⟩:=o2
   exact ⟨o,(g2.2 it (Ne.symm hne)).trans z1,z2,z3⟩
  ·rcases List.mem_cons.mp hb with rfl | hb
   ·rw [jl (Ne.symm het)];exact a0
   ·rw [List.mem_singleton.mp hb]
    have:it≠s.heap.objs.size:=by
     obtain ⟨o,z1,_⟩:=hit
     exact nt it o z1
    rw [jl this];exact f0
 done:=by
  intro X hP hw hK hc i pins s σ H E I hf st hg
  subst hP hw hK
  obtain ⟨xs,hq,hx⟩:=hg
  obtain ⟨⟨old,hE⟩,hit⟩:=st
  obtain ⟨its,rv,p,hz⟩:=I.list hq
  obtain ⟨f0,f1,f2,f3,f4,f5⟩:=hf it (by simp)
  have hl:=rv.length
  exact wpAny_pyNext_enum_end (I.ok.hd hc) hE hit p.isList (by simp;omega) fun h' eb=>⟨rfl,I.turned (t':=s.toks) (fun b o hb e=>eb b o hb e) f0 f1 f3 f4 f5⟩
 self:=fun _ _ _ _ _ st h=>by
  obtain ⟨⟨old,hE⟩,_⟩:=st
  exact wpAny_pyIter_enum hE h
section
variable {X:Cx} {elts:List Expr} {x1:Nat} {tp:Pos}
def jeS (K:PySem.W.Frag) (ta:TA):TI:=fun σ H R=>ta σ H fun vs H1=>∃ l,vs=[.ref l]∧(∃ xs,SqL K H1 l xs)∧R (Ite K l) H1
theorem jdU {a:Expr} {ta:TA} {p pos:Pos} (hg:Gl X "enumerate") (hm:X.mg "enumerate" = none) (ha:PA X [a] ta) (hs:starEach [a] X.env=[(false,eval a X.env)]:=by rfl):PI X (.Tuple elts x1 tp) (.Call (.Name "enumerate" p) [a] [] pos) (jeS X.K ta):=by
 intro pins s σ H R I h
 refine Call_ (zA I hg hm yX (PyProof.Rows.callWith_type1 (thn (ha pos pins s σ H _ I h) fun us s1 ⟨vs,H1,I1,r1,q1⟩=>?_) hs rfl))
 obtain ⟨l,e,⟨xs,hq⟩,q⟩:=q1
 subst e
 obtain ⟨u,rfl,rx⟩:=yk r1
 cases rx
 obtain ⟨its,rv,pl,hz⟩:=I1.list hq
 refine call_enumerate_list pl.isList fun h' g1 g2 g3 g4=>?_
 refine wpAny_pyIter_enum (s:={ s1 with heap:=h' }) g1 ?_
 have I2:Inv X pins σ H1 { s1 with heap:=h' }:=I1.kept (t':=s1.toks) g4
 refine ⟨s1.heap.objs.size+1,[s1.heap.objs.size+1,s1.heap.objs.size],_,_,_,rfl,I2,ja9 l _ _ (Nat.succ_ne_self _),⟨⟨_,g1⟩,g2⟩,fun b hb=>?_,q⟩
 rcases List.mem_cons.mp hb with rfl | hb
 ·exact I1.fpOk (Nat.le_succ _) (I1.hok.fresh (Nat.le_succ _))
 ·rw [List.mem_singleton.mp hb]
  exact I1.fpOk (Nat.le_refl _) (I1.hok.fresh (Nat.le_refl _))
theorem jc9 {K:PySem.W.Frag} {l:Addr} {xs:List V} {g:TG} {tb:TS} {D:Ends} {σ:St} {H:Hp} (Pv:Nat→St→Hp→Prop) (h0:Pv 0 σ H) (hl:∀ i σ H,i≤xs.length→Pv i σ H→SqL K H l xs)
  (hs:∀ i y σ H t,xs[i]?=some y→Pv i σ H→H t=none→g (.ref t) σ (upd H t (.tup [.int i,y])) fun σ2 H2=>tb { D with nx:=Pv (i+1),ct:=Pv (i+1),bk:=D.nx } σ2 H2) (hd:∀ σ H,Pv xs.length σ H→D.nx σ H) :
  ∃ W:Nat→Nat→St→Hp→Prop,(∃ m,W 0 m σ H)∧∀ i m σ H,W i m σ H→
   ((Ite K l).stop i H∧D.nx σ H)∨((Ite K l).go i H∧∃ N:St→Hp→Prop,(∀ σ' H',N σ' H'→∃ m',m' < m∧W (i+1) m' σ' H')∧∀ x H',(Ite K l).yld i H x H'→g x σ H' fun σ2 H2=>tb { D with nx:=N,ct:=N,bk:=D.nx } σ2 H2):=by
 refine ⟨fun i m σ H=>m=xs.length - i∧i≤xs.length∧Pv i σ H,⟨xs.length,by simp,Nat.zero_le _,h0⟩,?_⟩
 rintro i m σ H ⟨rfl,hi,p⟩
 have q:=hl i σ H hi p
 by_cases hlt:i < xs.length
 ·refine .inr ⟨⟨xs,xs[i],q,by simp [hlt]⟩,Pv (i+1),fun σ' H' p'=>⟨xs.length - (i+1),by omega,rfl,hlt,p'⟩,fun x H' y=>?_⟩
  obtain ⟨t,z,ht,hz,rfl,rfl⟩:=y
  exact hs i z σ H t (hz xs q) p ht
 ·have:i=xs.length:=by omega
  subst this
  exact .inl ⟨⟨xs,q,Nat.le_refl _⟩,hd σ H p⟩
end
end L2
namespace PySem
open AutoSeq1 (wpAny_loadPart')
section
variable {prog:Program} {w:World} {A:Around} {E:Value→Shared→Prop} {s:Shared}
theorem kQ {it t:Addr} {i:Nat} {items} {x:Value} {Q:Value→Shared→Prop} (hit:s.heap.IsTupleIter it t i) (ht:s.heap.IsTuple t items) (hx:items[i]?=some x)
  (hQ:∀ h',h'.IsTupleIter it t (i+1)→Heap.SameBut it s.heap h'→Q x { s with heap:=h' }):wpAny (model prog w) A (Builtin.SmallTypes.nextOf (.ref it)) Q E s:=by
 obtain ⟨o,ho,hc,hd⟩:=id hit
 obtain ⟨ol,hol,_,nl,hdl⟩:=ht
 unfold Builtin.SmallTypes.nextOf
 refine wpAny_bind (wpAny_callSpecial?_slot (name:=Str.ofString "__next__") hit.typeIs F.slot_tuple_iterator_next (wpAny_call_entry F.slot_tuple_iterator_next hit.typeIs F.entry_tuple_iterator_next ?_ (F.args_tuple_iterator_next_1 _)))
 show wpAny _ _ (field (.ref it) 0 >>= _) _ _ s
 refine wpAny_bind (wpAny_field ho hd (x:=.ref t) rfl ?_)
 show wpAny _ _ (if (Value.ref t == Value.none)=true then _ else _) _ _ s
 rw [if_neg (show ¬ ((Value.ref t == Value.none)=true) from Bool.false_ne_true)]
 show wpAny _ _ (field (.ref it) 1 >>= _) _ _ s
 refine wpAny_bind (wpAny_field ho hd (x:=.int i 0) rfl ?_)
 show wpAny _ _ (seqItems? (.ref t) >>= _) _ _ s
 refine wpAny_bind (wpAny_seqItems hol hdl ?_)
 simp only [Int.toNat_natCast,hx]
 refine wpAny_bind (wpAny_setField ho hd (by simp) (wpAny_pure ⟨x,rfl,wpAny_pure (hQ _ ?_ (Heap.SameBut.update ..))⟩))
 exact ⟨_,Heap.get?_update_self _ ho (Obj.isFreed_of_fields (Obj.data_mapFields hd _)),(Obj.cls_mapFields ..).trans hc,by rw [Obj.data_mapFields hd];simp [rawInt]⟩
theorem qP {it t:Addr} {i:Nat} {items} {Q:Value→Shared→Prop} (hh:A.handled=none) (hit:s.heap.IsTupleIter it t i) (ht:s.heap.IsTuple t items) (hx:items[i]?=none)
  (hE:∀ h' e,Heap.ExtBut it s.heap h'→(∃ o,h'.get? e=some o∧o.cls=.type "StopIteration")→E (.ref e) { s with heap:=h' }):wpAny (model prog w) A (Builtin.SmallTypes.nextOf (.ref it)) Q E s:=by
 obtain ⟨o,ho,hc,hd⟩:=id hit
 obtain ⟨ol,hol,_,nl,hdl⟩:=ht
 unfold Builtin.SmallTypes.nextOf
 refine wpAny_bind (wpAny_callSpecial?_slot (name:=Str.ofString "__next__") hit.typeIs F.slot_tuple_iterator_next (wpAny_call_entry F.slot_tuple_iterator_next hit.typeIs F.entry_tuple_iterator_next ?_ (F.args_tuple_iterator_next_1 _)))
 show wpAny _ _ (field (.ref it) 0 >>= _) _ _ s
 refine wpAny_bind (wpAny_field ho hd (x:=.ref t) rfl ?_)
 show wpAny _ _ (if (Value.ref t == Value.none)=true then _ else _) _ _ s
 rw [if_neg (show ¬ ((Value.ref t == Value.none)=true) from Bool.false_ne_true)]
 show wpAny _ _ (field (.ref it) 1 >>= _) _ _ s
 refine wpAny_bind (wpAny_field ho hd (x:=.int i 0) rfl ?_)
 show wpAny _ _ (seqItems? (.ref t) >>= _) _ _ s
 refine wpAny_bind (wpAny_seqItems hol hdl ?_)
 simp only [Int.toNat_natCast,hx]
 refine wpAny_bind (wpAny_rule (wpAny_bind (wpAny_setField ho hd (by simp) ?_)))
 show wpAny _ _ (newExc (.type "StopIteration") [] >>= _) _ _ _
 refine wpAny_bind ?_
 simp only [newExc,newTuple]
 refine wpAny_bind (wpAny_newObj_type ?_ (by size_fits))
 refine wpAny_bind (m:=firstArgMember _ _) (wpAny_of_eq (a:=Value.none) (by first | rfl | (simp only [firstArgMember];rfl)) ?_)
 refine wpAny_newObj_type ?_ (by size_fits)
 simp only [raiseNew]
 refine wpAny_bind (wpAny_handled ?_)
 first | rw [show A.in1.handled=none from hh] | rw [hh]
 refine wpAny_bind (wpAny_pure (wpAny_throw ?_))
 exact hE _ _ (((Heap.SameBut.update ..).extBut.push _).push _) ⟨_,Heap.get?_push_size _ rfl,rfl⟩
theorem jbF {e it:Addr} {i:Nat} {x old:Value} {Q:Value→Shared→Prop} {St:Heap→Prop} (he:IsEnum s.heap e it i old) (hne:e≠it)
  (hin:∀ Q':Value→Shared→Prop,(∀ h',St h'→Heap.SameBut it s.heap h'→Q' x { s with heap:=h' })→wpAny (model prog w) A (Builtin.SmallTypes.nextOf (.ref it)) Q' E s)
  (keep:∀ h h',St h→(∀ o,h.get? it=some o→h'.get? it=some o)→St h')
  (hQ:∀ h',IsEnumOut h' e it ((i:Int)+1) x s.heap.objs.size→St h'→h'.get? s.heap.objs.size=some { cls:=.type "tuple",data:=.seq #[.int i s.toks,x] }→h'.objs.size=s.heap.objs.size+1→
   (∀ b o,b≠e→b≠it→s.heap.get? b=some o→h'.get? b=some o)→Q (.ref s.heap.objs.size) { s with heap:=h',toks:=s.toks+1 }) :
  wpAny (model prog w) A (Builtin.«enumerate.__next__» ⟨[.ref e],[]⟩) (fun fin s'=>∃ v,fin=.done (.ret v)∧Q v s') E s:=by
 obtain ⟨hp,g,d,tk,os⟩:=s
 show wpAny _ _ (field (.ref e) 2 >>= _) _ _ _
 refine wpAny_bind (wpAny_field he rfl (x:=.ref it) rfl ?_)
 refine wpAny_bind (hin _ fun h1 st1 b1=>?_)
 replace b1:Heap.SameBut it hp h1:=b1
 have e1:IsEnum h1 e it i old:=(b1.2 e hne).trans he
 show wpAny _ _ (field (.ref e) 3 >>= _) _ _ ⟨h1,g,d,tk,os⟩
 refine wpAny_bind (wpAny_field e1 rfl (x:=rawInt i) rfl ?_)
 show wpAny _ _ (field (.ref e) 4 >>= _) _ _ ⟨h1,g,d,tk,os⟩
 refine wpAny_bind (wpAny_field e1 rfl (x:=.none) rfl ?_)
 show wpAny _ _ (mkInt i >>= _) _ _ ⟨h1,g,d,tk,os⟩
 refine wpAny_bind (wpAny_mkInt ?_)
 show wpAny _ _ (setField (.ref e) 3 (rawInt ((i:Int)+1)) >>= _) _ _ ⟨h1,g,d,tk+1,os⟩
 refine wpAny_bind (wpAny_setField_rec e1 (by simp) fun h2 e2 b2=>?_)
 replace b2:Heap.SameBut e h1 h2:=b2
 replace e2:IsEnum h2 e it ((i:Int)+1) old:=e2
 show wpAny _ _ (setField (.ref e) 4 .none >>= _) _ _ ⟨h2,g,d,tk+1,os⟩
 refine wpAny_bind (wpAny_setField_rec e2 (by simp) fun h3 e3 b3=>?_)
 replace b3:Heap.SameBut e h2 h3:=b3
 replace e3:IsEnum h3 e it ((i:Int)+1) old:=e3
 show wpAny _ _ (newTuple [.int i tk,x] >>= _) _ _ ⟨h3,g,d,tk+1,os⟩
 refine wpAny_bind (wpAny_newTuple ?_)
 have hsz:h3.objs.size=hp.objs.size:=by rw [b3.1,b2.1,b1.1]
 have st3:St h3:=keep h1 h3 st1 fun o q=>(b3.2 it (Ne.symm hne)).trans ((b2.2 it (Ne.symm hne)).trans q)
 have e4:IsEnum (h3.push { cls:=.type "tuple",data:=.seq #[.int i tk,x] }) e it ((i:Int)+1) old:=Heap.get?_push_of_some _ e3
 have st4:St (h3.push { cls:=.type "tuple",data:=.seq #[.int i tk,x] }):=keep h3 _ st3 fun o q=>Heap.get?_push_of_some _ q
 have t4:(h3.push { cls:=.type "tuple",data:=.seq #[.int i tk,x] }).get? hp.objs.size=some { cls:=.type "tuple",data:=.seq #[.int i tk,x] }:=by rw [← hsz];exact Heap.get?_push_size _ rfl
 have z4:(h3.push { cls:=.type "tuple",data:=.seq #[.int i tk,x] }).objs.size=hp.objs.size+1:=by rw [Heap.size_push,hsz]
 have k4:∀ b o,b≠e→b≠it→hp.get? b=some o→(h3.push { cls:=.type "tuple",data:=.seq #[.int i tk,x] }).get? b=some o:=fun b o hbe hbi hb=>
  Heap.get?_push_of_some _ (b3.extBut b o hbe (b2.extBut b o hbe (b1.extBut b o hbi hb)))
 have hel:e < hp.objs.size:=Heap.lt_size he
 rw [hsz]
 generalize h3.push { cls:=.type "tuple",data:=.seq #[.int i tk,x] }=h4 at *
 clear e3 b3 e2 b2 e1 b1 st1 st3 hsz
 show wpAny _ _ (Builtin.SmallTypes.ownedTupleIsFree (.ref e) >>= _) _ _ ⟨h4,g,d,tk+1,os⟩
 refine wpAny_bind ?_
 unfold Builtin.SmallTypes.ownedTupleIsFree
 refine wpAny_bind (wpAny_field e4 rfl (x:=.none) rfl (wpAny_pure ?_))
 simp only [if_true]
 refine wpAny_bind (wpAny_rule ?_)
 refine wpAny_bind (wpAny_field e4 rfl (x:=old) rfl ?_)
 refine wpAny_bind (wpAny_setField_rec e4 (by simp) fun h5 e5 b5=>?_)
 replace b5:Heap.SameBut e h4 h5:=b5
 replace e5:IsEnum h5 e it ((i:Int)+1) x:=e5
 show wpAny _ _ (Builtin.SmallTypes.ownedTupleHandOut (.ref e) (.ref hp.objs.size) >>= _) _ _ ⟨h5,g,d,tk+1,os⟩
 refine wpAny_bind ?_
 unfold Builtin.SmallTypes.ownedTupleHandOut
 refine wpAny_bind (wpAny_setField_rec e5 (by simp) fun h6 e6 b6=>?_)
 replace b6:Heap.SameBut e h5 h6:=b6
 replace e6:IsEnumOut h6 e it ((i:Int)+1) x hp.objs.size:=e6
 refine wpAny_setField_rec e6 (by simp) fun h7 e7 b7=>?_
 replace b7:Heap.SameBut e h6 h7:=b7
 replace e7:IsEnumOut h7 e it ((i:Int)+1) x hp.objs.size:=e7
 have k7:∀ b o,b≠e→h4.get? b=some o→h7.get? b=some o:=fun b o hb q=>b7.extBut b o hb (b6.extBut b o hb (b5.extBut b o hb q))
 refine wpAny_bind (wpAny_letGo (wpAny_pure ⟨_,rfl,hQ h7 e7 (keep h4 h7 st4 fun o q=>k7 it o (Ne.symm hne) q) (k7 _ _ (Nat.ne_of_gt hel) t4) (by rw [b7.1,b6.1,b5.1,z4]) fun b o hbe hbi hb=>k7 b o hbe (k4 b o hbe hbi hb)⟩))
theorem Zy {e it t:Addr} {i:Nat} {items:Array Value} {x old:Value} {Q:Option Value→Shared→Prop}
  (he:IsEnum s.heap e it i old) (hit:s.heap.IsTupleIter it t i) (ht:s.heap.IsTuple t items) (hx:items[i]?=some x) (hne:e≠it)
  (hQ:∀ h',IsEnumOut h' e it ((i:Int)+1) x s.heap.objs.size→h'.IsTupleIter it t (i+1)→h'.get? s.heap.objs.size=some { cls:=.type "tuple",data:=.seq #[.int i s.toks,x] }→h'.objs.size=s.heap.objs.size+1→
   (∀ b o,b≠e→b≠it→s.heap.get? b=some o→h'.get? b=some o)→Q (some (.ref s.heap.objs.size)) { s with heap:=h',toks:=s.toks+1 }):wpAny (model prog w) A (pyNext (.ref e)) Q E s:=by
 have hT:s.TypeIs (.ref e) "enumerate":=⟨_,he,rfl⟩
 unfold pyNext
 refine wpAny_bind (wpAny_attempt (wpAny_callSpecial?_slot (name:=Str.ofString "__next__") hT F.slot_enumerate_next (wpAny_call_entry F.slot_enumerate_next hT F.entry_enumerate_next ?_ (F.args_enumerate_next_1 _))))
 exact jbF (St:=fun h=>h.IsTupleIter it t (i+1)) he hne (fun Q' k=>kQ hit ht hx k) (fun h h' st k=>st.at k) fun h' a b c d k=>wpAny_pure (hQ h' a b c d k)
theorem JE {e it t:Addr} {i:Nat} {items:Array Value} {old:Value} {Q:Option Value→Shared→Prop} (hh:A.handled=none)
  (he:IsEnum s.heap e it i old) (hit:s.heap.IsTupleIter it t i) (ht:s.heap.IsTuple t items) (hx:items[i]?=none)
  (hQ:∀ h',Heap.ExtBut it s.heap h'→Q none { s with heap:=h' }):wpAny (model prog w) A (pyNext (.ref e)) Q E s:=by
 have hT:s.TypeIs (.ref e) "enumerate":=⟨_,he,rfl⟩
 unfold pyNext
 refine wpAny_bind (wpAny_attempt (wpAny_callSpecial?_slot (name:=Str.ofString "__next__") hT F.slot_enumerate_next (wpAny_call_entry F.slot_enumerate_next hT F.entry_enumerate_next ?_ (F.args_enumerate_next_1 _))))
 show wpAny _ _ (field (.ref e) 2 >>= _) _ _ _
 refine wpAny_bind (wpAny_field he rfl (x:=.ref it) rfl ?_)
 refine wpAny_bind (qP hh hit ht hx fun h' x he' hx'=>?_)
 obtain ⟨o,ho,hc⟩:=hx'
 refine wpAny_bind (wpAny_isInstance (T:="StopIteration") (b:=true) ⟨o,ho,hc⟩ isSubtype_stop ?_)
 exact wpAny_pure (hQ _ he')
theorem jdd (l:Addr) (items:Array Value) (n:Nat) (dct:Option Addr) (sl:Array (Option Value)) :
  Meets (Builtin.«enumerate.__new__» ⟨[.type "enumerate",.ref l],[]⟩) (fun _ R s=>s.heap.get? l=some { cls:=.type "tuple",dict:=dct,data:=.seq items n,slots:=sl }∧
   R (.ok (.ret (.ref (s.heap.push { cls:=.type "tuple_iterator",data:=.fields #[.ref l,.int 0 0] }).objs.size)))
    { s with heap:=(s.heap.push { cls:=.type "tuple_iterator",data:=.fields #[.ref l,.int 0 0] }).push { cls:=.type "enumerate",data:=.fields #[.none,.bool false,.ref s.heap.objs.size,rawInt 0,.none,.none] } }):=
 .of_wp fun prog w A R s h=>by
  obtain ⟨hp,g,d,tk,os⟩:=s;obtain ⟨hl,h⟩:=h
  have hsub:=sub_enumerate
  have hL:Heap.IsTuple (Shared.heap ⟨hp,g,d,tk,os⟩) l items:=⟨_,hl,rfl,n,rfl⟩
  wp_walk using wpAny_loadPart' hl
  refine wpAny_stack_any fun st=>wpAny_pure ?_
  split
  ·rename_i c _ _ _ _ _
   cases (c == Value.type "enumerate")
   ·wp_walk using wpAny_loadPart' hl,wpAny_pyIter_tuple hL
    exact ⟨_,rfl,h⟩
   ·wp_walk using wpAny_loadPart' hl,wpAny_pyIter_tuple hL
    exact ⟨_,rfl,h⟩
  ·wp_walk using wpAny_loadPart' hl,wpAny_pyIter_tuple hL
   exact ⟨_,rfl,h⟩
theorem jaf {l:Addr} {items:Array Value} {Q:Value→Shared→Prop} (hL:s.heap.IsTuple l items)
  (h:∀ h',IsEnum h' (s.heap.objs.size+1) s.heap.objs.size 0 .none→h'.IsTupleIter s.heap.objs.size l 0→h'.objs.size=s.heap.objs.size+2→
   (∀ b o,s.heap.get? b=some o→h'.get? b=some o)→Q (.ref (s.heap.objs.size+1)) { s with heap:=h' }) :
  wpAny (model prog w) A (call (.type "enumerate") [.ref l]) Q E s:=by
 obtain ⟨⟨c,dct,dt,sl⟩,hl,hc,n,hd⟩:=hL
 replace hc:c=.type "tuple":=hc
 replace hd:dt=.seq items n:=hd
 subst hc hd
 refine callType_new F.called_enumerate (by decide) (F.typeCall_enumerate_1 _) (F.newCall_enumerate_1 _) (fun obj=>F.args_object_init_2 obj _) F.entry_enumerate_new (jdd l items n dct sl) ⟨hl,?_⟩
 have hz:(s.heap.push { cls:=.type "tuple_iterator",data:=.fields #[.ref l,.int 0 0] }).objs.size=s.heap.objs.size+1:=Heap.size_push ..
 show _∧_
 rw [hz]
 have he:IsEnum ((s.heap.push { cls:=.type "tuple_iterator",data:=.fields #[.ref l,.int 0 0] }).push { cls:=.type "enumerate",data:=.fields #[.none,.bool false,.ref s.heap.objs.size,rawInt 0,.none,.none] }) (s.heap.objs.size+1) s.heap.objs.size 0 .none:=by
  have:=Heap.get?_push_size (s.heap.push { cls:=.type "tuple_iterator",data:=.fields #[.ref l,.int 0 0] }) (o:={ cls:=.type "enumerate",data:=.fields #[.none,.bool false,.ref s.heap.objs.size,rawInt 0,.none,.none] }) rfl
  rw [hz] at this;exact this
 exact ⟨⟨_,he,rfl⟩,h _ he ⟨_,Heap.get?_push_of_some _ (Heap.get?_push_size _ rfl),rfl,rfl⟩ (by rw [Heap.size_push,hz]) fun b o x=>Heap.get?_push_of_some _ (Heap.get?_push_of_some _ x)⟩
end
end PySem
namespace L2
open PySem PySem.Spec PyProof.Rows
def jdq (K:PySem.W.Frag) (l:Addr):It:=
 ⟨fun i H=>∃ xs x,SqT K H l xs∧xs[i]?=some x,fun i H x H'=>∃ t y,H t=none∧(∀ xs,SqT K H l xs→xs[i]?=some y)∧x=.ref t∧H'=upd H t (.tup [.int i,y]),fun i H=>∃ xs,SqT K H l xs∧xs.length≤i⟩
theorem ZT {P:Program} {w:World} {K:PySem.W.Frag} {elts:List Expr} {x1:Nat} {tp:Pos} (l e it:Addr) (hne:e≠it):Turn P w K (.Tuple elts x1 tp) (jdq K l) [e,it] e (fun i h=>(∃ old,IsEnum h e it i old)∧h.IsTupleIter it l i) where
 mem:=by simp
 obj:=fun i h st b hb=>by
  obtain ⟨⟨old,h1⟩,o,e2,c,d⟩:=st
  rcases List.mem_cons.mp hb with rfl | hb
  ·exact ⟨_,h1,fun v z=>by cases z⟩
  ·rw [List.mem_singleton.mp hb]
   exact ⟨o,e2,fun v z=>by rw [d] at z;cases z⟩
 keep:=fun i h h' st k=>by
  obtain ⟨⟨old,h1⟩,o,e2,c,d⟩:=st
  exact ⟨⟨old,k e (by simp) _ h1⟩,o,k it (by simp) o e2,c,d⟩
 item:=by
  intro X hP hw hK hc i pins s σ H E I hf st hg
  subst hP hw hK
  obtain ⟨xs,x,hq,hx⟩:=hg
  obtain ⟨⟨old,hE⟩,hit⟩:=st
  obtain ⟨its,rv,p,hz⟩:=I.tuple hq
  obtain ⟨u,hu,ru⟩:=rv.get hx
  obtain ⟨a0,a1,a2,a3,a4,a5⟩:=hf e (by simp)
  obtain ⟨f0,f1,f2,f3,f4,f5⟩:=hf it (by simp)
  refine Zy hE hit (show s.heap.IsTuple l its.toArray from p) (x:=u) (by simpa using hu) hne fun h' o1 o2 o3 o4 o5=>?_
  refine ⟨_,rfl,wpAny_letOwnedTupleGo_enum (s:={ s with heap:=h',toks:=s.toks+1 }) o1 fun h2 g1 g2=>?_⟩
  have hfr:H s.heap.objs.size=none:=I.hok.fresh (Nat.le_refl _)
  have kp:∀ b o,b≠e→b≠it→s.heap.get? b=some o→h2.get? b=some o:=fun b o hb hb' q=>(g2.2 b hb).trans (o5 b o hb hb' q)
  have nt:∀ b o,s.heap.get? b=some o→b≠s.heap.objs.size:=fun b o q=>Nat.ne_of_lt (Heap.lt_size q)
  have ne:∀ b z,H b=some z→b≠e∧b≠it:=fun b z q=>⟨fun t=>(by rw [t,a0] at q;cases q),fun t=>(by rw [t,f0] at q;cases q)⟩
  have het:s.heap.objs.size≠e:=fun z=>absurd (Heap.lt_size hE) (by rw [← z];exact Nat.lt_irrefl _)
  have I1:Inv X pins σ (upd H s.heap.objs.size (.tup [.int i,x])) { s with heap:=h2,gens:=s.gens,drawn:=s.drawn,toks:=s.toks+1 }:=by
   refine I.step (g':=s.gens) (d':=s.drawn) (ch:=[e,it]) (fun b hb=>?_) (fun b o _ _ hc' q _=>kp b o (fun z=>hc' (by simp [z])) (fun z=>hc' (by simp [z])) q) (fun b o _ _ hc' q _=>⟨o.slots,kp b o (fun z=>hc' (by simp [z])) (fun z=>hc' (by simp [z])) q⟩)
    (fun b o _ q n=>by rw [jl (nt b o q)];exact n) (fun b o hc' q=>⟨o,kp b o (fun z=>hc' (by simp [z])) (fun z=>hc' (by simp [z])) q⟩) (fun b ys q=>by rw [jl (jk q hfr)];exact q) (fun b o z q=>by rw [jl (jk q hfr)];exact q)
    (fun b ps q=>⟨#[],by rw [jl (jk q hfr),q];simp⟩) (fun m hm=>?_) (fun b z q=>?_) I.bare
   ·rcases List.mem_cons.mp hb with rfl | hb
    ·exact ⟨a3,a1,a4,a5⟩
    ·rw [List.mem_singleton.mp hb];exact ⟨f3,f1,f4,f5⟩
   ·obtain ⟨o,es,ep,ho,r⟩:=hm
    exact ⟨o,es,ep,kp _ o (Ne.symm a1) (Ne.symm f1) ho,r⟩
   ·by_cases hb:b=s.heap.objs.size
    ·subst hb
     rw [ja] at q
     cases q
     refine ⟨?_,[Value.int (i:Int) s.toks,u],.cons ⟨_,rfl⟩ (.cons ru .nil),_,(g2.2 _ het).trans o3,rfl,0,rfl⟩
     show 2≤sizeLine
     rw [sizeLine_eq]
     decide
    ·rw [jl hb] at q
     refine (I.hok b z q).stay (fun c v hc' q'=>?_) (fun c q'=>by rw [jl (jk q' hfr)];exact q') fun c ys q'=>by rw [jl (jk q' hfr)];exact q'
     rcases hc' with rfl | hc'
     ·exact kp c v (ne c z q).1 (ne c z q).2 q'
     ·exact kp c v (ne c _ hc').1 (ne c _ hc').2 q'
  refine ⟨.ref s.heap.objs.size,_,I1,rfl,⟨_,x,hfr,fun ys hy=>by rw [I.tuple_inj hy hq];exact hx,rfl,rfl⟩,⟨⟨_,g1⟩,?_⟩,fun b hb=>?_⟩
  ·obtain ⟨o,z1,z2,z3⟩:=o2
   exact ⟨o,(g2.2 it (Ne.symm hne)).trans z1,z2,z3⟩
  ·rcases List.mem_cons.mp hb with rfl | hb
   ·rw [jl (Ne.symm het)];exact a0
   ·rw [List.mem_singleton.mp hb]
    have:it≠s.heap.objs.size:=by
     obtain ⟨o,z1,_⟩:=hit
     exact nt it o z1
    rw [jl this];exact f0
 done:=by
  intro X hP hw hK hc i pins s σ H E I hf st hg
  subst hP hw hK
  obtain ⟨xs,hq,hx⟩:=hg
  obtain ⟨⟨old,hE⟩,hit⟩:=st
  obtain ⟨its,rv,p,hz⟩:=I.tuple hq
  obtain ⟨f0,f1,f2,f3,f4,f5⟩:=hf it (by simp)
  have hl:=rv.length
  exact JE (I.ok.hd hc) hE hit (show s.heap.IsTuple l its.toArray from p) (by simp;omega) fun h' eb=>⟨rfl,I.turned (t':=s.toks) (fun b o hb e=>eb b o hb e) f0 f1 f3 f4 f5⟩
 self:=fun _ _ _ _ _ st h=>by
  obtain ⟨⟨old,hE⟩,_⟩:=st
  exact wpAny_pyIter_enum hE h
section
variable {X:Cx} {elts:List Expr} {x1:Nat} {tp:Pos}
def jc5 (K:PySem.W.Frag) (ta:TA):TI:=fun σ H R=>ta σ H fun vs H1=>∃ l,vs=[.ref l]∧(∃ xs,SqT K H1 l xs)∧R (jdq K l) H1
theorem jct {a:Expr} {ta:TA} {p pos:Pos} (hg:Gl X "enumerate") (hm:X.mg "enumerate" = none) (ha:PA X [a] ta) (hs:starEach [a] X.env=[(false,eval a X.env)]:=by rfl):PI X (.Tuple elts x1 tp) (.Call (.Name "enumerate" p) [a] [] pos) (jc5 X.K ta):=by
 intro pins s σ H R I h
 refine Call_ (zA I hg hm yX (PyProof.Rows.callWith_type1 (thn (ha pos pins s σ H _ I h) fun us s1 ⟨vs,H1,I1,r1,q1⟩=>?_) hs rfl))
 obtain ⟨l,e,⟨xs,hq⟩,q⟩:=q1
 subst e
 obtain ⟨u,rfl,rx⟩:=yk r1
 cases rx
 obtain ⟨its,rv,pl,hz⟩:=I1.tuple hq
 refine jaf (show s1.heap.IsTuple l its.toArray from pl) fun h' g1 g2 g3 g4=>?_
 refine wpAny_pyIter_enum (s:={ s1 with heap:=h' }) g1 ?_
 have I2:Inv X pins σ H1 { s1 with heap:=h' }:=I1.kept (t':=s1.toks) g4
 refine ⟨s1.heap.objs.size+1,[s1.heap.objs.size+1,s1.heap.objs.size],_,_,_,rfl,I2,ZT l _ _ (Nat.succ_ne_self _),⟨⟨_,g1⟩,g2⟩,fun b hb=>?_,q⟩
 rcases List.mem_cons.mp hb with rfl | hb
 ·exact I1.fpOk (Nat.le_succ _) (I1.hok.fresh (Nat.le_succ _))
 ·rw [List.mem_singleton.mp hb]
  exact I1.fpOk (Nat.le_refl _) (I1.hok.fresh (Nat.le_refl _))
theorem Jo {K:PySem.W.Frag} {l:Addr} {xs:List V} {g:TG} {tb:TS} {D:Ends} {σ:St} {H:Hp} (Pv:Nat→St→Hp→Prop) (h0:Pv 0 σ H) (hl:∀ i σ H,i≤xs.length→Pv i σ H→SqT K H l xs)
  (hs:∀ i y σ H t,xs[i]?=some y→Pv i σ H→H t=none→g (.ref t) σ (upd H t (.tup [.int i,y])) fun σ2 H2=>tb { D with nx:=Pv (i+1),ct:=Pv (i+1),bk:=D.nx } σ2 H2) (hd:∀ σ H,Pv xs.length σ H→D.nx σ H) :
  ∃ W:Nat→Nat→St→Hp→Prop,(∃ m,W 0 m σ H)∧∀ i m σ H,W i m σ H→
   ((jdq K l).stop i H∧D.nx σ H)∨((jdq K l).go i H∧∃ N:St→Hp→Prop,(∀ σ' H',N σ' H'→∃ m',m' < m∧W (i+1) m' σ' H')∧∀ x H',(jdq K l).yld i H x H'→g x σ H' fun σ2 H2=>tb { D with nx:=N,ct:=N,bk:=D.nx } σ2 H2):=by
 refine ⟨fun i m σ H=>m=xs.length - i∧i≤xs.length∧Pv i σ H,⟨xs.length,by simp,Nat.zero_le _,h0⟩,?_⟩
 rintro i m σ H ⟨rfl,hi,p⟩
 have q:=hl i σ H hi p
 by_cases hlt:i < xs.length
 ·refine .inr ⟨⟨xs,xs[i],q,by simp [hlt]⟩,Pv (i+1),fun σ' H' p'=>⟨xs.length - (i+1),by omega,rfl,hlt,p'⟩,fun x H' y=>?_⟩
  obtain ⟨t,z,ht,hz,rfl,rfl⟩:=y
  exact hs i z σ H t (hz xs q) p ht
 ·have:i=xs.length:=by omega
  subst this
  exact .inl ⟨⟨xs,q,Nat.le_refl _⟩,hd σ H p⟩
end
open PySem PySem.Spec PyProof.Rows PySem.W
mutual
def dEq:D→D→Bool
 | .int i,.int j=>i == j
 | .str x,.str y=>x == y
 | .tup a,.tup b=>dEqL a b
 | _,_=>false
def dEqL:List D→List D→Bool
 | [],[]=>true
 | a :: as,b :: bs=>dEq a b && dEqL as bs
 | _,_=>false
end
mutual
theorem YL:∀ {a b:D},dEq a b=true↔a=b
 | .int i,.int j=>by unfold dEq;rw [beq_iff_eq];exact ⟨(fun h=>by rw [h]),(fun h=>by injection h)⟩
 | .str i,.str j=>by unfold dEq;rw [beq_iff_eq];exact ⟨(fun h=>by rw [h]),(fun h=>by injection h)⟩
 | .tup a,.tup b=>by unfold dEq;rw [dEqL_iff];exact ⟨(fun h=>by rw [h]),(fun h=>by injection h)⟩
 | .int i,.str j=>by unfold dEq;exact ⟨(fun h=>by cases h),(fun h=>by cases h)⟩
 | .int i,.tup j=>by unfold dEq;exact ⟨(fun h=>by cases h),(fun h=>by cases h)⟩
 | .str i,.int j=>by unfold dEq;exact ⟨(fun h=>by cases h),(fun h=>by cases h)⟩
 | .str i,.tup j=>by unfold dEq;exact ⟨(fun h=>by cases h),(fun h=>by cases h)⟩
 | .tup i,.int j=>by unfold dEq;exact ⟨(fun h=>by cases h),(fun h=>by cases h)⟩
 | .tup i,.str j=>by unfold dEq;exact ⟨(fun h=>by cases h),(fun h=>by cases h)⟩
theorem dEqL_iff:∀ {a b:List D},dEqL a b=true↔a=b
 | [],[]=>by unfold dEqL;exact ⟨(fun _=>rfl),(fun _=>rfl)⟩
 | a :: as,b :: bs=>by
  unfold dEqL
  rw [Bool.and_eq_true,YL,dEqL_iff]
  exact ⟨(fun h=>by rw [h.1,h.2]),(fun h=>by injection h with h1 h2;exact ⟨h1,h2⟩)⟩
 | [],b :: bs=>by unfold dEqL;exact ⟨(fun h=>by cases h),(fun h=>by cases h)⟩
 | a :: as,[]=>by unfold dEqL;exact ⟨(fun h=>by cases h),(fun h=>by cases h)⟩
end
instance:DecidableEq D:=fun a b=>if h:dEq a b=true then isTrue (YL.mp h) else isFalse fun e=>h (YL.mpr e)
def LikeV (K:PySem.W.Frag) (H:Hp):Nat→V→V→Prop
 | 0,x,y=>(∃ i,x=.int i∧y=.int i)∨∃ z,x=.str z∧y=.str z
 | n+1,x,y=>LikeV K H n x y∨
  (∃ a b xs ys,x=.ref a∧y=.ref b∧SqT K H a xs∧SqT K H b ys∧xs.length=ys.length∧∀ (j:Nat) x' y',xs[j]?=some x'→ys[j]?=some y'→LikeV K H n x' y')∨
  ∃ a b xs ys,x=.ref a∧y=.ref b∧SqL K H a xs∧SqL K H b ys∧xs.length=ys.length∧∀ (j:Nat) x' y',xs[j]?=some x'→ys[j]?=some y'→LikeV K H n x' y'
theorem LikeV.up {K:PySem.W.Frag} {H:Hp} {n m:Nat} {x y:V} (h:LikeV K H n x y) (hm:n≤m):LikeV K H m x y:=by
 induction hm with
 | refl=>exact h
 | step _ ih=>exact .inl ih
def TKF (H H':Hp):Prop:=(∀ b xs,H b=some (.tup xs)→H' b=some (.tup xs))∧∀ b o u,H b=some (.frz o u)→H' b=some (.frz o u)
theorem TKF.same {H H':Hp} (h:Same H H'):TKF H H':=⟨fun b xs e=>h b _ e,fun b o u e=>h b _ e⟩
section
variable {prog:Program} {w:World} {A:Around} {E:Value→Shared→Prop} {s:Shared}
theorem jdh {t b:Addr} {vs ws:List Value} {Q:Value→Shared→Prop} (ht:IsTup s.heap t vs.toArray) (hb:IsTup s.heap b ws.toArray) (hv:vs=[]) (h:Q (.ref b) s):wpAny (model prog w) A (binaryOp .Add (.ref t) (.ref b)) Q E s:=by
 obtain ⟨⟨cls,dd,data,sl⟩,ho,hc,n,hd⟩:=id ht
 obtain ⟨⟨cls2,dd2,data2,sl2⟩,ho2,hc2,n2,hd2⟩:=id hb
 simp only at hc hd hc2 hd2
 subst hc hd hc2 hd2
 exact concat_meets ⟨_,ho,rfl⟩ ⟨_,ho2,rfl⟩ noFill_tuple_add seq_tuple_add PySem.F.slot_tuple_add PySem.F.entry_tuple_add (PySem.F.args_tuple_add_2 _ _)
   (tuple_addW0 t b vs.toArray ws.toArray n n2 dd dd2 sl sl2 (by simp [hv])) ⟨ho,ho2,h⟩
end
def je6:R2:=fun x y H Q=>∃ a b xs ys,x=.ref a∧y=.ref b∧H a=some (.tup xs)∧H b=some (.tup ys)∧xs.length+ys.length≤sizeLine∧∀ p H',Same H H'→H' p=some (.tup (xs++ys))→Q (.ref p) H'
theorem qc {X:Cx}:OpR X (binaryOp .Add) je6:=by
 intro pins s σ H x y v u Q I rx ry h
 obtain ⟨a,b,xs,ys,rfl,rfl,ha,hb,hz,q⟩:=h
 by_cases hx:xs=[]
 ·cases rx
  cases ry
  obtain ⟨its,r1,p1,_⟩:=I.tuple (SqT.of ha)
  obtain ⟨its2,r2,p2,_⟩:=I.tuple (SqT.of hb)
  subst hx
  exact jdh p1 p2 (r1.nil_iff.mpr rfl) ⟨.ref b,H,I,rfl,q b H (Same.refl _) hb⟩
 ·refine jd5 pins s σ H (.ref a) (.ref b) v u Q I rx ry ⟨a,b,xs,ys,rfl,rfl,SqT.of ha,SqT.of hb,hx,hz,fun hy=>q a H (Same.refl _) (by rw [hy,List.append_nil];exact ha),fun _ p hp=>q p _ (fun c o e=>by rw [jl (jk e hp)];exact e) ja⟩
def jeD (t:TS):TS:=fun D σ H=>∃ J:St→Hp→Prop,t { D with nx:=J } σ H∧∀ σ' H',J σ' H'→D.nx σ' H'
theorem jdO {X:Cx} {st:Stmt} {t:TS} (h:PS X st t):PS X st (jeD t):=by
 intro pins s σ H D I q
 obtain ⟨J,q,k⟩:=q
 refine thn (h pins s σ H _ I q) fun f s1 q1=>?_
 cases f with
 | next=>
  obtain ⟨σ',H',I',e⟩:=q1
  exact ⟨σ',H',I',k _ _ e⟩
 | cont=>exact q1
 | brk=>exact q1
 | ret v=>exact q1
end L2
namespace LW
open PySem L2
mutual
theorem jaM {H H':Hp} (e:∀ b xs,H b=some (.tup xs)→H' b=some (.tup xs)):∀ {d:D} {v:V},Held H d v→Held H' d v
 | .int i,v,h=>by unfold Held at h ⊢;exact h
 | .str x,v,h=>by unfold Held at h ⊢;exact h
 | .tup ds,v,h=>by
  unfold Held at h ⊢
  obtain ⟨a,xs,e1,e2,e3⟩:=h
  exact ⟨a,xs,e1,e a _ e2,heldL_tk e e3⟩
theorem heldL_tk {H H':Hp} (e:∀ b xs,H b=some (.tup xs)→H' b=some (.tup xs)):∀ {ds:List D} {vs:List V},HeldL H ds vs→HeldL H' ds vs
 | [],vs,h=>by unfold HeldL at h ⊢;exact h
 | d :: ds,vs,h=>by
  unfold HeldL at h ⊢
  obtain ⟨v,r,e1,e2,e3⟩:=h
  exact ⟨v,r,e1,jaM e e2,heldL_tk e e3⟩
end
def TK (G G':Hp):Prop:=∀ b xs,G b=some (.tup xs)→G' b=some (.tup xs)
theorem TK.same {G G':Hp} (h:Same G G'):TK G G':=fun b xs e=>h b _ e
theorem TK.upd {G:Hp} {a:Addr} {o u:HO} (h:G a=some o) (hn:∀ xs,o≠.tup xs):TK G (L2.upd G a u):=fun b xs e=>by
 rw [jl (jeN e h (fun z=>hn xs z.symm))]
 exact e
theorem TK.heldL {G G':Hp} (h:TK G G') {d:List D} {v:List V} (x:HeldL G d v):HeldL G' d v:=heldL_tk h x
theorem TK.held {G G':Hp} (h:TK G G') {d:D} {v:V} (x:Held G d v):Held G' d v:=jaM h x
inductive SO (H:Hp):List (Option D)→List V→Prop where
 | nil:SO H [] []
 | non {os:List (Option D)} {vs:List V} (r:SO H os vs):SO H (none :: os) (.non :: vs)
 | tree {d:D} {v:V} {os:List (Option D)} {vs:List V} (h:Held H d v) (r:SO H os vs):SO H (some d :: os) (v :: vs)
theorem SO.tk {H H':Hp} (e:TK H H') {os:List (Option D)} {vs:List V} (h:SO H os vs):SO H' os vs:=by
 induction h with
 | nil=>exact .nil
 | non _ ih=>exact .non ih
 | tree h _ ih=>exact .tree (e.held h) ih
end LW
namespace L2
open PySem PySem.Spec PyProof.Rows PySem.W
abbrev RD:=St→Hp→D→Prop
abbrev RDL:=St→Hp→List D→Prop
def tHD (R:RD):TE:=fun σ H Q=>∃ d,R σ H d∧∀ v H',Same H H'→Held H' d v→Q v H'
def jgr (R:RDL):TA:=fun σ H Q=>∃ ds,R σ H ds∧∀ vs H',Same H H'→HeldL H' ds vs→Q vs H'
structure PD (X:Cx) (e:Expr) (R:RD):Prop where
 h:PE X e (tHD R)
 m:∀ {σ H H' d},Same H H'→R σ H d→R σ H' d
structure PDs (X:Cx) (es:List Expr) (R:RDL):Prop where
 h:PA X es (jgr R)
 m:∀ {σ H H' d},Same H H'→R σ H d→R σ H' d
def rV (i:Nat):RD:=fun σ H d=>∃ v,σ[i]?=some (some v)∧Held H d v
def rK (c:D):RD:=fun _ _ d=>d=c
def rN:RDL:=fun _ _ ds=>ds=[]
def rC (R:RD) (Rs:RDL):RDL:=fun σ H ds=>∃ d r,ds=d :: r∧R σ H d∧Rs σ H r
def rT (R:RDL):RD:=fun σ H d=>∃ ds,d=.tup ds∧ds.length≤1000∧R σ H ds
def rE (t:TE):RD:=fun σ H d=>∀ G,Same H G→∀ Q:VK,(∀ v G',Same G G'→Held G' d v→Q v G')→t σ G Q
theorem PE.weak {X:Cx} {e:Expr} {t t':TE} (h:PE X e t) (w:∀ σ H Q,t' σ H Q→t σ H Q):PE X e t':=fun pins s σ H Q I q=>h pins s σ H Q I (w σ H Q q)
theorem PA.weak {X:Cx} {es:List Expr} {t t':TA} (h:PA X es t) (w:∀ σ H Q,t' σ H Q→t σ H Q):PA X es t':=fun pos pins s σ H Q I q=>h pos pins s σ H Q I (w σ H Q q)
theorem fQ {a b c} (h:FnScope a b c:=by exact ⟨rfl,rfl,rfl,by decide +kernel,rfl,by decide +kernel,by decide +kernel⟩):FnScope a b c:=h
theorem oQ {p q:Prop} (h:p∨q:=by first|exact .inl rfl|exact .inr rfl):p∨q:=h
theorem jgA {i:Nat} {v:V} {σ σ':St} {H:Hp} {Q:St→Hp→Prop} (e:σ.set i (some v)=σ') (h:Q σ' H):qe i v σ H Q:=by subst e;exact h
theorem gQ {i:Nat} {v:V} {σ σ':St} {H:Hp} {Q:St→Hp→Prop} (h:Q σ' H) (e:σ.set i (some v)=σ':=by simp only [List.set_cons_succ,List.set_cons_zero];rfl):qe i v σ H Q:=jgA e h
theorem jO {t:TS} {D:Ends} {σ σ':St} {H:Hp} (e:σ=σ') (h:t D σ' H):t D σ H:=by subst e;exact h
theorem je {H:Hp} {p:Addr} (h:H p=none) (o:HO):Same H (upd H p o):=fun b u q=>by rw [jl (jk q h)];exact q
theorem zh (H:Hp):Same H H:=fun _ _ e=>e
section
variable {X:Cx}
theorem kD (i:Nat) {x:Str} {pos:Pos} (hN:X.N[i]?=some x:=by rfl) (hv:Vis X.env.scope x:=by first | exact Or.inl rfl | exact Or.inr (Or.inl rfl) | exact Or.inr (Or.inr rfl)) (hd:(x == ("__debug__" : Str))=false:=by decide)
  (hcd:(x == ("__classdict__" : Str))=false:=by decide):PD X (.Name x pos) (rV i):=
 ⟨(jcv hN hv hd hcd).weak fun σ H Q ⟨d,⟨v,e,hv⟩,q⟩=>⟨v,e,q v H (zh H) hv⟩,fun s ⟨v,e,h⟩=>⟨v,e,h.mono s⟩⟩
theorem Jf {i j pos}:PD X (.Constant (.int i) j pos) (rK (.int i)):=⟨jcA.weak fun σ H Q ⟨d,e,q⟩=>by cases e;exact q _ H (zh H) qd,fun _ h=>h⟩
theorem jB {x j pos}:PD X (.Constant (.str x) j pos) (rK (.str x)):=⟨jcx.weak fun σ H Q ⟨d,e,q⟩=>by cases e;exact q _ H (zh H) jG,fun _ h=>h⟩
theorem jgd {e:Expr} {t:TE} (h:PE X e t):PD X e (rE t):=⟨h.weak fun σ H Q ⟨d,r,q⟩=>r H (zh H) Q q,fun s r G sG Q q=>r G (s.trans sG) Q q⟩
theorem jv:PDs X [] rN:=⟨jcF.weak fun σ H Q ⟨d,e,q⟩=>by cases e;exact q _ H (zh H) jp,fun _ h=>h⟩
theorem jg {e:Expr} {es:List Expr} {R:RD} {Rs:RDL} (h:PD X e R) (hs:PDs X es Rs) (hp:j5 e=true:=by rfl):PDs X (e :: es) (rC R Rs):=by
 refine ⟨(jge h.h hs.h hp).weak fun σ H Q ⟨ds,⟨d,r,e,h1,h2⟩,q⟩=>?_,fun s ⟨d,r,e,h1,h2⟩=>⟨d,r,e,h.m s h1,hs.m s h2⟩⟩
 subst e
 exact ⟨d,h1,fun v H1 s1 hv=>⟨r,hs.m s1 h2,fun vs H2 s2 hvs=>q _ _ (s1.trans s2) (jj (hv.mono s2) hvs)⟩⟩
theorem jC {es:List Expr} {R:RDL} {x1} {pos:Pos} (h:PDs X es R):PD X (.Tuple es x1 pos) (rT R):=by
 refine ⟨(jcw h.h).weak fun σ H Q ⟨d,⟨ds,e,hl,hr⟩,q⟩=>?_,fun s ⟨ds,e,hl,hr⟩=>⟨ds,e,hl,h.m s hr⟩⟩
 subst e
 refine ⟨ds,hr,fun vs H1 s1 hvs=>⟨?_,fun p hp=>?_⟩⟩
 ·rw [← hvs.length]
  exact Nat.le_of_lt (jA hl)
 ·exact q _ _ (s1.trans (je hp _)) (qW ja (hvs.mono (je hp _)))
structure QA (X:Cx) (es:List Expr) (t:TA):Prop where
 h:PA X es t
structure QE (X:Cx) (e:Expr) (t:TE):Prop where
 h:PE X e t
end
end L2
namespace PySem
section
variable {prog:Program} {w:World} {A:Around} {E:Value→Shared→Prop} {s:Shared}
abbrev qb (h:Heap) (z TI TO:Addr) (f0:Value) (b:Bool):Prop:=
 h.get? z=some { cls:=.type "zip",dict:=none,data:=.fields #[f0,.bool b,.bool false,.ref TI,.ref TO],slots:=#[] }
theorem jeX {z TI TO i1 i2 l1 l2 T:Addr} {oT:Obj} {bb:Bool} {k1 k2:Nat} {xs ys:Array Value} {x y:Value} {Q:Value→Shared→Prop}
  (n1:i1≠z) (n2:i2≠z) (n12:i1≠i2) (m1:l1≠z) (m2:l2≠z) (m21:l2≠i1) (nTz:T≠z) (nTI:TI≠z)
  (hz:qb s.heap z TI TO (rawInt T) bb) (hT:s.heap.get? T=some oT) (hTI:IsPair s.heap TI (.ref i1) (.ref i2))
  (h1:s.heap.IsTupleIter i1 l1 k1) (h2L:s.heap.IsListIter i2 l2 k2) (hl1:s.heap.IsTuple l1 xs) (hl2:s.heap.IsList l2 ys) (hx:xs[k1]?=some x) (hy:ys[k2]?=some y)
  (hQ:∀ h',qb h' z TI TO (rawInt T) true→h'.IsTupleIter i1 l1 (k1+1)→h'.IsListIter i2 l2 (k2+1)→IsPair h' s.heap.objs.size x y→h'.objs.size=s.heap.objs.size+1→
   (∀ c o,c≠z→c≠i1→c≠i2→s.heap.get? c=some o→h'.get? c=some o)→Q (.ref s.heap.objs.size) { s with heap:=h' }) :
  wpAny (model prog w) A (Builtin.«zip.__next__» ⟨[.ref z],[]⟩) (fun fin s'=>∃ v,fin=.done (.ret v)∧Q v s') E s:=by
 show wpAny _ _ (field (.ref z) 2 >>= _) _ _ _
 refine wpAny_bind (wpAny_field hz rfl (x:=.bool false) rfl ?_)
 show wpAny _ _ (field (.ref z) 3 >>= _) _ _ _
 refine wpAny_bind (wpAny_field hz rfl (x:=.ref TI) rfl ?_)
 refine wpAny_bind (wpAny_seqItems hTI rfl ?_)
 show wpAny _ _ (Builtin.SmallTypes.ownedTupleIsFree (.ref z) >>= _) _ _ _
 refine wpAny_bind ?_
 unfold Builtin.SmallTypes.ownedTupleIsFree
 refine wpAny_bind (wpAny_field hz rfl (x:=rawInt T) rfl ?_)
 show wpAny _ _ (loadIfAlive ((T:Int).toNat) >>= _) _ _ _
 rw [Int.toNat_natCast]
 refine wpAny_bind (W.kdx_alive hT ?_)
 simp only [Option.isNone_some,Bool.false_eq_true,if_false]
 refine wpAny_bind (wpAny_field hz rfl (x:=.bool bb) rfl ?_)
 cases bb with
 | true=>
  rw [if_neg (show ¬ ((Value.bool true != Value.bool true)=true) from Bool.false_ne_true)]
  refine wpAny_pure ?_
  simp only [Bool.false_eq_true,if_false,← Array.forIn_toList,List.forIn_cons,List.forIn_nil]
  refine wpAny_bind (wpAny_bind (wpAny_bind (wpAny_holding ?_)))
  show wpAny _ _ (Builtin.SmallTypes.nextOf (.ref i1) >>= _) _ _ _
  refine wpAny_bind (kQ (h1) (hl1) hx fun h2 t2 b2=>wpAny_pure (wpAny_pure ?_))
  dsimp only
  refine wpAny_bind (wpAny_bind (wpAny_holding ?_))
  show wpAny _ _ (Builtin.SmallTypes.nextOf (.ref i2) >>= _) _ _ _
  refine wpAny_bind (wpAny_nextOf_list_item (h2L.extBut b2.extBut n12.symm) (hl2.extBut b2.extBut m21) hy fun h3 t3 b3=>wpAny_pure (wpAny_pure (wpAny_pure ?_)))
  dsimp only
  refine wpAny_bind (wpAny_newTuple (hsz:=by show 2≤sizeLine;decide) (wpAny_pure ⟨_,rfl,?_⟩))
  have sz:h3.objs.size=s.heap.objs.size:=by rw [b3.1,b2.1]
  show Q (.ref h3.objs.size) _
  have hzz:qb h3 z TI TO (rawInt T) true:=b3.extBut _ _ n2.symm (b2.extBut _ _ n1.symm hz)
  have kk:∀ c o,c≠z→c≠i1→c≠i2→s.heap.get? c=some o→h3.get? c=some o:=fun c o c1 c2 c3 e=>b3.extBut _ _ c3 (b2.extBut _ _ c2 (e))
  have t2':h3.IsTupleIter i1 l1 (k1+1):=t2.extBut b3.extBut n12
  have pp:∀ c o,h3.get? c=some o→(h3.push { cls:=.type "tuple",data:=.seq #[x,y] }).get? c=some o:=fun c o e=>Heap.get?_push_of_some _ e
  have np:IsPair (h3.push { cls:=.type "tuple",data:=.seq #[x,y] }) h3.objs.size x y:=Heap.get?_push_size _ rfl
  have zp:(h3.push { cls:=.type "tuple",data:=.seq #[x,y] }).objs.size=s.heap.objs.size+1:=by rw [Heap.size_push,sz]
  rw [sz] at np ⊢
  exact hQ _ (pp _ _ hzz) (t2'.at fun o e=>pp _ o e) (t3.at fun o e=>pp _ o e) np zp fun c o c1 c2 c3 e=>pp _ _ (kk c o c1 c2 c3 e)
 | false=>
  rw [if_pos (show (Value.bool false != Value.bool true)=true from rfl)]
  refine wpAny_bind (wpAny_setField_rec hz (by simp) fun h1' e1 b1=>?_)
  replace b1:Heap.SameBut z s.heap h1':=b1
  replace e1:qb h1' z TI TO (rawInt T) true:=e1
  refine wpAny_pure ?_
  simp only [Bool.false_eq_true,if_false,← Array.forIn_toList,List.forIn_cons,List.forIn_nil]
  refine wpAny_bind (wpAny_bind (wpAny_bind (wpAny_holding ?_)))
  show wpAny _ _ (Builtin.SmallTypes.nextOf (.ref i1) >>= _) _ _ _
  refine wpAny_bind (kQ (h1.extBut b1.extBut n1) (hl1.extBut b1.extBut m1) hx fun h2 t2 b2=>wpAny_pure (wpAny_pure ?_))
  dsimp only
  refine wpAny_bind (wpAny_bind (wpAny_holding ?_))
  show wpAny _ _ (Builtin.SmallTypes.nextOf (.ref i2) >>= _) _ _ _
  refine wpAny_bind (wpAny_nextOf_list_item ((h2L.extBut b1.extBut n2).extBut b2.extBut n12.symm) ((hl2.extBut b1.extBut m2).extBut b2.extBut m21) hy fun h3 t3 b3=>wpAny_pure (wpAny_pure (wpAny_pure ?_)))
  dsimp only
  refine wpAny_bind (wpAny_newTuple (hsz:=by show 2≤sizeLine;decide) (wpAny_pure ⟨_,rfl,?_⟩))
  have sz:h3.objs.size=s.heap.objs.size:=by rw [b3.1,b2.1,b1.1]
  show Q (.ref h3.objs.size) _
  have hzz:qb h3 z TI TO (rawInt T) true:=b3.extBut _ _ n2.symm (b2.extBut _ _ n1.symm e1)
  have kk:∀ c o,c≠z→c≠i1→c≠i2→s.heap.get? c=some o→h3.get? c=some o:=fun c o c1 c2 c3 e=>b3.extBut _ _ c3 (b2.extBut _ _ c2 (b1.extBut _ _ c1 e))
  have t2':h3.IsTupleIter i1 l1 (k1+1):=t2.extBut b3.extBut n12
  have pp:∀ c o,h3.get? c=some o→(h3.push { cls:=.type "tuple",data:=.seq #[x,y] }).get? c=some o:=fun c o e=>Heap.get?_push_of_some _ e
  have np:IsPair (h3.push { cls:=.type "tuple",data:=.seq #[x,y] }) h3.objs.size x y:=Heap.get?_push_size _ rfl
  have zp:(h3.push { cls:=.type "tuple",data:=.seq #[x,y] }).objs.size=s.heap.objs.size+1:=by rw [Heap.size_push,sz]
  rw [sz] at np ⊢
  exact hQ _ (pp _ _ hzz) (t2'.at fun o e=>pp _ o e) (t3.at fun o e=>pp _ o e) np zp fun c o c1 c2 c3 e=>pp _ _ (kk c o c1 c2 c3 e)
theorem JT {z TI TO i1 i2 l1 T:Addr} {oT:Obj} {bb:Bool} {k1:Nat} {xs:Array Value} {Q:Fin→Shared→Prop} (hh:A.handled=none)
  (n1:i1≠z) (m1:l1≠z) (hz:qb s.heap z TI TO (rawInt T) bb) (hT:s.heap.get? T=some oT) (hTI:IsPair s.heap TI (.ref i1) (.ref i2)) (h1:s.heap.IsTupleIter i1 l1 k1) (hl1:s.heap.IsTuple l1 xs) (hx:xs[k1]?=none)
  (hE:∀ h' e,(∀ c o,c≠z→c≠i1→s.heap.get? c=some o→h'.get? c=some o)→(∃ o,h'.get? e=some o∧o.cls=.type "StopIteration")→E (.ref e) { s with heap:=h' }) :
  wpAny (model prog w) A (Builtin.«zip.__next__» ⟨[.ref z],[]⟩) Q E s:=by
 show wpAny _ _ (field (.ref z) 2 >>= _) _ _ _
 refine wpAny_bind (wpAny_field hz rfl (x:=.bool false) rfl ?_)
 show wpAny _ _ (field (.ref z) 3 >>= _) _ _ _
 refine wpAny_bind (wpAny_field hz rfl (x:=.ref TI) rfl ?_)
 refine wpAny_bind (wpAny_seqItems hTI rfl ?_)
 show wpAny _ _ (Builtin.SmallTypes.ownedTupleIsFree (.ref z) >>= _) _ _ _
 refine wpAny_bind ?_
 unfold Builtin.SmallTypes.ownedTupleIsFree
 refine wpAny_bind (wpAny_field hz rfl (x:=rawInt T) rfl ?_)
 show wpAny _ _ (loadIfAlive ((T:Int).toNat) >>= _) _ _ _
 rw [Int.toNat_natCast]
 refine wpAny_bind (W.kdx_alive hT ?_)
 simp only [Option.isNone_some,Bool.false_eq_true,if_false]
 refine wpAny_bind (wpAny_field hz rfl (x:=.bool bb) rfl ?_)
 cases bb with
 | true=>
  rw [if_neg (show ¬ ((Value.bool true != Value.bool true)=true) from Bool.false_ne_true)]
  refine wpAny_pure ?_
  simp only [Bool.false_eq_true,if_false,← Array.forIn_toList,List.forIn_cons,List.forIn_nil]
  refine wpAny_bind (wpAny_bind (wpAny_bind (wpAny_holding ?_)))
  show wpAny _ _ (Builtin.SmallTypes.nextOf (.ref i1) >>= _) _ _ _
  exact wpAny_bind (qP hh (h1) (hl1) hx fun h2 e b2 he=>hE h2 e (fun c o c1 c3 x=>b2 _ _ c3 (x)) he)
 | false=>
  rw [if_pos (show (Value.bool false != Value.bool true)=true from rfl)]
  refine wpAny_bind (wpAny_setField_rec hz (by simp) fun h1' e1 b1=>?_)
  replace b1:Heap.SameBut z s.heap h1':=b1
  refine wpAny_pure ?_
  simp only [Bool.false_eq_true,if_false,← Array.forIn_toList,List.forIn_cons,List.forIn_nil]
  refine wpAny_bind (wpAny_bind (wpAny_bind (wpAny_holding ?_)))
  show wpAny _ _ (Builtin.SmallTypes.nextOf (.ref i1) >>= _) _ _ _
  exact wpAny_bind (qP hh (h1.extBut b1.extBut n1) (hl1.extBut b1.extBut m1) hx fun h2 e b2 he=>hE h2 e (fun c o c1 c3 x=>b2 _ _ c3 (b1.extBut _ _ c1 x)) he)
theorem yj {z TI TO i1 i2 l1:Addr} {k1:Nat} {xs:Array Value} {Q:Fin→Shared→Prop} (hh:A.handled=none)
  (n1:i1≠z) (m1:l1≠z) (hz:IsZip s.heap z TI TO .none) (hTI:IsPair s.heap TI (.ref i1) (.ref i2)) (h1:s.heap.IsTupleIter i1 l1 k1) (hl1:s.heap.IsTuple l1 xs) (hx:xs[k1]?=none)
  (hE:∀ h' e,(∀ c o,c≠z→c≠i1→s.heap.get? c=some o→h'.get? c=some o)→(∃ o,h'.get? e=some o∧o.cls=.type "StopIteration")→E (.ref e) { s with heap:=h' }) :
  wpAny (model prog w) A (Builtin.«zip.__next__» ⟨[.ref z],[]⟩) Q E s:=by
 show wpAny _ _ (field (.ref z) 2 >>= _) _ _ _
 refine wpAny_bind (wpAny_field hz rfl (x:=.bool false) rfl ?_)
 show wpAny _ _ (field (.ref z) 3 >>= _) _ _ _
 refine wpAny_bind (wpAny_field hz rfl (x:=.ref TI) rfl ?_)
 refine wpAny_bind (wpAny_seqItems hTI rfl ?_)
 show wpAny _ _ (Builtin.SmallTypes.ownedTupleIsFree (.ref z) >>= _) _ _ _
 refine wpAny_bind ?_
 unfold Builtin.SmallTypes.ownedTupleIsFree
 refine wpAny_bind (wpAny_field hz rfl (x:=.none) rfl (wpAny_pure ?_))
 simp only [if_true]
 refine wpAny_bind (wpAny_rule ?_)
 refine wpAny_bind (wpAny_field hz rfl (x:=.ref TO) rfl ?_)
 refine wpAny_bind (wpAny_setField_rec hz (by simp) fun g1 z1 b1=>?_)
 replace z1:IsZip g1 z TI TO .ellipsis:=z1
 refine wpAny_bind ?_
 simp only [List.zipIdx_cons,List.zipIdx_nil,List.forIn_cons,List.forIn_nil]
 refine wpAny_bind (wpAny_bind (wpAny_onRaise ?_))
 show wpAny _ _ (Builtin.SmallTypes.nextOf (.ref i1) >>= _) _ _ _
 refine wpAny_bind (qP hh (h1.extBut b1.extBut n1) (hl1.extBut b1.extBut m1) hx fun g2 e b2 he=>?_)
 obtain ⟨oe,hoe,hce⟩:=he
 have z2:IsZip g2 z TI TO .ellipsis:=b2 _ _ n1.symm z1
 have hez:e≠z:=fun x=>by subst x;rw [z2] at hoe;cases hoe;simp at hce
 exact wpAny_setField_rec z2 (by simp) fun g3 _ b3=>hE g3 e (fun c o c1 c3 x=>b3.extBut _ _ c1 (b2 _ _ c3 (b1.extBut _ _ c1 x))) ⟨oe,b3.extBut _ _ hez hoe,hce⟩
end
open Sem (wp)
namespace F
theorem lk_zip_keys:typeLookup (.type "zip") "keys" = pure none:=by rw [typeLookup_type,builtinLookup_eq_fast];kernel_rfl
theorem lk_zip_getattr:typeLookup (.type "zip") "__getattr__" = pure none:=by rw [typeLookup_type,builtinLookup_eq_fast];kernel_rfl
theorem entry_zip_ga:entryFor table "zip.__getattribute__" = some Builtin.«object.__getattribute__»:=entryFor_alias (id':="object.__getattribute__") (by kernel_rfl) (by first | rfl | decide +kernel) (by decide +kernel) (by kernel_rfl)
end F
section
variable {prog:Program} {w:World} {A:Around} {E:Value→Shared→Prop} {h:Heap} {g:Array GenState} {d:Drawn} {t:Nat} {os:OsState} {a:Addr} {its:Array Value} {n:Nat} {sl:Array (Option Value)}
theorem jeh:(Str.ofString (toString "'"++toString ((Manifest.find? "zip").elim "zip" fun x=>x.tpName)++toString "' object has no attribute '")++Str.ofString "keys"++Str.ofString "'").length≤sizeLine:=by
 rw [sizeLine_eq]
 decide +kernel
theorem Kt {tk:Tok} {Q:Fin→Shared→Prop} (hh:A.handled=none) (hx:h.get? a=some { cls:=.type "zip",dict:=none,data:=.fields its,slots:=sl })
   (hq:∀ h' t' e,(∀ b u,h.get? b=some u→h'.get? b=some u)→(∃ oe,h'.get? e=some oe∧oe.cls=.type "AttributeError")→E (.ref e) ⟨h',g,d,t',os⟩) :
  wpAny (model prog w) A (Builtin.«object.__getattribute__» ⟨[.ref a,.str "keys" tk],[]⟩) Q E ⟨h,g,d,t,os⟩:=by
 have hT:(⟨h,g,d,t,os⟩:Shared).TypeIs (.ref a) "zip":=⟨_,hx,rfl⟩
 have f4:=F.lk_zip_keys
 repeat (any_goals (first | assumption | wp_step))
 exact jag jeh hh hq
theorem Yx {tk:Tok} {R:Result→Shared→Prop} (hh:A.handled=none) (hx:h.get? a=some { cls:=.type "zip",dict:=none,data:=.fields its,slots:=sl })
   (hq:∀ h' t' e,(∀ b u,h.get? b=some u→h'.get? b=some u)→(∃ oe,h'.get? e=some oe∧oe.cls=.type "AttributeError")→R (.error (.ref e)) ⟨h',g,d,t',os⟩) :
  codeAny (model prog w) A (.call (.builtin "zip.__getattribute__") ⟨[.ref a,.str "keys" tk],[]⟩) R ⟨h,g,d,t,os⟩:=
 codeAny_call_builtin F.slot_zip_getattribute.plain F.entry_zip_ga (F.slot_zip_getattribute.check _ _ _ _ _ _ _ _ (show (⟨h,g,d,t,os⟩:Shared).TypeIs (.ref a) "zip" from ⟨_,hx,rfl⟩) (F.args_zip_getattribute_2 _ _) (Kt hh hx hq))
theorem Z0 {tk:Tok} {Q:Value→Shared→Prop} (hh:A.handled=none) (hx:h.get? a=some { cls:=.type "zip",dict:=none,data:=.fields its,slots:=sl })
   (hq:∀ h' t' e,(∀ b u,h.get? b=some u→h'.get? b=some u)→(∃ oe,h'.get? e=some oe∧oe.cls=.type "AttributeError")→E (.ref e) ⟨h',g,d,t',os⟩) :
  wpAny (model prog w) A (getAttrBy (.ref a) (.str "keys" tk) false) Q E ⟨h,g,d,t,os⟩:=by
 have hT:(⟨h,g,d,t,os⟩:Shared).TypeIs (.ref a) "zip":=⟨_,hx,rfl⟩
 have f2:=F.slot_zip_getattribute.lookup
 have f3:=F.slot_zip_getattribute.bind (.ref a)
 have f4:=F.lk_zip_getattr
 repeat (any_goals (first | assumption | wp_step))
 refine Yx hh hx fun h' t' e k hoe=>?_
 obtain ⟨oe,e1,e2⟩:=hoe
 have hTe:(⟨h',g,d,t',os⟩:Shared).TypeIs (.ref e) "AttributeError":=⟨_,e1,e2⟩
 show wpAny (model prog w) A (getattributeRaised (Value.ref a) (Value.str (Str.ofString "keys") tk) (Value.type "zip") (.ref e) none false false) Q E _
 unfold getattributeRaised
 refine wpAny_bind (wpAny_isInstance hTe F.sub_attr_attr ?_)
 rw [if_pos rfl]
 refine wpAny_bind ?_
 show wpAny _ _ (typeLookup (.type "zip") "__getattr__") _ _ _
 rw [f4]
 refine wpAny_pure ?_
 show wpAny _ _ (attributeErrorLeaves _ _ _ false false) _ _ _
 unfold attributeErrorLeaves
 dsimp only
 rw [if_pos (show (!false)=true from rfl)]
 refine wpAny_bind (wpAny_throw ?_)
 exact hq h' t' e k ⟨oe,e1,e2⟩
theorem nokeysZ {s:Shared} {Q:Option Value→Shared→Prop} (hh:A.handled=none) (hx:s.heap.get? a=some { cls:=.type "zip",dict:=none,data:=.fields its,slots:=sl })
   (hq:∀ h' t',(∀ b u,s.heap.get? b=some u→h'.get? b=some u)→Q none { s with heap:=h',toks:=t' }) :
  wpAny (model prog w) A (getAttr? (.ref a) "keys") Q E s:=by
 obtain ⟨h,g,d,t,os⟩:=s
 unfold getAttr? getAttrBy?
 refine wpAny_bind (wpAny_mkText (wpAny_bind (wpAny_attempt ?_)))
 refine Z0 hh hx fun h' t' e k hoe=>?_
 obtain ⟨oe,e1,e2⟩:=hoe
 have hTe:(⟨h',g,d,t',os⟩:Shared).TypeIs (.ref e) "AttributeError":=⟨_,e1,e2⟩
 dsimp only
 refine wpAny_bind (wpAny_isInstance hTe F.sub_attr_attr ?_)
 rw [if_pos rfl]
 exact wpAny_pure (hq h' t' k)
end
section
variable {prog:Program} {w:World} {A:Around} {E:Value→Shared→Prop} {s:Shared}
theorem Ze {T:Addr} {x y:Value} {Q:List Value→Shared→Prop} (h:IsPair s.heap T x y) (hq:Q [x,y] s):wpAny (model prog w) A (Builtin.Dict.pairItems (.ref T)) Q E s:=by
 unfold Builtin.Dict.pairItems
 refine wpAny_bind (wpAny_typeOf (T:="tuple") ⟨_,h,rfl⟩ ?_)
 rw [if_pos (by decide)]
 refine wpAny_bind ?_
 unfold seqItems?
 refine wpAny_bind (wpAny_load h ?_)
 exact wpAny_pure (wpAny_pure hq)
end
end PySem
namespace L2
open PySem PySem.Spec PyProof.Rows PySem.W
def zKV (names:List Str) (vs:List V):List (Key×V):=(names.zip vs).map fun q=>(Sum.inr q.1,q.2)
theorem nlt {x y:Nat} (h:x < y∨y < x):x≠y:=by omega
theorem Kx {S a b:Nat} (ha:a < S) (hb:b < S):ZipApart (S+4) (S+2) (S+3) S (S+1) a b:=by
 constructor <;> exact nlt (by omega)
theorem jdi:bootBuiltins "zip" = some (.type "zip"):=by decide +kernel
structure MkFn (P:Program) (w:World) (K:W.Frag) (mg:Str→Option Value) (base:Heap) (k:Nat) (x:Str) (C:Addr) (ps:List Str) (sp:Sp):Prop where
 ex:∃ f fd,Mk K C f∧FnOk P w K mg base CX0 k f fd ps sp∧Binds K fd ps []∧mg x=some (.ref C)
theorem jf7 {X:Cx} {k k':Nat} {x:Str} {C:Addr} {ps:List Str} {sp:Sp} {e:Expr} {es:List Expr} {t:TA} {p pos:Pos} (F:MkFn X.prog X.w X.K X.mg X.base k x C ps sp) (hr:Room k' X.A) (ha:PA X (e :: es) t) (hk:k+1≤k':=by decide) (hg:Gl X x:=by rfl)
  (hd:(x == ("__debug__" : Str))=false:=by decide) (hp:(e :: es).all j5=true:=by rfl):PE X (.Call (.Name x p) (e :: es) [] pos) (jb7 C sp [] E0 t):=by
 obtain ⟨f,fd,M,G,b,m⟩:=F.ex
 rw [List.all_cons,Bool.and_eq_true] at hp
 exact jdY M G (hr.mono hk) hg m b .nil jeL ha hd (kR hp.1 es X.env) (zb pos X.env es hp.2)
theorem Kf {env:Env} (kx vx gens scope pos):eval (.DictComp kx vx gens scope pos) env=comprehension (.DictComp kx vx gens scope pos) scope env (firstIterPos gens pos) newDict (firstAsync gens) (firstIter gens env):=rfl
theorem Ku {prog:Program} {w:World} {A:Around} {s:Shared} {kx vx target iter:Expr} {ifs:List Expr} {scope:Scope} {pos:Pos} {it:Value} {D:Addr} {env:Env} {R:Result→Shared→Prop} (I:Nat→Shared→Prop)
  (turn:∀ n s,I n s→wpAny (model prog w) A (pyNext it) (fun r s1=>match r with
   | none=>R (.ok .next) s1
   | some v=>wpAny (model prog w) A (letOwnedTupleGo target it v) (fun _ s1'=>wpAny (model prog w) A (assign target env v) (fun _ s2=>
     wpAny (model prog w) A (forIn ifs true fun c r=>if r=true then do let ok ← isTrue c env (eval c env);pure (ForInStep.yield ok) else pure (ForInStep.yield r)) (fun ok s3=>
      if ok=true then wpAny (model prog w) A (eval kx env) (fun kv s4=>wpAny (model prog w) A (eval vx env) (fun vv s5=>
       wpAny (model prog w) A (dictSet D kv vv) (fun _ s6=>∃ m,m < n∧I m s6) (fun _ _=>False) s5) (fun _ _=>False) s4) (fun _ _=>False) s3
      else ∃ m,m < n∧I m s3) (fun _ _=>False) s2) (fun _ _=>False) s1') (fun _ _=>False) s1) (fun _ _=>False) s)
  (n:Nat) (h:I n s):codeAny (model prog w) A (.compLoop (.DictComp kx vx [⟨target,iter,ifs,0⟩] scope pos) 0 it (.ref D) env) R s:=by
 have no:∀ (x:Value) (s':Shared),False→notedBy (model prog w) A env (fun e s'=>R (.error e) s') x s':=fun _ _ z=>z.elim
 refine codeAny_loop rfl I (fun n s hI=>?_) n h
 show wpAny _ A ((compTurn (.DictComp kx vx [⟨target,iter,ifs,0⟩] scope pos) 0 it (.ref D) env).onRaise (fun x=>do noteFrame x env;theTreesLotGoes x)) _ _ s
 refine wpAny_noted ?_
 rw [compTurn_dict]
 refine wpAny_bind (wpAny_standAt (wpAny_bind (wpAny_mono (turn n s hI) (fun r s1 h1=>?_) no)))
 cases r with
 | none=>exact wpAny_pure h1
 | some v=>
  refine wpAny_bind (wpAny_mono h1 (fun _ s1' h1'=>?_) no)
  refine wpAny_bind (wpAny_mono h1' (fun _ s2 h2=>wpAny_bind (wpAny_mono h2 (fun ok s3 h3=>?_) no)) no)
  cases ok with
  | false=>exact wpAny_pure ⟨rfl,h3⟩
  | true=>
   exact wpAny_bind (wpAny_bind (wpAny_mono h3 (fun kv s4 h4=>wpAny_bind (wpAny_holding (wpAny_mono h4 (fun vv s5 h5=>wpAny_bind (wpAny_standAt (wpAny_holding (wpAny_mono h5 (fun _ s6 h6=>wpAny_pure ⟨rfl,h6⟩) no)))) no))) no))
def jaX (J:It) (p:Addr) (g:TG) (tt:TT) (tk tv:TE) (Q:VK) (σ:St) (H:Hp):Prop:=∃ W:Nat→Nat→St→Hp→Prop,(∃ m,W 0 m σ H)∧
 ∀ i m σ' H',W i m σ' H'→(J.stop i H'∧Q (.ref p) H')∨(J.go i H'∧∃ N:St→Hp→Prop,(∀ σ3 H3,N σ3 H3→∃ m',m' < m∧W (i+1) m' σ3 H3)∧∀ x H2,J.yld i H' x H2→g x σ' H2 fun σ3 H3=>tt σ3 H3 fun c H4=>
  if c=true then tk σ3 H4 fun ky H5=>tv σ3 H5 fun y H6=>∃ kvs k,ky=kV k∧H6 p=some (.dK kvs)∧kvs.length < sizeLine∧N σ3 (upd H6 p (.dK (qa kvs k y))) else N σ3 H4)
def ZU (own:List Str) (fr:List Nat) (wi:TI) (g:TG) (tt:TT) (tk tv:TE):TE:=fun σ H Q=>wi σ H fun J H1=>∀ p,H1 p=none→jaX J p g tt tk tv Q (jbO own fr σ) (upd H1 p (.dK []))
theorem jbI {X:Cx} {scope:Scope} {own:List Str} {fr:List Nat} {kx vx tg iter:Expr} {ifs:List Expr} {pos:Pos} {wi:TI} {g:TG} {tt:TT} {tk tv:TE} {use:Option (Value→Sem Unit)} (hc:X.calm=true) (O:CompOk X scope fr) (hi:PI X tg iter wi)
  (hb:∀ s H ex,PG (blk X scope own fr s H ex) tg g∧PTs (blk X scope own fr s H ex) ifs tt∧PE (blk X scope own fr s H ex) kx tk∧PE (blk X scope own fr s H ex) vx tv)
  (hs:∀ x,foldedSetIterable iter X.env x=pure x) {pins:List (Addr×Obj)} {s:Shared} {σ:St} {H:Hp} {Q:VK} {R:Value→Shared→Prop} (I:Inv X pins σ H s) (h:ZU own fr wi g tt tk tv σ H Q) (hx:∀ e s',X.xe e s'↔False)
  (fin:∀ (p C:Addr) (H':Hp) (s':Shared) (m:Str→Option Value),s'.heap.Ns C m→H' C=none→C≠X.env.locals→(∀ x c,X.env.cells.lookup x=some c→c≠C)→Inv X pins σ H' s'→(∀ h',Heap.SameBut C s'.heap h'→Inv X pins σ H' { s' with heap:=h' })→Q (.ref p) H'→
   compPost (model X.prog X.w) X.A X.xe use R (.ref p) C (.ok .next) s') :
  wpAny (model X.prog X.w) X.A (comprehension (.DictComp kx vx [⟨tg,iter,ifs,0⟩] scope pos) scope X.env (firstIterPos [⟨tg,iter,ifs,0⟩] pos) newDict false (eval iter X.env) use) R X.xe s:=by
 have hsome:∀ x∈scope.names,x.2=.free→(X.env.cells.lookup x.1).isSome=true:=fun x hx' e=>by
  obtain ⟨c,hc⟩:=I.ok.has x.1 (O.frees x hx' e)
  rw [hc];rfl
 have no:∀ (E:Value→Shared→Prop) (x:Value) (s':Shared),X.xe x s'→E x s':=fun E x s' z=>((hx x s').mp z).elim
 refine wpAny_comprehension_free (cl:=zG X.env.cells scope.names []) rfl hs (yz hsome) O.kind O.loc ?_
 refine thn (hi pins s σ H _ I h) fun v s1 h1=>thn h1 fun itv s2 h2=>?_
 obtain ⟨it,fp,tn,J,H2,e,I2,T,st2,f2,q2⟩:=h2
 subst e
 unfold newDict
 refine wpAny_newObj_type ?_
 have nw:H2 s2.heap.objs.size=none:=I2.fresh
 obtain ⟨W,⟨m0,w0⟩,turn⟩:=q2 _ nw
 generalize hp:s2.heap.objs.size=p at *
 have I3:Inv X pins σ (upd H2 p (.dK [])) { s2 with heap:=s2.heap.push { cls:=.type "dict",data:=.dict #[] } }:=by
  have:=I2.laid (a:=s2.heap.objs.size) (o:=.dK []) (t':=s2.toks) (fun _ _ q=>Heap.get?_push_of_some { cls:=.type "dict",data:=.dict #[] } q) (Nat.le_refl _) (jde s2.heap I2.big)
  rw [hp] at this
  exact this
 have lt2:∀ b∈fp,b < s2.heap.objs.size:=fun b hb=>by
  obtain ⟨o,ho,_⟩:=T.obj _ _ st2 b hb
  exact Heap.lt_size ho
 have fpn:∀ b∈fp,(upd H2 p (.dK [])) b=none:=fun b hb=>by
  rw [jl (by rw [← hp];exact Nat.ne_of_lt (lt2 b hb))]
  exact (f2 b hb).1
 generalize hs3:({ s2 with heap:=s2.heap.push { cls:=.type "dict",data:=.dict #[] } }:Shared)=s3 at *
 have sz3:s3.heap.objs.size=p+1:=by
  rw [← hs3]
  show (s2.heap.push _).objs.size=_
  rw [Heap.size_push,hp]
 have st3:tn 0 s3.heap:=T.keep 0 _ _ st2 fun b hb o e=>by
  rw [← hs3]
  exact Heap.get?_push_of_some _ e
 refine wpAny_newFunctionEnv O.nocell (by intro y hy;simp at hy) (fun h4 hns4 hsb4=>?_) O.kind
 have k4:∀ b o,s3.heap.get? b=some o→h4.get? b=some o:=fun b o e=>hsb4.extBut b o (Nat.ne_of_lt (Heap.lt_size e)) (Heap.get?_push_of_some _ e)
 have hns4':h4.Ns s3.heap.objs.size fun _=>none:=by
  have z:(fun x:Str=>([]:List (Str×Value)).reverse.lookup x)=fun _=>none:=by funext x;rfl
  rw [z] at hns4
  exact hns4
 have fo:∀ b∈fp,y7 X pins (upd H2 p (.dK [])) b∧b < s3.heap.objs.size:=fun b hb=>⟨⟨fpn b hb,(f2 b hb).2⟩,by rw [sz3,← hp];exact Nat.lt_succ_of_lt (lt2 b hb)⟩
 have I4:=YF (own:=own) (fr:=fr) (t1:=s3.toks+([]:List (Str×Value)).length) I3 O fo hns4' k4
 have st4:tn 0 h4:=T.keep 0 _ _ st3 fun b hb o e=>k4 b o e
 obtain ⟨hg,ht,hk',hv'⟩:=hb s3 (upd H2 p (.dK [])) fp
 have stat:∀ {H':Hp} {pn:List (Addr×Obj)} {s':Shared} {σ':St},Inv (blk X scope own fr s3 (upd H2 p (.dK [])) fp) [] σ' H' s'→(∀ b∈fp,H' b=none)→∀ b∈fp,y7 (blk X scope own fr s3 (upd H2 p (.dK [])) fp) [] H' b:=fun {H' pn s' σ'} J hn b hb'=>
  ⟨hn b hb',(J.ok.exf b hb').1,J.ok.exfs b hb',.inl hb',(J.ok.exf b hb').2,fun p hp=>absurd hp (by simp [blk])⟩
 have nocells:∀ x c,X.env.cells.lookup x=some c→c≠s3.heap.objs.size:=fun x c e=>by
  obtain ⟨v,q⟩:=I3.cell x c e
  exact Nat.ne_of_lt q.lt
 have loop:∀ s5:Shared,s5={ s3 with heap:=h4,toks:=s3.toks+([]:List (Str×Value)).length }→
   codeAny (model X.prog X.w) X.A (.compLoop (.DictComp kx vx [⟨tg,iter,ifs,0⟩] scope pos) 0 (.ref it) (.ref p) (blk X scope own fr s3 (upd H2 p (.dK [])) fp).env) (compPost (model X.prog X.w) X.A X.xe use R (.ref p) s3.heap.objs.size) s5:=by
  rintro s5 rfl
  refine Ku (fun n s'=>∃ i σ' H',Inv (blk X scope own fr s3 (upd H2 p (.dK [])) fp) [] σ' H' s'∧tn i s'.heap∧(∀ b∈fp,H' b=none)∧W i n σ' H') ?_ m0 ⟨0,_,_,I4,st4,fpn,w0⟩
  rintro n s6 ⟨i,σ6,H6,I6,st6,fr6,w6⟩
  rcases turn i n σ6 H6 w6 with ⟨stop,qn⟩ | ⟨go,N,hN,step⟩
  ·refine thn (T.done (blk X scope own fr s3 (upd H2 p (.dK [])) fp) rfl rfl rfl hc i [] s6 σ6 H6 _ I6 (stat (pn:=[]) I6 fr6) st6 stop) fun r s7 ⟨hr,I7⟩=>?_
   subst hr
   obtain ⟨m,hm,_⟩:=I7.loc
   exact fin p _ H6 s7 m hm I7.free (Nat.ne_of_gt I3.lt) nocells (zn I3 fo I7 (Heap.SameBut.refl ..)) (fun h' hs'=>zn I3 fo I7 hs') qn
  ·refine thn (T.item (blk X scope own fr s3 (upd H2 p (.dK [])) fp) rfl rfl rfl hc i [] s6 σ6 H6 _ I6 (stat (pn:=[]) I6 fr6) st6 go) fun r s7 ⟨u,hr,h7⟩=>?_
   subst hr
   refine thn h7 fun _ s8 ⟨x,H8,I8,r8,y8,st8,fr8⟩=>?_
   have I8':=I8.pinned (stat (pn:=[]) I8 fr8) (T.obj _ _ st8)
   refine thn (hg _ s8 σ6 H8 x u _ I8' r8 (step x H8 y8)) fun _ s9 ⟨σ9,H9,I9,q9⟩=>?_
   refine thn (ht _ s9 σ9 H9 _ I9 q9) fun ok s10 ⟨H10,I10,q10⟩=>?_
   have again:∀ {H11:Hp} {s11:Shared},Inv (blk X scope own fr s3 (upd H2 p (.dK [])) fp) ([]++zy fp s8.heap) σ9 H11 s11→(∃ m',m' < n∧W (i+1) m' σ9 H11)→
     ∃ m,m < n∧∃ i σ' H',Inv (blk X scope own fr s3 (upd H2 p (.dK [])) fp) [] σ' H' s11∧tn i s11.heap∧(∀ b∈fp,H' b=none)∧W i m σ' H':=fun {H11 s11} I11 ⟨m',hm,w11⟩=>by
    refine ⟨m',hm,i+1,σ9,H11,I11.unpinned,T.keep _ _ _ st8 fun b hb' o e=>(I11.pin (b,o) (List.mem_append_right _ (List.mem_append_right _ (kT hb' e)))).1,fun b hb'=>?_,w11⟩
    obtain ⟨o,e,d⟩:=T.obj _ _ st8 b hb'
    exact (I11.pin (b,o) (List.mem_append_right _ (List.mem_append_right _ (kT hb' e)))).2.1
   cases ok with
   | false=>
    rw [if_neg Bool.false_ne_true] at q10 ⊢
    exact again I10 (hN _ _ q10)
   | true=>
    rw [if_pos rfl] at q10 ⊢
    refine thn (hk' _ s10 σ9 H10 _ I10 q10) fun kv s11 ⟨ky,H11,I11,r11,q11⟩=>?_
    refine thn (hv' _ s11 σ9 H11 _ I11 q11) fun vv s12 ⟨y,H12,I12,r12,kvs,k,ek,hkv,hlen,q12⟩=>?_
    subst ek
    obtain ⟨z,hd,vs,rel,dd⟩:=jeV I12.hok hkv
    have hl:(qa kvs k y).length≤sizeLine:=by have:=zQ kvs k y;omega
    refine wpAny_dictSet_pairs (K0 r11) dd (fun h' dd' hs'=>?_) (by rw [← rel.length];exact z)
    have hex':∃ q,h'.get? p=some q:=let ⟨q,_,_,hq,_⟩:=dd';⟨q,hq⟩
    exact again (YK (t':=s12.toks+1) I12 (by rw [hkv];exact True.intro) hs' hex' (jab hl hd (rel.put k r12) dd')) (hN _ _ q12)
 refine codeAny_compStart_dict (loop _ rfl) (T.self X.A 0 _ _ _ st4 (loop _ rfl))
theorem jcD {X:Cx} {scope:Scope} {kx vx tg iter:Expr} {ifs:List Expr} {pos:Pos} {wi:TI} {g:TG} {tt:TT} {tk tv:TE} (own:List Str) (fr:List Nat) (hc:X.calm=true) (O:CompOk X scope fr) (hi:PI X.nox tg iter wi)
  (hb:∀ s H ex,PG (blk X.nox scope own fr s H ex) tg g∧PTs (blk X.nox scope own fr s H ex) ifs tt∧PE (blk X.nox scope own fr s H ex) kx tk∧PE (blk X.nox scope own fr s H ex) vx tv)
  (hs:∀ x,foldedSetIterable iter X.env x=pure x:=by intro _;rfl):PE X.nox (.DictComp kx vx [⟨tg,iter,ifs,0⟩] scope pos) (ZU own fr wi g tt tk tv):=by
 intro pins s σ H Q I h
 rw [Kf]
 refine jbI (X:=X.nox) (use:=none) (Q:=Q) hc ⟨O.kind,O.nocell,O.loc,O.frees,O.fr⟩ hi hb hs I h (fun _ _=>Iff.rfl) fun p C H' s' m hm hC _ _ I' back q=>?_
 exact ⟨m,hm,fun h' hs'=>⟨.ref p,H',back h' hs',rfl,q⟩⟩
section
variable {p:Addr} {g:TG} {tt:TT} {tk tv:TE} {σ:St} {H:Hp} {Q:VK}
theorem jbH {K:W.Frag} {a:Addr} {xs:List V} (Pv:Nat→St→Hp→Prop) (h0:Pv 0 σ H) (hl:∀ i σ' H',i≤xs.length→Pv i σ' H'→SqT K H' a xs)
  (hs:∀ i x σ' H',xs[i]?=some x→Pv i σ' H'→g x σ' H' fun σ3 H3=>tt σ3 H3 fun c H4=>if c=true then tk σ3 H4 fun ky H5=>tv σ3 H5 fun y H6=>∃ kvs k,ky=kV k∧H6 p=some (.dK kvs)∧kvs.length < sizeLine∧Pv (i+1) σ3 (upd H6 p (.dK (qa kvs k y))) else Pv (i+1) σ3 H4)
  (hd:∀ σ' H',Pv xs.length σ' H'→Q (.ref p) H'):jaX (Itt K a) p g tt tk tv Q σ H:=by
 refine ⟨fun i m σ H=>m=xs.length - i∧i≤xs.length∧Pv i σ H,⟨xs.length,by simp,Nat.zero_le _,h0⟩,?_⟩
 rintro i m σ1 H1 ⟨rfl,hi,pv⟩
 have q:=hl i σ1 H1 hi pv
 by_cases hlt:i < xs.length
 ·refine .inr ⟨⟨xs,xs[i],q,by simp [hlt]⟩,Pv (i+1),fun σ3 H3 q=>⟨xs.length - (i+1),by omega,rfl,hlt,q⟩,fun x H2 y=>?_⟩
  obtain ⟨e1,e2⟩:=y
  subst e1
  exact hs i x σ1 _ (e2 xs q) pv
 ·have e:i=xs.length:=by omega
  subst e
  exact .inl ⟨⟨xs,q,Nat.le_refl _⟩,hd σ1 H1 pv⟩
end
end L2
namespace HT
open PySem PySem.Spec PyProof.Rows L2
open PySem.SeqAt
open PySem.AutoSeq1 (wpAny_loadPart')
open PySem.MeetsSeq PySem.MeetsSeq2 PySem.MeetsSeq3
end HT
namespace L2
open PySem PySem.Spec PyProof.Rows
variable {X:Cx}
variable {X:Cx} {pos:Pos}
def jeA (i j l:Nat) (ta:TA):TS:=fun D σ H=>ta σ H fun vs H1=>∃ v w u,vs=[v,w,u]∧D.nx (((σ.set i (some v)).set j (some w)).set l (some u)) H1
theorem jdN {i j l:Nat} {x y z:Str} {a b c:Expr} {ta:TA} {px py pz pt:Pos} {kt k2 pt2} (hc:X.calm=true) (hN:X.N.Nodup) (hi:X.N[i]?=some x) (hj:X.N[j]?=some y) (hl:X.N[l]?=some z) (hij:i≠j) (hil:i≠l) (hjl:j≠l)
  (hx:Loc X.env.scope x) (hy:Loc X.env.scope y) (hz:Loc X.env.scope z) (ha:PA X [a,b,c] ta)
  (hw:swappedStores [.Tuple [.Name x px,.Name y py,.Name z pz] kt pt] (.Tuple [a,b,c] k2 pt2) X.env=pure (some [x,y,z]))
  (fx:X.fn x=true∨X.env.scope.names.lookup x=some .local) (fy:X.fn y=true∨X.env.scope.names.lookup y=some .local) (fz:X.fn z=true∨X.env.scope.names.lookup z=some .local)
  (hs:swapsWithSole [.Tuple [.Name x px,.Name y py,.Name z pz] kt pt] (.Tuple [a,b,c] k2 pt2) pos.line X.env=pure false:=by rfl) :
  PS X (.Assign [.Tuple [.Name x px,.Name y py,.Name z pz] kt pt] (.Tuple [a,b,c] k2 pt2) pos) (jeA i j l ta):=by
 intro pins s σ H D I h
 rw [exec_Assign_arm]
 refine wpAny_bind (wpAny_standAt ?_)
 rw [hs]
 refine wpAny_bind (wpAny_pure ?_)
 rw [if_neg (by decide)]
 refine wpAny_bind (Tuple_ (thn (ha _ pins s σ H _ I h) fun us s1 ⟨vs,H1,I1,r1,q1⟩=>?_))
 obtain ⟨v,w,u,e1,q1⟩:=q1
 subst e1
 obtain ⟨u1,u2,u3,rfl,rv,rw',ru⟩:∃ u1 u2 u3,us=[u1,u2,u3]∧RelV v u1∧RelV w u2∧RelV u u3:=by
  cases r1 with
  | cons p q=>
   cases q with
   | cons p' q'=>
    cases q' with
    | cons p2 q2=>
     cases q2
     exact ⟨_,_,_,rfl,p,p',p2⟩
 refine wpAny_newObj_type ?_ (by show 3≤sizeLine;decide)
 have I2:Inv X pins σ H1 { s1 with heap:=s1.heap.push { cls:=.type "tuple",data:=.seq [u1,u2,u3].toArray } }:=I1.kept (t':=s1.toks) fun b o e=>Heap.get?_push_of_some _ e
 rw [hw]
 refine wpAny_bind (wpAny_pure ?_)
 show wpAny (model X.prog X.w) X.A (do rule "assign.swapped-stores";let items ← unpackItems (.ref s1.heap.objs.size) 3 none;assignInOrder [fun v=>bindName X.env z v,fun v=>bindName X.env y v,fun v=>bindName X.env x v] items.reverse;pure Flow.next) _ _ _
 refine wpAny_bind (wpAny_rule (wpAny_bind (unpackItems_tuple (items:=#[u1,u2,u3]) (I.ok.hd hc) (IsTup.new s1.heap _) fun h' hx'=>?_)))
 have I3:=I2.kept (h':=h') (t':=s1.toks) fun b o e=>hx' b o (Nat.ne_of_lt (Heap.lt_size e)) e
 show wpAny _ _ (assignInOrder [fun v=>bindName X.env z v,fun v=>bindName X.env y v,fun v=>bindName X.env x v] [u3,u2,u1] >>= fun _=>pure Flow.next) _ _ _
 refine wpAny_bind (assignInOrder_cons (wpAny_bindName (qK I3 hN hl hz ru (fun s2 I4=>?_) fz)))
 refine assignInOrder_cons (wpAny_bindName (qK I4 hN hj hy rw' (fun s3 I5=>?_) fy))
 refine assignInOrder_cons (wpAny_bindName (qK I5 hN hi hx rv (fun s4 I6=>assignInOrder_nil (wpAny_pure ?_)) fx))
 have e:((σ.set l (some u)).set j (some w)).set i (some v)=((σ.set i (some v)).set j (some w)).set l (some u):=by
  rw [List.set_comm _ _ (Ne.symm hjl),List.set_comm _ _ (Ne.symm hil),List.set_comm _ _ (Ne.symm hij)]
 rw [e] at I6
 exact ⟨_,H1,I6,q1⟩
theorem Zb (kvs:List (Key×V)) (k:Key) (v:V):(qa kvs k v).length≤kvs.length+1:=by
 unfold qa
 split
 ·rw [List.length_map];omega
 ·rw [List.length_append];simp
structure QT (X:Cx) (e:Expr) (t:TT):Prop where
 h:PT X e t
structure QW (X:Cx) (e:Expr) (t:TT):Prop where
 h:PW X e t
structure QG (X:Cx) (e:Expr) (t:TG):Prop where
 h:PG X e t
structure QGs (X:Cx) (e:List Expr) (t:TGs):Prop where
 h:PGs X e t
structure QI (X:Cx) (tg e:Expr) (t:TI):Prop where
 h:PI X tg e t
structure QO (X:Cx) (e:Option Expr) (t:TO):Prop where
 h:PO X e t
structure QTs (X:Cx) (e:List Expr) (t:TT):Prop where
 h:PTs X e t
theorem QW.pt {X:Cx} {e:Expr} {t:TT} (h:QW X e t):QT X e t:=⟨h.h.pt⟩
theorem jdr {X:Cx} {e:Expr} {t:TE} (h:QE X e t) (he:∀ whole,isTrue e X.env whole=(do let v ← whole;standAt e.pos;holding [v] (truthy v)):=by intro _;rfl):QT X e (tB t):=⟨je8 h.h he⟩
theorem zpv {X:Cx} (i:Nat) {x:Str} {pos:Pos} (h1:(Cx.N X)[i]?=some x:=by rfl) (h2:Vis (Env.scope (Cx.env X)) x:=by first | exact Or.inl rfl | exact Or.inr (Or.inl rfl) | exact Or.inr (Or.inr rfl)) (h3:(x == Str.ofString "__debug__")=false:=by decide) (h4:(x == Str.ofString "__classdict__")=false:=by decide):QE X (Expr.Name x pos) (je1 i):=
 ⟨@pv _ i _ _ h1 h2 h3 h4⟩
theorem jh {X:Cx} {i:Int} {j:Nat} {pos:Pos}:QE X (Expr.Constant (Const.int i) j pos) (tC (V.int i)):=
 ⟨@jcA _ _ _ _⟩
theorem jy {X:Cx} {x:Str} {j:Nat} {pos:Pos}:QE X (Expr.Constant (Const.str x) j pos) (tC (V.str x)):=
 ⟨@jcx _ _ _ _⟩
theorem jbU {X:Cx} {b:Bool} {j:Nat} {pos:Pos}:QE X (Expr.Constant (Const.bool b) j pos) (tC (V.bl b)):=
 ⟨@jgc _ _ _ _⟩
theorem jdu {X:Cx} {j:Nat} {pos:Pos}:QE X (Expr.Constant Const.none j pos) (tC V.non):=
 ⟨@jfk _ _ _⟩
theorem jbT {X:Cx} {x:Str} {v:V} {u:Value} {pos:Pos} (h1:Gl X x) (h2:Cx.mg X x=none) (h3:bootBuiltins x=some u) (h4:RelV v u) (h5:x≠Str.ofString "__name__":=by decide) (h6:(x == Str.ofString "__debug__")=false:=by decide):QE X (Expr.Name x pos) (tC v):=
 ⟨@jd3 _ _ _ _ _ h1 h2 h3 h4 h5 h6⟩
theorem js {X:Cx} {a b:Expr} {ta tb:TE} {pos:Pos} {op:Operator} {r:R2} (h1:OpR X (binaryOp op) r) (h2:QE X a ta) (h3:QE X b tb):QE X (Expr.BinOp a op b pos) (tOp r ta tb):=
 ⟨@jf6 _ _ _ _ _ _ _ _ h1 h2.h h3.h⟩
theorem jao {X:Cx} {a:Expr} {ta:TE} {pos:Pos} (h1:QE X a ta):QE X (Expr.UnaryOp UnaryOp.Not a pos) (jeB ta):=
 ⟨@jfj _ _ _ _ h1.h⟩
theorem jeW {X:Cx} {a:Expr} {ta:TE} {pos:Pos} {op:UnaryOp} {r:V→Hp→VK→Prop} (h1:UnR X (unaryOp op) r) (h2:QE X a ta):QE X (Expr.UnaryOp op a pos) (tUn r ta):=
 ⟨@jf5 _ _ _ _ _ _ h1 h2.h⟩
theorem yA {X:Cx} {a b:Expr} {ta tb:TE} {pos:Pos} {op:CmpOp} {r:R2} (h1:OpR X (compareOp op) r) (h2:QE X a ta) (h3:QE X b tb) (h4:behindInMarks op b=false):QE X (Expr.Compare a [op] [b] pos) (tOp r ta tb):=
 ⟨@jd2 _ _ _ _ _ _ _ _ h1 h2.h h3.h h4⟩
theorem jan {X:Cx} {a:Expr} {pos:Pos} {op:BoolOp} {t:TE} (h1:QE X a t):QE X (Expr.BoolOp op [a] pos) t:=
 ⟨@jfi _ _ _ _ _ h1.h⟩
theorem JG {X:Cx} {a b:Expr} {ta tb:TE} {pos:Pos} {qi:List Expr} (h1:QE X a ta) (h2:QE X (Expr.BoolOp BoolOp.And (b :: qi) pos) tb):QE X (Expr.BoolOp BoolOp.And (a :: b :: qi) pos) (jeG ta tb):=
 ⟨@jfo _ _ _ _ _ _ _ h1.h h2.h⟩
theorem jQ {X:Cx} {e:Expr} {te:TE} {lo hi:Option Expr} {tl th:TO} {pos p2:Pos} {r:V→Option Int→Option Int→Hp→VK→Prop} (h1:SlR X r) (h2:QE X e te) (h3:QO X lo tl) (h4:QO X hi th):QE X (Expr.Subscript e (Expr.Slice lo hi none p2) pos) (tSl r te tl th):=
 ⟨@jcy _ _ _ _ _ _ _ _ _ _ h1 h2.h h3.h h4.h⟩
theorem YW {X:Cx} {o i:Expr} {pos:Pos} {td ty:TE} (h1:Around.units (Cx.A X)+1 < cLine) (h2:QE X o td) (h3:QE X i ty) (h4:jfI i):QE X (Expr.Subscript o i pos) (jeF td ty):=
 ⟨@jd0 _ _ _ _ _ _ h1 h2.h h3.h h4⟩
theorem jw {X:Cx} {a b:Expr} {ta tb:TE} {pos:Pos} {r:R2} (h1:IxR X r) (h2:QE X a ta) (h3:QE X b tb) (h4:jaV b):QE X (Expr.Subscript a b pos) (tOp r ta tb):=
 ⟨@jf8 _ _ _ _ _ _ _ h1 h2.h h3.h h4⟩
theorem jN {X:Cx} {es:List Expr} {t:TA} {pos:Pos} (h1:QA X es t):QE X (Expr.List es pos) (jfP t):=
 ⟨@jfl _ _ _ _ h1.h⟩
theorem jY {X:Cx} {es:List Expr} {t:TA} {pos:Pos} {x1:Nat} (h1:QA X es t):QE X (Expr.Tuple es x1 pos) (jfL t):=
 ⟨@jcw _ _ _ _ _ h1.h⟩
theorem qJ {X:Cx} {scope:Scope} {elt tg iter:Expr} {ifs:List Expr} {pos:Pos} {wi:TI} {g:TG} {tt:TT} {te:TE} (own:List Str) (fr:List Nat) (h1:Cx.calm X=true) (h2:CompOk X scope fr) (h3:QI (Cx.nox X) tg iter wi) (h4:∀ (s:PySem.Shared) (H:Hp) (ex:List PySem.Addr),QG (blk (Cx.nox X) scope own fr s H ex) tg g∧QTs (blk (Cx.nox X) scope own fr s H ex) ifs tt∧QE (blk (Cx.nox X) scope own fr s H ex) elt te) (h5:∀ (x:Value),foldedSetIterable iter (Cx.env X) x=pure x:=by intro _;rfl):QE (Cx.nox X) (Expr.ListComp elt [{ target:=tg,iter:=iter,ifs:=ifs,is_async:=0 }] scope pos) (KG own fr wi g tt te):=
 ⟨@jd1 _ _ _ _ _ _ _ _ _ _ _ own fr h1 h2 h3.h (fun s H ex=>⟨(h4 s H ex).1.h,(h4 s H ex).2.1.h,(h4 s H ex).2.2.h⟩) h5⟩
theorem ja4 {X:Cx} {scope:Scope} {kx vx tg iter:Expr} {ifs:List Expr} {pos:Pos} {wi:TI} {g:TG} {tt:TT} {tk tv:TE} (own:List Str) (fr:List Nat) (h1:Cx.calm X=true) (h2:CompOk X scope fr) (h3:QI (Cx.nox X) tg iter wi) (h4:∀ (s:PySem.Shared) (H:Hp) (ex:List PySem.Addr),QG (blk (Cx.nox X) scope own fr s H ex) tg g∧QTs (blk (Cx.nox X) scope own fr s H ex) ifs tt∧QE (blk (Cx.nox X) scope own fr s H ex) kx tk∧QE (blk (Cx.nox X) scope own fr s H ex) vx tv) (h5:∀ (x:Value),foldedSetIterable iter (Cx.env X) x=pure x:=by intro _;rfl):QE (Cx.nox X) (Expr.DictComp kx vx [{ target:=tg,iter:=iter,ifs:=ifs,is_async:=0 }] scope pos) (ZU own fr wi g tt tk tv):=
 ⟨@jcD _ _ _ _ _ _ _ _ _ _ _ _ _ own fr h1 h2 h3.h (fun s H ex=>⟨(h4 s H ex).1.h,(h4 s H ex).2.1.h,(h4 s H ex).2.2.1.h,(h4 s H ex).2.2.2.h⟩) h5⟩
theorem zq {X:Cx} {e:Expr} {f:Str} {pos:Pos} {ta:TE} (h1:QE X e ta) (h2:attributeBase e f (Cx.env X) (eval e (Cx.env X))=eval e (Cx.env X)):QE X (Expr.Attribute e f pos) (jfU (Cx.K X) ta f):=
 ⟨@jfn _ _ _ _ _ h1.h h2⟩
theorem jP {X:Cx} {k k':Nat} {x:Str} {ps:List Str} {sp:Sp} {e:Expr} {es:List Expr} {t:TA} {p pos:Pos} (h1:Fn (Cx.prog X) (Cx.w X) (Cx.K X) (Cx.mg X) (Cx.base X) k x ps sp) (h2:Room k' (Cx.A X)) (h3:QA X (e :: es) t) (h4:k≤k':=by decide) (h5:Gl X x:=by rfl) (h6:(x == Str.ofString "__debug__")=false:=by decide) (h7:List.all (e :: es) j5=true:=by rfl):QE X (Expr.Call (Expr.Name x p) (e :: es) [] pos) (KH sp [] E0 t):=
 ⟨@jeK _ _ _ _ _ _ _ _ _ _ _ h1 h2 h3.h h4 h5 h6 h7⟩
theorem kP {X:Cx} {x:Str} {p pos:Pos} {e:Expr} {es:List Expr} {t:TA} {id:String} {r:List V→Hp→VK→Prop} (h1:qo X (Value.builtin id) r) (h2:Gl X x) (h3:Cx.mg X x=none) (h4:bootBuiltins x=some (Value.builtin id)) (h5:QA X (e :: es) t) (h6:List.all (e :: es) j5=true:=by rfl) (h7:x≠Str.ofString "__name__":=by decide) (h8:(x == Str.ofString "__debug__")=false:=by decide):QE X (Expr.Call (Expr.Name x p) (e :: es) [] pos) (tCB r t):=
 ⟨@jga _ _ _ _ _ _ _ _ _ h1 h2 h3 h4 h5.h h6 h7 h8⟩
theorem yo {X:Cx} {x:Str} {p pos:Pos} {e:Expr} {es:List Expr} {t:TA} {T:String} {r:List V→Hp→VK→Prop} (h1:qo X (Value.type T) r) (h2:Gl X x) (h3:Cx.mg X x=none) (h4:bootBuiltins x=some (Value.type T)) (h5:QA X (e :: es) t) (h6:List.all (e :: es) j5=true:=by rfl) (h7:x≠Str.ofString "__name__":=by decide) (h8:(x == Str.ofString "__debug__")=false:=by decide):QE X (Expr.Call (Expr.Name x p) (e :: es) [] pos) (tCB r t):=
 ⟨@jf9 _ _ _ _ _ _ _ _ _ h1 h2 h3 h4 h5.h h6 h7 h8⟩
theorem ja3 {X:Cx} {o e f:Expr} {apos cpos:Pos} {td ty tx:TE} (h1:Around.units (Cx.A X)+1 < cLine) (h2:QE X o td) (h3:QE X e ty) (h4:QE X f tx) (h5:M2 X o (Str.ofString "get") apos e f cpos):QE X (Expr.Call (Expr.Attribute o (Str.ofString "get") apos) [e,f] [] cpos) (jb8 td ty tx):=
 ⟨@jcC _ _ _ _ _ _ _ _ _ h1 h2.h h3.h h4.h h5⟩
theorem qC {X:Cx} {o e:Expr} {es:List Expr} {to:TE} {t:TA} {name:Str} {apos cpos:Pos} {T id:String} {r:V→List V→Hp→VK→Prop} (h1:PlainAttrs T) (h2:Slot T name id) (h3:typeOf (Value.builtin id)=pure (Value.type "method_descriptor")) (h4:MtR X id r) (h5:QE X o to) (h6:QA X (e :: es) t) (h7:attributeBase o name (Cx.env X) (eval o (Cx.env X))=eval o (Cx.env X):=by rfl) (h8:(((List.all (backTo cpos (starEach (e :: es) (Cx.env X))) fun x=>!Prod.fst x) && List.all (backToKw cpos (keywordEach [] (Cx.env X))) fun x=>Option.isSome (Prod.fst x)) && decide ((List.length (e :: es)+List.length ([]:List PySem.Keyword)+if List.isEmpty ([]:List PySem.Keyword)=true then 0 else 1) < 30))=true:=by rfl) (h9:(Pos.endLine apos == Pos.line cpos)=true:=by rfl) (h10:starEach (e :: es) (Cx.env X)=(false,eval e (Cx.env X)) :: starEach es (Cx.env X):=by rfl) (h11:(List.any (backTo cpos (starEach es (Cx.env X))) fun x=>Prod.fst x)=false:=by rfl):QE X (Expr.Call (Expr.Attribute o name apos) (e :: es) [] cpos) (tBM (Cx.K X) T r to t):=
 ⟨@jgb _ _ _ _ _ _ _ _ _ _ _ _ h1 h2 h3 h4 h5.h h6.h h7 h8 h9 h10 h11⟩
theorem jds {X:Cx} {a:Expr} {pos:Pos} {tA:TT} (h1:QT X a tA):QT X (Expr.UnaryOp UnaryOp.Not a pos) (jfO tA):=
 ⟨@je9 _ _ _ _ h1.h⟩
theorem jx {X:Cx} {a b:Expr} {ta tb:TE} {pos:Pos} {op:CmpOp} {r:R2} (h1:OpR X (compareOp op) r) (h2:QE X a ta) (h3:QE X b tb) (h4:behindInMarks op b=false):QT X (Expr.Compare a [op] [b] pos) (jey (tOp r ta tb)):=
 ⟨@jdK _ _ _ _ _ _ _ _ h1 h2.h h3.h h4⟩
theorem jam {X:Cx} {a b:Expr} {pos:Pos} {tA tB':TT} {qi:List Expr} (h1:QT X a tA) (h2:QW X (Expr.BoolOp BoolOp.And (b :: qi) pos) tB'):QW X (Expr.BoolOp BoolOp.And (a :: b :: qi) pos) (jfW tA tB'):=
 ⟨@je7 _ _ _ _ _ _ _ h1.h h2.h⟩
theorem YT {X:Cx} {a:Expr} {pos:Pos} {tA:TT} (h1:QT X a tA):QW X (Expr.BoolOp BoolOp.And [a] pos) tA:=
 ⟨@jdH _ _ _ _ h1.h⟩
theorem ki {X:Cx}:QO X none jar:=
 ⟨@jdS _⟩
theorem jR {X:Cx} {e:Expr} {te:TE} (h1:QE X e te):QO X (some e) (jez te):=
 ⟨@jdR _ _ _ h1.h⟩
theorem ZN {X:Cx} {tg a:Expr} {ta:TA} {p pos:Pos} (h1:Gl X (Str.ofString "range")) (h2:Cx.mg X (Str.ofString "range")=none) (h3:QA X [a] ta) (h4:starEach [a] (Cx.env X)=[(false,eval a (Cx.env X))]:=by rfl):QI X tg (Expr.Call (Expr.Name (Str.ofString "range") p) [a] [] pos) (jeQ ta):=
 ⟨@jbh _ _ _ _ _ _ h1 h2 h3.h h4⟩
theorem kJ {X:Cx} {tg l:Expr} {tl:TE} (h1:QE X l tl):QI X tg l (jeR (Cx.K X) tl):=
 ⟨@jdT _ _ _ _ h1.h⟩
theorem qq {X:Cx} {tg l:Expr} {tl:TE} (h1:QE X l tl):QI X tg l (jgm (Cx.K X) tl):=
 ⟨@jfg _ _ _ _ h1.h⟩
theorem jbQ {X:Cx} {elts:List Expr} {x1:Nat} {tp:Pos} {a:Expr} {ta:TA} {p pos:Pos} (h1:Gl X (Str.ofString "enumerate")) (h2:Cx.mg X (Str.ofString "enumerate")=none) (h3:QA X [a] ta) (h4:starEach [a] (Cx.env X)=[(false,eval a (Cx.env X))]:=by rfl):QI X (Expr.Tuple elts x1 tp) (Expr.Call (Expr.Name (Str.ofString "enumerate") p) [a] [] pos) (jeS (Cx.K X) ta):=
 ⟨@jdU _ _ _ _ _ _ _ _ h1 h2 h3.h h4⟩
theorem Ja {X:Cx} {elts:List Expr} {x1:Nat} {tp:Pos} {a:Expr} {ta:TA} {p pos:Pos} (h1:Gl X (Str.ofString "enumerate")) (h2:Cx.mg X (Str.ofString "enumerate")=none) (h3:QA X [a] ta) (h4:starEach [a] (Cx.env X)=[(false,eval a (Cx.env X))]:=by rfl):QI X (Expr.Tuple elts x1 tp) (Expr.Call (Expr.Name (Str.ofString "enumerate") p) [a] [] pos) (jc5 (Cx.K X) ta):=
 ⟨@jct _ _ _ _ _ _ _ _ h1 h2 h3.h h4⟩
theorem jt {X:Cx} {pos:Pos} {i:Nat} {x:Str} {e:Expr} {te:TE} {pos':Pos} (h1:List.Nodup (Cx.N X)) (h2:(Cx.N X)[i]?=some x) (h3:L2.Loc (Env.scope (Cx.env X)) x) (h4:QE X e te) (h5:swapsWith e (some (Expr.Name x pos')) (Pos.line pos) (Cx.env X)=pure false:=by rfl) (h6:Cx.fn X x=true∨List.lookup x (Scope.names (Env.scope (Cx.env X)))=some NameKind.local:=by first | exact .inl rfl | exact .inr rfl | assumption):QS X (Stmt.Assign [Expr.Name x pos'] e pos) (jba te (qe i)):=
 ⟨@jfa _ _ _ _ _ _ _ h1 h2 h3 h4.h h5 h6⟩
theorem qY {X:Cx} {scope:Scope} {elt tg iter:Expr} {ifs:List Expr} {pos:Pos} {wi:TI} {g:TG} {tt:TT} {te:TE} {i:Nat} {y:Str} {py spos:Pos} (h1:List.Nodup (Cx.N X)) (h2:(Cx.N X)[i]?=some y) (h3:L2.Loc (Env.scope (Cx.env X)) y) (own:List Str) (fr:List Nat) (h4:Cx.calm X=true) (h5:CompOk X scope fr) (h6:QI (Cx.nox X) tg iter wi) (h7:∀ (s:PySem.Shared) (H:Hp) (ex:List PySem.Addr),QG (blk (Cx.nox X) scope own fr s H ex) tg g∧QTs (blk (Cx.nox X) scope own fr s H ex) ifs tt∧QE (blk (Cx.nox X) scope own fr s H ex) elt te) (h8:∀ (x:Value),foldedSetIterable iter (Cx.env X) x=pure x:=by intro _;rfl) (h9:swapsWith (Expr.ListComp elt [{ target:=tg,iter:=iter,ifs:=ifs,is_async:=0 }] scope pos) (some (Expr.Name y py)) (Pos.line spos) (Cx.env X)=pure true:=by rfl) (h10:Cx.fn X y=true∨List.lookup y (Scope.names (Env.scope (Cx.env X)))=some NameKind.local:=by first | exact .inl rfl | exact .inr rfl | assumption):QS (Cx.nox X) (Stmt.Assign [Expr.Name y py] (Expr.ListComp elt [{ target:=tg,iter:=iter,ifs:=ifs,is_async:=0 }] scope pos) spos) (jba (KG own fr wi g tt te) (qe i)):=
 ⟨@ZW _ _ _ _ _ _ _ _ _ _ _ _ _ _ _ h1 h2 h3 own fr h4 h5 h6.h (fun s H ex=>⟨(h7 s H ex).1.h,(h7 s H ex).2.1.h,(h7 s H ex).2.2.h⟩) h8 h9 h10⟩
theorem YU {X:Cx} {o i value:Expr} {pos pos':Pos} {td ty tv:TE} (h1:Around.units (Cx.A X)+1 < cLine) (h2:QE X o td) (h3:QE X i ty) (h4:QE X value tv) (h5:swapsWith value (some (Expr.Subscript o i pos')) (Pos.line pos) (Cx.env X)=pure false):QS X (Stmt.Assign [Expr.Subscript o i pos'] value pos) (jeI td ty tv):=
 ⟨@jdQ _ _ _ _ _ _ _ _ _ h1 h2.h h3.h h4.h h5⟩
theorem Yg {X:Cx} {o value:Expr} {f:Str} {pos pos':Pos} {ta tv:TE} (h1:QE X o ta) (h2:QE X value tv) (h3:swapsWith value (some (Expr.Attribute o f pos')) (Pos.line pos) (Cx.env X)=pure false):QS X (Stmt.Assign [Expr.Attribute o f pos'] value pos) (jf1 (Cx.K X) ta tv f):=
 ⟨@jfd _ _ _ _ _ _ _ _ h1.h h2.h h3⟩
theorem qE {X:Cx} {pos:Pos} {tg e:Expr} {te:TE} {g:TG} (h1:QE X e te) (h2:QG X tg g) (h3:swapsWithSole [tg] e (Pos.line pos) (Cx.env X)=pure false:=by rfl) (h4:swappedStores [tg] e (Cx.env X)=pure none:=by rfl) (h5:List.map (fun x=>Prod.snd x) (assignEach [tg] (Cx.env X))=[assign tg (Cx.env X)]:=by rfl):QS X (Stmt.Assign [tg] e pos) (jba te g):=
 ⟨@jfe _ _ _ _ _ _ h1.h h2.h h3 h4 h5⟩
theorem jq {X:Cx} {e:Expr} {te:TE} {pos:Pos} (h1:QE X e te):QS X (Stmt.Return (some e) pos) (jfN te):=
 ⟨@jfb _ _ _ _ h1.h⟩
theorem jU {X:Cx} {t u:TS} {pos:Pos} {c:Expr} {a b:List Stmt} {tc:TT} (h1:QT X c tc) (h2:QSs X a t) (h3:QSs X b u):QS X (Stmt.If c a b pos) (jfQ tc t u):=
 ⟨@jf4 _ _ _ _ _ _ _ _ h1.h h2.h h3.h⟩
theorem kr {X:Cx} {tg iter:Expr} {body:List Stmt} {wi:TI} {g:TG} {tb:TS} {pos:Pos} (h1:PassesOwn (model (Cx.prog X) (Cx.w X)) (Cx.A X) (Cx.env X) (Cx.xe X)) (h2:Cx.calm X=true) (h3:QI X tg iter wi) (h4:QG X tg g) (h5:QSs X body tb) (h6:∀ (x:Value),foldedSetIterable iter (Cx.env X) x=pure x:=by intro _;rfl):QS X (Stmt.For tg iter body [] pos) (jfS wi g tb):=
 ⟨@jfc _ _ _ _ _ _ _ _ h1 h2 h3.h h4.h h5.h h6⟩
theorem j6 {X:Cx} {e:Expr} {te:TE} {pos:Pos} (h1:QE X e te) (h2:swapsWith e none (Pos.line pos) (Cx.env X)=pure false:=by rfl):QS X (Stmt.Expr e pos) (jeE te):=
 ⟨@jdP _ _ _ _ h1.h h2⟩
theorem jn {X:Cx} {pos:Pos} {i:Nat} {x:Str} (h1:List.Nodup (Cx.N X)) (h2:(Cx.N X)[i]?=some x) (h3:L2.Loc (Env.scope (Cx.env X)) x) (h4:Cx.fn X x=true∨List.lookup x (Scope.names (Env.scope (Cx.env X)))=some NameKind.local:=by first | exact .inl rfl | exact .inr rfl | assumption):QG X (Expr.Name x pos) (qe i):=
 ⟨@jdW _ _ _ _ h1 h2 h3 h4⟩
theorem kH {X:Cx} {pos:Pos} {es:List Expr} {k:Nat} {t:TGs} {n:Nat} (h1:Cx.calm X=true) (h2:QGs X es t) (h3:List.length (assignEach es (Cx.env X))=n:=by rfl) (h4:List.findIdx? (fun x=>Prod.fst x) (assignEach es (Cx.env X))=none:=by rfl):QG X (Expr.Tuple es k pos) (jgn (Cx.K X) n t):=
 ⟨@jfh _ _ _ _ _ _ h1 h2.h h3 h4⟩
theorem kj {X:Cx}:QGs X [] jgo:=
 ⟨@jdV _⟩
theorem jr {X:Cx} {e:Expr} {es:List Expr} {t:TG} {u:TGs} (h1:QG X e t) (h2:QGs X es u) (h3:List.map (fun x=>Prod.snd x) (assignEach (e :: es) (Cx.env X))=assign e (Cx.env X) :: List.map (fun x=>Prod.snd x) (assignEach es (Cx.env X)):=by rfl):QGs X (e :: es) (jeU t u):=
 ⟨@jcu _ _ _ _ _ h1.h h2.h h3⟩
theorem jE {X:Cx}:QSs X [] jeC:=
 ⟨@jdM _⟩
theorem ji {X:Cx} {st:Stmt} {t:TS} (h1:QS X st t):QSs X [st] t:=
 ⟨@jdL _ _ _ h1.h⟩
theorem jd {X:Cx} {st:Stmt} {qi:List Stmt} {t u:TS} (h1:QS X st t) (h2:QSs X qi u):QSs X (st :: qi) (jfM t u):=
 ⟨@jcn _ _ _ _ _ h1.h h2.h⟩
theorem qS {X:Cx}:QTs X [] Yi:=
 ⟨@jdJ _⟩
theorem zf {X:Cx} {c:Expr} {t:TT} (h1:QT X c t):QTs X [c] t:=
 ⟨@jdI _ _ _ h1.h⟩
theorem jb {X:Cx}:QA X [] jdA:=
 ⟨@jcF _⟩
theorem jc {X:Cx} {e:Expr} {es:List Expr} {te:TE} {t:TA} (h1:QE X e te) (h2:QA X es t) (h3:j5 e=true:=by rfl):QA X (e :: es) (jb9 te t):=
 ⟨@jge _ _ _ _ _ h1.h h2.h h3⟩
theorem jbP {X:Cx} {pos:Pos} {i j l:Nat} {x y z:Str} {a b c:Expr} {ta:TA} {px py pz pt:Pos} {kt k2:Nat} {pt2:Pos} (h1:Cx.calm X=true) (h2:List.Nodup (Cx.N X)) (h3:(Cx.N X)[i]?=some x) (h4:(Cx.N X)[j]?=some y) (h5:(Cx.N X)[l]?=some z) (h6:i≠j) (h7:i≠l) (h8:j≠l) (h9:L2.Loc (Env.scope (Cx.env X)) x) (h10:L2.Loc (Env.scope (Cx.env X)) y) (h11:L2.Loc (Env.scope (Cx.env X)) z) (h12:QA X [a,b,c] ta) (h13:swappedStores [Expr.Tuple [Expr.Name x px,Expr.Name y py,Expr.Name z pz] kt pt] (Expr.Tuple [a,b,c] k2 pt2) (Cx.env X)=pure (some [x,y,z])) (h14:Cx.fn X x=true∨List.lookup x (Scope.names (Env.scope (Cx.env X)))=some NameKind.local) (h15:Cx.fn X y=true∨List.lookup y (Scope.names (Env.scope (Cx.env X)))=some NameKind.local) (h16:Cx.fn X z=true∨List.lookup z (Scope.names (Env.scope (Cx.env X)))=some NameKind.local) (h17:swapsWithSole [Expr.Tuple [Expr.Name x px,Expr.Name y py,Expr.Name z pz] kt pt] (Expr.Tuple [a,b,c] k2 pt2) (Pos.line pos) (Cx.env X)=pure false:=by rfl):QS X (Stmt.Assign [Expr.Tuple [Expr.Name x px,Expr.Name y py,Expr.Name z pz] kt pt] (Expr.Tuple [a,b,c] k2 pt2) pos) (jeA i j l ta):=
 ⟨@jdN _ _ _ _ _ _ _ _ _ _ _ _ _ _ _ _ _ _ _ h1 h2 h3 h4 h5 h6 h7 h8 h9 h10 h11 h12.h h13 h14 h15 h16 h17⟩
theorem zg {X:Cx} {x:Str} {v:V} {u:Value} {pos:Pos} (h1:Gl X x) (h2:Cx.mg X x=some u) (h3:RelV v u) (h4:(x == Str.ofString "__debug__")=false:=by decide):QE X (Expr.Name x pos) (tC v):=
 ⟨@jdZ _ _ _ _ _ h1 h2 h3 h4⟩
theorem ja0 {X:Cx} {st:Stmt}:QS X st jb6:=⟨jcq⟩
theorem JS {X:Cx} {st:Stmt} {t:TS} (h:QS X st t):QS X st (jeD t):=⟨jdO h.h⟩
theorem Fun.okZ {P:Program} {w:World} {K:W.Frag} {mg:Str→Option Value} {base:Heap} {x qual:Str} {st:Stmt} {f:Addr} {fd:FuncData} {N ps:List Str} {k:Nat} {sp:Sp} (F:Fun K x qual st f fd) (S:FnScope N ps (jm st)) (len:∀ vs H Q E,sp vs H Q E→vs.length=ps.length)
  (hbody:∀ (cdv:Value) (A:Around) (outer:List Env) (s:Shared) (H:Hp) (vs:List V) (Q:VK) (E:XK),Room k (A.deeper (envOfC qual (jm st) s.heap.objs.size f cdv))→sp vs H Q E→
   ∃ t,QSs (Kv CX0 P w K mg base N qual (jm st) f cdv A outer s H E).nox (qH st) t∧t { nx:=fun _ H'=>Q .non H',rt:=Q } (zI N vs) H):FnOk P w K mg base CX0 (k+1) f fd ps sp:=
 F.ok S len fun cdv A outer s H vs Q E hr h=>let ⟨t,a,b⟩:=hbody cdv A outer s H vs Q E hr h;⟨t,a.h,b⟩
theorem yq {X:Cx} {e:Expr} {t:TE} (h:QE X e t):PD X e (rE t):=jgd h.h
theorem zpd {X:Cx} {e:Expr} {R:RD} (h:PD X e R):QE X e (tHD R):=⟨h.h⟩
open PySem PySem.Spec PyProof.Rows PySem.W
def SetAtS (prog:Program) (w:World) (h:Heap) (a:Addr) (led:Bool) (σ:List Str):Prop:=∃ (es:Array (Int×Value)) (ep:Nat) (t:SetTable),
 h.get? a=some { cls:=.type "set",dict:=none,data:=.set es ep t }∧ElemsOf (PySem.strKind prog w) es.toList∧(∃ l:List Str,StrsAre (es.toList.map (·.2)) l∧l.Perm σ)∧es.size < scanBound∧t.fits es.size=true∧TabOk led t
theorem SetAtS.kept {prog:Program} {w:World} {h h':Heap} {a:Addr} {led:Bool} {σ:List Str} (x:SetAtS prog w h a led σ) (k:∀ o,h.get? a=some o→h'.get? a=some o):SetAtS prog w h' a led σ:=by
 obtain ⟨es,ep,t,e,r⟩:=x
 exact ⟨es,ep,t,k _ e,r⟩
theorem JW {vs:List Value} {l:List Str} (h:StrsAre vs l) {v:Str}:v∈l↔∃ t,Value.str v t∈vs:=by
 induction h with
 | nil=>simp
 | cons n t h ih=>
  constructor
  ·intro hv
   rcases List.mem_cons.mp hv with rfl | hv
   ·exact ⟨t,List.mem_cons_self⟩
   ·obtain ⟨t',ht⟩:=ih.mp hv
    exact ⟨t',List.mem_cons_of_mem _ ht⟩
  ·rintro ⟨t',ht⟩
   rcases List.mem_cons.mp ht with e | ht
   ·cases e
    exact List.mem_cons_self
   ·exact List.mem_cons_of_mem _ (ih.mpr ⟨t',ht⟩)
theorem KI:∀ {vs:List Value} {l:List Str} {v:Str} {t:Tok},StrsAre vs l→StrsAre (vs++[.str v t]) (l++[v])
 | _,_,v,t,.nil=>.cons v t .nil
 | _,_,v,t,.cons n t' h=>.cons n t' (KI h)
theorem zZ {vs vs':List Value} {l:List Str} (h:StrsAre vs l) (p:vs'.Perm vs):∃ l',StrsAre vs' l'∧l'.Perm l:=by
 refine ⟨vs'.map strOf,strsAre_map vs' fun v hv=>h.all v (p.mem_iff.mp hv),?_⟩
 rw [← h.strs]
 exact p.map _
section
variable {prog:Program} {w:World} {A:Around} {E:Value→Shared→Prop} {s:Shared}
theorem KM {es:Array (Int×Value)} {l:List Str} (hI:StrsAre (es.toList.map (·.2)) l) {v:Str}:(∃ j,List.findIdx? (fun e=>(PySem.strKind prog w).is v e.2) es.toList=some j)↔v∈l:=by
 rw [JW hI]
 constructor
 ·rintro ⟨j,hj⟩
  obtain ⟨hlt,h1,_⟩:=List.findIdx?_eq_some_iff_getElem.mp hj
  obtain ⟨x,t,e⟩:=hI.all es.toList[j].2 (List.mem_map.mpr ⟨_,List.getElem_mem hlt,rfl⟩)
  have:v=x:=by
   rw [e] at h1
   exact (PySem.strKind prog w).inj _ _ _ h1 (strKind_is _ _ _ _)
  subst this
  exact ⟨t,List.mem_map.mpr ⟨_,List.getElem_mem hlt,e⟩⟩
 ·rintro ⟨t,ht⟩
  obtain ⟨e,he,e2⟩:=List.mem_map.mp ht
  cases hf:List.findIdx? (fun e=>(PySem.strKind prog w).is v e.2) es.toList with
  | some j=>exact ⟨j,rfl⟩
  | none=>
   have:=List.findIdx?_eq_none_iff.mp hf e he
   rw [e2,strKind_is] at this
   cases this
theorem J0 {a:Addr} {led:Bool} {σ:List Str} {es es':Array (Int×Value)} {ep:Nat} {t t':SetTable} {h:Heap} (ho:h.get? a=some { cls:=.type "set",dict:=none,data:=.set es ep t })
  (hel:ElemsOf (PySem.strKind prog w) es'.toList) (hl:∃ l:List Str,StrsAre (es'.toList.map (·.2)) l∧l.Perm σ) (hb:es'.size < scanBound) (hf:t'.fits es'.size=true) (ht:TabOk led t') :
  (h.update a (Obj.putSet es' t')).get? a=some { cls:=.type "set",dict:=none,data:=.set es' (ep+1) t' }∧SetAtS prog w (h.update a (Obj.putSet es' t')) a led σ:=by
 have hg:(h.update a (Obj.putSet es' t')).get? a=some { cls:=.type "set",dict:=none,data:=.set es' (ep+1) t' }:=by
  have:=Heap.get?_update_self (Obj.putSet es' t') ho (by rw [putSet_of es' t' rfl];rfl)
  rw [putSet_of es' t' rfl] at this
  exact this
 exact ⟨hg,es',ep+1,t',hg,hel,hl,hb,hf,ht⟩
theorem yH {a:Addr} {led:Bool} {σ:List Str} {v:Str} {tk:Tok} {Q:Bool→Shared→Prop} (hS:SetAtS prog w s.heap a led σ) (hroom:σ.length+1 < scanBound)
  (h:∀ b h',Heap.SameBut a s.heap h'→SetAtS prog w h' a led (if v∈σ then σ else σ++[v])→Q b { s with heap:=h' }):wpAny (model prog w) A (setAddHashed a (.str v tk) ((PySem.strKind prog w).hash v)) Q E s:=by
 obtain ⟨es,ep,t,ho,hel,⟨l,hI,hp⟩,hb,hf,ht⟩:=hS
 have hsz:es.size=σ.length:=by
  have h1:=hI.length
  have h2:=hp.length_eq
  rw [List.length_map,Array.length_toList] at h1
  omega
 unfold setAddHashed setAddHashedIn
 refine wpAny_holding (wpAny_bind (wpAny_setState_of ho rfl hf ?_))
 dsimp only
 rw [byScan_of (knd:=PySem.strKind prog w) rfl hb hel]
 simp only [↓reduceIte]
 unfold setAddByScan
 refine wpAny_bind (wpAny_bind (wpAny_rule (wpAny_bind (wpAny_setScan_of (knd:=PySem.strKind prog w) (strKind_is _ _ _ _) ho rfl hf hel ?_))))
 cases hr:List.findIdx? (fun e=>(PySem.strKind prog w).is v e.2) es.toList with
 | some j=>
  have hv:v∈σ:=hp.mem_iff.mp ((KM hI).mp ⟨j,hr⟩)
  dsimp only
  refine wpAny_pure (wpAny_pure ?_)
  have:=h false s.heap (Heap.SameBut.refl a s.heap) (by rw [if_pos hv];exact ⟨es,ep,t,ho,hel,⟨l,hI,hp⟩,hb,hf,ht⟩)
  exact this
 | none=>
  have hv:¬ v∈σ:=fun z=>by
   obtain ⟨j,hj⟩:=(KM (prog:=prog) (w:=w) hI).mpr (hp.mem_iff.mpr z)
   rw [hr] at hj
   cases hj
  rw [if_neg hv] at h
  dsimp only
  have gw:∀ (b:Bool) {s₁:Shared} {Q':Unit→Shared→Prop},Q' () s₁→wpAny (model prog w) A (match b with | true=>rule "set.scan.the-table-gave-way" | false=>pure ()) Q' E s₁:=fun b s₁ Q' hq=>by
   cases b
   ·exact wpAny_pure hq
   ·exact wpAny_rule hq
  have p1:=layNew_perm t es ((PySem.strKind prog w).hash v) (.str v tk)
  have f1:=layNew_fits t es ((PySem.strKind prog w).hash v) (.str v tk)
  have k1:=jbu ht es ((PySem.strKind prog w).hash v) (.str v tk)
  generalize layNew t es ((PySem.strKind prog w).hash v) (.str v tk)=L at p1 f1 k1 ⊢
  obtain ⟨es1,t1,wd,gv⟩:=L
  dsimp only at p1 f1 k1 ⊢
  rw [Array.toList_push] at p1
  have hel1:ElemsOf (PySem.strKind prog w) es1.toList:=(hel.push (strKind_is _ _ _ _) rfl).perm p1
  have hI1:∃ l:List Str,StrsAre (es1.toList.map (·.2)) l∧l.Perm (σ++[v]):=by
   have pm:=p1.map (·.2)
   rw [List.map_append] at pm
   obtain ⟨l',i1,i2⟩:=zZ (KI (t:=tk) hI) pm
   exact ⟨l',i1,i2.trans (hp.append_right _)⟩
  have hs1:es1.size=es.size+1:=by
   have:=p1.length_eq
   rw [List.length_append,Array.length_toList,Array.length_toList] at this
   simpa using this
  have hb1:es1.size < scanBound:=by omega
  refine wpAny_bind (gw _ ?_)
  have fin:∀ t2:SetTable,t2.fits es1.size=true→TabOk led t2→wpAny (model prog w) A (do
    storeSet a es1 t2
    if (!wd && t2.tooFull)=true then do
      (match (relayAll t2 es1 (SetTable.grown es1.size)).2.2 with | true=>rule "set.scan.the-table-gave-way" | false=>pure ():Sem Unit)
      storeSet a (relayAll t2 es1 (SetTable.grown es1.size)).1 (relayAll t2 es1 (SetTable.grown es1.size)).2.1
      pure (some true)
     else pure (some true)) (fun a_1 s'=>wpAny (model prog w) A (match a_1 with | some added=>pure added | none=>setAddHashedIn a (.str v tk) ((PySem.strKind prog w).hash v) 99999) Q E s') E s:=by
   intro t2 f2 k2
   refine wpAny_bind (wpAny_storeSet_of ho rfl ?_ (fits_of_scanBound hb1))
   obtain ⟨ho1,hS1⟩:=J0 (prog:=prog) (w:=w) (σ:=σ++[v]) ho hel1 hI1 hb1 f2 k2
   have sb1:=Heap.SameBut.update s.heap a (Obj.putSet es1 t2)
   split
   ·have p2:=relayAll_perm t2 es1 (SetTable.grown es1.size)
    have f3:=relayAll_fits t2 es1 (SetTable.grown es1.size)
    have k3:=jcj k2 es1 (SetTable.grown es1.size)
    generalize relayAll t2 es1 (SetTable.grown es1.size)=L at p2 f3 k3 ⊢
    obtain ⟨es2,t3,gv2⟩:=L
    dsimp only at p2 f3 k3 ⊢
    have hs2:es2.size=es1.size:=by rw [← Array.length_toList,p2.length_eq,Array.length_toList]
    have hI2:∃ l:List Str,StrsAre (es2.toList.map (·.2)) l∧l.Perm (σ++[v]):=by
     obtain ⟨l1,i1,i2⟩:=hI1
     obtain ⟨l',j1,j2⟩:=zZ i1 (p2.map (·.2))
     exact ⟨l',j1,j2.trans i2⟩
    refine wpAny_bind (gw _ (wpAny_bind (wpAny_storeSet_of ho1 rfl ?_ (fits_of_scanBound (by omega)))))
    obtain ⟨_,hS2⟩:=J0 (prog:=prog) (w:=w) (σ:=σ++[v]) ho1 (hel1.perm p2) hI2 (by omega) f3 k3
    exact wpAny_pure (wpAny_pure (h true _ (sb1.trans (Heap.SameBut.update _ a _)) hS2))
   ·exact wpAny_pure (wpAny_pure (h true _ sb1 hS1))
  split
  ·refine wpAny_bind ?_
   rw [hashByValue_scannable 8 rfl]
   refine wpAny_pure ?_
   refine fin _ ?_ ?_
   ·split
    ·exact f1
    ·exact SetTable.fits_plain_off f1
   ·split
    ·exact k1
    ·exact jbg k1
  ·refine wpAny_bind (wpAny_pure ?_)
   simp only [↓reduceIte]
   exact fin _ f1 k1
end
def dedupS (ns:List Str):List Str:=ns.foldl (fun σ v=>if v∈σ then σ else σ++[v]) []
theorem zW (ns:List Str) (v:Str):dedupS (ns++[v])=if v∈dedupS ns then dedupS ns else dedupS ns++[v]:=by unfold dedupS;rw [List.foldl_append];rfl
theorem zm (ns:List Str):(dedupS ns).Nodup∧(dedupS ns).length≤ns.length∧∀ x,x∈dedupS ns↔x∈ns:=by
 have key:∀ (l:List Str),(dedupS l.reverse).Nodup∧(dedupS l.reverse).length≤l.reverse.length∧∀ x,x∈dedupS l.reverse↔x∈l.reverse:=by
  intro l
  induction l with
  | nil=>exact ⟨List.nodup_nil,Nat.le_refl _,fun x=>Iff.rfl⟩
  | cons v l ih=>
   rw [List.reverse_cons,zW]
   obtain ⟨h1,h2,h3⟩:=ih
   split
   ·next h=>
    refine ⟨h1,by rw [List.length_append];omega,fun x=>?_⟩
    rw [List.mem_append,h3]
    constructor
    ·exact .inl
    ·rintro (z | z)
     ·exact z
     ·rw [List.mem_singleton.mp z]
      exact (h3 v).mp h
   ·next h=>
    refine ⟨?_,by rw [List.length_append,List.length_append];simp;simpa using h2,fun x=>by rw [List.mem_append,List.mem_append,h3]⟩
    rw [List.nodup_append]
    refine ⟨h1,by simp,fun x hx y hy e=>?_⟩
    rw [List.mem_singleton] at hy
    subst hy e
    exact h hx
 have:=key ns.reverse
 rw [List.reverse_reverse] at this
 exact this
section
variable {prog:Program} {w:World} {A:Around} {E:Value→Shared→Prop} {R:Result→Shared→Prop}
theorem set_loopS {S it l:Addr} {led:Bool} {its:List Value} {ns:List Str} (hh:A.handled=none) (hI:StrsAre its ns) (hSl:S≠l) (hSi:S≠it) (hli:l≠it) (hz:ns.length+1 < scanBound) :
  ∀ (k i:Nat) (s:Shared),i+k=ns.length→s.heap.IsListIter it l i→s.heap.IsList l its.toArray→SetAtS prog w s.heap S led (dedupS (ns.take i))→
   (∀ h' tk,(∀ b o,b≠S→b≠it→s.heap.get? b=some o→h'.get? b=some o)→SetAtS prog w h' S led (dedupS ns)→R (.ok (.ret .none)) { s with heap:=h',toks:=tk })→
   codeAny (model prog w) A (.builtin "set.update.loop" ⟨[.ref S,.ref it],[]⟩) R s:=by
 intro k
 induction k with
 | zero=>
  intro i s hk hit ht hS hR
  have hl:=hI.length
  refine codeAny_builtin F.entry_set_update_loop ?_
  rw [Around.under_plainId F.plain_set_update_loop _]
  show wpAny _ A.in1 (pyNext (.ref it) >>= _) _ _ s
  refine wpAny_bind (wpAny_pyNext_list_end (A:=A.in1) hh hit ht (by simp;omega) fun h1 he1=>?_)
  show wpAny _ A.in1 (ret Value.none) _ _ _
  refine wpAny_pure ?_
  rw [show ns.take i=ns from List.take_of_length_le (by omega)] at hS
  exact hR h1 s.toks (fun b o _ hb e=>he1 b o hb e) (hS.kept fun o e=>he1 S o hSi e)
 | succ k ih=>
  intro i s hk hit ht hS hR
  have hl:=hI.length
  have hlt:i < ns.length:=by omega
  have hgi:its.toArray[i]?=some its[i]:=by simp [hl,hlt]
  obtain ⟨t,et⟩:∃ t,its[i]=.str ns[i] t:=by
   obtain ⟨t,ht⟩:=hI.get i ns[i] (by simp [hlt])
   exact ⟨t,by rw [List.getElem?_eq_getElem (by omega)] at ht;exact Option.some.inj ht⟩
  refine codeAny_builtin F.entry_set_update_loop ?_
  rw [Around.under_plainId F.plain_set_update_loop _]
  show wpAny _ A.in1 (pyNext (.ref it) >>= _) _ _ s
  refine wpAny_bind (wpAny_pyNext_list_item hit ht hgi fun h1 hit1 hs1=>?_)
  have ht1:h1.IsList l its.toArray:=ht.extBut hs1.extBut hli
  have hS1:SetAtS prog w h1 S led (dedupS (ns.take i)):=hS.kept fun o e=>(hs1.2 S hSi).trans e
  rw [et]
  show wpAny _ A.in1 (holding [Value.str ns[i] t] (setAdd S (.str ns[i] t)) >>= _) _ _ _
  refine wpAny_bind (wpAny_holding ?_)
  unfold setAdd
  refine wpAny_holding ?_
  refine wpAny_bind ((PySem.strKind prog w).pyHash (k:=ns[i]) (strKind_is _ _ _ _) ?_)
  have hroom:(dedupS (ns.take i)).length+1 < scanBound:=by
   have:=(zm (ns.take i)).2.1
   rw [List.length_take] at this
   omega
  refine yH (s:={ s with heap:=h1,toks:=s.toks+1 }) hS1 hroom fun b h2 hs2 hS2=>?_
  have e2:dedupS (ns.take (i+1))=if ns[i]∈dedupS (ns.take i) then dedupS (ns.take i) else dedupS (ns.take i)++[ns[i]]:=by
   rw [List.take_succ,List.getElem?_eq_getElem hlt]
   exact zW _ _
  rw [← e2] at hS2
  have hb2:∀ b o,b≠S→h1.get? b=some o→h2.get? b=some o:=fun b o hb e=>(hs2.2 b hb).trans e
  refine wpAny_pure ⟨plainId_quiet F.plain_set_update_loop _,ih (i+1) _ (by omega) ?_ ?_ hS2 fun h' tk hk' hS'=>hR h' tk (fun b o b1 b2 e=>hk' b o b1 b2 (hb2 b o b1 ((hs1.2 b b2).trans e))) hS'⟩
  ·obtain ⟨oi,z1,z2⟩:=hit1
   exact ⟨oi,hb2 it oi hSi.symm z1,z2⟩
  ·obtain ⟨oi,z1,z2⟩:=ht1
   exact ⟨oi,hb2 l oi hSl.symm z1,z2⟩
end
end L2
namespace PySem
section
variable {prog:Program} {w:World} {A:Around} {E:Value→Shared→Prop} {s:Shared}
set_option maxHeartbeats 3200000 in
theorem set_of_listS {l:Addr} {its:List Value} {ns:List Str} {nl:Nat} {sl:Array (Option Value)} {dd:Option Addr} {Q:Value→Shared→Prop} (hh:A.handled=none) (hol:s.heap.get? l=some { cls:=.type "list",dict:=dd,data:=.seq its.toArray nl,slots:=sl }) (hi:PyProof.Rows.StrsAre its ns) (hb:ns.length+1 < scanBound)
  (h:∀ (h':Heap) (tk:Nat),L2.SetAtS prog w h' s.heap.objs.size (L2.ledOf w) (L2.dedupS ns)→(∀ b o,s.heap.get? b=some o→h'.get? b=some o)→Q (.ref s.heap.objs.size) { s with heap:=h',toks:=tk }) :
  wpAny (model prog w) A (call (.type "set") [.ref l]) Q E s:=by
 obtain ⟨c,tl,hmro⟩:=F.called_set.mro
 have hmade:=F.called_set.made
 have hsub:=F.called_set.sub
 refine wpAny_call (codeAny_of_tree ?_)
 show wpAny _ _ (callAny (.type "set") _) _ _ _
 refine wpAny_pure ⟨Code.quiet_builtin _ (by decide +kernel),codeAny_builtin F.entry_type_call ?_⟩
 rw [Around.under_plain (weight_type_call_type "set" [.ref l] []) rfl]
 have h1:=F.called_set.notType
 have h2:=F.called_set.canCreate
 have hct:=F.typeCall_set_1 (.ref l)
 repeat (any_goals (first | assumption | wp_step))
 refine codeAny_mono (Jy (.ref l) (E:=E) (Q₁:=fun obj s₁=>obj=.ref s.heap.objs.size∧s₁={ s with heap:=s.heap.push { cls:=.type "set",dict:=none,data:=.set #[] 0 (.fresh 0 0 (L2.ledOf w)) } }) ⟨rfl,rfl⟩) fun r s₁ hr=>?_
 cases r with
 | error e=>exact hr
 | ok fl=>
  cases fl with
  | ret obj=>
   obtain ⟨rfl,rfl⟩:=hr
   have hS:(s.heap.push { cls:=.type "set",dict:=none,data:=.set #[] 0 (.fresh 0 0 (L2.ledOf w)) }).get? s.heap.objs.size=some { cls:=.type "set",dict:=none,data:=.set #[] 0 (.fresh 0 0 (L2.ledOf w)) }:=Heap.get?_push_size _ rfl
   have hT:Shared.TypeIs { s with heap:=s.heap.push { cls:=.type "set",dict:=none,data:=.set #[] 0 (.fresh 0 0 (L2.ledOf w)) } } (.ref s.heap.objs.size) "set":=⟨_,hS,rfl⟩
   have hli:=F.called_set.init.lookup
   have hbi:=F.called_set.init.bind (.ref s.heap.objs.size)
   repeat (any_goals (first | assumption | wp_step))
   refine codeAny_mono (codeAny_call_builtin (R:=wants (fun r s₂=>r=.none∧∃ h' tk,s₂={ s with heap:=h',toks:=tk }∧L2.SetAtS prog w h' s.heap.objs.size (L2.ledOf w) (L2.dedupS ns)∧
     (∀ b o,s.heap.get? b=some o→h'.get? b=some o)) E) F.called_set.init.plain F.entry_set_init (check_set_init_1 hT ?_)) fun r₂ s₂ hr₂=>?_
   ·have hol':(s.heap.push { cls:=.type "set",dict:=none,data:=.set #[] 0 (.fresh 0 0 (L2.ledOf w)) }).get? l=some { cls:=.type "list",dict:=dd,data:=.seq its.toArray nl,slots:=sl }:=Heap.get?_push_of_some _ hol
    have hsls:=F.sub_list_set
    have hslf:=F.sub_list_frozenset
    have hne:(Value.type "list" == Value.type "dict")=false:=by decide
    have hl1:(s.heap.push { cls:=.type "set",dict:=none,data:=.set #[] 0 (.fresh 0 0 (L2.ledOf w)) }).IsList l its.toArray:=⟨_,hol',rfl,nl,rfl⟩
    unfold Builtin.«set.__init__» noKeywords Builtin.Frozenset.updateFrom
    generalize hPI:pyIter=PI
    wp_walk
    subst hPI
    refine wpAny_pyIter_list hl1 ?_
    refine wpAny_bind (wpAny_runValue ?_)
    have hlS:l < s.heap.objs.size:=Heap.lt_size hol
    have hh3:A.in1.in1.handled=none:=by simp [hh]
    have lt1:s.heap.objs.size < (s.heap.push { cls:=.type "set",dict:=none,data:=.set #[] 0 (.fresh 0 0 (L2.ledOf w)) }).objs.size:=Heap.lt_size hS
    refine L2.set_loopS (its:=its) (ns:=ns) (led:=L2.ledOf w) hh3 hi (Nat.ne_of_gt hlS) (Nat.ne_of_lt lt1) (Nat.ne_of_lt (Nat.lt_trans hlS lt1)) hb ns.length 0 _ (by omega) ?_ ?_ ?_ ?_
    ·exact ⟨_,Heap.get?_push_size _ rfl,rfl,rfl⟩
    ·exact hl1.push _
    ·refine ⟨#[],0,.fresh 0 0 (L2.ledOf w),?_,fun e he=>by simp at he,⟨[],.nil,.nil⟩,by decide,rfl,⟨rfl,rfl,List.Pairwise.nil⟩⟩
     exact Heap.get?_push_of_some _ hS
    ·intro h' tk hk hS'
     show wpAny _ _ _ _ _ _
     refine wpAny_pure ?_
     show wpAny _ _ (ret Value.none) _ _ _
     refine wpAny_pure ⟨rfl,h',tk,rfl,hS',fun b o e=>?_⟩
     have hb0:=Heap.lt_size e
     exact hk b o (Nat.ne_of_lt hb0) (Nat.ne_of_lt (Nat.lt_trans hb0 lt1)) (Heap.get?_push_of_some _ (Heap.get?_push_of_some _ e))
   ·cases r₂ with
    | error e=>exact hr₂
    | ok fl₂=>
     cases fl₂ with
     | ret r=>
      obtain ⟨rfl,h',tk,rfl,hS',hk'⟩:=hr₂
      repeat (any_goals (first | assumption | wp_step))
      exact h _ _ hS' hk'
     | _=>exact hr₂.elim
  | _=>exact hr.elim
end
end PySem
namespace L2
open PySem PySem.Spec PySem.Calls PyProof.Rows PySem.W
abbrev JC (X:Cx) (v:Addr) (σ:List Str):HO:=.ext fun h=>SetAtS X.prog X.w h v (ledOf X.w) σ
theorem JV:∀ {xs:List Str} {us:List Value},Vals (xs.map V.str) us→StrsAre us xs
 | [],us,h=>by cases h;exact .nil
 | x :: r,us,h=>by
  cases h with
  | cons h1 h2=>
   obtain ⟨t,rfl⟩:=h1
   exact .cons x t (JV h2)
theorem Kw {X:Cx} (hc:X.calm=true):qo X (.type "set") (fun xs H Q=>∃ (p:Addr) (ns:List Str),xs=[.ref p]∧SqL X.K H p (ns.map V.str)∧ns.length≤1000∧∀ v,H v=none→Q (.ref v) (upd H v (JC X v (dedupS ns)))):=by
 intro pins s σ H xs us Q I r h
 obtain ⟨p,ns,rfl,hq,hz,q⟩:=h
 obtain ⟨u,rfl,rx⟩:=yk r
 cases rx
 obtain ⟨its,rv,⟨⟨c1,d1,t1,l1⟩,n1,o1,z1,z2,z3⟩,hz1⟩:=I.list hq
 simp only at z1 z2 z3
 subst z1 z2 z3
 refine PySem.set_of_listS (I.ok.hd hc) o1 (JV rv) (by unfold scanBound;omega) fun h' tk hS hk=>?_
 have hS':=hS
 obtain ⟨es,ep,t,e,_⟩:=hS'
 refine ⟨.ref s.heap.objs.size,_,I.laid (t':=tk) hk (Nat.le_refl _) (show ObjOk X.prog X.w _ _ _ (JC X s.heap.objs.size (dedupS ns)) from ⟨hS,⟨_,e⟩,fun h1 h2 x k=>x.kept k⟩),rfl,q _ (I.hok.fresh (Nat.le_refl _))⟩
theorem Js {X:Cx} (hc:X.calm=true):qo X (.builtin "sorted") (fun xs H Q=>∃ (p:Addr) (τ:List Str),xs=[.ref p]∧H p=some (JC X p τ)∧τ.length < 64∧∀ (l:Addr) (ns:List Str),H l=none→ns.Perm τ→sortedS ns=true→Q (.ref l) (upd H l (.lst (ns.map V.str)))):=by
 intro pins s σ H xs us Q I r h
 obtain ⟨p,τ,rfl,hp,h64,q⟩:=h
 obtain ⟨u,rfl,rx⟩:=yk r
 cases rx
 obtain ⟨⟨es,ep,t,ho,hel,⟨l0,hI0,hp0⟩,hb,hf,ht⟩,_⟩:=I.hok p _ hp
 have hz:es.size=τ.length:=by
  have h1:=hI0.length
  rw [List.length_map,Array.length_toList] at h1
  rw [h1,hp0.length_eq]
 refine Calls.call_function_entry kind_sorted plain_sorted entry_sorted (args_sorted1 _) ?_
 unfold Builtin.«sorted»
 refine wpAny_bind (m:=checkCount "sorted" 1 1 _) (wpAny_pure (wpAny_bind ?_))
 refine ZG (A:=X.A.in1) (show X.A.in1.handled=none from I.ok.hd hc) ho hf ht (by omega) fun h' d' vals hv hk=>?_
 obtain ⟨ns0,hI,hp1⟩:=zZ hI0 hv
 have hl:vals.length=τ.length:=by rw [hI.length,hp1.length_eq,hp0.length_eq]
 refine wpAny_bind (wpAny_newList ?_ (by rw [hl];exact Nat.le_trans (by omega) jcZ))
 have hoL:(h'.push (seqObj "list" vals.toArray 0)).get? h'.objs.size=some (seqObj "list" vals.toArray 0):=Heap.get?_push_size _ rfl
 refine wpAny_bind (wpAny_holding (wpAny_call_entry slot_list_sort ⟨_,hoL,rfl⟩ entry_list_sort (list_sort_treeK strKind_oneLt hoL hI.keysOf (fun v₁ v₂ qi e=>keyKind_strs (by rw [← e];exact hI)) (by omega) fun st' a1 a2=>⟨_,rfl,?_⟩) (args_list_sort _)))
 refine wpAny_pure ⟨_,rfl,?_⟩
 obtain ⟨ss,b1,b2,b3⟩:=sorted_out_str hI a1 a2
 have I1:Inv X pins σ H { s with heap:=h',drawn:=d' }:=I.drawn hk
 obtain ⟨e,he⟩:=sortedHeap_at (out:=(arrOf st').map (·.2)) hoL
 refine ⟨.ref h'.objs.size,_,I1.laid (t':=s.toks) (a:=h'.objs.size) (fun b o hb=>?_) (Nat.le_refl _) (show ObjOk X.prog X.w _ _ _ (.lst (ss.map V.str)) from ⟨?_,_,e,KB b1,?_⟩),rfl,q _ _ (I1.hok.fresh (Nat.le_refl _)) (b2.trans (hp1.trans hp0)) b3⟩
 ·have hlt:=Heap.lt_size hb
  rw [sortedHeap_old (Nat.ne_of_lt hlt) (by rw [size_push'];exact Nat.lt_succ_of_lt hlt)]
  exact Heap.get?_push_of_some _ hb
 ·rw [List.length_map,b2.length_eq,← hI.length,hl]
  exact Nat.le_trans (by omega) jcZ
 ·rw [Array.toArray_toList]
  exact he
section
variable {prog:Program} {w:World} {A:Around} {E:Value→Shared→Prop} {R:Result→Shared→Prop}
theorem set_loopST {S it l:Addr} {led:Bool} {its:List Value} {ns:List Str} (hh:A.handled=none) (hI:StrsAre its ns) (hSl:S≠l) (hSi:S≠it) (hli:l≠it) (hz:ns.length+1 < scanBound) :
  ∀ (k i:Nat) (s:Shared),i+k=ns.length→s.heap.IsTupleIter it l i→s.heap.IsTuple l its.toArray→SetAtS prog w s.heap S led (dedupS (ns.take i))→
   (∀ h' tk,(∀ b o,b≠S→b≠it→s.heap.get? b=some o→h'.get? b=some o)→SetAtS prog w h' S led (dedupS ns)→R (.ok (.ret .none)) { s with heap:=h',toks:=tk })→
   codeAny (model prog w) A (.builtin "set.update.loop" ⟨[.ref S,.ref it],[]⟩) R s:=by
 intro k
 induction k with
 | zero=>
  intro i s hk hit ht hS hR
  have hl:=hI.length
  refine codeAny_builtin F.entry_set_update_loop ?_
  rw [Around.under_plainId F.plain_set_update_loop _]
  show wpAny _ A.in1 (pyNext (.ref it) >>= _) _ _ s
  refine wpAny_bind (wpAny_pyNext_tuple_end (A:=A.in1) hh hit ht (by simp;omega) fun h1 he1=>?_)
  show wpAny _ A.in1 (ret Value.none) _ _ _
  refine wpAny_pure ?_
  rw [show ns.take i=ns from List.take_of_length_le (by omega)] at hS
  exact hR h1 s.toks (fun b o _ hb e=>he1 b o hb e) (hS.kept fun o e=>he1 S o hSi e)
 | succ k ih=>
  intro i s hk hit ht hS hR
  have hl:=hI.length
  have hlt:i < ns.length:=by omega
  have hgi:its.toArray[i]?=some its[i]:=by simp [hl,hlt]
  obtain ⟨t,et⟩:∃ t,its[i]=.str ns[i] t:=by
   obtain ⟨t,ht⟩:=hI.get i ns[i] (by simp [hlt])
   exact ⟨t,by rw [List.getElem?_eq_getElem (by omega)] at ht;exact Option.some.inj ht⟩
  refine codeAny_builtin F.entry_set_update_loop ?_
  rw [Around.under_plainId F.plain_set_update_loop _]
  show wpAny _ A.in1 (pyNext (.ref it) >>= _) _ _ s
  refine wpAny_bind (wpAny_pyNext_tuple_item hit ht hgi fun h1 hit1 hs1=>?_)
  have ht1:h1.IsTuple l its.toArray:=ht.extBut hs1.extBut hli
  have hS1:SetAtS prog w h1 S led (dedupS (ns.take i)):=hS.kept fun o e=>(hs1.2 S hSi).trans e
  rw [et]
  show wpAny _ A.in1 (holding [Value.str ns[i] t] (setAdd S (.str ns[i] t)) >>= _) _ _ _
  refine wpAny_bind (wpAny_holding ?_)
  unfold setAdd
  refine wpAny_holding ?_
  refine wpAny_bind ((PySem.strKind prog w).pyHash (k:=ns[i]) (strKind_is _ _ _ _) ?_)
  have hroom:(dedupS (ns.take i)).length+1 < scanBound:=by
   have:=(zm (ns.take i)).2.1
   rw [List.length_take] at this
   omega
  refine yH (s:={ s with heap:=h1,toks:=s.toks+1 }) hS1 hroom fun b h2 hs2 hS2=>?_
  have e2:dedupS (ns.take (i+1))=if ns[i]∈dedupS (ns.take i) then dedupS (ns.take i) else dedupS (ns.take i)++[ns[i]]:=by
   rw [List.take_succ,List.getElem?_eq_getElem hlt]
   exact zW _ _
  rw [← e2] at hS2
  have hb2:∀ b o,b≠S→h1.get? b=some o→h2.get? b=some o:=fun b o hb e=>(hs2.2 b hb).trans e
  refine wpAny_pure ⟨plainId_quiet F.plain_set_update_loop _,ih (i+1) _ (by omega) ?_ ?_ hS2 fun h' tk hk' hS'=>hR h' tk (fun b o b1 b2 e=>hk' b o b1 b2 (hb2 b o b1 ((hs1.2 b b2).trans e))) hS'⟩
  ·obtain ⟨oi,z1,z2⟩:=hit1
   exact ⟨oi,hb2 it oi hSi.symm z1,z2⟩
  ·obtain ⟨oi,z1,z2⟩:=ht1
   exact ⟨oi,hb2 l oi hSl.symm z1,z2⟩
end
end L2
namespace PySem
section
variable {prog:Program} {w:World} {A:Around} {E:Value→Shared→Prop} {s:Shared}
set_option maxHeartbeats 3200000 in
theorem set_of_tupleS {l:Addr} {its:List Value} {ns:List Str} {nl:Nat} {sl:Array (Option Value)} {dd:Option Addr} {Q:Value→Shared→Prop} (hh:A.handled=none) (hol:s.heap.get? l=some { cls:=.type "tuple",dict:=dd,data:=.seq its.toArray nl,slots:=sl }) (hi:PyProof.Rows.StrsAre its ns) (hb:ns.length+1 < scanBound)
  (h:∀ (h':Heap) (tk:Nat),L2.SetAtS prog w h' s.heap.objs.size (L2.ledOf w) (L2.dedupS ns)→(∀ b o,s.heap.get? b=some o→h'.get? b=some o)→Q (.ref s.heap.objs.size) { s with heap:=h',toks:=tk }) :
  wpAny (model prog w) A (call (.type "set") [.ref l]) Q E s:=by
 obtain ⟨c,tl,hmro⟩:=F.called_set.mro
 have hmade:=F.called_set.made
 have hsub:=F.called_set.sub
 refine wpAny_call (codeAny_of_tree ?_)
 show wpAny _ _ (callAny (.type "set") _) _ _ _
 refine wpAny_pure ⟨Code.quiet_builtin _ (by decide +kernel),codeAny_builtin F.entry_type_call ?_⟩
 rw [Around.under_plain (weight_type_call_type "set" [.ref l] []) rfl]
 have h1:=F.called_set.notType
 have h2:=F.called_set.canCreate
 have hct:=F.typeCall_set_1 (.ref l)
 repeat (any_goals (first | assumption | wp_step))
 refine codeAny_mono (Jy (.ref l) (E:=E) (Q₁:=fun obj s₁=>obj=.ref s.heap.objs.size∧s₁={ s with heap:=s.heap.push { cls:=.type "set",dict:=none,data:=.set #[] 0 (.fresh 0 0 (L2.ledOf w)) } }) ⟨rfl,rfl⟩) fun r s₁ hr=>?_
 cases r with
 | error e=>exact hr
 | ok fl=>
  cases fl with
  | ret obj=>
   obtain ⟨rfl,rfl⟩:=hr
   have hS:(s.heap.push { cls:=.type "set",dict:=none,data:=.set #[] 0 (.fresh 0 0 (L2.ledOf w)) }).get? s.heap.objs.size=some { cls:=.type "set",dict:=none,data:=.set #[] 0 (.fresh 0 0 (L2.ledOf w)) }:=Heap.get?_push_size _ rfl
   have hT:Shared.TypeIs { s with heap:=s.heap.push { cls:=.type "set",dict:=none,data:=.set #[] 0 (.fresh 0 0 (L2.ledOf w)) } } (.ref s.heap.objs.size) "set":=⟨_,hS,rfl⟩
   have hli:=F.called_set.init.lookup
   have hbi:=F.called_set.init.bind (.ref s.heap.objs.size)
   repeat (any_goals (first | assumption | wp_step))
   refine codeAny_mono (codeAny_call_builtin (R:=wants (fun r s₂=>r=.none∧∃ h' tk,s₂={ s with heap:=h',toks:=tk }∧L2.SetAtS prog w h' s.heap.objs.size (L2.ledOf w) (L2.dedupS ns)∧
     (∀ b o,s.heap.get? b=some o→h'.get? b=some o)) E) F.called_set.init.plain F.entry_set_init (check_set_init_1 hT ?_)) fun r₂ s₂ hr₂=>?_
   ·have hol':(s.heap.push { cls:=.type "set",dict:=none,data:=.set #[] 0 (.fresh 0 0 (L2.ledOf w)) }).get? l=some { cls:=.type "tuple",dict:=dd,data:=.seq its.toArray nl,slots:=sl }:=Heap.get?_push_of_some _ hol
    have hsls:=F.sub_tuple_set
    have hslf:=F.sub_tuple_frozenset
    have hne:(Value.type "tuple" == Value.type "dict")=false:=by decide
    have hl1:(s.heap.push { cls:=.type "set",dict:=none,data:=.set #[] 0 (.fresh 0 0 (L2.ledOf w)) }).IsTuple l its.toArray:=⟨_,hol',rfl,nl,rfl⟩
    unfold Builtin.«set.__init__» noKeywords Builtin.Frozenset.updateFrom
    generalize hPI:pyIter=PI
    wp_walk
    subst hPI
    refine wpAny_pyIter_tuple hl1 ?_
    refine wpAny_bind (wpAny_runValue ?_)
    have hlS:l < s.heap.objs.size:=Heap.lt_size hol
    have hh3:A.in1.in1.handled=none:=by simp [hh]
    have lt1:s.heap.objs.size < (s.heap.push { cls:=.type "set",dict:=none,data:=.set #[] 0 (.fresh 0 0 (L2.ledOf w)) }).objs.size:=Heap.lt_size hS
    refine L2.set_loopST (its:=its) (ns:=ns) (led:=L2.ledOf w) hh3 hi (Nat.ne_of_gt hlS) (Nat.ne_of_lt lt1) (Nat.ne_of_lt (Nat.lt_trans hlS lt1)) hb ns.length 0 _ (by omega) ?_ ?_ ?_ ?_
    ·exact ⟨_,Heap.get?_push_size _ rfl,rfl,rfl⟩
    ·exact hl1.push _
    ·refine ⟨#[],0,.fresh 0 0 (L2.ledOf w),?_,fun e he=>by simp at he,⟨[],.nil,.nil⟩,by decide,rfl,⟨rfl,rfl,List.Pairwise.nil⟩⟩
     exact Heap.get?_push_of_some _ hS
    ·intro h' tk hk hS'
     show wpAny _ _ _ _ _ _
     refine wpAny_pure ?_
     show wpAny _ _ (ret Value.none) _ _ _
     refine wpAny_pure ⟨rfl,h',tk,rfl,hS',fun b o e=>?_⟩
     have hb0:=Heap.lt_size e
     exact hk b o (Nat.ne_of_lt hb0) (Nat.ne_of_lt (Nat.lt_trans hb0 lt1)) (Heap.get?_push_of_some _ (Heap.get?_push_of_some _ e))
   ·cases r₂ with
    | error e=>exact hr₂
    | ok fl₂=>
     cases fl₂ with
     | ret r=>
      obtain ⟨rfl,h',tk,rfl,hS',hk'⟩:=hr₂
      repeat (any_goals (first | assumption | wp_step))
      exact h _ _ hS' hk'
     | _=>exact hr₂.elim
  | _=>exact hr.elim
end
end PySem
namespace L2
open PySem PySem.Spec PySem.Calls PyProof.Rows PySem.W
theorem Kj {X:Cx} (hc:X.calm=true):qo X (.type "set") (fun xs H Q=>∃ (p:Addr) (ns:List Str),xs=[.ref p]∧SqT X.K H p (ns.map V.str)∧ns.length≤1000∧∀ v,H v=none→Q (.ref v) (upd H v (JC X v (dedupS ns)))):=by
 intro pins s σ H xs us Q I r h
 obtain ⟨p,ns,rfl,hq,hz,q⟩:=h
 obtain ⟨u,rfl,rx⟩:=yk r
 cases rx
 obtain ⟨its,rv,tp,hz1⟩:=I.tuple hq
 obtain ⟨⟨c1,d1,t1,l1⟩,o1,z1,n1,z2⟩:=tp
 simp only at z1 z2
 subst z1 z2
 refine PySem.set_of_tupleS (I.ok.hd hc) o1 (JV rv) (by unfold scanBound;omega) fun h' tk hS hk=>?_
 have hS':=hS
 obtain ⟨es,ep,t,e,_⟩:=hS'
 refine ⟨.ref s.heap.objs.size,_,I.laid (t':=tk) hk (Nat.le_refl _) (show ObjOk X.prog X.w _ _ _ (JC X s.heap.objs.size (dedupS ns)) from ⟨hS,⟨_,e⟩,fun h1 h2 x k=>x.kept k⟩),rfl,q _ (I.hok.fresh (Nat.le_refl _))⟩
def jfX (mask i:Nat):Nat:=(i * 5+1) % (mask+1)
def jaI (mask:Nat):Nat→Nat→Nat→Bool
 | 0,_,_=>false
 | f+1,i,j=>i == j || jaI mask f (jfX mask i) j
def qm (m:Nat):Prop:=m=7∨m=15∨m=31∨m=63
theorem jbs {mask:Nat} (h:qm mask):∀ i,i < mask+1→∀ j,j < mask+1→jaI mask (mask+1) i j=true:=by
 rcases h with rfl | rfl | rfl | rfl
 ·decide +kernel
 ·decide +kernel
 ·decide +kernel
 ·decide +kernel
theorem K4 {mask:Nat} {owner:Array (Option Nat)} {j:Nat} (hj:(owner.getD j (some 0)).isNone=true):∀ (f i:Nat),jaI mask f i j=true→∃ k,SetTable.layClean.free mask owner f i 0=some k∧(owner.getD k (some 0)).isNone=true
 | 0,i,h=>by cases h
 | f+1,i,h=>by
  unfold SetTable.layClean.free
  cases hf:(List.range (SetTable.runEnd mask i+1 - i)).find? fun k=>(owner.getD (i+k) (some 0)).isNone with
  | some k=>exact ⟨i+k,rfl,by have:=List.find?_some hf;exact this⟩
  | none=>
   unfold jaI at h
   rw [Bool.or_eq_true] at h
   rcases h with h | h
   ·have e:i=j:=by simpa using h
    subst e
    have:=List.find?_eq_none.mp hf 0 (List.mem_range.mpr (by unfold SetTable.runEnd;split <;> omega))
    rw [Nat.add_zero,hj] at this
    exact absurd rfl this
   ·show ∃ k,SetTable.layClean.free mask owner f ((i * 5+1+0 / 32) % (mask+1)) (0 / 32)=some k∧_
    exact K4 hj f _ h
theorem K5 {mask:Nat} (hm:qm mask) {owner:Array (Option Nat)} {j:Nat} (hj:(owner.getD j (some 0)).isNone=true) (hjm:j < mask+1):∀ (n i p:Nat),i < mask+1→p < 32 ^ n→∃ k,SetTable.layClean.free mask owner (mask+1+n) i p=some k∧(owner.getD k (some 0)).isNone=true
 | 0,i,p,hi,hp=>by
  have:p=0:=by simpa using hp
  subst this
  exact K4 hj _ i (jbs hm i hi j hjm)
 | n+1,i,p,hi,hp=>by
  show ∃ k,SetTable.layClean.free mask owner (mask+1+n+1) i p=some k∧_
  unfold SetTable.layClean.free
  cases hf:(List.range (SetTable.runEnd mask i+1 - i)).find? fun k=>(owner.getD (i+k) (some 0)).isNone with
  | some k=>exact ⟨i+k,rfl,by have:=List.find?_some hf;exact this⟩
  | none=>
   show ∃ k,SetTable.layClean.free mask owner (mask+1+n) ((i * 5+1+p / 32) % (mask+1)) (p / 32)=some k∧_
   exact K5 hm hj hjm n _ _ (Nat.mod_lt _ (Nat.succ_pos _)) (by rw [Nat.pow_succ] at hp;omega)
def zO (owner:Array (Option Nat)) (l:List Nat):List Nat:=l.filterMap fun j=>owner.getD j none
theorem Zf {owner:Array (Option Nat)} {j k:Nat} (hj:j < owner.size) (hn:owner.getD j (some 0)=none):∀ l:List Nat,l.Nodup→(j ∉ l→zO (owner.setIfInBounds j (some k)) l=zO owner l)∧(j∈l→(zO (owner.setIfInBounds j (some k)) l).Perm (k :: zO owner l))
 | [],_=>⟨fun _=>rfl,fun h=>by cases h⟩
 | a :: l,nd=>by
  obtain ⟨n1,n2⟩:=List.nodup_cons.mp nd
  obtain ⟨i1,i2⟩:=Zf hj hn l n2
  have other:a≠j→(owner.setIfInBounds j (some k)).getD a none=owner.getD a none:=fun hne=>by
   rw [Array.getD_eq_getD_getElem?,Array.getD_eq_getD_getElem?,Array.getElem?_setIfInBounds_ne (Ne.symm hne)]
  have at_j:(owner.setIfInBounds j (some k)).getD j none=some k:=by
   rw [Array.getD_eq_getD_getElem?,Array.getElem?_setIfInBounds_self_of_lt hj]
   rfl
  have old_j:owner.getD j none=none:=by
   rw [Array.getD_eq_getD_getElem?] at hn ⊢
   rw [Array.getElem?_eq_getElem hj] at hn ⊢
   exact hn
  refine ⟨fun h=>?_,fun h=>?_⟩
  ·have hne:a≠j:=fun z=>h (by rw [z];exact List.mem_cons_self)
   unfold zO at i1 ⊢
   rw [List.filterMap_cons,List.filterMap_cons,other hne,i1 (fun z=>h (List.mem_cons_of_mem _ z))]
  ·by_cases e:a=j
   ·subst e
    unfold zO at i1 ⊢
    rw [List.filterMap_cons,List.filterMap_cons,at_j,old_j,i1 n1]
   ·have hm:j∈l:=(List.mem_cons.mp h).resolve_left (fun z=>e z.symm)
    have:=i2 hm
    unfold zO at this ⊢
    rw [List.filterMap_cons,List.filterMap_cons,other e]
    cases owner.getD a none with
    | none=>exact this
    | some x=>exact (this.cons x).trans (List.Perm.swap k x _)
theorem jbj {owner:Array (Option Nat)} {m:Nat} (hs:owner.size=m) (h:(zO owner (List.range m)).length < m):∃ j,j < m∧(owner.getD j (some 0)).isNone=true:=by
 apply Classical.byContradiction
 intro hno
 have all:∀ j,j < m→∃ k,owner.getD j none=some k:=fun j hj=>by
  have h1:¬ (owner.getD j (some 0)).isNone=true:=fun z=>hno ⟨j,hj,z⟩
  rw [Array.getD_eq_getD_getElem?,Array.getElem?_eq_getElem (by omega)] at h1 ⊢
  cases hx:owner[j]'(by omega) with
  | none=>rw [hx] at h1;exact absurd rfl h1
  | some k=>exact ⟨k,by rw [Option.getD_some]⟩
 have key:∀ l:List Nat,(∀ j∈l,j < m)→(zO owner l).length=l.length:=by
  intro l
  induction l with
  | nil=>intro _;rfl
  | cons a l ih=>
   intro hl
   obtain ⟨k,hk⟩:=all a (hl a List.mem_cons_self)
   have:=ih fun j hj=>hl j (List.mem_cons_of_mem _ hj)
   unfold zO at this ⊢
   rw [List.filterMap_cons,hk]
   show (k :: List.filterMap _ l).length=_
   rw [List.length_cons,this,List.length_cons]
 rw [key _ (fun j hj=>List.mem_range.mp hj),List.length_range] at h
 omega
theorem Zn {mask:Nat} (hm:qm mask):∀ (hs:List Int) (owner:Array (Option Nat)) (k:Nat),owner.size=mask+1→(zO owner (List.range (mask+1))).Perm (List.range k)→k+hs.length≤mask+1→
  ∃ owner',(hs.foldl (fun (acc:Option (Array (Option Nat)×Nat)) h=>acc.bind fun (owner,k)=>(SetTable.layClean.free mask owner (SetTable.turns mask) (SetTable.bits h % (mask+1)) (SetTable.bits h)).bind fun j=>some (owner.setIfInBounds j (some k),k+1)) (some (owner,k)))=some (owner',k+hs.length)∧owner'.size=mask+1∧(zO owner' (List.range (mask+1))).Perm (List.range (k+hs.length))
 | [],owner,k,h1,h2,_=>⟨owner,rfl,h1,h2⟩
 | h :: hs,owner,k,h1,h2,h3=>by
  rw [List.length_cons] at h3
  obtain ⟨j,hj,hjn⟩:=jbj h1 (by rw [h2.length_eq,List.length_range];omega)
  have hb:SetTable.bits h < 32 ^ 14:=by
   unfold SetTable.bits
   have a:=Int.emod_lt_of_pos h (b:=(2 ^ 64:Int)) (by decide)
   have b:=Int.emod_nonneg h (b:=(2 ^ 64:Int)) (by decide)
   have:(32:Nat) ^ 14=1180591620717411303424:=by decide
   omega
  obtain ⟨x,hx,hxn⟩:=K5 hm hjn hj 14 (SetTable.bits h % (mask+1)) (SetTable.bits h) (Nat.mod_lt _ (Nat.succ_pos _)) hb
  have hxl:x < owner.size:=by
   rcases Nat.lt_or_ge x owner.size with z | z
   ·exact z
   ·rw [Array.getD_eq_getD_getElem?,Array.getElem?_eq_none z] at hxn
    cases hxn
  have hxnone:owner.getD x (some 0)=none:=by
   cases e:owner.getD x (some 0) with
   | none=>rfl
   | some y=>rw [e] at hxn;cases hxn
  have hp:=(Zf (k:=k) hxl hxnone (List.range (mask+1)) List.nodup_range).2 (List.mem_range.mpr (by omega))
  have h2':(zO (owner.setIfInBounds x (some k)) (List.range (mask+1))).Perm (List.range (k+1)):=by
   refine hp.trans ((h2.cons k).trans ?_)
   rw [List.range_succ]
   exact (List.perm_append_singleton _ _).symm
  obtain ⟨o',e1,e2,e3⟩:=Zn hm hs (owner.setIfInBounds x (some k)) (k+1) (by rw [Array.size_setIfInBounds];exact h1) h2' (by omega)
  refine ⟨o',?_,e2,?_⟩
  ·rw [List.foldl_cons]
   have:(some (owner,k)).bind (fun (p:Array (Option Nat)×Nat)=>(SetTable.layClean.free mask p.1 (SetTable.turns mask) (SetTable.bits h % (mask+1)) (SetTable.bits h)).bind fun j=>some (p.1.setIfInBounds j (some p.2),p.2+1))=some (owner.setIfInBounds x (some k),k+1):=by
    show (SetTable.layClean.free mask owner (mask+15) _ _).bind _=_
    rw [show mask+15=mask+1+14 from rfl,hx]
    rfl
   rw [List.length_cons,show k+(hs.length+1)=k+1+hs.length by omega]
   refine Eq.trans ?_ e1
   exact congrArg (fun z=>hs.foldl _ z) this
  ·rw [List.length_cons,show k+(hs.length+1)=k+1+hs.length by omega]
   exact e3
theorem Zg (n:Nat):∀ l:List Nat,zO (Array.replicate n none) l=[]
 | []=>rfl
 | a :: l=>by
  have:=Zg n l
  unfold zO at this ⊢
  rw [List.filterMap_cons]
  have e:(Array.replicate n (none:Option Nat)).getD a none=none:=by
   rw [Array.getD_eq_getD_getElem?,Array.getElem?_replicate]
   split <;> rfl
  rw [e]
  exact this
theorem J8 (owner:Array (Option Nat)):∀ l:List Nat,(l.filterMap fun j=>(owner.getD j none).map (fun k=>(j,k))).map (·.2)=zO owner l
 | []=>rfl
 | a :: l=>by
  have:=J8 owner l
  unfold zO at this ⊢
  rw [List.filterMap_cons,List.filterMap_cons]
  cases owner.getD a none with
  | none=>exact this
  | some k=>show k :: List.map _ _=_;rw [this]
theorem KY {mask finger moves:Nat} {led plain:Bool} (hm:qm mask) (hs:Array Int) (h:hs.size≤mask+1):∃ t o,SetTable.laid mask finger moves led plain hs=some (t,o)∧o.toList.Perm (List.range hs.size)∧t.place.size=hs.size∧t.mask=mask∧TabOk led t:=by
 obtain ⟨owner,e1,e2,e3⟩:=Zn hm hs.toList (Array.replicate (mask+1) none) 0 Array.size_replicate (by rw [Zg];exact List.Perm.refl _) (by rw [Array.length_toList];omega)
 have hc:SetTable.layClean mask hs=some owner:=by
  unfold SetTable.layClean
  rw [← Array.foldl_toList]
  have:(hs.toList.foldl (fun (acc:Option (Array (Option Nat)×Nat)) h=>acc.bind fun (owner,k)=>(SetTable.layClean.free mask owner (SetTable.turns mask) (SetTable.bits h % (mask+1)) (SetTable.bits h)).bind fun j=>some (owner.setIfInBounds j (some k),k+1)) (some (Array.replicate (mask+1) none,0))).map (·.1)=some owner:=by rw [e1];rfl
  exact this
 have hl:SetTable.laid mask finger moves led plain hs=some ({ mask,place:=(((List.range (mask+1)).filterMap fun j=>(owner.getD j none).map (fun k=>(j,k))).map (·.1)).toArray,dummies:=#[],finger,led,moves,plain },(((List.range (mask+1)).filterMap fun j=>(owner.getD j none).map (fun k=>(j,k))).map (·.2)).toArray):=by
  unfold SetTable.laid
  rw [hc]
  rfl
 refine ⟨_,_,hl,?_,?_,rfl,jaK hl⟩
 ·rw [J8]
  rw [Array.length_toList,Nat.zero_add] at e3
  exact e3
 ·have h1:=e3.length_eq
  rw [← J8,List.length_map,List.length_range,Array.length_toList,Nat.zero_add] at h1
  show (List.map _ _).toArray.size=_
  rw [List.size_toArray,List.length_map]
  exact h1
theorem ZY {α:Type} (es:Array α):(List.range es.size).filterMap (es[·]?)=es.toList:=by
 apply List.ext_getElem?
 intro i
 have key:∀ n,n≤es.size→(List.range n).filterMap (es[·]?)=es.toList.take n:=by
  intro n
  induction n with
  | zero=>intro _;rfl
  | succ n ih=>
   intro hn
   rw [List.range_succ,List.filterMap_append,ih (by omega),List.take_succ]
   simp [Array.getElem?_eq_getElem (show n < es.size by omega)]
 rw [key _ (Nat.le_refl _),List.take_of_length_le (by rw [Array.length_toList];exact Nat.le_refl _)]
theorem yI {α:Type} {es:Array α} {o:Array Nat} (h:o.toList.Perm (List.range es.size)):(o.filterMap (es[·]?)).toList.Perm es.toList∧(o.filterMap (es[·]?)).size=es.size:=by
 have e:(o.filterMap (es[·]?)).toList=o.toList.filterMap (es[·]?):=Array.toList_filterMap
 have p:(o.filterMap (es[·]?)).toList.Perm es.toList:=by
  rw [e,← ZY es]
  exact h.filterMap _
 exact ⟨p,by have:=p.length_eq;rw [Array.length_toList,Array.length_toList] at this;exact this⟩
theorem Y8:∀ n,n < 63→qm (SetTable.sizeAbove n - 1)∧n < SetTable.sizeAbove n∧SetTable.sizeAbove n≤64:=by
 intro n hn
 unfold qm
 have:∀ n,n < 63→((SetTable.sizeAbove n=8∨SetTable.sizeAbove n=16∨SetTable.sizeAbove n=32∨SetTable.sizeAbove n=64)∧n < SetTable.sizeAbove n):=by decide +kernel
 obtain ⟨h,h2⟩:=this n hn
 omega
structure SmS (prog:Program) (w:World) (h:Heap) (a:Addr) (led:Bool) (σ:List Str) (es:Array (Int×Value)) (ep:Nat) (t:SetTable):Prop where
 o:h.get? a=some (kd es ep t)
 el:ElemsOf (PySem.strKind prog w) es.toList
 pm:∃ l:List Str,StrsAre (es.toList.map (·.2)) l∧l.Perm σ
 fit:t.fits es.size=true
 tab:TabOk led t
 sm:qm t.mask
theorem SmS.len {prog:Program} {w:World} {h:Heap} {a:Addr} {led:Bool} {σ:List Str} {es:Array (Int×Value)} {ep:Nat} {t:SetTable} (x:SmS prog w h a led σ es ep t):es.size=σ.length:=by
 obtain ⟨l,h1,h2⟩:=x.pm
 have:=h1.length
 rw [List.length_map,Array.length_toList] at this
 rw [this,h2.length_eq]
theorem SmS.set {prog:Program} {w:World} {h:Heap} {a:Addr} {led:Bool} {σ:List Str} {es:Array (Int×Value)} {ep:Nat} {t:SetTable} (x:SmS prog w h a led σ es ep t) (hb:σ.length < scanBound):SetAtS prog w h a led σ:=⟨es,ep,t,x.o,x.el,x.pm,by rw [x.len];exact hb,x.fit,x.tab⟩
theorem Zu {t:SetTable} {n:Nat} (h1:t.place.size=n) (h2:t.dummies=#[]) (h3:n≤t.mask):t.fits n=true:=by
 unfold SetTable.fits SetTable.fill
 simp [h1,h2,h3]
theorem jaE {es es':Array (Int×Value)} {σ:List Str} (p:es'.toList.Perm es.toList) (h:∃ l:List Str,StrsAre (es.toList.map (·.2)) l∧l.Perm σ):∃ l:List Str,StrsAre (es'.toList.map (·.2)) l∧l.Perm σ:=by
 obtain ⟨l,h1,h2⟩:=h
 obtain ⟨l',j1,j2⟩:=zZ h1 (p.map (·.2))
 exact ⟨l',j1,j2.trans h2⟩
section
variable {prog:Program} {w:World} {A:Around} {E:Value→Shared→Prop} {s:Shared}
theorem Yp {a:Addr} {es es':Array (Int×Value)} {ep:Nat} {t t':SetTable} {h:Heap} (ho:h.get? a=some (kd es ep t)):(h.update a (Obj.putSet es' t')).get? a=some (kd es' (ep+1) t'):=by
 have:=Heap.get?_update_self (Obj.putSet es' t') ho (by rw [putSet_of es' t' rfl];rfl)
 rw [putSet_of es' t' rfl] at this
 exact this
theorem jci {a:Addr} {led:Bool} {σ:List Str} {es:Array (Int×Value)} {ep more:Nat} {t:SetTable} {Q:Unit→Shared→Prop} (x:SmS prog w s.heap a led σ es ep t) (hz:σ.length+more≤15)
  (h:∀ h' es' ep' t',Heap.SameBut a s.heap h'→SmS prog w h' a led σ es' ep' t'→σ.length+more≤t'.mask→t'.fill=σ.length→Q () { s with heap:=h' }):wpAny (model prog w) A (setRoomFor a more) Q E s:=by
 have hlen:=x.len
 have hfill:t.fill=es.size:=by
  have:=x.fit
  unfold SetTable.fits at this
  rw [Bool.and_eq_true] at this
  have h1:t.place.size=es.size:=by simpa using this.1
  unfold SetTable.fill
  rw [x.tab.none_,h1]
  rfl
 unfold setRoomFor
 refine wpAny_bind (wpAny_setState_of x.o rfl x.fit ?_)
 dsimp only
 cases hr:t.roomFor more with
 | none=>
  dsimp only
  refine wpAny_pure (h s.heap es ep t (Heap.SameBut.refl a s.heap) x ?_ (by rw [hfill,hlen]))
  unfold SetTable.roomFor at hr
  split at hr
  ·cases hr
  ·rename_i hn
   rw [hfill,hlen] at hn
   omega
 | some wanted=>
  dsimp only
  have hw:wanted=(es.size+more) * 2:=by
   unfold SetTable.roomFor at hr
   split at hr
   ·have:t.place.size=es.size:=by
     have:=x.fit
     unfold SetTable.fits at this
     rw [Bool.and_eq_true] at this
     simpa using this.1
    rw [this] at hr
    exact (Option.some.inj hr).symm
   ·cases hr
  obtain ⟨m1,m2,m3⟩:=Y8 wanted (by omega)
  obtain ⟨t',o,e1,e2,e3,e4,e5⟩:=KY (finger:=t.finger) (moves:=t.movedTo (SetTable.sizeAbove wanted - 1)) (led:=t.led) (plain:=t.plain) m1 (es.map (·.1)) (by rw [Array.size_map];omega)
  rw [Array.size_map] at e2 e3
  rw [x.tab.led_] at e5
  obtain ⟨p1,p2⟩:=yI e2
  unfold setRelay
  refine wpAny_bind (wpAny_setState_of x.o rfl x.fit ?_)
  dsimp only
  rw [if_neg (by rw [sizeLine_eq];omega)]
  show wpAny _ _ ((match t.relaid (es.map (·.1)) wanted with | some (t,order)=>(if ((order.filterMap (es[·]?)).size != es.size)=true then unsupported "internal:set-table-lost-an-element" >>= fun _=>pure (order.filterMap (es[·]?),t) else pure (order.filterMap (es[·]?),t)) | _=>unsupported "internal:set-table-without-room") >>= _) _ _ _
  rw [show t.relaid (es.map (·.1)) wanted=some (t',o) from e1]
  dsimp only
  rw [if_neg (by rw [p2];simp)]
  refine wpAny_bind (wpAny_pure ?_)
  dsimp only
  refine wpAny_storeSet_of x.o rfl ?_ (by rw [p2,hlen,sizeLine_eq];omega)
  refine h _ _ _ _ (Heap.SameBut.update s.heap a _) ⟨Yp x.o,x.el.perm p1,jaE p1 x.pm,Zu (by rw [e3,p2]) e5.none_ (by rw [p2,e4];omega),e5,by rw [e4];exact m1⟩ (by rw [e4];omega) ?_
  unfold SetTable.fill
  rw [e3,e5.none_,hlen]
  rfl
end
section
variable {prog:Program} {w:World} {A:Around} {E:Value→Shared→Prop} {s:Shared}
theorem ZJ {Q:Bool→Shared→Prop} (h:Q (w.params.followText "set-order") s):wpAny (model prog w) A setsByText Q E s:=by
 unfold setsByText
 exact wpAny_bind (wpAny_askSetting (wpAny_pure h))
theorem jb1 {a:Addr} {es:Array (Int×Value)} {ep:Nat} {t:SetTable} {Q:Array (Int×Value)→Shared→Prop} (ho:s.heap.get? a=some (kd es ep t)) (hf:t.fits es.size=true) (ht:TabOk (ledOf w) t) (hd:w.params.followText "set-order" = true∨zB es t=false)
  (h:∀ arr:Array (Int×Value),arr.toList.Perm es.toList→Q arr s):wpAny (model prog w) A (setWalk a) Q E s:=by
 unfold setWalk
 refine wpAny_bind (wpAny_setState_of ho rfl hf ?_)
 dsimp only
 refine wpAny_bind (ZJ ?_)
 cases hb:w.params.followText "set-order" with
 | true=>
  simp only [if_true]
  exact wpAny_bind (wpAny_askSetting (wpAny_pure (h _ (KQ _ _))))
 | false=>
  rcases hd with hd | hd
  ·rw [hb] at hd;cases hd
  rw [if_neg Bool.false_ne_true]
  show wpAny _ _ (if zB es t=true then _ else _) _ _ _
  rw [hd,if_neg Bool.false_ne_true]
  have hl:t.led=true:=by rw [ht.led_];unfold ledOf;rw [hb];rfl
  show wpAny _ _ ((if (!t.led && decide (es.size > 1))=true then unsupported "set:maker-not-led" else pure ()) >>= fun _=>pure es) _ _ _
  rw [hl,if_neg (by simp)]
  exact wpAny_bind (wpAny_pure (wpAny_pure (h es (List.Perm.refl _))))
theorem Za:∀ (sets:List Addr) {Q:Bool→Shared→Prop},(∀ a∈sets,∃ es ep t,s.heap.get? a=some (kd es ep t)∧t.fits es.size=true∧∀ e∈es.toList,∃ x k,e.2=.str x k)→Q true s→wpAny (model prog w) A (setsQuiet sets) Q E s:=by
 intro sets Q hs h
 unfold setsQuiet
 refine wpAny_bind ?_
 refine wpAny_forIn_list _ (fun qi r s'=>r.1=none∧s'=s∧∀ a∈qi,a∈sets) _ ?_ ?_ sets _ ⟨rfl,rfl,fun a h=>h⟩
 ·rintro a qi r s' ⟨hr,rfl,hall⟩
  obtain ⟨es,ep,t,ho,hf,hel⟩:=hs a (hall a List.mem_cons_self)
  unfold setEntries
  refine wpAny_bind (wpAny_bind (wpAny_setState_of ho rfl hf (wpAny_pure ?_)))
  dsimp only
  refine wpAny_bind ?_
  rw [← Array.forIn_toList]
  refine wpAny_forIn_list _ (fun rest' r' s''=>r'.1=none∧s''=s'∧∀ e∈rest',e∈es.toList) _ ?_ ?_ es.toList _ ⟨rfl,rfl,fun e h=>h⟩
  ·rintro e rest' r' s'' ⟨hr',rfl,hall'⟩
   obtain ⟨x,k,ex⟩:=hel e (hall' e List.mem_cons_self)
   obtain ⟨e1,e2⟩:=e
   dsimp only at ex
   subst ex
   refine wpAny_pure ?_
   exact ⟨rfl,rfl,fun e h=>hall' e (List.mem_cons_of_mem _ h)⟩
  ·rintro ⟨r1,r2⟩ s'' ⟨hr',rfl,_⟩
   dsimp only at hr'
   subst hr'
   exact wpAny_pure ⟨rfl,rfl,fun a h=>hall a (List.mem_cons_of_mem _ h)⟩
 ·rintro ⟨r1,r2⟩ s' ⟨hr,rfl,_⟩
  dsimp only at hr
  subst hr
  exact wpAny_pure h
theorem yx {es:Array (Int×Value)} {l:List Str} (h:StrsAre (es.toList.map (·.2)) l):∀ e∈es.toList,∃ x k,e.2=.str x k:=fun e he=>h.all e.2 (List.mem_map.mpr ⟨e,he,rfl⟩)
end
section
variable {prog:Program} {w:World} {A:Around} {E:Value→Shared→Prop} {s:Shared}
theorem Y0 {S o:Addr} {σs σo:List Str} {es eo:Array (Int×Value)} {ep eq:Nat} {t to:SetTable} {Q:Array (Int×Value)→Shared→Prop} (hne:S≠o) (x:SmS prog w s.heap S (ledOf w) σs es ep t) (ho:s.heap.get? o=some (kd eo eq to)) (hfo:to.fits eo.size=true) (hto:TabOk (ledOf w) to) (hso:StrsAre (eo.toList.map (·.2)) σo) (hz:σs.length < 1000)
  (h:∀ arr h' ep' t',arr.toList.Perm eo.toList→Heap.SameBut S s.heap h'→SmS prog w h' S (ledOf w) σs es ep' t'→Q arr { s with heap:=h' }):wpAny (model prog w) A (setWalkUnseen o [S] (some S)) Q E s:=by
 unfold setWalkUnseen
 refine wpAny_bind (wpAny_setState_of ho rfl hfo ?_)
 dsimp only
 refine wpAny_bind (ZJ ?_)
 by_cases hc:(w.params.followText "set-order" || (to.led && to.plain) || decide (eo.size≤1))=true
 ·rw [if_pos hc]
  refine jb1 ho hfo hto ?_ fun arr ha=>h arr s.heap ep t ha (Heap.SameBut.refl S s.heap) x
  rw [Bool.or_eq_true,Bool.or_eq_true] at hc
  rcases hc with (hc | hc) | hc
  ·exact .inl hc
  ·right
   rw [Bool.and_eq_true] at hc
   unfold zB
   rw [hc.2]
   rfl
  ·right
   have:=of_decide_eq_true hc
   unfold zB
   rw [decide_eq_false (by omega),Bool.and_false]
 ·rw [if_neg hc]
  refine wpAny_bind (Za [o,S] (fun a ha=>?_) ?_)
  ·rcases List.mem_cons.mp ha with rfl | ha
   ·exact ⟨eo,eq,to,ho,hfo,yx hso⟩
   ·rw [List.mem_singleton.mp ha]
    obtain ⟨l,hl,_⟩:=x.pm
    exact ⟨es,ep,t,x.o,x.fit,yx hl⟩
  rw [if_neg (by decide)]
  refine wpAny_bind (wpAny_rule ?_)
  try dsimp only
  refine wpAny_bind (wpAny_setState_of x.o rfl x.fit ?_)
  dsimp only
  split
  ·refine wpAny_bind (wpAny_storeSet_of x.o rfl ?_ (by rw [x.len,sizeLine_eq];omega))
   refine wpAny_pure (h eo _ (ep+1) { t with led:=t.led && to.led,plain:=t.plain && to.plain } (List.Perm.refl _) (Heap.SameBut.update s.heap S _) ⟨Yp x.o,x.el,x.pm,x.fit,⟨?_,x.tab.none_,x.tab.up⟩,x.sm⟩)
   show (t.led && to.led)=_
   rw [x.tab.led_,hto.led_]
   cases ledOf w <;> rfl
  ·exact wpAny_pure (h eo s.heap ep t (List.Perm.refl _) (Heap.SameBut.refl S s.heap) x)
theorem J6 {S o:Addr} {σs σo:List Str} {es:Array (Int×Value)} {ep:Nat} {t:SetTable} {each:Sem Unit} {Q:Unit→Shared→Prop} (hne:S≠o) (x:SmS prog w s.heap S (ledOf w) σs es ep t) (ho:SetAtS prog w s.heap o (ledOf w) σo) (nds:σs.Nodup) (ndo:σo.Nodup) (hz:σs.length+σo.length≤15)
  (heach:∀ (s':Shared) {Q':Unit→Shared→Prop},(∀ ob,s.heap.get? o=some ob→s'.heap.get? o=some ob)→Q' () s'→wpAny (model prog w) A each Q' E s')
  (h:∀ h' σ',Heap.SameBut S s.heap h'→SetAtS prog w h' S (ledOf w) σ'→σ'.Nodup→(∀ y,y∈σ'↔y∈σs∨y∈σo)→((σs=[]∨σo=[])→∃ es' ep' t',SmS prog w h' S (ledOf w) σ' es' ep' t')→Q () { s with heap:=h' }):wpAny (model prog w) A (setMerge S o each) Q E s:=by
 obtain ⟨eo,eq,to,ho1,helo,⟨lo,hlo,hpo⟩,hbo,hfo,hto⟩:=ho
 have hlen:eo.size=σo.length:=by
  have h1:=hlo.length
  rw [List.length_map,Array.length_toList] at h1
  rw [h1,hpo.length_eq]
 unfold setMerge
 rw [if_neg (by simpa using hne)]
 refine wpAny_bind (wpAny_setState_of ho1 rfl hfo ?_)
 dsimp only
 by_cases he:eo.isEmpty=true
 ·rw [if_pos he]
  have h0:σo=[]:=by
   have:eo.size=0:=by simpa using he
   exact List.length_eq_zero_iff.mp (by omega)
  subst h0
  exact wpAny_pure (h s.heap σs (Heap.SameBut.refl S s.heap) (x.set (by unfold scanBound;omega)) nds (fun y=>by simp) fun _=>⟨es,ep,t,x⟩)
 rw [if_neg he]
 refine wpAny_bind (jci (more:=eo.size) x (by omega) fun h1 es1 ep1 t1 sb1 x1 hm1 hf1=>?_)
 have ho2:h1.get? o=some (kd eo eq to):=(sb1.2 o (Ne.symm hne)).trans ho1
 refine wpAny_bind (wpAny_setState_of (s:={ s with heap:=h1 }) x1.o rfl x1.fit ?_)
 dsimp only
 have led2:(t1.led && to.led)=ledOf w:=by rw [x1.tab.led_,hto.led_];cases ledOf w <;> rfl
 unfold SetTable.road
 by_cases hfill:(t1.fill != 0)=true
 ·rw [if_pos hfill]
  dsimp only
  refine wpAny_bind (Y0 (s:={ s with heap:=h1 }) hne x1 ho2 hfo hto hlo (by omega) fun arr h2 ep2 t2 ha sb2 x2=>?_)
  have ho3:h2.get? o=some (kd eo eq to):=(sb2.2 o (Ne.symm hne)).trans ho2
  have x2S:=x2.set (by unfold scanBound;omega)
  have hmem:∀ e∈arr.toList,∃ v k,v∈σo∧e.2=.str v k∧e.1=(PySem.strKind prog w).hash v:=fun e he'=>by
   have hin:=ha.mem_iff.mp he'
   obtain ⟨v,k,ev⟩:=yx hlo e hin
   obtain ⟨⟨kk,hk1,hk2⟩,_⟩:=helo e hin
   rw [ev] at hk1
   have:v=kk:=(PySem.strKind prog w).inj _ _ _ (strKind_is prog w v k) hk1
   subst this
   refine ⟨v,k,hpo.mem_iff.mp ((JW hlo).mpr ⟨k,?_⟩),ev,hk2⟩
   rw [← ev]
   exact List.mem_map.mpr ⟨e,hin,rfl⟩
  have h9:arr.toList.length=σo.length:=by rw [ha.length_eq,Array.length_toList,hlen]
  refine wpAny_bind ?_
  rw [← Array.forIn_toList]
  refine wpAny_forIn_list _ (fun qi _ s'=>∃ h' σ',s'={ s with heap:=h' }∧Heap.SameBut S h2 h'∧SetAtS prog w h' S (ledOf w) σ'∧σ'.Nodup∧(∀ y∈σs,y∈σ')∧(∀ y∈σ',y∈σs∨y∈σo)∧(∃ done,arr.toList=done++qi∧(∀ e∈done,∀ v k,e.2=.str v k→v∈σ'))∧σ'.length+qi.length≤30) _ ?_ ?_ arr.toList _ ⟨h2,σs,rfl,Heap.SameBut.refl S h2,x2S,nds,fun y hy=>hy,fun y hy=>.inl hy,⟨[],rfl,fun e he'=>by cases he'⟩,by omega⟩
  ·rintro ⟨hh,v0⟩ qi _ s' ⟨h',σ',rfl,sb',hS',nd',a1,a2,⟨done,ed,a3⟩,al⟩
   obtain ⟨v,k,hv,ev,eh⟩:=hmem (hh,v0) (by rw [ed];exact List.mem_append_right _ List.mem_cons_self)
   dsimp only at ev eh
   subst ev eh
   dsimp only
   rw [List.length_cons] at al
   refine wpAny_bind (wpAny_holding (yH (s:={ s with heap:=h' }) hS' (by unfold scanBound;omega) fun b h3 sb3 hS3=>?_))
   have ho4:h3.get? o=some (kd eo eq to):=(sb3.2 o (Ne.symm hne)).trans ((sb'.2 o (Ne.symm hne)).trans ho3)
   refine wpAny_bind (heach { s with heap:=h3 } (fun ob e=>by rw [ho1] at e;cases e;exact ho4) ?_)
   refine wpAny_bind (wpAny_setState_of (s:={ s with heap:=h3 }) ho4 rfl hfo ?_)
   dsimp only
   rw [if_neg (by simp)]
   refine wpAny_pure ?_
   refine ⟨h3,_,rfl,sb'.trans sb3,hS3,?_,fun y hy=>?_,fun y hy=>?_,⟨done++[((PySem.strKind prog w).hash v,.str v k)],by rw [ed,List.append_assoc];rfl,fun e he' v' k' ev'=>?_⟩,?_⟩
   ·split
    ·exact nd'
    ·rename_i hn
     exact List.nodup_append.mpr ⟨nd',by simp,fun a ha' b hb'=>by rw [List.mem_singleton.mp hb'];intro z;exact hn (by rw [← z];exact ha')⟩
   ·split
    ·exact a1 y hy
    ·exact List.mem_append_left _ (a1 y hy)
   ·split at hy
    ·exact a2 y hy
    ·rcases List.mem_append.mp hy with g | g
     ·exact a2 y g
     ·rw [List.mem_singleton.mp g];exact .inr hv
   ·rcases List.mem_append.mp he' with g | g
    ·have:=a3 e g v' k' ev'
     split
     ·exact this
     ·exact List.mem_append_left _ this
    ·rw [List.mem_singleton.mp g] at ev'
     cases ev'
     split
     ·assumption
     ·exact List.mem_append_right _ (List.mem_singleton.mpr rfl)
   ·split
    ·omega
    ·rw [List.length_append];simp only [List.length_cons,List.length_nil];omega
  ·rintro _ s' ⟨h',σ',rfl,sb',hS',nd',a1,a2,⟨done,ed,a3⟩,_⟩
   rw [List.append_nil] at ed
   refine wpAny_pure (h h' σ' (sb1.trans (sb2.trans sb')) hS' nd' (fun y=>⟨a2 y,fun g=>?_⟩) fun g=>?_)
   ·rcases g with g | g
    ·exact a1 y g
    ·obtain ⟨k,hk⟩:=(JW hlo).mp (hpo.mem_iff.mpr g)
     obtain ⟨e,he',ee⟩:=List.mem_map.mp hk
     exact a3 e (by rw [← ed];exact ha.mem_iff.mpr he') y k ee
   ·rcases g with g | g
    ·rw [g] at hf1
     rw [hf1] at hfill
     cases hfill
    ·rw [g] at hlen
     exact absurd (by simpa using hlen) he
 ·rw [if_neg hfill]
  have hs0:σs=[]:=by
   have:t1.fill=0:=by simpa using hfill
   exact List.length_eq_zero_iff.mp (by omega)
  subst hs0
  have fin:∀ h' es' ep' t',Heap.SameBut S s.heap h'→SmS prog w h' S (ledOf w) σo es' ep' t'→Q () { s with heap:=h' }:=fun h' es' ep' t' sb x'=>h h' σo sb (x'.set (by unfold scanBound;omega)) ndo (fun y=>by simp) fun _=>⟨es',ep',t',x'⟩
  rw [List.length_nil,Nat.zero_add] at hm1
  by_cases hmask:(t1.mask == to.mask && to.dummies.isEmpty)=true
  ·rw [if_pos hmask]
   dsimp only
   have hme:t1.mask=to.mask:=by
    rw [Bool.and_eq_true] at hmask
    simpa using hmask.1
   refine wpAny_storeSet_of (s:={ s with heap:=h1 }) x1.o rfl ?_ (by rw [hlen,sizeLine_eq];omega)
   exact fin _ eo _ { to with finger:=t1.finger,led:=t1.led && to.led,moves:=t1.moves,plain:=t1.plain && to.plain } (sb1.trans (Heap.SameBut.update h1 S _)) ⟨Yp x1.o,helo,⟨lo,hlo,hpo⟩,hfo,⟨led2,hto.none_,hto.up⟩,by show qm to.mask;rw [← hme];exact x1.sm⟩
  ·rw [if_neg hmask]
   dsimp only
   obtain ⟨t',od,e1,e2,e3,e4,e5⟩:=KY (finger:=t1.finger) (moves:=t1.moves) (led:=t1.led && to.led) (plain:=t1.plain && to.plain) x1.sm (eo.map (·.1)) (by rw [Array.size_map];omega)
   rw [Array.size_map] at e2 e3
   rw [led2] at e5
   obtain ⟨p1,p2⟩:=yI e2
   show wpAny _ _ ((match SetTable.laid t1.mask t1.finger t1.moves (t1.led && to.led) (t1.plain && to.plain) (eo.map (·.1)) with | some (t,order)=>(if ((order.filterMap (eo[·]?)).size != eo.size)=true then unsupported "internal:set-table-lost-an-element" >>= fun _=>pure (order.filterMap (eo[·]?),t) else pure (order.filterMap (eo[·]?),t)) | _=>unsupported "internal:set-table-without-room") >>= _) _ _ _
   rw [e1]
   dsimp only
   rw [if_neg (by rw [p2];simp)]
   refine wpAny_bind (wpAny_pure ?_)
   dsimp only
   refine wpAny_storeSet_of (s:={ s with heap:=h1 }) x1.o rfl ?_ (by rw [p2,hlen,sizeLine_eq];omega)
   exact fin _ _ _ _ (sb1.trans (Heap.SameBut.update h1 S _)) ⟨Yp x1.o,helo.perm p1,jaE p1 ⟨lo,hlo,hpo⟩,Zu (by rw [e3,p2]) e5.none_ (by rw [p2,e4];omega),e5,by rw [e4];exact x1.sm⟩
end
end L2
namespace PySem.F
theorem entry_set_or:entryFor table "set.__or__" = some Builtin.«frozenset.__or__»:=
 entryFor_alias (id':="frozenset.__or__") (by kernel_rfl) (by first | rfl | decide +kernel | (unfold String.splitOn;simp +decide [String.splitOnAux])) (by decide +kernel) (by kernel_rfl)
end PySem.F
namespace L2
open PySem PySem.Spec PyProof.Rows PySem.W
theorem KS {α:Type} [DecidableEq α]:∀ {l l':List α},l.Nodup→(∀ y∈l,y∈l')→l.length≤l'.length
 | [],_,_,_=>Nat.zero_le _
 | a :: l,l',nd,h=>by
  obtain ⟨n1,n2⟩:=List.nodup_cons.mp nd
  have ha:=h a List.mem_cons_self
  have:=KS (l':=l'.erase a) n2 fun y hy=>(List.mem_erase_of_ne (fun z=>n1 (by rw [← z];exact hy))).mpr (h y (List.mem_cons_of_mem _ hy))
  have e:=List.length_erase_of_mem ha
  have hp:0 < l'.length:=List.length_pos_of_mem ha
  rw [List.length_cons]
  omega
section
variable {prog:Program} {w:World} {A:Around} {E:Value→Shared→Prop} {s:Shared}
theorem YO {a:Addr} {Q:Bool→Shared→Prop} (h:s.TypeIs (.ref a) "set") (q:Q true s):wpAny (model prog w) A (Builtin.Frozenset.isAnySet (.ref a)) Q E s:=by
 unfold Builtin.Frozenset.isAnySet
 refine wpAny_bind (wpAny_isInstance (T:="set") (b:=true) h PySem.F.sub_set_set ?_)
 exact wpAny_pure q
theorem jdk {a:Addr} {Q:Value→Shared→Prop} (h:s.TypeIs (.ref a) "set") (q:Q (.type "set") s):wpAny (model prog w) A (Builtin.Frozenset.baseOf a) Q E s:=by
 unfold Builtin.Frozenset.baseOf
 refine wpAny_bind (wpAny_isInstance (T:="set") (b:=true) h PySem.F.sub_set_set ?_)
 exact wpAny_pure q
theorem jaH {Q:Value→Shared→Prop} (q:Q (.ref s.heap.objs.size) { s with heap:=s.heap.push (kd #[] 0 (.fresh 0 0 (ledOf w))) }):wpAny (model prog w) A (newSet (.type "set")) Q E s:=by
 unfold newSet setsByText
 refine wpAny_bind (wpAny_bind (wpAny_askSetting (wpAny_pure ?_)))
 dsimp only
 simp only [newObj]
 exact wpAny_bind (wpAny_alloc (wpAny_pure q))
theorem Zr {h:Heap} {a:Addr} (e:h.get? a=some (kd #[] 0 (.fresh 0 0 (ledOf w)))):SmS prog w h a (ledOf w) [] #[] 0 (.fresh 0 0 (ledOf w)):=
 ⟨e,fun e he=>by simp at he,⟨[],.nil,.nil⟩,rfl,⟨rfl,rfl,List.Pairwise.nil⟩,.inl rfl⟩
theorem YR {a:Addr} {Q:Addr→Shared→Prop} (q:Q a s):wpAny (model prog w) A (Builtin.Frozenset.addrOf (.ref a)) Q E s:=wpAny_pure q
theorem KL {a:Addr} {es:Array (Int×Value)} {ep:Nat} {t:SetTable} {Q:Nat→Shared→Prop} (ho:s.heap.get? a=some (kd es ep t)) (hf:t.fits es.size=true) (q:Q ep s):wpAny (model prog w) A (setEpoch a) Q E s:=by
 unfold setEpoch
 exact wpAny_bind (wpAny_setState_of ho rfl hf (wpAny_pure q))
theorem SetAtS.type {h:Heap} {a:Addr} {led:Bool} {σ:List Str} (x:SetAtS prog w h a led σ):∃ es ep t,h.get? a=some (kd es ep t)∧t.fits es.size=true:=by
 obtain ⟨es,ep,t,e,_,_,_,hf,_⟩:=x
 exact ⟨es,ep,t,e,hf⟩
theorem je2 {a b:Addr} {σ1 σ2:List Str} {Q:Value→Shared→Prop} (ha:SetAtS prog w s.heap a (ledOf w) σ1) (hb:SetAtS prog w s.heap b (ledOf w) σ2) (n1:σ1.Nodup) (n2:σ2.Nodup) (hz:σ1.length+σ2.length≤15)
  (h:∀ h' σ',(∀ c o,s.heap.get? c=some o→h'.get? c=some o)→SetAtS prog w h' s.heap.objs.size (ledOf w) σ'→σ'.Nodup→(∀ y,y∈σ'↔y∈σ1∨y∈σ2)→Q (.ref s.heap.objs.size) { s with heap:=h' }):wpAny (model prog w) A (call (.builtin "set.__or__") [.ref a,.ref b]) (fun v s'=>v≠.notImplemented∧Q v s') E s:=by
 obtain ⟨ea,pa,ta,oa,fa⟩:=ha.type
 obtain ⟨eb,pb,tb,ob,fb⟩:=hb.type
 have Ta:s.TypeIs (.ref a) "set":=⟨_,oa,rfl⟩
 have Tb:s.TypeIs (.ref b) "set":=⟨_,ob,rfl⟩
 refine wpAny_call_entry PySem.F.slot_set_or Ta PySem.F.entry_set_or ?_ (PySem.F.args_set_or_2 _ _)
 show wpAny _ _ (Builtin.Frozenset.slot1 "__or__" ⟨[.ref a,.ref b],[]⟩ >>= _) _ _ _
 refine wpAny_bind (wpAny_of_eq (a:=(Value.ref a,Value.ref b)) rfl ?_)
 simp only [Bool.false_eq_true,if_false]
 refine wpAny_bind ?_
 unfold andM
 refine wpAny_bind (YO Ta ?_)
 show wpAny _ _ (Builtin.Frozenset.isAnySet (.ref b)) _ _ _
 refine YO Tb ?_
 rw [if_neg (by decide)]
 show wpAny _ _ ((Builtin.Frozenset.copyOf a >>= _) >>= _) _ _ _
 refine wpAny_bind (wpAny_bind ?_)
 unfold Builtin.Frozenset.copyOf
 refine wpAny_bind (jdk Ta ?_)
 refine wpAny_bind (jaH ?_)
 have eS:(s.heap.push (kd #[] 0 (.fresh 0 0 (ledOf w)))).get? s.heap.objs.size=some (kd #[] 0 (.fresh 0 0 (ledOf w))):=Heap.get?_push_size _ rfl
 have old1:∀ c o,s.heap.get? c=some o→(s.heap.push (kd #[] 0 (.fresh 0 0 (ledOf w)))).get? c=some o:=fun c o e=>Heap.get?_push_of_some _ e
 have laS:s.heap.objs.size≠a:=fun z=>absurd (Heap.lt_size oa) (by rw [z];exact Nat.lt_irrefl _)
 have lbS:s.heap.objs.size≠b:=fun z=>absurd (Heap.lt_size ob) (by rw [z];exact Nat.lt_irrefl _)
 generalize s.heap.push (kd #[] 0 (.fresh 0 0 (ledOf w)))=h1 at *
 refine wpAny_bind (YR ?_)
 refine wpAny_bind (J6 (s:={ s with heap:=h1 }) (each:=pure ()) laS (Zr eS) (ha.kept fun o e=>old1 a o e) List.nodup_nil n1 (by rw [List.length_nil];omega) (fun s' Q' _ q=>wpAny_pure q) fun h2 σ' sb2 _ nd2 m2 sm2=>?_)
 obtain ⟨es2,ep2,t2,x2⟩:=sm2 (.inl rfl)
 refine wpAny_pure ?_
 have m2':∀ y,y∈σ'↔y∈σ1:=fun y=>by rw [m2];simp
 have l2:σ'.length≤σ1.length:=KS nd2 fun y hy=>(m2' y).mp hy
 have old2:∀ c o,s.heap.get? c=some o→h2.get? c=some o:=fun c o e=>(sb2.2 c (Nat.ne_of_lt (Heap.lt_size e))).trans (old1 c o e)
 by_cases hab:((Value.ref b != Value.ref a)=true)
 ·show wpAny _ _ (if (Value.ref b != Value.ref a)=true then _ else _) _ _ _
  rw [if_pos hab]
  refine wpAny_bind (YR ?_)
  refine wpAny_bind (wpAny_holding ?_)
  unfold Builtin.Frozenset.updateFrom
  refine wpAny_bind (YO (s:={ s with heap:=h2 }) ⟨_,old2 _ _ ob,rfl⟩ ?_)
  rw [if_pos rfl]
  refine wpAny_bind (YR ?_)
  unfold Builtin.Frozenset.merge
  refine wpAny_bind (KL (s:={ s with heap:=h2 }) (old2 _ _ ob) fb ?_)
  refine J6 (s:={ s with heap:=h2 }) lbS x2 (hb.kept fun o e=>old2 b o e) nd2 n2 (by omega) (fun s' Q' hk q=>?_) fun h3 σ3 sb3 hS3 nd3 m3 _=>?_
  ·unfold Builtin.Frozenset.unchanged
   refine wpAny_bind (KL (hk _ (old2 _ _ ob)) fb ?_)
   rw [if_neg (by simp)]
   exact wpAny_pure q
  ·refine wpAny_pure (wpAny_pure ⟨_,rfl,(fun z=>by cases z),h h3 σ3 (fun c o e=>(sb3.2 c (Nat.ne_of_lt (Heap.lt_size e))).trans (old2 c o e)) hS3 nd3 fun y=>by rw [m3,m2']⟩)
 ·show wpAny _ _ (if (Value.ref b != Value.ref a)=true then _ else _) _ _ _
  rw [if_neg hab]
  have e:b=a:=by simpa using hab
  subst e
  have:σ2.Perm σ1:=by
   obtain ⟨_,_,_,z1,_,⟨l1,k1,p1⟩,_⟩:=ha
   obtain ⟨_,_,_,z2,_,⟨l2',k2,p2⟩,_⟩:=hb
   rw [z1] at z2
   cases z2
   have e1:=k1.strs
   have e2:=k2.strs
   rw [e1] at e2
   subst e2
   exact p2.symm.trans p1
  refine wpAny_pure (wpAny_pure ⟨_,rfl,(fun z=>by cases z),h h2 σ' old2 (x2.set (by unfold scanBound;omega)) nd2 fun y=>by rw [m2',this.mem_iff];simp⟩)
end
theorem jfp {X:Cx}:OpR X (binaryOp .BitOr) (fun x y H Q=>∃ (a b:Addr) (σ1 σ2:List Str),x=.ref a∧y=.ref b∧H a=some (JC X a σ1)∧H b=some (JC X b σ2)∧σ1.Nodup∧σ2.Nodup∧σ1.length+σ2.length≤15∧∀ v σ',H v=none→σ'.Nodup→(∀ z,z∈σ'↔z∈σ1∨z∈σ2)→Q (.ref v) (upd H v (JC X v σ'))):=by
 intro pins s σ H x y v u Q I rx ry h
 obtain ⟨a,b,σ1,σ2,rfl,rfl,ha,hb,n1,n2,hz,q⟩:=h
 cases rx
 cases ry
 have sa:SetAtS X.prog X.w s.heap a (ledOf X.w) σ1:=(I.hok a _ ha).1
 have sb:SetAtS X.prog X.w s.heap b (ledOf X.w) σ2:=(I.hok b _ hb).1
 obtain ⟨ea,pa,ta,oa,_⟩:=sa.type
 obtain ⟨eb,pb,tb,ob,_⟩:=sb.type
 refine wpAny_binaryOp_same (T:="set") ⟨_,oa,rfl⟩ ⟨_,ob,rfl⟩ PySem.F.fills_set_or PySem.F.slot_set_or (je2 sa sb n1 n2 hz fun h' σ' hk hS nd m=>?_)
 have hS':=hS
 obtain ⟨es,ep,t,e,_⟩:=hS'
 exact ⟨.ref s.heap.objs.size,_,I.laid (t':=s.toks) hk (Nat.le_refl _) (show ObjOk X.prog X.w _ _ _ (JC X s.heap.objs.size σ') from ⟨hS,⟨_,e⟩,fun h1 h2 x k=>x.kept k⟩),rfl,q _ _ (I.hok.fresh (Nat.le_refl _)) nd m⟩
theorem Zo {K:W.Frag} {cd:Value} {q:Str} (h:W.codeIn K cd q=true):W.kdsCode K cd=true:=by
 unfold W.codeIn at h
 unfold W.kdsCode
 split at h
 ·split at h
  ·rename_i e
   dsimp only
   rw [e]
  ·cases h
 ·cases h
theorem jdX {X:Cx} {z:Str} {j:Nat} {p1 pos:Pos} (hc:W.kdsCode X.K X.env.code=true):PE X (.Set [.Constant (.str z) j p1] 0 pos) (fun _ H Q=>∀ v,H v=none→Q (.ref v) (upd H v (JC X v [z]))):=by
 intro pins s σ H Q I q
 rw [arm_eval_Set]
 refine wpAny_bind (wpAny_standAt ?_)
 refine wpAny_bind (kds_main I.kIn hc fun b=>?_)
 show wpAny _ _ (setDisplay .oneByOne b [(false,do let v ← eval (.Constant (.str z) j p1) X.env;standAt pos;pure v)]) _ _ _
 unfold setDisplay
 rw [if_neg (by decide)]
 refine wpAny_bind (jaH ?_)
 have eS:(s.heap.push (kd #[] 0 (.fresh 0 0 (ledOf X.w)))).get? s.heap.objs.size=some (kd #[] 0 (.fresh 0 0 (ledOf X.w))):=Heap.get?_push_size _ rfl
 dsimp only
 refine wpAny_bind (wpAny_holding ?_)
 refine wpAny_bind (wpAny_evalAll_cons (wpAny_bind (wpAny_Constant_str (wpAny_bind (wpAny_standAt (wpAny_pure (wpAny_evalAll_nil ?_)))))))
 refine wpAny_bind (wpAny_holding ?_)
 refine wpAny_bind ?_
 rw [List.forIn_cons]
 refine wpAny_bind ?_
 refine wpAny_bind ?_
 unfold setAdd
 refine wpAny_holding ?_
 refine wpAny_bind ((PySem.strKind X.prog X.w).pyHash (k:=z) (strKind_is _ _ _ _) ?_)
 refine yH (prog:=X.prog) (w:=X.w) (σ:=[]) ((Zr (prog:=X.prog) (w:=X.w) eS).set (by decide)) (by decide) fun b' h' sb hS=>?_
 rw [if_neg (by simp)] at hS
 refine wpAny_pure ?_
 dsimp only
 rw [List.forIn_nil]
 refine wpAny_pure ?_
 rw [if_neg (by decide)]
 refine wpAny_pure ?_
 show wpAny _ _ (forIn ([]:List (Bool×Sem Value)) PUnit.unit _ >>= _) _ _ _
 rw [List.forIn_nil]
 refine wpAny_bind (wpAny_pure (wpAny_pure (wpAny_pure ?_)))
 have hS':=hS
 obtain ⟨es,ep,t,e,_⟩:=hS'
 exact ⟨.ref s.heap.objs.size,_,I.laid (fun c o eo=>(sb.2 c (Nat.ne_of_lt (Heap.lt_size eo))).trans (Heap.get?_push_of_some _ eo)) (Nat.le_refl _) (show ObjOk X.prog X.w _ _ _ (JC X s.heap.objs.size [z]) from ⟨hS,⟨_,e⟩,fun h1 h2 x k=>x.kept k⟩),rfl,q _ (I.hok.fresh (Nat.le_refl _))⟩
theorem Fun.okC {P:Program} {w:World} {K:W.Frag} {mg:Str→Option Value} {base:Heap} {x qual:Str} {st:Stmt} {f:Addr} {fd:FuncData} {N ps:List Str} {k:Nat} {sp:Sp} (F:Fun K x qual st f fd) (S:FnScope N ps (jm st)) (len:∀ vs H Q E,sp vs H Q E→vs.length=ps.length)
  (hbody:∀ (cdv:Value) (A:Around) (outer:List Env) (s:Shared) (H:Hp) (vs:List V) (Q:VK) (E:XK),W.kdsCode K cdv=true→Room k (A.deeper (envOfC qual (jm st) s.heap.objs.size f cdv))→sp vs H Q E→
   ∃ t,QSs (Kv CX0 P w K mg base N qual (jm st) f cdv A outer s H E).nox (qH st) t∧t { nx:=fun _ H'=>Q .non H',rt:=Q } (zI N vs) H):FnOk P w K mg base CX0 (k+1) f fd ps sp:=by
 obtain ⟨oc,od,kV,doc,pm,an,cdv,ct,osl,rfl,lk,hcd⟩:=F.ex
 refine jda lk hcd S len fun A outer s H vs Q E hr hsp=>?_
 obtain ⟨t,h,q⟩:=hbody cdv A outer s H vs Q E (Zo hcd) hr hsp
 exact ⟨t,h.h.nox,q⟩
theorem jbR {X:Cx} {z:Str} {j:Nat} {p1 pos:Pos} (hc:W.kdsCode X.K X.env.code=true):QE X (.Set [.Constant (.str z) j p1] 0 pos) (fun _ H Q=>∀ v,H v=none→Q (.ref v) (upd H v (JC X v [z]))):=⟨jdX hc⟩
end L2
namespace LW
open PySem L2
theorem j4 {n:Nat} (h:n≤1000):n≤sizeLine:=Nat.le_of_lt (jA h)
theorem sm {n:Nat} (h:n.ble 1000=true):n≤sizeLine:=j4 (Nat.le_of_ble_eq_true h)
def jas:TE:=fun _ _ _=>False
theorem jcz {X:Cx} {e:Expr}:PE X e jas:=fun _ _ _ _ _ _ h=>h.elim
theorem zY {X:Cx} {e:Expr}:QE X e jas:=⟨jcz⟩
inductive Tm where
 | is (x:Str) | at_ (r x:Str) (d:Int)
inductive Bd where
 | is (x:Str) | row (r:Str)
inductive Cl where
 | least (a b:Tm) (c:Int) | each (t:Str) (td:Int) (u:Str) (ud:Int) (r way:Str) (b:Bd) (c:Int) | rise (t:Str) (td:Int) (u:Str) (ud:Int) (r:Str)
inductive Sm where
 | set (x:Str) (t:Tm) (c:Int) | put (r x:Str) (d:Int) (t:Tm) (c:Int) | any (x:Str) | claim (C:Cl) | call (x f:Str) (as rs:List Str)
def plD (x:Str) (d:Int):D:=.tup [.str x,.int d]
def Tm.toD:Tm→D
 | .is x=>.tup [.str "is",.str x]
 | .at_ r x d=>.tup [.str "at",.str r,plD x d]
def Bd.toD:Bd→D
 | .is x=>.tup [.str "is",.str x]
 | .row r=>.tup [.str "row",.str r]
def Cl.toD:Cl→D
 | .least a b c=>.tup [.str "least",a.toD,b.toD,.int c]
 | .each t td u ud r way b c=>.tup [.str "each",plD t td,plD u ud,.str r,.str way,b.toD,.int c]
 | .rise t td u ud r=>.tup [.str "rise",plD t td,plD u ud,.str r]
def Sm.toD:Sm→D
 | .set x t c=>.tup [.str "set",.str x,t.toD,.int c]
 | .put r x d t c=>.tup [.str "put",.str r,plD x d,t.toD,.int c]
 | .any x=>.tup [.str "any",.str x]
 | .claim C=>.tup [.str "claim",C.toD]
 | .call x f as rs=>.tup [.str "call",.str x,.str f,.tup (as.map D.str),.tup (rs.map D.str)]
def Tm.ns:Tm→List Str
 | .is x=>[x]
 | .at_ _ x _=>[x]
def Cl.ns:Cl→List Str
 | .least a b _=>a.ns++b.ns
 | .each t _ u _ _ _ b _=>[t,u]++(match b with | .is x=>[x] | .row _=>[])
 | .rise t _ u _ _=>[t,u]
def Sm.ns:Sm→List Str
 | .set x t _=>[x]++t.ns
 | .put _ x _ t _=>[x]++t.ns
 | .any x=>[x]
 | .claim C=>C.ns
 | .call x _ as _=>[x]++as
theorem Cl.ns_len:∀ C:Cl,C.ns.length≤3
 | .least a b _=>by cases a <;> cases b <;> exact Nat.le_of_ble_eq_true rfl
 | .each _ _ _ _ _ _ b _=>by cases b <;> (unfold Cl.ns;simp)
 | .rise _ _ _ _ _=>by unfold Cl.ns;simp
def Sm.few:Sm→Prop
 | .call _ _ as rs=>as.length≤6∧rs.length≤6
 | _=>True
theorem qA {H:Hp} {x:Int} {v:V} (h:Held H (.int x) v):v=.int x:=by unfold Held at h;exact h
theorem jo {H:Hp} {ds:List D} {v:V} (h:Held H (.tup ds) v):∃ a xs,v=.ref a∧H a=some (.tup xs)∧HeldL H ds xs:=by unfold Held at h;exact h
theorem jz {H:Hp} {vs:List V} (h:HeldL H [] vs):vs=[]:=by unfold HeldL at h;exact h
theorem jf {H:Hp} {d:D} {ds:List D} {vs:List V} (h:HeldL H (d :: ds) vs):∃ v r,vs=v :: r∧Held H d v∧HeldL H ds r:=by unfold HeldL at h;exact h
theorem ju {H:Hp} {x:Str} {v:V} (h:Held H (.str x) v):v=.str x:=by unfold Held at h;exact h
theorem yr {H:Hp} {x:Str} {d:Int} {v:V} (h:Held H (plD x d) v):∃ a,v=.ref a∧H a=some (.tup [.str x,.int d]):=by
 obtain ⟨a,xs,rfl,ha,h1⟩:=jo h
 obtain ⟨v1,r1,rfl,e1,h2⟩:=jf h1
 obtain ⟨v2,r2,rfl,e2,h3⟩:=jf h2
 cases jz h3
 cases ju e1
 cases qA e2
 exact ⟨a,rfl,ha⟩
theorem qT {H:Hp} {x y:Str} {v:V} (h:Held H (.tup [.str x,.str y]) v):∃ a,v=.ref a∧H a=some (.tup [.str x,.str y]):=by
 obtain ⟨a,xs,rfl,ha,h1⟩:=jo h
 obtain ⟨v1,r1,rfl,e1,h2⟩:=jf h1
 obtain ⟨v2,r2,rfl,e2,h3⟩:=jf h2
 cases jz h3
 cases ju e1
 cases ju e2
 exact ⟨a,rfl,ha⟩
theorem jdm {H:Hp} {r x:Str} {d:Int} {v:V} (h:Held H (Tm.at_ r x d).toD v):∃ a b,v=.ref a∧H a=some (.tup [.str "at",.str r,.ref b])∧H b=some (.tup [.str x,.int d]):=by
 obtain ⟨a,xs,rfl,ha,h1⟩:=jo h
 obtain ⟨v1,r1,rfl,e1,h2⟩:=jf h1
 obtain ⟨v2,r2,rfl,e2,h3⟩:=jf h2
 obtain ⟨v3,r3,rfl,e3,h4⟩:=jf h3
 cases jz h4
 cases ju e1
 cases ju e2
 obtain ⟨b,rfl,hb⟩:=yr e3
 exact ⟨a,b,rfl,ha,hb⟩
theorem Ji {H:Hp} {a b:Tm} {c:Int} {v:V} (h:Held H (Cl.least a b c).toD v):∃ t va vb,v=.ref t∧H t=some (.tup [.str "least",va,vb,.int c])∧Held H a.toD va∧Held H b.toD vb:=by
 obtain ⟨t,xs,rfl,ht,h1⟩:=jo h
 obtain ⟨v1,r1,rfl,e1,h2⟩:=jf h1
 obtain ⟨v2,r2,rfl,e2,h3⟩:=jf h2
 obtain ⟨v3,r3,rfl,e3,h4⟩:=jf h3
 obtain ⟨v4,r4,rfl,e4,h5⟩:=jf h4
 cases jz h5
 cases ju e1
 cases qA e4
 exact ⟨t,v2,v3,rfl,ht,e2,e3⟩
theorem Y9 {H:Hp} {x y r:Str} {d e:Int} {v:V} (h:Held H (Cl.rise x d y e r).toD v):∃ t a b,v=.ref t∧H t=some (.tup [.str "rise",.ref a,.ref b,.str r])∧H a=some (.tup [.str x,.int d])∧H b=some (.tup [.str y,.int e]):=by
 obtain ⟨t,xs,rfl,ht,h1⟩:=jo h
 obtain ⟨v1,r1,rfl,e1,h2⟩:=jf h1
 obtain ⟨v2,r2,rfl,e2,h3⟩:=jf h2
 obtain ⟨v3,r3,rfl,e3,h4⟩:=jf h3
 obtain ⟨v4,r4,rfl,e4,h5⟩:=jf h4
 cases jz h5
 cases ju e1
 cases ju e4
 obtain ⟨a,rfl,ha⟩:=yr e2
 obtain ⟨b,rfl,hb⟩:=yr e3
 exact ⟨t,a,b,rfl,ht,ha,hb⟩
theorem Zz {H:Hp} {x y r way:Str} {d e c:Int} {bd:Bd} {v:V} (h:Held H (Cl.each x d y e r way bd c).toD v):∃ t a b vb,v=.ref t∧H t=some (.tup [.str "each",.ref a,.ref b,.str r,.str way,.ref vb,.int c])∧H a=some (.tup [.str x,.int d])∧H b=some (.tup [.str y,.int e])∧H vb=some (.tup (match bd with | .is z=>[.str "is",.str z] | .row z=>[.str "row",.str z])):=by
 obtain ⟨t,xs,rfl,ht,h1⟩:=jo h
 obtain ⟨v1,r1,rfl,e1,h2⟩:=jf h1
 obtain ⟨v2,r2,rfl,e2,h3⟩:=jf h2
 obtain ⟨v3,r3,rfl,e3,h4⟩:=jf h3
 obtain ⟨v4,r4,rfl,e4,h5⟩:=jf h4
 obtain ⟨v5,r5,rfl,e5,h6⟩:=jf h5
 obtain ⟨v6,r6,rfl,e6,h7⟩:=jf h6
 obtain ⟨v7,r7,rfl,e7,h8⟩:=jf h7
 cases jz h8
 cases ju e1
 cases ju e4
 cases ju e5
 cases qA e7
 obtain ⟨a,rfl,ha⟩:=yr e2
 obtain ⟨b,rfl,hb⟩:=yr e3
 cases bd with
 | is z=>
  obtain ⟨vb,rfl,hvb⟩:=qT e6
  exact ⟨t,a,b,vb,rfl,ht,ha,hb,hvb⟩
 | row z=>
  obtain ⟨vb,rfl,hvb⟩:=qT e6
  exact ⟨t,a,b,vb,rfl,ht,ha,hb,hvb⟩
abbrev jef (H:Hp) (Q:VK) (xs:List Str):Prop:=∀ l H',Same H H'→H l=none→H' l=some (.lst (xs.map V.str))→Q (.ref l) H'
def Yl:Sp:=fun vs H Q _=>∃ (v:V) (t:Tm),vs=[v]∧Held H t.toD v∧jef H Q t.ns
def Y6:Sp:=fun vs H Q _=>∃ (v:V) (C:Cl),vs=[v]∧Held H C.toD v∧jef H Q C.ns
def Jb:Sp:=fun vs H Q _=>∃ (a:Addr) (vs':List V) (Cs:List Cl),vs=[.ref a]∧H a=some (.tup vs')∧HeldL H (Cs.map Cl.toD) vs'∧Cs.length≤100∧jef H Q (Cs.flatMap Cl.ns)
inductive Fo (α:Type) where
 | leaf (S:Sm) | ite (a b:Tm) (c:Int) (x y:List α) | whl (a b:Tm) (c:Int) (ks:List Cl) (x:List α)
def StN:Nat→Type
 | 0=>Empty
 | n+1=>Fo (StN n)
inductive Nd where
 | leaf (S:Sm) | ite (a b:Tm) (c:Int) (x y:List D) | whl (a b:Tm) (c:Int) (ks:List Cl) (x:List D)
def Nd.toD:Nd→D
 | .leaf S=>S.toD
 | .ite a b c x y=>.tup [.str "if",(Cl.least a b c).toD,.tup x,.tup y]
 | .whl a b c ks x=>.tup [.str "while",(Cl.least a b c).toD,.tup (ks.map Cl.toD),.tup x]
def Nd.ns:Nd→List Str
 | .leaf S=>S.ns
 | .ite a b c _ _=>(Cl.least a b c).ns
 | .whl a b c ks _=>(Cl.least a b c :: ks).flatMap Cl.ns
def Nd.bods:Nd→List (List D)
 | .leaf _=>[]
 | .ite _ _ _ x y=>[x,y]
 | .whl _ _ _ _ x=>[x]
def Nd.few:Nd→Prop
 | .leaf S=>S.few
 | .whl _ _ _ ks _=>ks.length≤20
 | _=>True
def Fo.nd {α:Type} (f:α→D):Fo α→Nd
 | .leaf S=>.leaf S
 | .ite a b c x y=>.ite a b c (x.map f) (y.map f)
 | .whl a b c ks x=>.whl a b c ks (x.map f)
def Fo.bods {α:Type}:Fo α→List (List α)
 | .leaf _=>[]
 | .ite _ _ _ x y=>[x,y]
 | .whl _ _ _ _ x=>[x]
theorem Fo.nd_bods {α:Type} (f:α→D):∀ s:Fo α,(s.nd f).bods=s.bods.map fun x=>x.map f
 | .leaf _=>rfl
 | .ite _ _ _ _ _=>rfl
 | .whl _ _ _ _ _=>rfl
def stD:(n:Nat)→StN n→D
 | 0=>fun e=>nomatch (show Empty from e)
 | n+1=>fun s=>(Fo.nd (stD n) s).toD
def za {n:Nat} (s:StN (n+1)):Nd:=Fo.nd (stD n) s
def kf {n:Nat} (s:StN (n+1)):List (List (StN n)):=Fo.bods s
theorem jbb {n:Nat} (s:StN (n+1)):(za s).bods=(kf s).map fun x=>x.map (stD n):=Fo.nd_bods (stD n) s
def jT:(n:Nat)→List (StN n)→List Nd
 | 0=>fun _=>[]
 | n+1=>fun l=>l.flatMap fun (s:StN (n+1))=>za s :: (kf s).flatMap (jT n)
theorem jfY {l:List (StN 0)}:l=[]:=by
 cases l with
 | nil=>rfl
 | cons e _=>exact nomatch (show Empty from e)
theorem qR {n:Nat} (s:StN (n+1)) (l:List (StN (n+1))):jT (n+1) (s :: l)=(za s :: (kf s).flatMap (jT n))++jT (n+1) l:=rfl
theorem yZ {n:Nat}:∀ (l r:List (StN (n+1))),jT (n+1) (l++r)=jT (n+1) l++jT (n+1) r
 | [],r=>rfl
 | s :: l,r=>by rw [List.cons_append,qR,qR,yZ l r,List.append_assoc]
theorem Yf {n:Nat} {l:List (StN (n+1))} {i:Nat} (hi:i < l.length):jT (n+1) (l.take (i+1))=jT (n+1) (l.take i)++(za l[i] :: (kf l[i]).flatMap (jT n)):=by
 rw [show l.take (i+1)=l.take i++[l[i]] by rw [List.take_succ,List.getElem?_eq_getElem hi];rfl,yZ,qR]
 exact congrArg _ (List.append_nil _)
theorem qQ {α β:Type} (f:α→List β):∀ (l:List α) (i:Nat),((l.take i).flatMap f).length≤(l.flatMap f).length
 | [],i=>by simp
 | a :: l,0=>by simp
 | a :: l,i+1=>by
  rw [List.take_succ_cons,List.flatMap_cons,List.flatMap_cons,List.length_append,List.length_append]
  have:=qQ f l i
  omega
theorem yc {H:Hp} {a b:Tm} {c:Int} {x y:List D} {v:V} (h:Held H (Nd.ite a b c x y).toD v):∃ t u p q xs ys,v=.ref t∧H t=some (.tup [.str "if",u,.ref p,.ref q])∧Held H (Cl.least a b c).toD u∧H p=some (.tup xs)∧HeldL H x xs∧H q=some (.tup ys)∧HeldL H y ys:=by
 obtain ⟨t,us,rfl,ht,h1⟩:=jo h
 obtain ⟨v1,r1,rfl,e1,h2⟩:=jf h1
 obtain ⟨v2,r2,rfl,e2,h3⟩:=jf h2
 obtain ⟨v3,r3,rfl,e3,h4⟩:=jf h3
 obtain ⟨v4,r4,rfl,e4,h5⟩:=jf h4
 cases jz h5
 cases ju e1
 obtain ⟨p,xs,rfl,hp,hx⟩:=jo e3
 obtain ⟨q,ys,rfl,hq,hy⟩:=jo e4
 exact ⟨t,v2,p,q,xs,ys,rfl,ht,e2,hp,hx,hq,hy⟩
theorem yB {H:Hp} {a b:Tm} {c:Int} {ks:List Cl} {x:List D} {v:V} (h:Held H (Nd.whl a b c ks x).toD v):∃ t u p q xs ys,v=.ref t∧H t=some (.tup [.str "while",u,.ref p,.ref q])∧Held H (Cl.least a b c).toD u∧H p=some (.tup xs)∧HeldL H (ks.map Cl.toD) xs∧H q=some (.tup ys)∧HeldL H x ys:=by
 obtain ⟨t,us,rfl,ht,h1⟩:=jo h
 obtain ⟨v1,r1,rfl,e1,h2⟩:=jf h1
 obtain ⟨v2,r2,rfl,e2,h3⟩:=jf h2
 obtain ⟨v3,r3,rfl,e3,h4⟩:=jf h3
 obtain ⟨v4,r4,rfl,e4,h5⟩:=jf h4
 cases jz h5
 cases ju e1
 obtain ⟨p,xs,rfl,hp,hx⟩:=jo e3
 obtain ⟨q,ys,rfl,hq,hy⟩:=jo e4
 exact ⟨t,v2,p,q,xs,ys,rfl,ht,e2,hp,hx,hq,hy⟩
def Nd.cls:Nd→List Cl
 | .leaf (.claim C)=>[C]
 | .leaf _=>[]
 | .ite a b c _ _=>[.least a b c]
 | .whl a b c ks _=>.least a b c :: ks
def Y5:Sp:=fun vs H Q _=>∃ (v:V) (N:Nd),vs=[v]∧Held H N.toD v∧N.few∧jef H Q N.ns
def top (i:Nat):Stmt:=PySem.Challenge.pw_outlineward_k65_too_many_ways.main.body.getD i (.Pass ⟨0,0,0,0⟩)
abbrev qG:Stmt:=top 13
abbrev qv:Stmt:=top 12
abbrev qf:Stmt:=top 11
section
variable {P:Program} {w:World} {K:W.Frag} {mg:Str→Option Value} {base:Heap}
theorem jcI {f:Addr} {fd:FuncData} (F:Fun K "term_numbers" "term_numbers" qG f fd):FnOk P w K mg base CX0 1 f fd ["term"] Yl:=by
 have sc:FnScope ["term"] ["term"] (jm qG):=fQ
 refine F.okZ sc (fun vs H Q E h=>?_) (fun cdv A outer s H vs Q E hr h=>?_)
 ·obtain ⟨v,t,rfl,_⟩:=h
  rfl
 obtain ⟨v,t,rfl,ht,q⟩:=h
 refine ⟨_,(jd (jU (jx km (jw jF (zpv 0) jh (fun _ _=>rfl)) jy (jJ _)) (ji (jq (jN (jc (jw jF (zpv 0) jh (fun _ _=>rfl)) jb)))) jE)
   (ji (jq (jN (jc (jw jF (jw jF (zpv 0) jh (fun _ _=>rfl)) jh (fun _ _=>rfl)) jb))))),?_⟩
 cases t with
 | is x=>
  obtain ⟨a,rfl,ha⟩:=qT ht
  refine ⟨_,rfl,a,_,_,_,rfl,rfl,SqT.of ha,rfl,rfl,_,rfl,jL (fun _=>?_) (fun d=>absurd (decide_eq_true rfl) d)⟩
  exact ⟨_,rfl,a,_,_,_,rfl,rfl,SqT.of ha,rfl,sm rfl,fun l hl=>q l _ (je hl _) hl ja⟩
 | at_ r x d=>
  obtain ⟨a,b,rfl,ha,hb⟩:=jdm ht
  refine ⟨_,rfl,a,_,_,_,rfl,rfl,SqT.of ha,rfl,rfl,_,rfl,jL (fun d=>absurd (of_decide_eq_true d) (by decide)) (fun _=>?_)⟩
  exact ⟨_,rfl,a,_,_,_,rfl,rfl,SqT.of ha,rfl,b,_,_,_,rfl,rfl,SqT.of hb,rfl,sm rfl,fun l hl=>q l _ (je hl _) hl ja⟩
theorem jbn {f:Addr} {fd:FuncData} (F:Fun K "claim_numbers" "claim_numbers" qv f fd) (F_term_numbers:Fn P w K mg base 1 "term_numbers" ["term"] Yl):FnOk P w K mg base CX0 2 f fd ["claim"] Y6:=by
 have sc:FnScope ["claim","ends"] ["claim"] (jm qv):=fQ
 refine F.okZ sc (fun vs H Q E h=>?_) (fun cdv A outer s H vs Q E hr h=>?_)
 ·obtain ⟨v,C,rfl,_⟩:=h
  rfl
 obtain ⟨v,C,rfl,hC,q⟩:=h
 refine ⟨_,(jd (jU (jx km (jw jF (zpv 0) jh (fun _ _=>rfl)) jy (jJ _)) (ji (jq (js qO (jP F_term_numbers hr (jc (jw jF (zpv 0) jh (fun _ _=>rfl)) jb)) (jP F_term_numbers hr (jc (jw jF (zpv 0) jh (fun _ _=>rfl)) jb))))) jE)
   (jd (jt (i:=1) sc.nd rfl oQ (jN (jc (jw jF (jw jF (zpv 0) jh (fun _ _=>rfl)) jh (fun _ _=>rfl)) (jc (jw jF (jw jF (zpv 0) jh (fun _ _=>rfl)) jh (fun _ _=>rfl)) jb))))
   (jd (JS (jU (jam (jx km (jw jF (zpv 0) jh (fun _ _=>rfl)) jy (jJ _)) (YT (jx km (jw jF (jw jF (zpv 0) jh (fun _ _=>rfl)) jh (fun _ _=>rfl)) jy (jJ _)))).pt (ji (jq (js qO (zpv 1) (jN (jc (jw jF (jw jF (zpv 0) jh (fun _ _=>rfl)) jh (fun _ _=>rfl)) jb))))) jE))
   (ji (jq (zpv 1)))))),?_⟩
 refine jO (σ':=[some v,none]) rfl ?_
 have tnl:∀ t:Tm,t.ns.length=1:=fun t=>by cases t <;> rfl
 cases C with
 | least a b c=>
  obtain ⟨t,va,vb,rfl,ht,ha,hb⟩:=Ji hC
  refine ⟨_,rfl,t,_,_,_,rfl,rfl,SqT.of ht,rfl,rfl,_,rfl,jL (fun _=>?_) (fun d=>absurd (decide_eq_true rfl) d)⟩
  refine ⟨_,rfl,t,_,_,_,rfl,rfl,SqT.of ht,rfl,va,a,rfl,ha,fun l1 H1 s1 n1 e1=>?_⟩
  refine ⟨_,rfl,t,_,_,_,rfl,rfl,SqT.of (s1 _ _ ht),rfl,vb,b,rfl,hb.mono s1,fun l2 H2 s2 n2 e2=>?_⟩
  refine ⟨l1,l2,_,_,rfl,rfl,s2 _ _ e1,e2,Nat.le_trans (by rw [List.length_map,List.length_map,tnl,tnl];exact (by decide:1+1≤1000)) (j4 (Nat.le_refl 1000)),fun l3 hl3=>?_⟩
  refine q l3 _ (s1.trans (s2.trans (je hl3 _))) (s1.free (s2.free hl3)) ?_
  rw [ja,← List.map_append]
  rfl
 | rise x d y e r=>
  obtain ⟨t,a,b,rfl,ht,ha,hb⟩:=Y9 hC
  refine ⟨_,rfl,t,_,_,_,rfl,rfl,SqT.of ht,rfl,rfl,_,rfl,jL (fun d=>absurd (of_decide_eq_true d) (by decide)) (fun _=>?_)⟩
  refine ⟨_,rfl,t,_,_,_,rfl,rfl,SqT.of ht,rfl,a,_,_,_,rfl,rfl,SqT.of ha,rfl,_,rfl,t,_,_,_,rfl,rfl,SqT.of ht,rfl,b,_,_,_,rfl,rfl,SqT.of hb,rfl,sm rfl,fun l hl=>?_⟩
  have s1:=je hl (.lst [V.str x,V.str y])
  have e1:upd H l (.lst [V.str x,V.str y]) l=some (.lst [V.str x,V.str y]):=ja
  generalize upd H l (.lst [V.str x,V.str y])=H1 at *
  refine gQ ?_
  refine ⟨fun σ' G=>σ'=[some (.ref t),some (.ref l)]∧G=H1,?_,?_⟩
  ·exact ⟨_,rfl,t,_,_,_,rfl,rfl,SqT.of (s1 _ _ ht),rfl,rfl,_,rfl,jL (fun d=>absurd (of_decide_eq_true d) (by decide)) (fun _=>jfB ⟨rfl,rfl⟩)⟩
  ·rintro σ' G ⟨rfl,rfl⟩
   exact ⟨_,rfl,q l _ s1 hl e1⟩
 | each x d y e r way bd c=>
  obtain ⟨t,a,b,vb,rfl,ht,ha,hb,hvb⟩:=Zz hC
  refine ⟨_,rfl,t,_,_,_,rfl,rfl,SqT.of ht,rfl,rfl,_,rfl,jL (fun d=>absurd (of_decide_eq_true d) (by decide)) (fun _=>?_)⟩
  refine ⟨_,rfl,t,_,_,_,rfl,rfl,SqT.of ht,rfl,a,_,_,_,rfl,rfl,SqT.of ha,rfl,_,rfl,t,_,_,_,rfl,rfl,SqT.of ht,rfl,b,_,_,_,rfl,rfl,SqT.of hb,rfl,sm rfl,fun l hl=>?_⟩
  have s1:=je hl (.lst [V.str x,V.str y])
  have e1:upd H l (.lst [V.str x,V.str y]) l=some (.lst [V.str x,V.str y]):=ja
  generalize upd H l (.lst [V.str x,V.str y])=H1 at *
  refine gQ ?_
  refine ⟨fun σ' G=>σ'=[some (.ref t),some (.ref l)]∧G=H1∧∃ z,bd=.row z,?_,?_⟩
  ·refine ⟨_,rfl,t,_,_,_,rfl,rfl,SqT.of (s1 _ _ ht),rfl,rfl,_,rfl,jL (fun _=>?_) (fun d=>absurd (decide_eq_true rfl) d)⟩
   cases bd with
   | row z=>exact ⟨_,rfl,t,_,_,_,rfl,rfl,SqT.of (s1 _ _ ht),rfl,vb,_,_,_,rfl,rfl,SqT.of (s1 _ _ hvb),rfl,rfl,_,rfl,jL (fun d=>absurd (of_decide_eq_true d) (by decide)) (fun _=>⟨rfl,rfl,z,rfl⟩)⟩
   | is z=>
    refine ⟨_,rfl,t,_,_,_,rfl,rfl,SqT.of (s1 _ _ ht),rfl,vb,_,_,_,rfl,rfl,SqT.of (s1 _ _ hvb),rfl,rfl,_,rfl,jL (fun _=>?_) (fun d=>absurd (decide_eq_true rfl) d)⟩
    refine ⟨_,rfl,_,rfl,t,_,_,_,rfl,rfl,SqT.of (s1 _ _ ht),rfl,vb,_,_,_,rfl,rfl,SqT.of (s1 _ _ hvb),rfl,sm rfl,fun l2 hl2=>?_⟩
    have s2:=je hl2 (.lst [V.str z])
    refine ⟨l,l2,_,_,rfl,rfl,s2 _ _ e1,ja,Nat.le_trans (Nat.le_of_ble_eq_true rfl) (j4 (Nat.le_refl 1000)),fun l3 hl3=>?_⟩
    exact q l3 _ (s1.trans (s2.trans (je hl3 _))) (s1.free (s2.free hl3)) ja
  ·rintro σ' G ⟨rfl,rfl,z,rfl⟩
   exact ⟨_,rfl,q l _ s1 hl e1⟩
theorem ZZ {f:Addr} {fd:FuncData} (F:Fun K "claims_numbers" "claims_numbers" qf f fd) (F_claim_numbers:Fn P w K mg base 2 "claim_numbers" ["claim"] Y6):FnOk P w K mg base CX0 3 f fd ["claims"] Jb:=by
 have sc:FnScope ["claims","told","claim"] ["claims"] (jm qf):=fQ
 refine F.okZ sc (fun vs H Q E h=>?_) (fun cdv A outer s H vs Q E hr h=>?_)
 ·obtain ⟨a,vs',Cs,rfl,_⟩:=h
  rfl
 obtain ⟨a,us,Cs,rfl,ha,hCs,hlen,q⟩:=h
 refine ⟨_,(jd (jt (i:=1) sc.nd rfl oQ (jN jb))
   (jd (kr PassesOwn.never rfl (qq (zpv 0)) (jn (i:=2) sc.nd rfl oQ) (ji (j6 (qC PySem.F.plainAttrs_list PySem.F.slot_list_extend PySem.F.type_list_extend zj (zpv 1) (jc (jP F_claim_numbers hr (jc (zpv 2) jb)) jb)))))
   (ji (jq (zpv 1))))),?_⟩
 refine jO (σ':=[some (.ref a),none,none]) rfl ?_
 refine ⟨sm rfl,fun l hl=>?_⟩
 have s1:=je hl (.lst [])
 have e1:upd H l (.lst []) l=some (.lst []):=ja
 generalize upd H l (.lst [])=H1 at *
 refine gQ ?_
 have hul:=hCs.length
 rw [List.length_map] at hul
 refine ⟨_,rfl,a,rfl,⟨_,SqT.of (s1 _ _ ha)⟩,?_⟩
 refine yO (xs:=us) (fun i σ G=>∃ u2,σ=[some (.ref a),some (.ref l),u2]∧Same H G∧G l=some (.lst (((Cs.take i).flatMap Cl.ns).map V.str))) ⟨none,rfl,s1,e1⟩ ?_ ?_ ?_
 ·rintro i σ G _ ⟨u2,rfl,sG,_⟩
  exact SqT.of (sG _ _ ha)
 ·rintro i x σ G hx ⟨u2,rfl,sG,hG⟩
  have hi:i < Cs.length:=by have:=(List.getElem?_eq_some_iff.mp hx).1;omega
  obtain ⟨x',hx',hxH⟩:=hCs.get (show (Cs.map Cl.toD)[i]?=some Cs[i].toD by rw [List.getElem?_map,List.getElem?_eq_getElem hi];rfl)
  rw [hx] at hx'
  cases hx'
  have hfl:((Cs.take i).flatMap Cl.ns).length≤3 * i:=by
   have:∀ l:List Cl,(l.flatMap Cl.ns).length≤3 * l.length:=fun l=>by
    induction l with
    | nil=>exact Nat.zero_le _
    | cons c r ih=>rw [List.flatMap_cons,List.length_append,List.length_cons];have:=c.ns_len;omega
   have h1:=this (Cs.take i)
   rw [List.length_take] at h1
   omega
  refine gQ ?_
  refine ⟨_,rfl,.inl ⟨rfl,_,SqL.of hG⟩,_,rfl,x,Cs[i],rfl,hxH.mono sG,fun l2 G2 s2 n2 e2=>?_⟩
  have hG2:=s2 _ _ hG
  have hn3:=Cs[i].ns_len
  refine ⟨l,l2,_,_,rfl,rfl,hG2,e2,Nat.le_trans (by rw [List.length_map,List.length_map];omega) (j4 (Nat.le_refl 1000)),?_⟩
  refine ⟨_,rfl,fun b o e=>?_,?_⟩
  ·rw [jl (jk e hl)];exact s2 _ _ (sG _ _ e)
  ·rw [ja,List.take_succ,List.getElem?_eq_getElem hi,List.flatMap_append,List.map_append]
   simp
 rintro σ G ⟨u2,rfl,sG,hG⟩
 have et:Cs.take us.length=Cs:=by rw [← hul,List.take_length]
 rw [et] at hG
 exact ⟨_,rfl,q l G sG hl hG⟩
end
abbrev q5:Stmt:=top 9
abbrev qu:Stmt:=top 10
abbrev zw:Stmt:=top 8
abbrev ke:Stmt:=top 7
def Nd.asks:Nd→Prop
 | .leaf (.claim _)=>True
 | .leaf _=>False
 | _=>True
def jeH:Sp:=fun vs H Q _=>∃ (v:V) (N:Nd),vs=[v]∧Held H N.toD v∧N.asks∧N.few∧∀ t us H',Same H H'→H' t=some (.tup us)→HeldL H' (N.cls.map Cl.toD) us→Q (.ref t) H'
def JY:Sp:=fun vs H Q _=>∃ (v:V) (N:Nd),vs=[v]∧Held H N.toD v∧∀ t us H',Same H H'→H' t=some (.tup us)→HeldL H' (N.bods.map D.tup) us→Q (.ref t) H'
def Y7 (n:Nat):Sp:=fun vs H Q _=>∃ (a:Addr) (us:List V) (Ss:List (StN n)),vs=[.ref a]∧H a=some (.tup us)∧HeldL H (Ss.map (stD n)) us∧(jT n Ss).length≤100∧∀ l us' H',Same H H'→H l=none→H' l=some (.lst us')→HeldL H' ((jT n Ss).map Nd.toD) us'→Q (.ref l) H'
theorem jaz {H:Hp} {x:Str} {t:Tm} {c:Int} {v:V} (h:Held H (Sm.set x t c).toD v):∃ a u,v=.ref a∧H a=some (.tup [.str "set",.str x,u,.int c])∧Held H t.toD u:=by
 obtain ⟨a,xs,rfl,ha,h1⟩:=jo h
 obtain ⟨v1,r1,rfl,e1,h2⟩:=jf h1
 obtain ⟨v2,r2,rfl,e2,h3⟩:=jf h2
 obtain ⟨v3,r3,rfl,e3,h4⟩:=jf h3
 obtain ⟨v4,r4,rfl,e4,h5⟩:=jf h4
 cases jz h5
 cases ju e1
 cases ju e2
 cases qA e4
 exact ⟨a,v3,rfl,ha,e3⟩
theorem jaD {H:Hp} {r x:Str} {d:Int} {t:Tm} {c:Int} {v:V} (h:Held H (Sm.put r x d t c).toD v):∃ a b u,v=.ref a∧H a=some (.tup [.str "put",.str r,.ref b,u,.int c])∧H b=some (.tup [.str x,.int d])∧Held H t.toD u:=by
 obtain ⟨a,xs,rfl,ha,h1⟩:=jo h
 obtain ⟨v1,r1,rfl,e1,h2⟩:=jf h1
 obtain ⟨v2,r2,rfl,e2,h3⟩:=jf h2
 obtain ⟨v3,r3,rfl,e3,h4⟩:=jf h3
 obtain ⟨v4,r4,rfl,e4,h5⟩:=jf h4
 obtain ⟨v5,r5,rfl,e5,h6⟩:=jf h5
 cases jz h6
 cases ju e1
 cases ju e2
 cases qA e5
 obtain ⟨b,rfl,hb⟩:=yr e3
 exact ⟨a,b,v4,rfl,ha,hb,e4⟩
theorem yg {H:Hp} {C:Cl} {v:V} (h:Held H (Sm.claim C).toD v):∃ a u,v=.ref a∧H a=some (.tup [.str "claim",u])∧Held H C.toD u:=by
 obtain ⟨a,xs,rfl,ha,h1⟩:=jo h
 obtain ⟨v1,r1,rfl,e1,h2⟩:=jf h1
 obtain ⟨v2,r2,rfl,e2,h3⟩:=jf h2
 cases jz h3
 cases ju e1
 exact ⟨a,v2,rfl,ha,e2⟩
theorem kU {H:Hp}:∀ {xs:List Str} {vs:List V},HeldL H (xs.map D.str) vs→vs=xs.map V.str
 | [],_,h=>jz h
 | _ :: _,_,h=>by
  obtain ⟨v,r,rfl,h1,h2⟩:=jf h
  cases ju h1
  rw [kU h2]
  rfl
theorem Kl {H:Hp} {x f:Str} {as rs:List Str} {v:V} (h:Held H (Sm.call x f as rs).toD v):∃ a b c,v=.ref a∧H a=some (.tup [.str "call",.str x,.str f,.ref b,.ref c])∧H b=some (.tup (as.map V.str))∧H c=some (.tup (rs.map V.str)):=by
 obtain ⟨a,xs,rfl,ha,h1⟩:=jo h
 obtain ⟨v1,r1,rfl,e1,h2⟩:=jf h1
 obtain ⟨v2,r2,rfl,e2,h3⟩:=jf h2
 obtain ⟨v3,r3,rfl,e3,h4⟩:=jf h3
 obtain ⟨v4,r4,rfl,e4,h5⟩:=jf h4
 obtain ⟨v5,r5,rfl,e5,h6⟩:=jf h5
 cases jz h6
 cases ju e1
 cases ju e2
 cases ju e3
 obtain ⟨b,xb,rfl,hb,hb'⟩:=jo e4
 obtain ⟨c,xc,rfl,hc,hc'⟩:=jo e5
 cases kU hb'
 cases kU hc'
 exact ⟨a,b,c,rfl,ha,hb,hc⟩
theorem Sm.head {H:Hp} {S:Sm} {v:V} (h:Held H S.toD v):∃ a k r,v=.ref a∧H a=some (.tup (.str k :: r))∧k≠"if"∧k≠"while"∧(k = "call"↔∃ x f as rs,S=.call x f as rs)∧(k = "claim"↔∃ C,S=.claim C):=by
 cases S with
 | set x t c=>obtain ⟨a,u,rfl,ha,_⟩:=jaz h;exact ⟨a,_,_,rfl,ha,by decide,by decide,⟨fun z=>absurd z (by decide),fun ⟨_,_,_,_,z⟩=>by cases z⟩,⟨fun z=>absurd z (by decide),fun ⟨_,z⟩=>by cases z⟩⟩
 | put r x d t c=>obtain ⟨a,b,u,rfl,ha,_⟩:=jaD h;exact ⟨a,_,_,rfl,ha,by decide,by decide,⟨fun z=>absurd z (by decide),fun ⟨_,_,_,_,z⟩=>by cases z⟩,⟨fun z=>absurd z (by decide),fun ⟨_,z⟩=>by cases z⟩⟩
 | any x=>obtain ⟨a,rfl,ha⟩:=qT h;exact ⟨a,_,_,rfl,ha,by decide,by decide,⟨fun z=>absurd z (by decide),fun ⟨_,_,_,_,z⟩=>by cases z⟩,⟨fun z=>absurd z (by decide),fun ⟨_,z⟩=>by cases z⟩⟩
 | claim C=>obtain ⟨a,u,rfl,ha,_⟩:=yg h;exact ⟨a,_,_,rfl,ha,by decide,by decide,⟨fun z=>absurd z (by decide),fun ⟨_,_,_,_,z⟩=>by cases z⟩,⟨fun _=>⟨C,rfl⟩,fun _=>rfl⟩⟩
 | call x f as rs=>obtain ⟨a,b,c,rfl,ha,_⟩:=Kl h;exact ⟨a,_,_,rfl,ha,by decide,by decide,⟨fun _=>⟨x,f,as,rs,rfl⟩,fun _=>rfl⟩,⟨fun z=>absurd z (by decide),fun ⟨_,z⟩=>by cases z⟩⟩
section
variable {P:Program} {w:World} {K:W.Frag} {mg:Str→Option Value} {base:Heap}
theorem jfr {f:Addr} {fd:FuncData} (F:Fun K "own_claims" "own_claims" q5 f fd):FnOk P w K mg base CX0 1 f fd ["statement"] jeH:=by
 have sc:FnScope ["statement"] ["statement"] (jm q5):=fQ
 refine F.okZ sc (fun vs H Q E h=>?_) (fun cdv A outer s H vs Q E hr h=>?_)
 ·obtain ⟨v,N,rfl,_⟩:=h
  rfl
 obtain ⟨v,N,rfl,hN,hask,hfew,q⟩:=h
 refine ⟨_,(jd (jU (jx km (jw jF (zpv 0) jh (fun _ _=>rfl)) jy (jJ _)) (ji (jq (js qc (jQ qD (zpv 0) (jR jh) (jR jh)) (jw jF (zpv 0) jh (fun _ _=>rfl))))) jE)
   (ji (jq (jQ qD (zpv 0) (jR jh) (jR jh))))),?_⟩
 cases N with
 | leaf S=>
  cases S with
  | claim C=>
   obtain ⟨a,u,rfl,ha,hu⟩:=yg hN
   refine ⟨_,rfl,a,_,_,_,rfl,rfl,SqT.of ha,rfl,rfl,_,rfl,jL (fun d=>absurd (of_decide_eq_true d) (by decide)) (fun _=>?_)⟩
   refine ⟨_,rfl,_,rfl,_,rfl,a,_,rfl,SqT.of ha,(fun h=>absurd h.1 (by show ¬ (HT.sIx 2 0 (some 1)=0);decide)),fun t ht=>?_⟩
   exact q t [u] _ (je ht _) ja (jj (hu.mono (je ht _)) jp)
  | _=>exact hask.elim
 | ite a b c x y=>
  obtain ⟨t,u,p,r,xs,ys,rfl,ht,hu,hp,hx,hr',hy⟩:=yc hN
  refine ⟨_,rfl,t,_,_,_,rfl,rfl,SqT.of ht,rfl,rfl,_,rfl,jL (fun d=>absurd (of_decide_eq_true d) (by decide)) (fun _=>?_)⟩
  refine ⟨_,rfl,_,rfl,_,rfl,t,_,rfl,SqT.of ht,(fun h=>absurd h.1 (by show ¬ (HT.sIx 4 0 (some 1)=0);decide)),fun t' ht'=>?_⟩
  exact q t' [u] _ (je ht' _) ja (jj (hu.mono (je ht' _)) jp)
 | whl a b c ks x=>
  obtain ⟨t,u,p,r,xs,ys,rfl,ht,hu,hp,hx,hr',hy⟩:=yB hN
  have hl:=hx.length
  rw [List.length_map] at hl
  have hk20:ks.length≤20:=hfew
  refine ⟨_,rfl,t,_,_,_,rfl,rfl,SqT.of ht,rfl,rfl,_,rfl,jL (fun _=>?_) (fun d=>absurd (decide_eq_true rfl) d)⟩
  refine ⟨_,rfl,_,rfl,_,rfl,t,_,rfl,SqT.of ht,(fun h=>absurd h.1 (by show ¬ (HT.sIx 4 0 (some 1)=0);decide)),fun t' ht'=>?_⟩
  have s1:=je ht' (.tup (j8 [.str "while",u,.ref p,.ref r] (some 1) (some 2)))
  have e1:upd H t' (.tup (j8 [.str "while",u,.ref p,.ref r] (some 1) (some 2))) t'=some (.tup [u]):=ja
  generalize upd H t' (.tup (j8 [.str "while",u,.ref p,.ref r] (some 1) (some 2)))=H1 at *
  refine ⟨_,rfl,t,_,_,_,rfl,rfl,SqT.of (s1 _ _ ht),rfl,t',p,_,_,rfl,rfl,e1,s1 _ _ hp,j4 (by show 1+xs.length≤1000;omega),fun t2 H2 s2 ht2=>?_⟩
  have s12:=s1.trans s2
  exact q t2 _ H2 s12 ht2 (jj (hu.mono s12) (hx.mono s12))
theorem jcL {f:Addr} {fd:FuncData} (F:Fun K "numbers_named" "numbers_named" qu f fd) (B:Free0 mg) (F_term_numbers:Fn P w K mg base 1 "term_numbers" ["term"] Yl) (F_claims_numbers:Fn P w K mg base 3 "claims_numbers" ["claims"] Jb) (F_own_claims:Fn P w K mg base 1 "own_claims" ["statement"] jeH):FnOk P w K mg base CX0 4 f fd ["statement"] Y5:=by
 have sc:FnScope ["statement","kind"] ["statement"] (jm qu):=fQ
 refine F.okZ sc (fun vs H Q E h=>?_) (fun cdv A outer s H vs Q E hr h=>?_)
 ·obtain ⟨v,N,rfl,_⟩:=h
  rfl
 obtain ⟨v,N,rfl,hN,hf,q⟩:=h
 refine ⟨_,(jd (jt (i:=1) sc.nd rfl oQ (jw jF (zpv 0) jh (fun _ _=>rfl)))
   (jd (jU (jx km (zpv 1) jy (jJ _)) (ji (jq (js qO (jN (jc (jw jF (zpv 0) jh (fun _ _=>rfl)) jb)) (jP F_term_numbers hr (jc (jw jF (zpv 0) jh (fun _ _=>rfl)) jb))))) jE)
   (jd (jU (jx km (zpv 1) jy (jJ _)) (ji (jq (js qO (jN (jc (jw jF (jw jF (zpv 0) jh (fun _ _=>rfl)) jh (fun _ _=>rfl)) jb)) (jP F_term_numbers hr (jc (jw jF (zpv 0) jh (fun _ _=>rfl)) jb))))) jE)
   (jd (jU (jx km (zpv 1) jy (jJ _)) (ji (jq (jN (jc (jw jF (zpv 0) jh (fun _ _=>rfl)) jb)))) jE)
   (jd (jU (jx km (zpv 1) jy (jJ _)) (ji (jq (js qO (jN (jc (jw jF (zpv 0) jh (fun _ _=>rfl)) jb)) (yo zD (by rfl) B.list_ JP (jc (jw jF (zpv 0) jh (fun _ _=>rfl)) jb))))) jE)
   (ji (jq (jP F_claims_numbers hr (jc (jP F_own_claims hr (jc (zpv 0) jb)) jb))))))))),?_⟩
 refine jO (σ':=[some v,none]) rfl ?_
 have tnl:∀ t:Tm,t.ns.length=1:=fun t=>by cases t <;> rfl
 cases N with
 | leaf S=>
  have hS:Held H S.toD v:=hN
  cases S with
  | set x t c=>
   obtain ⟨a,u,rfl,ha,hu⟩:=jaz hS
   refine ⟨_,rfl,a,_,_,_,rfl,rfl,SqT.of ha,rfl,?_⟩
   refine gQ ?_
   refine ⟨_,rfl,rfl,_,rfl,jL (fun _=>?_) (fun d=>absurd (decide_eq_true rfl) d)⟩
   refine ⟨_,rfl,a,_,_,_,rfl,rfl,SqT.of ha,rfl,sm rfl,fun l hl=>?_⟩
   have s1:=je hl (.lst [V.str x])
   have e1:upd H l (.lst [V.str x]) l=some (.lst [V.str x]):=ja
   generalize upd H l (.lst [V.str x])=H1 at *
   refine ⟨_,rfl,a,_,_,_,rfl,rfl,SqT.of (s1 _ _ ha),rfl,u,t,rfl,hu.mono s1,fun l2 H2 s2 n2 e2=>?_⟩
   refine ⟨l,l2,_,_,rfl,rfl,s2 _ _ e1,e2,Nat.le_trans (by rw [List.length_map,tnl];exact (by decide:1+1≤1000)) (j4 (Nat.le_refl 1000)),fun l3 hl3=>?_⟩
   exact q l3 _ (s1.trans (s2.trans (je hl3 _))) (s1.free (s2.free hl3)) ja
  | put r x d t c=>
   obtain ⟨a,b,u,rfl,ha,hb,hu⟩:=jaD hS
   refine ⟨_,rfl,a,_,_,_,rfl,rfl,SqT.of ha,rfl,?_⟩
   refine gQ ?_
   refine ⟨_,rfl,rfl,_,rfl,jL (fun d=>absurd (of_decide_eq_true d) (by decide)) (fun _=>?_)⟩
   refine ⟨_,rfl,rfl,_,rfl,jL (fun _=>?_) (fun d=>absurd (decide_eq_true rfl) d)⟩
   refine ⟨_,rfl,a,_,_,_,rfl,rfl,SqT.of ha,rfl,b,_,_,_,rfl,rfl,SqT.of hb,rfl,sm rfl,fun l hl=>?_⟩
   have s1:=je hl (.lst [V.str x])
   have e1:upd H l (.lst [V.str x]) l=some (.lst [V.str x]):=ja
   generalize upd H l (.lst [V.str x])=H1 at *
   refine ⟨_,rfl,a,_,_,_,rfl,rfl,SqT.of (s1 _ _ ha),rfl,u,t,rfl,hu.mono s1,fun l2 H2 s2 n2 e2=>?_⟩
   refine ⟨l,l2,_,_,rfl,rfl,s2 _ _ e1,e2,Nat.le_trans (by rw [List.length_map,tnl];exact (by decide:1+1≤1000)) (j4 (Nat.le_refl 1000)),fun l3 hl3=>?_⟩
   exact q l3 _ (s1.trans (s2.trans (je hl3 _))) (s1.free (s2.free hl3)) ja
  | any x=>
   obtain ⟨a,rfl,ha⟩:=qT hS
   refine ⟨_,rfl,a,_,_,_,rfl,rfl,SqT.of ha,rfl,?_⟩
   refine gQ ?_
   refine ⟨_,rfl,rfl,_,rfl,jL (fun d=>absurd (of_decide_eq_true d) (by decide)) (fun _=>?_)⟩
   refine ⟨_,rfl,rfl,_,rfl,jL (fun d=>absurd (of_decide_eq_true d) (by decide)) (fun _=>?_)⟩
   refine ⟨_,rfl,rfl,_,rfl,jL (fun _=>?_) (fun d=>absurd (decide_eq_true rfl) d)⟩
   exact ⟨_,rfl,a,_,_,_,rfl,rfl,SqT.of ha,rfl,sm rfl,fun l hl=>q l _ (je hl _) hl ja⟩
  | claim C=>
   obtain ⟨a,u,rfl,ha,hu⟩:=yg hS
   refine ⟨_,rfl,a,_,_,_,rfl,rfl,SqT.of ha,rfl,?_⟩
   refine gQ ?_
   refine ⟨_,rfl,rfl,_,rfl,jL (fun d=>absurd (of_decide_eq_true d) (by decide)) (fun _=>?_)⟩
   refine ⟨_,rfl,rfl,_,rfl,jL (fun d=>absurd (of_decide_eq_true d) (by decide)) (fun _=>?_)⟩
   refine ⟨_,rfl,rfl,_,rfl,jL (fun d=>absurd (of_decide_eq_true d) (by decide)) (fun _=>?_)⟩
   refine ⟨_,rfl,rfl,_,rfl,jL (fun d=>absurd (of_decide_eq_true d) (by decide)) (fun _=>?_)⟩
   refine ⟨_,rfl,_,.leaf (.claim C),rfl,hN,trivial,trivial,fun t us H1 s1 ht hu'=>?_⟩
   refine ⟨t,us,[C],rfl,ht,hu',Nat.le_of_ble_eq_true rfl,fun l H2 s2 n2 e2=>?_⟩
   refine q l H2 (s1.trans s2) (s1.free n2) ?_
   rw [e2]
   simp [Nd.ns,Sm.ns]
  | call x f as rs=>
   obtain ⟨a,b,c,rfl,ha,hb,hc⟩:=Kl hS
   refine ⟨_,rfl,a,_,_,_,rfl,rfl,SqT.of ha,rfl,?_⟩
   refine gQ ?_
   refine ⟨_,rfl,rfl,_,rfl,jL (fun d=>absurd (of_decide_eq_true d) (by decide)) (fun _=>?_)⟩
   refine ⟨_,rfl,rfl,_,rfl,jL (fun d=>absurd (of_decide_eq_true d) (by decide)) (fun _=>?_)⟩
   refine ⟨_,rfl,rfl,_,rfl,jL (fun d=>absurd (of_decide_eq_true d) (by decide)) (fun _=>?_)⟩
   refine ⟨_,rfl,rfl,_,rfl,jL (fun _=>?_) (fun d=>absurd (decide_eq_true rfl) d)⟩
   refine ⟨_,rfl,a,_,_,_,rfl,rfl,SqT.of ha,rfl,sm rfl,fun l hl=>?_⟩
   have s1:=je hl (.lst [V.str x])
   have e1:upd H l (.lst [V.str x]) l=some (.lst [V.str x]):=ja
   generalize upd H l (.lst [V.str x])=H1 at *
   refine ⟨_,rfl,a,_,_,_,rfl,rfl,SqT.of (s1 _ _ ha),rfl,b,_,rfl,.inr (SqT.of (s1 _ _ hb)),fun l2 hl2=>?_⟩
   have s2:=je hl2 (.lst (as.map V.str))
   have e2:upd H1 l2 (.lst (as.map V.str)) l2=some (.lst (as.map V.str)):=ja
   generalize upd H1 l2 (.lst (as.map V.str))=H2 at *
   have has:=hf.1
   refine ⟨l,l2,_,_,rfl,rfl,s2 _ _ e1,e2,Nat.le_trans (by rw [List.length_map];exact Nat.le_trans (Nat.add_le_add_left has 1) (by decide:1+6≤1000)) (j4 (Nat.le_refl 1000)),fun l3 hl3=>?_⟩
   exact q l3 _ (s1.trans (s2.trans (je hl3 _))) (s1.free (s2.free hl3)) ja
 | ite a b c x y=>
  obtain ⟨t,u,p,r,xs,ys,rfl,ht,hu,hp,hx,hr',hy⟩:=yc hN
  refine ⟨_,rfl,t,_,_,_,rfl,rfl,SqT.of ht,rfl,?_⟩
  refine gQ ?_
  refine ⟨_,rfl,rfl,_,rfl,jL (fun d=>absurd (of_decide_eq_true d) (by decide)) (fun _=>?_)⟩
  refine ⟨_,rfl,rfl,_,rfl,jL (fun d=>absurd (of_decide_eq_true d) (by decide)) (fun _=>?_)⟩
  refine ⟨_,rfl,rfl,_,rfl,jL (fun d=>absurd (of_decide_eq_true d) (by decide)) (fun _=>?_)⟩
  refine ⟨_,rfl,rfl,_,rfl,jL (fun d=>absurd (of_decide_eq_true d) (by decide)) (fun _=>?_)⟩
  refine ⟨_,rfl,_,.ite a b c x y,rfl,hN,trivial,trivial,fun t us H1 s1 ht hu'=>?_⟩
  refine ⟨t,us,[.least a b c],rfl,ht,hu',Nat.le_of_ble_eq_true rfl,fun l H2 s2 n2 e2=>?_⟩
  refine q l H2 (s1.trans s2) (s1.free n2) ?_
  rw [e2]
  simp [Nd.ns]
 | whl a b c ks x=>
  obtain ⟨t,u,p,r,xs,ys,rfl,ht,hu,hp,hx,hr',hy⟩:=yB hN
  have hk20:ks.length≤20:=hf
  refine ⟨_,rfl,t,_,_,_,rfl,rfl,SqT.of ht,rfl,?_⟩
  refine gQ ?_
  refine ⟨_,rfl,rfl,_,rfl,jL (fun d=>absurd (of_decide_eq_true d) (by decide)) (fun _=>?_)⟩
  refine ⟨_,rfl,rfl,_,rfl,jL (fun d=>absurd (of_decide_eq_true d) (by decide)) (fun _=>?_)⟩
  refine ⟨_,rfl,rfl,_,rfl,jL (fun d=>absurd (of_decide_eq_true d) (by decide)) (fun _=>?_)⟩
  refine ⟨_,rfl,rfl,_,rfl,jL (fun d=>absurd (of_decide_eq_true d) (by decide)) (fun _=>?_)⟩
  refine ⟨_,rfl,_,.whl a b c ks x,rfl,hN,trivial,hf,fun t us H1 s1 ht hu'=>?_⟩
  refine ⟨t,us,.least a b c :: ks,rfl,ht,hu',by rw [List.length_cons];omega,fun l H2 s2 n2 e2=>?_⟩
  exact q l H2 (s1.trans s2) (s1.free n2) e2
theorem jbo {f:Addr} {fd:FuncData} (F:Fun K "bodies_of" "bodies_of" zw f fd):FnOk P w K mg base CX0 1 f fd ["statement"] JY:=by
 have sc:FnScope ["statement"] ["statement"] (jm zw):=fQ
 refine F.okZ sc (fun vs H Q E h=>?_) (fun cdv A outer s H vs Q E hr h=>?_)
 ·obtain ⟨v,N,rfl,_⟩:=h
  rfl
 obtain ⟨v,N,rfl,hN,q⟩:=h
 refine ⟨_,(jd (jU (jx km (jw jF (zpv 0) jh (fun _ _=>rfl)) jy (jJ _)) (ji (jq (jQ qD (zpv 0) (jR jh) ki))) jE)
   (jd (jU (jx km (jw jF (zpv 0) jh (fun _ _=>rfl)) jy (jJ _)) (ji (jq (jQ qD (zpv 0) (jR jh) ki))) jE)
   (ji (jq (jY jb))))),?_⟩
 cases N with
 | leaf S=>
  obtain ⟨a,k,r,rfl,ha,h1,h2,_⟩:=Sm.head (S:=S) hN
  refine ⟨_,rfl,a,_,_,V.str k,rfl,rfl,SqT.of ha,yY (j:=0) rfl,rfl,_,rfl,jL (fun d=>absurd (of_decide_eq_true d) (fun z=>h1 (by injection z))) (fun _=>?_)⟩
  refine ⟨_,rfl,a,_,_,V.str k,rfl,rfl,SqT.of ha,yY (j:=0) rfl,rfl,_,rfl,jL (fun d=>absurd (of_decide_eq_true d) (fun z=>h2 (by injection z))) (fun _=>?_)⟩
  exact ⟨sm rfl,fun t ht=>q t [] _ (je ht _) ja jp⟩
 | ite a b c x y=>
  obtain ⟨t,u,p,r,xs,ys,rfl,ht,hu,hp,hx,hr',hy⟩:=yc hN
  refine ⟨_,rfl,t,_,_,_,rfl,rfl,SqT.of ht,rfl,rfl,_,rfl,jL (fun _=>?_) (fun d=>absurd (decide_eq_true rfl) d)⟩
  refine ⟨_,rfl,_,rfl,t,_,rfl,SqT.of ht,(fun h=>absurd h.1 (by show ¬ (HT.sIx 4 0 (some 2)=0);decide)),fun t' ht'=>?_⟩
  have s1:=je ht' (.tup (j8 [.str "if",u,.ref p,.ref r] (some 2) none))
  exact q t' [.ref p,.ref r] _ s1 ja (jj (qW (s1 _ _ hp) (hx.mono s1)) (jj (qW (s1 _ _ hr') (hy.mono s1)) jp))
 | whl a b c ks x=>
  obtain ⟨t,u,p,r,xs,ys,rfl,ht,hu,hp,hx,hr',hy⟩:=yB hN
  refine ⟨_,rfl,t,_,_,_,rfl,rfl,SqT.of ht,rfl,rfl,_,rfl,jL (fun d=>absurd (of_decide_eq_true d) (by decide)) (fun _=>?_)⟩
  refine ⟨_,rfl,t,_,_,_,rfl,rfl,SqT.of ht,rfl,rfl,_,rfl,jL (fun _=>?_) (fun d=>absurd (decide_eq_true rfl) d)⟩
  refine ⟨_,rfl,_,rfl,t,_,rfl,SqT.of ht,(fun h=>absurd h.1 (by show ¬ (HT.sIx 4 0 (some 3)=0);decide)),fun t' ht'=>?_⟩
  have s1:=je ht' (.tup (j8 [.str "while",u,.ref p,.ref r] (some 3) none))
  exact q t' [.ref r] _ s1 ja (jj (qW (s1 _ _ hr') (hy.mono s1)) jp)
end
theorem jK {H:Hp}:∀ {ds ds':List D} {vs vs':List V},HeldL H ds vs→HeldL H ds' vs'→HeldL H (ds++ds') (vs++vs')
 | [],_,_,_,h,h'=>by cases jz h;exact h'
 | _ :: _,_,_,_,h,h'=>by
  obtain ⟨v,r,rfl,h1,h2⟩:=jf h
  exact jj h1 (jK h2 h')
section
variable {P:Program} {w:World} {K:W.Frag} {mg:Str→Option Value} {base:Heap}
theorem jed {f:Addr} {fd:FuncData} (F:Fun K "all_statements" "all_statements" ke f fd):FnOk P w K mg base CX0 2 f fd ["body"] (Y7 0):=by
 have sc:FnScope ["body","told","statement","inner"] ["body"] (jm ke):=fQ
 refine F.okZ sc (fun vs H Q E h=>?_) (fun cdv A outer s H vs Q E hr h=>?_)
 ·obtain ⟨a,us,Ss,rfl,_⟩:=h
  rfl
 obtain ⟨a,us,Ss,rfl,ha,hSs,hlen,q⟩:=h
 cases jfY (l:=Ss)
 cases jz hSs
 refine ⟨_,(jd (jt (i:=1) sc.nd rfl oQ (jN jb))
   (jd (kr PassesOwn.never rfl (qq (zpv 0)) (jn (i:=2) sc.nd rfl oQ) (jd (j6 (qC PySem.F.plainAttrs_list PySem.F.slot_list_append PySem.F.type_list_append kO (zpv 1) (jc (zpv 2) jb)))
   (ji (kr PassesOwn.never rfl (qq zY) (jn (i:=3) sc.nd rfl oQ) (ji (j6 (qC PySem.F.plainAttrs_list PySem.F.slot_list_extend PySem.F.type_list_extend zj (zpv 1) (jc zY jb))))))))
   (ji (jq (zpv 1))))),?_⟩
 refine jO (σ':=[some (.ref a),none,none,none]) rfl ?_
 refine ⟨sm rfl,fun l hl=>?_⟩
 have s1:=je hl (.lst [])
 have e1:upd H l (.lst []) l=some (.lst []):=ja
 generalize upd H l (.lst [])=H1 at *
 refine gQ ?_
 refine ⟨_,rfl,a,rfl,⟨_,SqT.of (s1 _ _ ha)⟩,?_⟩
 refine yO (xs:=[]) (fun i σ G=>∃ u2 u3,σ=[some (.ref a),some (.ref l),u2,u3]∧G=H1) ⟨none,none,rfl,rfl⟩ ?_ ?_ ?_
 ·rintro i σ G _ ⟨u2,u3,rfl,rfl⟩
  exact SqT.of (s1 _ _ ha)
 ·rintro i x σ G hx _
  simp at hx
 rintro σ G ⟨u2,u3,rfl,rfl⟩
 exact ⟨_,rfl,q l [] G s1 hl e1 jp⟩
theorem jft {n:Nat} {f:Addr} {fd:FuncData} (F:Fun K "all_statements" "all_statements" ke f fd) (F_bodies_of:Fn P w K mg base 1 "bodies_of" ["statement"] JY) (F_all_statements:Fn P w K mg base (n+2) "all_statements" ["body"] (Y7 n)):FnOk P w K mg base CX0 (n+2+1) f fd ["body"] (Y7 (n+1)):=by
 have sc:FnScope ["body","told","statement","inner"] ["body"] (jm ke):=fQ
 refine F.okZ sc (fun vs H Q E h=>?_) (fun cdv A outer s H vs Q E hr h=>?_)
 ·obtain ⟨a,us,Ss,rfl,_⟩:=h
  rfl
 obtain ⟨a,us,Ss,rfl,ha,hSs,hlen,q⟩:=h
 refine ⟨_,(jd (jt (i:=1) sc.nd rfl oQ (jN jb))
   (jd (kr PassesOwn.never rfl (qq (zpv 0)) (jn (i:=2) sc.nd rfl oQ) (jd (j6 (qC PySem.F.plainAttrs_list PySem.F.slot_list_append PySem.F.type_list_append kO (zpv 1) (jc (zpv 2) jb)))
   (ji (kr PassesOwn.never rfl (qq (jP F_bodies_of hr (jc (zpv 2) jb) (by omega))) (jn (i:=3) sc.nd rfl oQ) (ji (j6 (qC PySem.F.plainAttrs_list PySem.F.slot_list_extend PySem.F.type_list_extend zj (zpv 1) (jc (jP F_all_statements hr (jc (zpv 3) jb) (by omega)) jb))))))))
   (ji (jq (zpv 1))))),?_⟩
 refine jO (σ':=[some (.ref a),none,none,none]) rfl ?_
 refine ⟨sm rfl,fun l hl=>?_⟩
 have s1:=je hl (.lst [])
 have e1:upd H l (.lst []) l=some (.lst []):=ja
 generalize upd H l (.lst [])=H1 at *
 refine gQ ?_
 have hul:=hSs.length
 rw [List.length_map] at hul
 refine ⟨_,rfl,a,rfl,⟨_,SqT.of (s1 _ _ ha)⟩,?_⟩
 have tot:∀ i,(jT (n+1) (Ss.take i)).length≤100:=fun i=>Nat.le_trans (qQ _ Ss i) hlen
 refine yO (xs:=us) (fun i σ G=>∃ u2 u3 ws,σ=[some (.ref a),some (.ref l),u2,u3]∧Same H G∧G l=some (.lst ws)∧HeldL G ((jT (n+1) (Ss.take i)).map Nd.toD) ws) ⟨none,none,[],rfl,s1,e1,by rw [List.take_zero];exact jp⟩ ?_ ?_ ?_
 ·rintro i σ G _ ⟨u2,u3,ws,rfl,sG,_⟩
  exact SqT.of (sG _ _ ha)
 ·rintro i x σ G hx ⟨u2,u3,ws,rfl,sG,hG,hws⟩
  have hi:i < Ss.length:=by have:=(List.getElem?_eq_some_iff.mp hx).1;omega
  obtain ⟨x',hx',hxH⟩:=hSs.get (show (Ss.map (stD (n+1)))[i]?=some (za Ss[i]).toD by rw [List.getElem?_map,List.getElem?_eq_getElem hi];rfl)
  rw [hx] at hx'
  cases hx'
  have lws:=hws.length
  rw [List.length_map] at lws
  have hnx:=tot (i+1)
  rw [Yf hi,List.length_append,List.length_cons] at hnx
  refine gQ ?_
  refine ⟨_,rfl,.inl ⟨rfl,_,SqL.of hG⟩,_,rfl,l,_,x,rfl,rfl,hG,jA (by omega),?_⟩
  have tkU:TK G (upd G l (.lst (ws++[x]))):=TK.upd hG (fun _ z=>by cases z)
  have s2:Same H (upd G l (.lst (ws++[x]))):=fun b o e=>by rw [jl (jk e hl)];exact sG _ _ e
  have e2:upd G l (.lst (ws++[x])) l=some (.lst (ws++[x])):=ja
  have hws2:=jK (tkU.heldL hws) (jj (hxH.mono s2) jp)
  generalize upd G l (.lst (ws++[x]))=G2 at *
  refine ⟨_,rfl,x,za Ss[i],rfl,hxH.mono s2,fun t bs G3 s3 ht hbs=>?_⟩
  refine ⟨t,rfl,⟨_,SqT.of ht⟩,?_⟩
  rw [jbb,List.map_map] at hbs
  have lbs:=hbs.length
  rw [List.length_map] at lbs
  have s23:=s2.trans s3
  refine yO (xs:=bs) (fun j σ G'=>∃ u2 u3 ws',σ=[some (.ref a),some (.ref l),u2,u3]∧Same H G'∧TK G3 G'∧G' l=some (.lst ws')∧HeldL G' ((jT (n+1) (Ss.take i)).map Nd.toD++((za Ss[i]).toD :: ((((kf Ss[i]).take j).flatMap (jT n)).map Nd.toD))) ws') ⟨_,_,_,rfl,s23,(fun _ _ e=>e),s3 _ _ e2,by rw [List.take_zero];exact hws2.mono s3⟩ ?_ ?_ ?_
  ·rintro j σ G' _ ⟨_,_,ws',rfl,sG',tkG',_⟩
   exact SqT.of (tkG' _ _ ht)
  ·rintro j y σ G' hy ⟨u2',u3',ws',rfl,sG',tkG',hG',hw'⟩
   have hj:j < (kf Ss[i]).length:=by have:=(List.getElem?_eq_some_iff.mp hy).1;omega
   obtain ⟨y',hy',hyH⟩:=hbs.get (show ((kf Ss[i]).map (D.tup ∘ fun x=>x.map (stD n)))[j]?=some (D.tup ((kf Ss[i])[j].map (stD n))) by rw [List.getElem?_map,List.getElem?_eq_getElem hj];rfl)
   rw [hy] at hy'
   cases hy'
   obtain ⟨b,ys,rfl,hb,hys⟩:=jo hyH
   have etj:(kf Ss[i]).take (j+1)=(kf Ss[i]).take j++[(kf Ss[i])[j]]:=by rw [List.take_succ,List.getElem?_eq_getElem hj];rfl
   have hle:=qQ (jT n) (kf Ss[i]) (j+1)
   have elj:(((kf Ss[i]).take (j+1)).flatMap (jT n)).length=(((kf Ss[i]).take j).flatMap (jT n)).length+(jT n (kf Ss[i])[j]).length:=by rw [etj,List.flatMap_append,List.length_append];simp
   have lw':=hw'.length
   rw [List.length_append,List.length_map,List.length_cons,List.length_map] at lw'
   refine gQ ?_
   refine ⟨_,rfl,.inl ⟨rfl,_,SqL.of hG'⟩,_,rfl,b,ys,(kf Ss[i])[j],rfl,tkG' _ _ hb,tkG'.heldL hys,by omega,fun l3 ws3 G4 s4 n4 e4 hw3=>?_⟩
   have lw3:=hw3.length
   rw [List.length_map] at lw3
   have hl4:=s4 _ _ hG'
   refine ⟨l,l3,_,_,rfl,rfl,hl4,e4,Nat.le_trans (by omega) (j4 (Nat.le_refl 1000)),?_⟩
   have tk5:TK G4 (upd G4 l (.lst (ws'++ws3))):=TK.upd hl4 (fun _ z=>by cases z)
   refine ⟨_,_,_,rfl,fun b o e=>by rw [jl (jk e hl)];exact s4 _ _ (sG' _ _ e),fun b o e=>tk5 _ _ (s4 _ _ (tkG' _ _ e)),ja,?_⟩
   rw [show ((jT (n+1) (Ss.take i)).map Nd.toD++((za Ss[i]).toD :: ((((kf Ss[i]).take (j+1)).flatMap (jT n)).map Nd.toD)))=((jT (n+1) (Ss.take i)).map Nd.toD++((za Ss[i]).toD :: ((((kf Ss[i]).take j).flatMap (jT n)).map Nd.toD)))++(jT n (kf Ss[i])[j]).map Nd.toD by rw [etj,List.flatMap_append,List.map_append];simp]
   exact tk5.heldL (jK (hw'.mono s4) hw3)
  ·rintro σ G' ⟨u2',u3',ws',rfl,sG',tkG',hG',hw'⟩
   rw [← lbs,List.take_length] at hw'
   exact ⟨u2',u3',ws',rfl,sG',hG',by rw [Yf hi,List.map_append,List.map_cons];exact hw'⟩
 rintro σ G ⟨u2,u3,ws,rfl,sG,hG,hws⟩
 rw [← hul,List.take_length] at hws
 exact ⟨_,rfl,q l ws G sG hl hG hws⟩
theorem Ye {f1:Addr} {fd1:FuncData} (U1:Fun K "all_statements" "all_statements" ke f1 fd1) (b1:Binds K fd1 ["body"] []) (m1:mg "all_statements" = some (.ref f1)) (F_bodies_of:Fn P w K mg base 1 "bodies_of" ["statement"] JY):∀ n,Fn P w K mg base (n+2) "all_statements" ["body"] (Y7 n)
 | 0=>Fn.mk' U1 b1 m1 (jed U1)
 | n+1=>Fn.mk' U1 b1 m1 (jft U1 F_bodies_of (Ye U1 b1 m1 F_bodies_of n))
end
end LW
namespace L2
open PySem PySem.Spec PyProof.Rows
structure Fly (h0:Heap) (H:Hp) (cls:Value) (e:Addr) (h:Heap):Prop where
 he:H e=none
 ne:h0.get? e=none
 tr:∃ oe vs T oT ts a0,h.get? e=some oe∧oe.cls=cls∧oe.data=.fields vs∧vs[0]?=some a0∧vs[1]?=some (.ref T)∧T≠e∧h.get? T=some oT∧oT.data=.fields ts∧ts[3]?=some .none∧H T=none∧h0.get? T=none
structure Left (fs:List Addr) (h0:Heap) (H:Hp) (h h':Heap):Prop where
 keep:∀ b o,h.get? b=some o→b ∉ fs→(H b≠none∨∃ u,h0.get? b=some u)→h'.get? b=some o
 slot:∀ b o,h.get? b=some o→b∈fs→∃ sl,h'.get? b=some { cls:=o.cls,dict:=o.dict,data:=o.data,slots:=sl }
theorem Jn {h base:Heap}:∀ {l:List Env},h.FunFrames base l→∀ b∈frs l,∃ o,h.get? b=some o∧∀ vs:Array Value,o.data≠.fields vs
 | [],_,b,hb=>by cases hb
 | env :: l,hf,b,hb=>by
  obtain ⟨_,⟨L,o,e1,_,e3,e4⟩,hr⟩:=hf
  unfold frs at hb
  rw [List.filterMap_cons,e1] at hb
  rcases List.mem_cons.mp hb with rfl | hb
  ·exact ⟨o,e3,e4⟩
  ·exact Jn hr b hb
theorem kI {h base B:Heap}:∀ {l:List Env},h.FunFrames base l→(∀ b∈frs l,B.get? b=none)→h.FunFrames B l
 | [],_,_=>trivial
 | env :: l,hf,hB=>by
  obtain ⟨k,⟨L,o,e1,_,e3,e4⟩,hr⟩:=hf
  have hm:L∈frs (env :: l):=by unfold frs;rw [List.filterMap_cons,e1];exact List.mem_cons_self
  refine ⟨k,⟨L,o,e1,hB L hm,e3,e4⟩,kI hr fun b hb=>hB b ?_⟩
  unfold frs at hb ⊢
  rw [List.filterMap_cons,e1]
  exact List.mem_cons_of_mem _ hb
section
variable {M:Model} {A:Around} {E:Value→Shared→Prop} {s:Shared} {base h0:Heap} {env:Env} {outer:List Env} {L e:Addr} {cls:Value} {H:Hp} {Q:Unit→Shared→Prop}
theorem YJ {B h':Heap} {l:List Env} {hs:List Addr} {a0:Value} (he:H e=none) (ne:h0.get? e=none) (hB:B=W.hideAll s.heap hs) (hl:∀ b∈hs,H b=none∧(b∈frs l∨h0.get? b=none)) (hfr:h'.FunFrames base l) (hH:∀ b,s.heap.get? b=none→H b=none∧h0.get? b=none) (tw:h'.TracedW B e cls a0):Fly h0 H cls e h':=by
 obtain ⟨oe,vs,T,oT,ts,t1,⟨t2,t3⟩,t4,t5,t6,t7,t8,t9,t10⟩:=tw
 have hT:H T=none∧h0.get? T=none:=by
  rcases hs':s.heap.get? T with _ | o
  ·exact hH T hs'
  ·by_cases hm:T∈hs
   ·refine ⟨(hl T hm).1,?_⟩
    rcases (hl T hm).2 with hf | hf
    ·obtain ⟨o',e1,e2⟩:=Jn hfr T hf
     rw [t8] at e1
     cases e1
     exact absurd t9 (e2 ts)
    ·exact hf
   ·rw [hB,W.hideAll_get hs hs' hm] at t6
    cases t6
 exact ⟨he,ne,oe,vs,T,oT,ts,a0,t1,t2,t4,t3,t5,t7,t8,t9,t10,hT.1,hT.2⟩
theorem JL {B h':Heap} {l:List Env} {hs:List Addr} (hB:B=W.hideAll s.heap hs) (hl:∀ b∈hs,b ∉ frs l→H b=none∧h0.get? b=none) (st:B.StaysIn h') (hfr:s.heap.FunFrames base l)
  (ks:∀ b o,s.heap.get? b=some o→(∀ vs:Array Value,o.data≠.fields vs)→∃ sl,h'.get? b=some { cls:=o.cls,dict:=o.dict,data:=o.data,slots:=sl }):Left (frs l) h0 H s.heap h':=by
 refine ⟨fun b o hb hf ho=>?_,fun b o hb hf=>?_⟩
 ·by_cases hm:b∈hs
  ·obtain ⟨h1,h2⟩:=hl b hm hf
   rcases ho with ho | ⟨u,hu⟩
   ·exact absurd h1 ho
   ·rw [h2] at hu;cases hu
  ·exact st b o (by rw [hB];exact W.hideAll_get hs hb hm)
 ·obtain ⟨o',e1,e2⟩:=Jn hfr b hf
  rw [hb] at e1
  cases e1
  exact ks b o hb e2
theorem Z5 (hA:A.frames=some (env :: outer)) (hfr:s.heap.FunFrames base (env :: outer)) (hL:env.frame=some L) (hF:Fly h0 H cls e s.heap) (hff:∀ b∈frs (env :: outer),H b=none) (hH:∀ b,s.heap.get? b=none→H b=none∧h0.get? b=none)
  (hQ:∀ h',Left (frs (env :: outer)) h0 H s.heap h'→Fly h0 H cls e h'→h'.FunFrames base (env :: outer)→Q () { s with heap:=h' }) (hbs:∀ b o,base.get? b=some o→b ∉ frs (env :: outer)∧∃ u,h0.get? b=some u):wpAny M A (leaving env (.ref e)) Q E s:=by
 obtain ⟨oe,vs,T,oT,ts,a0,t1,t2,t3,t4,t5,t6,t7,t8,t9,t10,t11⟩:=hF.tr
 have hB0:∀ b∈e :: T :: frs (env :: outer),(W.hideAll s.heap (e :: T :: frs (env :: outer))).get? b=none:=fun b hb=>W.hideAll_none _ hb
 refine wpAny_leaving_nextW (base:=W.hideAll s.heap (e :: T :: frs (env :: outer))) (cls:=cls) (a0:=a0) hA (kI hfr fun b hb=>hB0 b (List.mem_cons_of_mem _ (List.mem_cons_of_mem _ hb))) hL ⟨oe,vs,T,oT,ts,t1,⟨t2,t4⟩,t3,t5,hB0 T (List.mem_cons_of_mem _ List.mem_cons_self),t6,t7,t8,t9⟩ (fun b o hb=>W.of_hideAll _ hb) (hB0 e List.mem_cons_self) ?_
 rintro h' ⟨l1,l2,l3,l4⟩
 have hfr':h'.FunFrames base (env :: outer):=kI l2 fun b hb=>by
  rcases hh:base.get? b with _ | o
  ·rfl
  ·exact absurd hb (hbs b o hh).1
 refine hQ h' (JL rfl (fun b hb hf=>?_) l1 hfr l4) (YJ (s:=s) (l:=env :: outer) hF.he hF.ne rfl (fun b hb=>?_) hfr' hH l3) hfr'
 ·rcases List.mem_cons.mp hb with rfl | hb
  ·exact ⟨hF.he,hF.ne⟩
  ·rcases List.mem_cons.mp hb with rfl | hb
   ·exact ⟨t10,t11⟩
   ·exact absurd hb hf
 ·rcases List.mem_cons.mp hb with rfl | hb
  ·exact ⟨hF.he,.inr hF.ne⟩
  ·rcases List.mem_cons.mp hb with rfl | hb
   ·exact ⟨t10,.inr t11⟩
   ·exact ⟨hff b hb,.inl hb⟩
theorem Zm {oe:Obj} {vs:Array Value} {a0:Value} (hA:A.frames=some (env :: outer)) (hfr:s.heap.FunFrames base (env :: outer)) (hL:env.frame=some L) (he:H e=none) (ne:h0.get? e=none) (ho:s.heap.get? e=some oe) (hc:oe.cls=cls) (hd:oe.data=.fields vs) (h1:vs[1]?=some .none) (ha:vs[0]?=some a0) (hff:∀ b∈frs (env :: outer),H b=none) (hH:∀ b,s.heap.get? b=none→H b=none∧h0.get? b=none)
  (hQ:∀ h',Left (frs (env :: outer)) h0 H s.heap h'→Fly h0 H cls e h'→h'.FunFrames base (env :: outer)→Q () { s with heap:=h' }) (hbs:∀ b o,base.get? b=some o→b ∉ frs (env :: outer)∧∃ u,h0.get? b=some u):wpAny M A (leaving env (.ref e)) Q E s:=by
 subst hc
 have hB0:∀ b∈e :: frs (env :: outer),(W.hideAll s.heap (e :: frs (env :: outer))).get? b=none:=fun b hb=>W.hideAll_none _ hb
 refine wpAny_leaving_firstW (base:=W.hideAll s.heap (e :: frs (env :: outer))) hA (kI hfr fun b hb=>hB0 b (List.mem_cons_of_mem _ hb)) hL ho (fun b o hb=>W.of_hideAll _ hb) (hB0 e List.mem_cons_self) hd h1 ha ?_
 rintro h' ⟨l1,l2,l3,l4⟩
 have hfr':h'.FunFrames base (env :: outer):=kI l2 fun b hb=>by
  rcases hh:base.get? b with _ | o
  ·rfl
  ·exact absurd hb (hbs b o hh).1
 refine hQ h' (JL rfl (fun b hb hf=>?_) l1 hfr l4) (YJ (s:=s) (l:=env :: outer) he ne rfl (fun b hb=>?_) hfr' hH l3) hfr'
 ·rcases List.mem_cons.mp hb with rfl | hb
  ·exact ⟨he,ne⟩
  ·exact absurd hb hf
 ·rcases List.mem_cons.mp hb with rfl | hb
  ·exact ⟨he,.inr ne⟩
  ·exact ⟨hff b hb,.inl hb⟩
end
theorem ObjOk.ex {P:Program} {w:World} {H:Hp} {h:Heap} {a:Addr} {o:HO} (x:ObjOk P w H h a o):∃ u,h.get? a=some u:=by
 cases o with
 | lst xs=>obtain ⟨_,_,_,_,e⟩:=x;exact ⟨_,e⟩
 | tup xs=>obtain ⟨_,_,_,⟨u,e,_⟩⟩:=x;exact ⟨_,e⟩
 | dK kvs=>obtain ⟨_,_,_,_,o,_,_,e,_⟩:=x;exact ⟨_,e⟩
 | dT kvs=>obtain ⟨_,_,_,_,o,_,_,e,_⟩:=x;exact ⟨_,e⟩
 | set S n=>obtain ⟨o,_,_,_,e,_⟩:=x;exact ⟨_,e⟩
 | ins C dx fs=>obtain ⟨_,_,_,e,_⟩:=x;exact ⟨_,e⟩
 | own y=>exact x
 | xd fs=>obtain ⟨_,⟨_,_,_,e,_⟩,_⟩:=x;exact ⟨_,e⟩
 | rng lo hi=>obtain ⟨_,_,_,e⟩:=x;exact ⟨_,e⟩
 | frz o u=>exact ⟨_,x.1⟩
 | tbl ps=>exact ⟨_,x⟩
 | met f y=>exact ⟨_,x⟩
 | ext φ=>exact x.2.1
def CX1 (P:Program) (w:World):CXT:=fun outer H s E e s'=>∃ ea cls H',e=.ref ea∧s'.os=s.os∧AllBare s'.gens∧Un (frs outer) [] H H' s.heap s'.heap∧HOk P w H' s'.heap∧Fly s.heap H' cls ea s'.heap∧E cls none H'
section
variable {X:Cx} {pins:List (Addr×Obj)} {σ:St} {H:Hp} {s:Shared} {cls:Value} {e:Addr}
structure XW (X:Cx) (E:XK):Prop where
 env:X.stack=X.env :: X.outer
 fr:X.env.frame=some X.env.locals
 ex:X.ex=[]
 xe:X.xe=fun e s'=>wpAny (model X.prog X.w) X.A (leaving X.env e) (fun _ s''=>CX1 X.prog X.w X.outer X.H₀ X.s₀ E e s'') (fun e' s''=>CX1 X.prog X.w X.outer X.H₀ X.s₀ E e' s'') s'
theorem XW.left {E:XK} (W:XW X E) (I:Inv X pins σ H s) {h':Heap} (l:Left (frs (X.env :: X.outer)) X.s₀.heap H s.heap h') (f:Fly X.s₀.heap H cls e h') (hE:E cls none H):CX1 X.prog X.w X.outer X.H₀ X.s₀ E (.ref e) { s with heap:=h' }:=by
 have hb:=I.base
 rw [W.ex] at hb
 have nL:∀ b o,X.s₀.heap.get? b=some o→b ∉ frs X.outer→b ∉ frs (X.env :: X.outer):=fun b o e hn hm=>by
  unfold frs at hm
  rw [List.filterMap_cons,W.fr] at hm
  rcases List.mem_cons.mp hm with rfl | hm
  ·exact absurd (Heap.lt_size e) (Nat.not_lt.mpr I.ok.above)
  ·exact hn hm
 have inO:∀ b,b∈frs X.outer→b∈frs (X.env :: X.outer):=fun b hm=>by
  unfold frs at hm ⊢
  rw [List.filterMap_cons,W.fr]
  exact List.mem_cons_of_mem _ hm
 have stk:=I.stkFree
 rw [W.env] at stk
 refine ⟨e,cls,H,rfl,I.os,I.bare,⟨fun b o h1 h2 h3 h4=>?_,fun b o h1 h2 h3 h4=>?_,fun b o h1 h2 h3=>hb.free b o h1 h2 h3,fun b o h1 h2=>?_,hb.tups,hb.frzs,hb.tbls⟩,fun a o ho=>?_,f,hE⟩
 ·exact l.keep b o (hb.keep b o h1 h2 h3 h4) (nL b o h1 h3) (.inr ⟨o,h1⟩)
 ·obtain ⟨sl,h5⟩:=hb.slot b o h1 h2 h3 h4
  obtain ⟨sl',h6⟩:=l.slot b _ h5 (inO b h3)
  exact ⟨sl',h6⟩
 ·obtain ⟨o',h5⟩:=hb.there b o h1 h2
  by_cases hm:b∈frs (X.env :: X.outer)
  ·obtain ⟨sl',h6⟩:=l.slot b _ h5 hm
   exact ⟨_,h6⟩
  ·exact ⟨o',l.keep b o' h5 hm (.inr ⟨o,h1⟩)⟩
 ·refine (I.hok a o ho).stay (fun b u hbu q=>?_) (fun _ q=>q) fun _ _ q=>q
  have hne:H b≠none:=by
   rcases hbu with rfl | hbu
   ·rw [ho];simp
   ·rw [hbu];simp
  exact l.keep b u q (fun hm=>hne (stk b hm)) (.inl hne)
theorem XW.hH {E:XK} (W:XW X E) (I:Inv X pins σ H s):∀ b,s.heap.get? b=none→H b=none∧X.s₀.heap.get? b=none:=fun b hb=>by
 refine ⟨?_,?_⟩
 ·rcases hh:H b with _ | o
  ·rfl
  ·obtain ⟨u,hu⟩:=(I.hok b o hh).ex
   rw [hu] at hb;cases hb
 ·rcases hh:X.s₀.heap.get? b with _ | o
  ·rfl
  ·have hbase:=I.base
   rw [W.ex] at hbase
   obtain ⟨o',h5⟩:=hbase.there b o hh (by simp)
   rw [h5] at hb;cases hb
theorem XW.hbs {E:XK} (W:XW X E) (I:Inv X pins σ H s):∀ b o,X.base.get? b=some o→b ∉ frs (X.env :: X.outer)∧∃ u,X.s₀.heap.get? b=some u:=fun b o hb=>by
 refine ⟨fun hm=>?_,⟨o,(I.ok.bs b o hb).1⟩⟩
 have hs:=I.stack
 rw [W.env] at hs
 have:∀ {l:List Env},s.heap.FunFrames X.base l→b∈frs l→False:=by
  intro l
  induction l with
  | nil=>intro _ h;cases h
  | cons env l ih=>
   intro hf hm
   obtain ⟨_,⟨L,o',e1,e2,_,_⟩,hr⟩:=hf
   unfold frs at hm
   rw [List.filterMap_cons,e1] at hm
   rcases List.mem_cons.mp hm with rfl | hm
   ·rw [e2] at hb;cases hb
   ·exact ih hr hm
 exact this hs hm
theorem XW.next {E:XK} (W:XW X E) (I:Inv X pins σ H s) (F:Fly X.s₀.heap H cls e s.heap) (hE:E cls none H):X.xe (.ref e) s:=by
 have stk:=I.stkFree
 have hs:=I.stack
 have hf:=I.ok.frames
 rw [W.env] at stk hs hf
 rw [W.xe]
 exact Z5 hf hs W.fr F stk (W.hH I) (fun h' l f _=>W.left I l f hE) (W.hbs I)
theorem XW.first {E:XK} (W:XW X E) (I:Inv X pins σ H s) {oe:Obj} {vs:Array Value} {a0:Value} (he:H e=none) (ne:X.s₀.heap.get? e=none) (ho:s.heap.get? e=some oe) (hc:oe.cls=cls) (hd:oe.data=.fields vs) (h1:vs[1]?=some .none) (ha:vs[0]?=some a0) (hE:E cls none H):X.xe (.ref e) s:=by
 have stk:=I.stkFree
 have hs:=I.stack
 have hf:=I.ok.frames
 rw [W.env] at stk hs hf
 rw [W.xe]
 exact Zm hf hs W.fr he ne ho hc hd h1 ha stk (W.hH I) (fun h' l f _=>W.left I l f hE) (W.hbs I)
theorem Inv.raised {E:XK} {s':Shared} {ev:Value} (I:Inv X pins σ H s) (h:CX1 X.prog X.w X.stack H s E ev s'):∃ ea cls H',ev=.ref ea∧Inv X pins σ H' s'∧Fly s.heap H' cls ea s'.heap∧E cls none H':=by
 obtain ⟨ea,cls,H',rfl,os,bare,un,hok,fly,hE⟩:=h
 obtain ⟨hh,g,d,t,os'⟩:=s'
 obtain rfl:os'=s.os:=os
 exact ⟨ea,cls,H',rfl,I.call (h':=hh) (g':=g) (d':=d) (t':=t) (ch:=[]) un hok bare (fun b z=>absurd z (by simp)),fly,hE⟩
theorem Fly.back {E:XK} {s':Shared} (W:XW X E) (I:Inv X pins σ H s) {H':Hp} (F:Fly s.heap H' cls e s'.heap):Fly X.s₀.heap H' cls e s'.heap:=by
 obtain ⟨oe,vs,T,oT,ts,a0,t1,t2,t3,t4,t5,t6,t7,t8,t9,t10,t11⟩:=F.tr
 exact ⟨F.he,(W.hH I e F.ne).2,oe,vs,T,oT,ts,a0,t1,t2,t3,t4,t5,t6,t7,t8,t9,t10,(W.hH I T t11).2⟩
theorem XW.passes {E:XK} (W:XW X E):Jt (CX1 X.prog X.w) X E:=fun pins σ H s ev s' I h=>by
 obtain ⟨ea,cls,H',rfl,I',F,hE⟩:=I.raised h
 exact W.next I' (Fly.back W I F) hE
end
structure FnX (P:Program) (w:World) (K:W.Frag) (mg:Str→Option Value) (base:Heap) (k:Nat) (x:Str) (ps:List Str) (sp:Sp):Prop where
 ex:∃ f fd,FnOk P w K mg base (CX1 P w) k f fd ps sp∧Binds K fd ps []∧W.keepIn K (.ref f)=true∧mg x=some (.ref f)
theorem FnX.mk' {P:Program} {w:World} {K:W.Frag} {mg:Str→Option Value} {base:Heap} {k:Nat} {x:Str} {ps:List Str} {sp:Sp} {st:Stmt} {f:Addr} {fd:FuncData} (F:Fun K x x st f fd) (b:Binds K fd ps []) (m:mg x=some (.ref f)) (G:FnOk P w K mg base (CX1 P w) k f fd ps sp):FnX P w K mg base k x ps sp:=⟨f,fd,G,b,F.kp,m⟩
theorem jfm {X:Cx} {k k':Nat} {x:Str} {ps:List Str} {sp:Sp} {E:XK} {e:Expr} {es:List Expr} {t:TA} {p pos:Pos} (F:FnX X.prog X.w X.K X.mg X.base k x ps sp) (W:XW X E) (hr:Room k' X.A) (ha:PA X (e :: es) t) (hk:k≤k':=by decide) (hg:Gl X x:=by rfl)
  (hd:(x == ("__debug__" : Str))=false:=by decide) (hp:(e :: es).all j5=true:=by rfl):PE X (.Call (.Name x p) (e :: es) [] pos) (KH sp [] E t):=by
 obtain ⟨f,fd,G,b,kp,m⟩:=F.ex
 rw [List.all_cons,Bool.and_eq_true] at hp
 exact jaF G (hr.mono hk) hg m kp b .nil W.passes ha hd (kR hp.1 es X.env) (zb pos X.env es hp.2)
theorem Fun.okX {P:Program} {w:World} {K:W.Frag} {mg:Str→Option Value} {base:Heap} {x qual:Str} {st:Stmt} {f:Addr} {fd:FuncData} {N ps:List Str} {k:Nat} {sp:Sp} (F:Fun K x qual st f fd) (S:FnScope N ps (jm st)) (len:∀ vs H Q E,sp vs H Q E→vs.length=ps.length)
  (hbody:∀ (cdv:Value) (A:Around) (outer:List Env) (s:Shared) (H:Hp) (vs:List V) (Q:VK) (E:XK),Room k (A.deeper (envOfC qual (jm st) s.heap.objs.size f cdv))→XW (Kv (CX1 P w) P w K mg base N qual (jm st) f cdv A outer s H E) E→sp vs H Q E→
   ∃ t,QSs (Kv (CX1 P w) P w K mg base N qual (jm st) f cdv A outer s H E) (qH st) t∧t { nx:=fun _ H'=>Q .non H',rt:=Q } (zI N vs) H):FnOk P w K mg base (CX1 P w) (k+1) f fd ps sp:=by
 obtain ⟨oc,od,kV,doc,pm,an,cdv,ct,osl,rfl,lk,hcd⟩:=F.ex
 refine jda lk hcd S len fun A outer s H vs Q E hr hsp=>?_
 obtain ⟨t,h,q⟩:=hbody cdv A outer s H vs Q E hr ⟨rfl,rfl,rfl,rfl⟩ hsp
 exact ⟨t,h.h,q⟩
theorem yR {K:W.Frag} {h:Heap} {C:Addr} {bmB:List Value} {newId:String} (X:K.In h) (e:W.excIn K C bmB newId=true):∃ bm N nm q bs hdct sn sub ab col dd k0 k1 k2 k3 k5 mN,
  h.get? C=some (excClassObj nm q C N bs bm hdct sn sub ab col dd k0 k1 k2 k3 k5 newId)∧h.Ns N mN∧mN (Str.ofString "__init__")=none∧OwnTail h bmB bm:=by
 unfold W.excIn at e
 split at e
 ·rename_i dct cd sl hl
  split at e
  ·rename_i C' bm a0 a1 a2 a3 n a5 hm hs
   simp only [Bool.and_eq_true,beq_iff_eq,Bool.not_eq_true'] at e
   obtain ⟨⟨⟨⟨⟨e1,e2⟩,e3⟩,e4⟩,e5⟩,e6⟩:=e
   subst e1 e2
   have hs':sl=#[a0,a1,a2,a3,some (.builtin n),a5]:=by
    apply Array.toList_inj.mp
    rw [hs]
   obtain ⟨c1,c2,c3,c4,c5,c6,c7,c8,c9,c10,c11⟩:=cd
   dsimp only at hm e3 e4 e5 e6
   subst hm hs' e3
   exact ⟨bm,c4,_,_,_,_,_,_,_,_,_,_,_,_,_,_,h.nsMap c4,X _ _ hl,Heap.Ns.of_isNs (W.isNs_of_in X e5),W.nsMap_none_of_in X e5 e6,W.tail_of_in X e4⟩
  ·cases e
 ·cases e
theorem Kr {h h':Heap} {bmB:List Value} (k:∀ b o,h.get? b=some o→h'.get? b=some o):∀ {l:List Value},OwnTail h bmB l→OwnTail h' bmB l:=by
 intro l t
 induction t with
 | base=>exact .base
 | own h1 h2 h3 _ ih=>exact .own (k _ _ h1) (h2.keeps k) h3 ih
def valB:List Value:=[.type "ValueError",.type "Exception",.type "BaseException",.type "object"]
def jb5 (C:Addr) (E:XK) (t:TA):TS:=fun _ σ H=>t σ H fun vs H1=>vs.length≤1000∧E (.ref C) none H1
theorem jcp {X:Cx} {E:XK} {C:Addr} {x:Str} {np cpos pos:Pos} {e:Expr} {es:List Expr} {t:TA} (W:XW X E) (hc:X.calm=true) (hg:Gl X x) (hm:X.mg x=some (.ref C)) (hx:PySem.W.excIn X.K C valB "ValueError.__new__" = true) (ha:PA X (e :: es) t) (hd:(x == ("__debug__" : Str))=false:=by decide) (hp:(e :: es).all j5=true:=by rfl) :
  PS X (.Raise (some (.Call (.Name x np) (e :: es) [] cpos)) none pos) (jb5 C E t):=by
 intro pins s σ H D I h
 rw [List.all_cons,Bool.and_eq_true] at hp
 have he:=kR hp.1 es X.env
 have hpl:=zb cpos X.env es hp.2
 obtain ⟨bm,N,nm,q,bs,hdct,sn,sub,ab,col,dd,k0,k1,k2,k3,k5,mN,o1,o2,o3,o4⟩:=yR I.mod.kin hx
 have hbm:bm.contains (.type "BaseException")=true:=OwnTail.hasType o4 PySem.F.excBase_ValueError.hasBase
 refine wpAny_Raise_call_subU (nm:=nm) (q:=q) (C:=C) (N:=N) (bs:=bs) (bm:=bm) (bmB:=valB) (hdct:=hdct) (sn:=sn) (sub:=sub) (ab:=ab) (col:=col) (dd:=dd) (k0:=k0) (k1:=k1) (k2:=k2) (k3:=k3) (k5:=k5) (mN:=mN) PySem.F.excBase_ValueError (show valB.contains (.type "ValueError")=true from PySem.F.excBase_ValueError.hasB) PySem.F.excBase_ValueError hbm (I.ok.hd hc) ?_ o3 (yb I hg hm ⟨rfl,?_⟩ hd)
 ·rw [he];exact hpl
 ·have ha':=ha cpos pins s σ H _ I h
  rw [he] at ha' ⊢
  refine Calls.evalArgs_plain (thn ha' fun us s2 ⟨vs,H2,I2,r,hlen,hE⟩=>?_)
  refine ⟨rfl,?_,I2.bk _ _ o1,o2.keeps I2.bk,Kr I2.bk o4,fun h' ea me=>?_⟩
  ·show us.length≤sizeLine
   rw [← r.length]
   exact Nat.le_of_lt (jA hlen)
  ·obtain ⟨tt,m1,m2,m3⟩:=me.there
   obtain ⟨n1,n2⟩:=W.hH I2 ea me.new
   have I3:Inv X pins σ H2 { s2 with heap:=h' }:=I2.kept (t':=s2.toks) me.keeps
   exact W.first I3 (cls:=.ref C) n1 n2 m1 rfl rfl rfl rfl hE
section
variable {M:Model} {A:Around} {E:Value→Shared→Prop} {s:Shared} {base h0:Heap} {env:Env} {outer:List Env} {L e:Addr} {cls:Value} {H:Hp} {Q:Unit→Shared→Prop}
theorem jbv (hA:A.frames=some (env :: outer)) (hfr:s.heap.FunFrames base (env :: outer)) (hL:env.frame=some L) (hF:Fly h0 H cls e s.heap) (hff:∀ b∈frs (env :: outer),H b=none) (hH:∀ b,s.heap.get? b=none→H b=none∧h0.get? b=none)
  (hQ:∀ h',Left (frs (env :: outer)) h0 H s.heap h'→Fly h0 H cls e h'→h'.FunFrames base (env :: outer)→Q () { s with heap:=h' }) (hbs:∀ b o,base.get? b=some o→b ∉ frs (env :: outer)∧∃ u,h0.get? b=some u) :
  wpAny M A (noteFrame (.ref e) env) (fun _ s2=>wpAny M A (setFlight (.ref e) none) Q E s2) E s:=by
 obtain ⟨oe,vs,T,oT,ts,a0,t1,t2,t3,t4,t5,t6,t7,t8,t9,t10,t11⟩:=hF.tr
 have hB0:∀ b∈e :: T :: frs (env :: outer),(W.hideAll s.heap (e :: T :: frs (env :: outer))).get? b=none:=fun b hb=>W.hideAll_none _ hb
 refine wpAny_noteFrame_onW (base:=W.hideAll s.heap (e :: T :: frs (env :: outer))) (cls:=cls) (a0:=a0) hA (kI hfr fun b hb=>hB0 b (List.mem_cons_of_mem _ (List.mem_cons_of_mem _ hb))) hL ⟨oe,vs,T,oT,ts,t1,⟨t2,t4⟩,t3,t5,hB0 T (List.mem_cons_of_mem _ List.mem_cons_self),t6,t7,t8,t9⟩ (fun b o hb=>W.of_hideAll _ hb) (hB0 e List.mem_cons_self) ?_
 rintro h1 ⟨k1,k2,k3,k4⟩
 refine wpAny_setFlight_noneW k1 k2 k3 fun h' l1 l2 l3 l5=>?_
 have l4:∀ b o,s.heap.get? b=some o→(∀ vs:Array Value,o.data≠.fields vs)→∃ sl,h'.get? b=some { cls:=o.cls,dict:=o.dict,data:=o.data,slots:=sl }:=fun b o hb hn=>by
  obtain ⟨sl,q⟩:=k4 b o hb hn
  exact ⟨sl,l5 b _ q hn⟩
 have hfr':h'.FunFrames base (env :: outer):=kI l2 fun b hb=>by
  rcases hh:base.get? b with _ | o
  ·rfl
  ·exact absurd hb (hbs b o hh).1
 refine hQ h' (JL rfl (fun b hb hf=>?_) l1 hfr l4) (YJ (s:=s) (l:=env :: outer) hF.he hF.ne rfl (fun b hb=>?_) hfr' hH l3) hfr'
 ·rcases List.mem_cons.mp hb with rfl | hb
  ·exact ⟨hF.he,hF.ne⟩
  ·rcases List.mem_cons.mp hb with rfl | hb
   ·exact ⟨t10,t11⟩
   ·exact absurd hb hf
 ·rcases List.mem_cons.mp hb with rfl | hb
  ·exact ⟨hF.he,.inr hF.ne⟩
  ·rcases List.mem_cons.mp hb with rfl | hb
   ·exact ⟨t10,.inr t11⟩
   ·exact ⟨hff b hb,.inl hb⟩
theorem Z6 (hfr:s.heap.FunFrames base (env :: outer)) (hF:Fly h0 H cls e s.heap) (hff:∀ b∈frs (env :: outer),H b=none) (hH:∀ b,s.heap.get? b=none→H b=none∧h0.get? b=none)
  (hQ:∀ h',Left (frs (env :: outer)) h0 H s.heap h'→Fly h0 H cls e h'→h'.FunFrames base (env :: outer)→Q () { s with heap:=h' }) (hbs:∀ b o,base.get? b=some o→b ∉ frs (env :: outer)∧∃ u,h0.get? b=some u) :
  wpAny M A (setFlight (.ref e) none) Q E s:=by
 obtain ⟨oe,vs,T,oT,ts,a0,t1,t2,t3,t4,t5,t6,t7,t8,t9,t10,t11⟩:=hF.tr
 have hB0:∀ b∈e :: T :: frs (env :: outer),(W.hideAll s.heap (e :: T :: frs (env :: outer))).get? b=none:=fun b hb=>W.hideAll_none _ hb
 refine wpAny_setFlight_noneW (base:=W.hideAll s.heap (e :: T :: frs (env :: outer))) (l:=env :: outer) (cls:=cls) (a0:=a0) (fl:=.none) (fun b o hb=>W.of_hideAll _ hb) (kI hfr fun b hb=>hB0 b (List.mem_cons_of_mem _ (List.mem_cons_of_mem _ hb))) ⟨oe,vs,T,oT,ts,t1,⟨t2,t4⟩,t3,t5,hB0 T (List.mem_cons_of_mem _ List.mem_cons_self),t6,t7,t8,t9⟩ fun h' l1 l2 l3 l5=>?_
 have l4:∀ b o,s.heap.get? b=some o→(∀ vs:Array Value,o.data≠.fields vs)→∃ sl,h'.get? b=some { cls:=o.cls,dict:=o.dict,data:=o.data,slots:=sl }:=fun b o hb hn=>⟨o.slots,l5 b _ hb hn⟩
 have hfr':h'.FunFrames base (env :: outer):=kI l2 fun b hb=>by
  rcases hh:base.get? b with _ | o
  ·rfl
  ·exact absurd hb (hbs b o hh).1
 refine hQ h' (JL rfl (fun b hb hf=>?_) l1 hfr l4) (YJ (s:=s) (l:=env :: outer) hF.he hF.ne rfl (fun b hb=>?_) hfr' hH l3) hfr'
 ·rcases List.mem_cons.mp hb with rfl | hb
  ·exact ⟨hF.he,hF.ne⟩
  ·rcases List.mem_cons.mp hb with rfl | hb
   ·exact ⟨t10,t11⟩
   ·exact absurd hb hf
 ·rcases List.mem_cons.mp hb with rfl | hb
  ·exact ⟨hF.he,.inr hF.ne⟩
  ·rcases List.mem_cons.mp hb with rfl | hb
   ·exact ⟨t10,.inr t11⟩
   ·exact ⟨hff b hb,.inl hb⟩
end
theorem Un.left {fs:List Addr} {H H':Hp} {h h1 h2:Heap} {P:Program} {w:World} (u:Un fs [] H H' h h1) (l:Left fs h H' h1 h2):Un fs [] H H' h h2 where
 keep:=fun b o h1 h2 h3 h4=>l.keep b o (u.keep b o h1 h2 h3 h4) h3 (.inr ⟨o,h1⟩)
 slot:=fun b o h1 h2 h3 h4=>by
  obtain ⟨sl,h5⟩:=u.slot b o h1 h2 h3 h4
  obtain ⟨sl',h6⟩:=l.slot b _ h5 h3
  exact ⟨sl',h6⟩
 free:=u.free
 there:=fun b o h1 h2=>by
  obtain ⟨o',h5⟩:=u.there b o h1 h2
  by_cases hm:b∈fs
  ·obtain ⟨sl',h6⟩:=l.slot b _ h5 hm
   exact ⟨_,h6⟩
  ·exact ⟨o',l.keep b o' h5 hm (.inr ⟨o,h1⟩)⟩
 tups:=u.tups
 frzs:=u.frzs
 tbls:=u.tbls
theorem HOk.left {fs:List Addr} {H:Hp} {h0 h1 h2:Heap} {P:Program} {w:World} (k:HOk P w H h1) (ff:∀ b∈fs,H b=none) (l:Left fs h0 H h1 h2):HOk P w H h2:=fun a o ho=>by
 refine (k a o ho).stay (fun b u hbu q=>?_) (fun _ q=>q) fun _ _ q=>q
 have hne:H b≠none:=by
  rcases hbu with rfl | hbu
  ·rw [ho];simp
  ·rw [hbu];simp
 exact l.keep b u q (fun hm=>hne (ff b hm)) (.inl hne)
def Ju (cls:Value) (e:Addr):HO:=.ext fun h=>∃ oe vs,h.get? e=some oe∧oe.cls=cls∧oe.data=.fields vs
theorem Un.track {fs:List Addr} {H H':Hp} {h h1:Heap} {e:Addr} {o:HO} (u:Un fs [] H H' h h1) (he:H' e=none) (hn:h.get? e=none):Un fs [] H (upd H' e o) h h1 where
 keep:=u.keep
 slot:=u.slot
 free:=fun b ob h1 h2 h3=>by
  rw [jl fun z=>by rw [z,hn] at h1;cases h1]
  exact u.free b ob h1 h2 h3
 there:=u.there
 tups:=fun b xs q=>by
  have:=u.tups b xs q
  rw [jl fun z=>by rw [z,he] at this;cases this]
  exact this
 frzs:=fun b ob xs q=>by
  have:=u.frzs b ob xs q
  rw [jl fun z=>by rw [z,he] at this;cases this]
  exact this
 tbls:=fun b ps q=>by
  obtain ⟨m,this⟩:=u.tbls b ps q
  exact ⟨m,by rw [jl fun z=>by rw [z,he] at this;cases this];exact this⟩
theorem HOk.track {P:Program} {w:World} {H:Hp} {h:Heap} {e:Addr} {o:HO} (k:HOk P w H h) (he:H e=none) (ho:ObjOk P w (upd H e o) h e o):HOk P w (upd H e o) h:=fun a u hu=>by
 by_cases z:a=e
 ·subst z
  rw [ja] at hu
  cases hu
  exact ho
 ·rw [jl z] at hu
  refine (k a u hu).stay (fun b v _ q=>q) (fun b q=>?_) fun b xs q=>?_
  ·rw [jl fun z=>by rw [z,he] at q;cases q];exact q
  ·rw [jl fun z=>by rw [z,he] at q;cases q];exact q
theorem jer {P:Program} {w:World} {H:Hp} {h0 h:Heap} {e:Addr} {cls:Value} (F:Fly h0 H cls e h):ObjOk P w (upd H e (Ju cls e)) h e (Ju cls e):=by
 obtain ⟨oe,vs,T,oT,ts,a0,t1,t2,t3,_⟩:=F.tr
 exact ⟨⟨oe,vs,t1,t2,t3⟩,⟨oe,t1⟩,fun h1 h2 ⟨o,v,q1,q2,q3⟩ k=>⟨o,v,k o q1,q2,q3⟩⟩
abbrev Cx.hush (X:Cx) (e:Addr):Cx:={ X with A:=X.A.mark (some (.ref e)),calm:=false,xe:=fun _ _=>False }
section
variable {X:Cx} {pins:List (Addr×Obj)} {σ:St} {H:Hp} {s:Shared} {e:Addr}
theorem Inv.hush (I:Inv X pins σ H s) (e:Addr):Inv (X.hush e) pins σ H s:=
 ⟨⟨I.ok.mod,I.ok.kind,I.ok.glob,I.ok.blt,I.ok.above,I.ok.inj,I.ok.has,I.ok.cab,fun z=>(by cases z),I.ok.frames,I.ok.stk,I.ok.exf,I.ok.bs,I.ok.bsz,I.ok.noex,I.ok.exfs,I.ok.funs,I.ok.frf⟩,I.os,I.bare,I.base,I.loc,I.cell,I.free,I.freeC,I.pin,I.hok,I.len⟩
theorem Inv.unhush (ok:X.Ok) (I:Inv (X.hush e) pins σ H s):Inv X pins σ H s:=
 ⟨ok,I.os,I.bare,I.base,I.loc,I.cell,I.free,I.freeC,I.pin,I.hok,I.len⟩
theorem JN {M:Model} {A:Around} {E:Value→Shared→Prop} {i:Nat} {x:Str} {v:V} {pos:Pos} {Q:Unit→Shared→Prop} (I:Inv X pins σ H s) (hN:X.N.Nodup) (hi:X.N[i]?=some x) (hx:X.env.scope.names.lookup x=some .local)
  (h:∀ s',Inv X pins (σ.set i none) H s'→Q () s'):wpAny M A (do bindName X.env x .none;unbindBehindTheSuite X.env x pos) Q E s:=by
 have hcls:(X.env.scope.kind == .class || (X.env.scope.kind == .module && X.env.locals != X.env.globals))=false:=by rw [I.ok.kind];rfl
 refine wpAny_bind (wpAny_bindName (qK (v:=.non) (u:=.none) I hN hi (.inl hx) rfl (fun s1 I1=>?_) (.inr hx)))
 unfold unbindBehindTheSuite
 refine wpAny_onRaise ?_
 obtain ⟨m,hn,hl⟩:=id I1.loc
 have hiσ:i < σ.length:=by rw [I.len];exact (List.getElem?_eq_some_iff.mp hi).1
 obtain ⟨u,_,q⟩:=hl i x .non hi (List.getElem?_set_self hiσ) (.inl hx)
 have hm:∃ v,m x=some v:=by
  rcases q with ⟨_,q⟩ | ⟨q,_⟩
  ·exact ⟨_,q⟩
  ·have hk:X.env.kindOf x=some .local:=hx
   rcases q with q | q <;> (rw [hk] at q;cases q)
 obtain ⟨v,hm⟩:=hm
 refine wpAny_unbindName_local hx hn hm hcls fun h' u hn' hs=>?_
 obtain ⟨oL,_,_,hoL,_⟩:=id hn
 have cne:=I1.cne
 refine h _ ⟨I1.ok,I1.os,I1.bare,⟨fun b o e n hb hx=>?_,fun b o e n hb hx=>?_,I1.base.free,fun b o e hx=>?_,I1.base.tups,I1.base.frzs,I1.base.tbls⟩,⟨_,hn',fun j y v' e1 e2 e3=>?_⟩,fun y c e=>?_,I1.free,I1.freeC,fun p hp=>?_,fun b ob e=>?_,by simpa using I.len⟩
 ·exact (hs.2 b (Nat.ne_of_lt (Nat.lt_of_lt_of_le (Heap.lt_size e) I1.ok.above))).trans (I1.base.keep b o e n hb hx)
 ·obtain ⟨sl,e1⟩:=I1.base.slot b o e n hb hx
  exact ⟨sl,(hs.2 b (Nat.ne_of_lt (Nat.lt_of_lt_of_le (Heap.lt_size e) I1.ok.above))).trans e1⟩
 ·obtain ⟨o',e1⟩:=I1.base.there b o e hx
  exact ⟨o',(hs.2 b (Nat.ne_of_lt (Nat.lt_of_lt_of_le (Heap.lt_size e) I1.ok.above))).trans e1⟩
 ·by_cases hj:j=i
  ·subst hj
   rw [List.getElem?_set_self hiσ] at e2
   cases e2
  ·rw [List.getElem?_set_ne (Ne.symm hj)] at e2
   have e2':(σ.set i (some V.non))[j]?=some (some v'):=by rw [List.getElem?_set_ne (Ne.symm hj)];exact e2
   obtain ⟨u',r',q⟩:=hl j y v' e1 e2' e3
   refine ⟨u',r',?_⟩
   rcases q with ⟨k,e⟩ | ⟨k,c,e,z⟩
   ·refine .inl ⟨k,?_⟩
    have:y≠x:=fun e=>hj (J4 hN e1 (e ▸ hi))
    simp [this,e]
   ·exact .inr ⟨k,c,e,z.sameBut hs (cne y c e)⟩
 ·obtain ⟨w',z⟩:=I1.cell y c e
  exact ⟨w',z.sameBut hs (cne y c e)⟩
 ·obtain ⟨e,n,ne,nf,d⟩:=I1.pin p hp
  exact ⟨(hs.2 p.1 ne).trans e,n,ne,nf,d⟩
 ·refine (I1.hok b ob e).stay (fun c w' hc q=>(hs.2 c ?_).trans q) (fun _ q=>q) fun _ _ q=>q
  rintro rfl
  rcases hc with rfl | hc
  ·rw [I1.free] at e;cases e
  ·rw [I1.free] at hc;cases hc
end
theorem jdE {X:Cx} {CX:CXT} {k:Nat} {f:Addr} {fd:FuncData} {ps:List Str} {sp:Sp} {dvs:List V} {ds:List Value} {E:XK} {pins:List (Addr×Obj)} {σ:St} {H:Hp} {s:Shared} {Q:VK} {us:List Value} {vs:List V} (F:FnOk X.prog X.w X.K X.mg X.base CX k f fd ps sp) (hr:Room k X.A) (hb:Binds X.K fd ps ds) (hd:Vals dvs ds)
  (I:Inv X pins σ H s) (r:Vals vs us) (h:sp (vs++dvs) H Q E):wpAny (model X.prog X.w) X.A (call (.ref f) us) (EP X pins σ Q) (fun e s'=>CX X.stack H s E e s') s:=by
 have r2:Vals (vs++dvs) (us++ds):=r.append hd
 have hl:(us++ds).length=ps.length:=by rw [← r2.length];exact F.len _ _ _ _ h
 refine wpAny_call (codeAny_mono (F.run X.A X.stack s H ⟨us,[]⟩ (us++ds) (vs++dvs) Q E hr I.env0 (hb s us I.kIn hl) r2 h) fun r s' hq=>?_)
 cases r with
 | error e=>exact hq
 | ok fl=>
  cases fl with
  | ret u=>exact I.after hq
  | next=>exact False.elim hq
  | brk=>exact False.elim hq
  | cont=>exact False.elim hq
def Ends.gone (D:Ends) (i:Nat):Ends:={ nx:=fun σ H=>D.nx (σ.set i none) H,rt:=D.rt,bk:=fun σ H=>D.bk (σ.set i none) H,ct:=fun σ H=>D.ct (σ.set i none) H }
def jb4 (sp:Sp) (C:Addr) (iy i:Nat) (t:TA) (ts:TS):TS:=fun D σ H=>t σ H fun vs H1=>sp (vs++[]) H1 (fun v H2=>D.nx (σ.set iy (some v)) H2) fun cls _ H2=>cls=.ref C∧∀ e,H2 e=none→ts (D.gone i) (σ.set i (some (.ref e))) (upd H2 e (Ju (.ref C) e))
theorem jco {X:Cx} {k k':Nat} {x c y n:Str} {ps:List Str} {sp:Sp} {C:Addr} {e:Expr} {es:List Expr} {t:TA} {ts:TS} {iy i:Nat} {p cp np yp ap hp pos:Pos} {b0:Stmt} {suite:List Stmt}
  (F:FnX X.prog X.w X.K X.mg X.base k x ps sp) (hst:X.stack=X.env :: X.outer) (hfr:X.env.frame=some X.env.locals) (hr:Room k' X.A) (ha:PA X.nox (e :: es) t) (hs:∀ e,PSs (X.hush e) (b0 :: suite) ts)
  (hN:X.N.Nodup) (hiy:X.N[iy]?=some y) (hy:Loc X.env.scope y) (hi:X.N[i]?=some n) (hn:X.env.scope.names.lookup n=some .local)
  (hgc:Gl X c) (hmc:X.mg c=some (.ref C)) (hx:W.excIn X.K C valB "ValueError.__new__" = true)
  (hk:k≤k':=by decide) (hg:Gl X x:=by rfl) (hf:X.fn y=true∨X.env.scope.names.lookup y=some .local:=by first | exact .inl rfl | exact .inr rfl | assumption)
  (hd:(x == ("__debug__" : Str))=false:=by decide) (hdc:(c == ("__debug__" : Str))=false:=by decide) (hpp:(e :: es).all j5=true:=by rfl) (hsw:swapsWith (.Call (.Name x p) (e :: es) [] cp) (some (.Name y yp)) ap.line X.env=pure false:=by rfl) :
  PS X (.Try [.Assign [.Name y yp] (.Call (.Name x p) (e :: es) [] cp) ap] [.ExceptHandler (some (.Name c np)) (some n) (b0 :: suite) hp] [] [] pos) (jb4 sp C iy i t ts):=by
 obtain ⟨f,fd,G,b,kp,m⟩:=F.ex
 rw [List.all_cons,Bool.and_eq_true] at hpp
 have he:=kR hpp.1 es X.env
 have hpl:=zb cp X.env es hpp.2
 intro pins s σ H D I h
 refine wpAny_Try_except (wpAny_execs_cons ?_)
 refine wpAny_Assign_Name (wpAny_Call_Name_kw (yb I hg m ?_ hd)) hsw
 refine W.callWith_K (h₀:=X.base) I.ok.mod.kin kp (wpAny_mono (ha cp pins s σ H _ (I.wish _) h) (fun us s1 ⟨vs,H1,I1,r,q⟩=>⟨I1.unwish.kIn,?_⟩) fun _ _ z=>z.elim) he hpl
 replace I1:=I1.unwish
 refine wpAny_mono (jdE G (hr.mono hk) b .nil I1 r q) (fun u s2 ⟨v,H2,I2,rv,q2⟩=>?_) fun ev s2 hx2=>?_
 ·refine qK I2 hN hiy hy rv (fun s3 I3=>?_) hf
  exact wpAny_execs_nil (wpAny_execs_nil ⟨_,H2,I3,q2⟩)
 ·obtain ⟨ea,cls,H',rfl,os,bare,un,hok,fly,rfl,hE⟩:=hx2
  have I2:Inv X pins σ H' s2:=I1.call' os un hok bare (fun b z=>absurd z (by simp))
  have stk:=I2.stkFree
  rw [hst] at stk un
  have hbs:∀ b o,X.base.get? b=some o→b ∉ frs (X.env :: X.outer)∧∃ u,s1.heap.get? b=some u:=fun b o hb=>by
   refine ⟨fun hm=>?_,⟨o,I1.bk b o hb⟩⟩
   have hs:=I1.stack
   rw [hst] at hs
   have:∀ {l:List Env},s1.heap.FunFrames X.base l→b∈frs l→False:=by
    intro l
    induction l with
    | nil=>intro _ h;cases h
    | cons env l ih=>
     intro hf hm
     obtain ⟨_,⟨L,o',e1,e2,_,_⟩,hr⟩:=hf
     unfold frs at hm
     rw [List.filterMap_cons,e1] at hm
     rcases List.mem_cons.mp hm with rfl | hm
     ·rw [e2] at hb;cases hb
     ·exact ih hr hm
   exact this hs hm
  have hH:∀ {h2:Heap},Un (frs (X.env :: X.outer)) [] H1 H' s1.heap h2→HOk X.prog X.w H' h2→∀ b,h2.get? b=none→H' b=none∧s1.heap.get? b=none:=fun {h2} u k b hb=>by
   refine ⟨?_,?_⟩
   ·rcases hh:H' b with _ | o
    ·rfl
    ·obtain ⟨u,hu⟩:=(k b o hh).ex
     rw [hu] at hb;cases hb
   ·rcases hh:s1.heap.get? b with _ | o
    ·rfl
    ·obtain ⟨o',h5⟩:=u.there b o hh (by simp)
     rw [h5] at hb;cases hb
  have fs2:=I2.stack
  rw [hst] at fs2
  refine jbv (by rw [I2.ok.frames,hst]) fs2 hfr fly stk (hH un hok) (fun h3 l3 fly3 fs3=>?_) hbs
  have un3:=un.left (P:=X.prog) (w:=X.w) l3
  have hok3:=hok.left stk l3
  have I3:Inv X pins σ H' { s2 with heap:=h3 }:=I1.call' os (by rw [hst];exact un3) hok3 bare (fun b z=>absurd z (by simp))
  refine wpAny_handleBy_cons (codeAny_handlers_test (yb (I3.hush ea) hgc hmc ?_ hdc)) (by intro q;cases q)
  obtain ⟨bm,N,nm,qn,bs,hdct,sn,sub,ab,col,dd,k0,k1,k2,k3,k5,mN,o1,o2,o3,o4⟩:=yR I3.mod.kin hx
  have hbm:bm.contains (.type "BaseException")=true:=OwnTail.hasType o4 PySem.F.excBase_ValueError.hasBase
  obtain ⟨oe,ves,T,oT,tts,a0,t1,t2,t3,_⟩:=fly3.tr
  refine wpAny_excMatches_sub_self (I3.bk _ _ o1) t1 t2 hbm (codeAny_handlers_suite_as ?_)
  refine Z6 fs3 fly3 stk (hH un3 hok3) (fun h4 l4 fly4 fs4=>?_) hbs
  have un4:=(un3.left (P:=X.prog) (w:=X.w) l4).track (o:=Ju (.ref C) ea) fly4.he fly4.ne
  have hok4:=(hok3.left stk l4).track fly4.he (jer fly4)
  have I4:Inv X pins σ (upd H' ea (Ju (.ref C) ea)) { s2 with heap:=h4 }:=I1.call' os (by rw [hst];exact un4) hok4 bare (fun b z=>absurd z (by simp))
  refine qK (v:=.ref ea) I4 hN hi (.inl hn) rfl (fun s5 I5=>?_) (.inr hn)
  refine wpAny_mono (hs ea pins s5 _ _ (D.gone i) (I5.hush ea) (hE ea fly4.he)) (fun fl s6 h6=>?_) fun _ _ z=>z.elim
  cases fl with
  | next=>
   obtain ⟨σ',H6,I6,q6⟩:=h6
   exact JN (v:=.non) (I6.unhush I5.ok) hN hi hn fun s7 I7=>⟨_,H6,I7,q6⟩
  | brk=>
   obtain ⟨σ',H6,I6,q6⟩:=h6
   exact JN (v:=.non) (I6.unhush I5.ok) hN hi hn fun s7 I7=>⟨_,H6,I7,q6⟩
  | cont=>
   obtain ⟨σ',H6,I6,q6⟩:=h6
   exact JN (v:=.non) (I6.unhush I5.ok) hN hi hn fun s7 I7=>⟨_,H6,I7,q6⟩
  | ret u=>
   obtain ⟨v,σ',H6,I6,r6,q6⟩:=h6
   exact JN (v:=.non) (I6.unhush I5.ok) hN hi hn fun s7 I7=>⟨v,_,H6,I7,r6,q6⟩
end L2
namespace PySem.W
open PySem PySem.Spec PySem.Calls PyProof.Rows Builtin Builtin.ObjectAttr Builtin.Getset_descriptor
section
variable {prog:Program} {w:World} {A:Around} {E:Value→Shared→Prop} {h:Heap} {g:Array GenState} {d:Drawn} {t:Nat} {os:OsState} {a C:Addr} {o:Obj} {K:Frag}
theorem jex {M:Model} (hx:h.get? a=some o) (hc:o.cls=.ref C):Looks M h (typeOf (.ref a)) (.ref C):=hc ▸ (Looks.ld hx).andThen .now
structure XCls (K:Frag) (C:Addr):Prop where
 cl:(clsIn K C).isSome=true
 ga:findIn K (.ref C) "__getattribute__" = some (some (.builtin "BaseException.__getattribute__"))
 gt:findIn K (.ref C) "__getattr__" = some none
 cc:findIn K (.ref C) "__class__" = some (some (.builtin "object.__class__"))
 ob:mroIn K C (.type "object")=some true
 be:mroIn K C (.type "BaseException")=some true
theorem jeY {R:Result→Shared→Prop} (Z:XCls K C) (X:K.In h) (hx:h.get? a=some o) (hc:o.cls=.ref C) (hq:R (.ok (.ret (.ref C))) ⟨h,g,d,t,os⟩) :
  codeAny (model prog w) A (.call (.builtin "getset_descriptor.__get__") ⟨[.builtin "object.__class__",.ref a,.ref C],[]⟩) R ⟨h,g,d,t,os⟩:=by
 have L0:=jex (M:=model prog w) hx hc
 have L1:=looks_mroIn (M:=model prog w) X Z.ob
 refine codeAny_call_builtin KF.slot_gs.plain KF.entry_gs (KF.slot_gs.check _ _ _ _ _ _ _ _ KF.type_class (KF.args_gs _ _ _) ?_)
 unfold Builtin.«getset_descriptor.__get__» descrGet
 rw [dga_obj]
 refine wpAny_bind (wpAny_pure ?_)
 unfold descrGetter descrCheckInstance descrNameAndClass isInstance
 simp only [KF.owner_class]
 repeat lk
 refine ⟨Code.quiet_builtin _ (by decide +kernel),codeAny_builtin KF.entry_class ?_⟩
 unfold Builtin.«object.__class__» shownTypeOf
 repeat lk
 exact hq
theorem jbY {tk:Tok} {Q:Fin→Shared→Prop} (Z:XCls K C) (X:K.In h) (hx:h.get? a=some o) (hc:o.cls=.ref C) (hq:Q (.done (.ret (.ref C))) ⟨h,g,d,t,os⟩) :
  wpAny (model prog w) A (Builtin.«object.__getattribute__» ⟨[.ref a,.str "__class__" tk],[]⟩) Q E ⟨h,g,d,t,os⟩:=by
 have hT5:(⟨h,g,d,t,os⟩:Shared).TypeIs (.builtin "object.__class__") "getset_descriptor":=KF.type_class
 have f5:=KF.type_class
 have f6:=F.slot_gs_get.lookup
 have f7:=F.slot_gs_set.lookup
 have L:=looks_findIn (M:=model prog w) X Z.cc
 repeat (any_goals (first | assumption | (with_reducible refine wpAny_loadPart_at hx ?_;rw [hc]) | with_reducible refine L.at ?_ | wp_step))
 refine jeY Z X hx hc ?_
 repeat (any_goals (first | assumption | wp_step))
theorem jbZ {M:Model} {nameV:Value} {Q:Unit→Shared→Prop} (Z:XCls K C) (X:K.In h) (hx:h.get? a=some o) (hc:o.cls=.ref C) (hq:Q () ⟨h,g,d,t,os⟩):wpAny M A (checkBuiltinCall "BaseException.__getattribute__" ⟨[.ref a,nameV],[]⟩) Q E ⟨h,g,d,t,os⟩:=by
 have hk:builtinKind "BaseException.__getattribute__" = some .slot:=by decide +kernel
 have hsplit:splitId "BaseException.__getattribute__" = some ("BaseException","__getattribute__"):=by decide +kernel
 have L:=looks_mroIn (M:=M) X Z.be
 have ha:=F.args_bexc_ga (.ref a) nameV
 simp only [checkBuiltinCall,hk,hsplit]
 refine wpAny_bind ?_
 ·unfold isInstance
  repeat (first | (with_reducible refine wpAny_loadPart_at hx ?_;rw [hc]) | with_reducible refine L.at ?_ | wp_step)
  exact hq
theorem jdx {tk:Tok} {R:Result→Shared→Prop} (Z:XCls K C) (X:K.In h) (hx:h.get? a=some o) (hc:o.cls=.ref C) (hq:R (.ok (.ret (.ref C))) ⟨h,g,d,t,os⟩) :
  codeAny (model prog w) A (.call (.builtin "BaseException.__getattribute__") ⟨[.ref a,.str "__class__" tk],[]⟩) R ⟨h,g,d,t,os⟩:=
 codeAny_call_builtin PySem.F.attr_ValueError.ga.plain F.entry_bexc_ga (jbZ Z X hx hc (jbY Z X hx hc hq))
theorem jfK {tk:Tok} {fill expr:Bool} {Q:Value→Shared→Prop} (Z:XCls K C) (X:K.In h) (hx:h.get? a=some o) (hc:o.cls=.ref C) (hq:Q (.ref C) ⟨h,g,d,t,os⟩) :
  wpAny (model prog w) A (getAttrBy (.ref a) (.str "__class__" tk) fill expr) Q E ⟨h,g,d,t,os⟩:=by
 have f3:=PySem.F.attr_ValueError.ga.bind (.ref a)
 have hx0:(expr && onTheHeap (Value.builtin "BaseException.__getattribute__"))=false:=by cases expr <;> rfl
 have hx2:(Value.builtin "BaseException.__getattribute__" == Value.builtin "object.__getattribute__")=false:=by decide +kernel
 have hx1:(onTheHeap (Value.ref C) && Value.builtin "BaseException.__getattribute__" == Value.builtin "object.__getattribute__")=false:=by rw [hx2];rfl
 have L1:=looks_findIn (M:=model prog w) X Z.ga
 have L2:=looks_findIn (M:=model prog w) X Z.gt
 repeat (any_goals (first | assumption | (with_reducible refine wpAny_loadPart_at hx ?_;rw [hc]) | with_reducible refine L1.at ?_ | with_reducible refine L2.at ?_ | wp_step))
 refine jdx Z X hx hc ?_
 repeat (any_goals (first | assumption | wp_step))
theorem jdy {s:Shared} {Q:Option Value→Shared→Prop} (Z:XCls K C) (X:K.In s.heap) (hx:s.heap.get? a=some o) (hc:o.cls=.ref C) (hq:Q (some (.ref C)) { s with toks:=s.toks+1 }) :
  wpAny (model prog w) A (getAttr? (.ref a) "__class__") Q E s:=by
 obtain ⟨hh,g,d,t,os⟩:=s
 unfold getAttr? getAttrBy?
 refine wpAny_bind (wpAny_mkText (wpAny_bind (wpAny_attempt (jfK Z X hx hc ?_))))
 exact wpAny_pure hq
theorem kitx_exc (Z:XCls K C):KitX K (.ref a) (.ref C) (fun h=>∃ o,h.get? a=some o∧o.cls=.ref C) where
 ty:=fun _ _ _ ⟨o,hx,hc⟩=>jex hx hc
 it:=fun _ _ X _=>by
  have hcD:=Z.cl
  unfold clsIn at hcD
  split at hcD
  ·rename_i c' d' cd' sl' ho
   intro A' Q' E' s' k q
   unfold isType loadHead
   exact wpAny_bind (wpAny_loadPart (k _ _ (X _ _ ho)) (wpAny_pure q))
  ·cases hcD
 ne:=fun h tp dd its n sl X htp=>by
  have hcD:=Z.cl
  refine Bool.eq_false_iff.mpr fun q=>?_
  have e:C=tp:=Value.ref.inj (beq_iff_eq.mp q)
  subst e
  unfold clsIn at hcD
  split at hcD
  ·rename_i c' d' cd' sl' ho
   have z:=(X _ _ ho).symm.trans htp
   cases z
  ·cases hcD
 ca:=fun X ⟨o,hx,hc⟩ k=>jdy Z X hx hc k
end
end PySem.W
namespace L2
open PySem PySem.Spec PyProof.Rows
theorem jbX {X:Cx} {pins:List (Addr×Obj)} {σ:St} {H:Hp} {s:Shared} {A:Around} {E:Value→Shared→Prop} {Q:Value→Shared→Prop} {c:Value} {b:Bool} {a C:Addr} (I:Inv X pins σ H s) (ha:H a=some (Ju (.ref C) a)) (Z:PySem.W.XCls X.K C) (e:W.kitOne X.K (.ref C) c=some b) (h:∀ tk,Q (.bool b) { s with toks:=tk }) :
  wpAny (model X.prog X.w) A (call (.builtin "isinstance") [.ref a,c]) Q E s:=by
 obtain ⟨⟨oe,vs,t1,t2,t3⟩,_⟩:=(show ObjOk X.prog X.w H s.heap a (Ju (.ref C) a) from I.hok a _ ha)
 exact W.kia_one (W.kitx_exc Z) I.kIn ⟨oe,t1,t2⟩ e (fun z=>nomatch z) h
abbrev TJ:=St→Hp→Str→(Str→Hp→Prop)→Prop
structure QJ (X:Cx) (es:List Expr) (t:TJ):Prop where
 h:∀ (pins:List (Addr×Obj)) (s:Shared) (σ:St) (H:Hp) (out:Str) (Q:Str→Hp→Prop),Inv X pins σ H s→t σ H out Q→Joins (model X.prog X.w) X.A X.xe (evalEach es X.env) out (fun o s'=>∃ H',Inv X pins σ H' s'∧Q o H') s
def jgz:TJ:=fun _ H out Q=>Q out H
def jgj (te:TE) (t:TJ):TJ:=fun σ H out Q=>te σ H fun x H1=>∃ y,x=.str y∧(out++y).length≤sizeLine∧t σ H1 (out++y) Q
section
variable {X:Cx}
theorem jcl:QJ X [] jgz:=⟨fun pins s σ H out Q I h=>Joins_nil ⟨H,I,h⟩⟩
theorem zx {e:Expr} {es:List Expr} {te:TE} {t:TJ} (he:QE X e te) (ht:QJ X es t):QJ X (e :: es) (jgj te t):=⟨fun pins s σ H out Q I h=>by
 refine Joins_cons (thn (he.h pins s σ H _ I h) fun v s1 ⟨x,H1,I1,r,y,e1,hl,q⟩=>?_)
 subst e1
 obtain ⟨tk,rfl⟩:=r
 exact ⟨y,tk,rfl,hl,ht.h pins s1 σ H1 _ Q I1 q⟩⟩
def jgs (te:TE):TE:=fun σ H Q=>te σ H fun x H1=>∃ y,x=.str y∧y.length≤sizeLine∧Q (.str y) H1
theorem Yh {e:Expr} {te:TE} {pos:Pos} (he:QE X e te):QE X (.FormattedValue e (-1) none pos) (jgs te):=⟨fun pins s σ H Q I h=>by
 refine wpAny_FormattedValue_plain (thn (he.h pins s σ H _ I h) fun v s1 ⟨x,H1,I1,r,y,e1,hl,q⟩=>?_)
 subst e1
 obtain ⟨tk,rfl⟩:=r
 exact wpAny_formatField_str ⟨.str y,H1,I1,⟨_,rfl⟩,q⟩ ⟨.str y,H1,I1.tok _,⟨_,rfl⟩,q⟩ hl⟩
def jfT (te:TE):TE:=fun σ H Q=>te σ H fun x H1=>∃ i:Int,x=.int i∧i.natAbs < 2 ^ 100∧Q (.str (Str.ofString (toString i))) H1
theorem jbS {e:Expr} {te:TE} {pos:Pos} (he:QE X e te):QE X (.FormattedValue e (-1) none pos) (jfT te):=⟨fun pins s σ H Q I h=>by
 refine wpAny_FormattedValue_plain (thn (he.h pins s σ H _ I h) fun v s1 ⟨x,H1,I1,r,i,e1,hl,q⟩=>?_)
 subst e1
 obtain ⟨tk,rfl⟩:=r
 refine wpAny_formatField_int ?_ ⟨.str _,H1,I1.tok _,⟨_,rfl⟩,q⟩
 by_cases h0:i.natAbs=0
 ·rw [h0];decide
 ·exact Nat.lt_of_lt_of_le ((Nat.log2_lt h0).mpr hl) (by decide)⟩
def jfR (t:TJ):TE:=fun σ H Q=>t σ H Str.empty fun o H1=>o.length≤sizeLine∧Q (.str o) H1
theorem YV {v1 v2:Expr} {qi:List Expr} {t:TJ} {pos:Pos} (h:QJ X (v1 :: v2 :: qi) t):QE X (.JoinedStr (v1 :: v2 :: qi) pos) (jfR t):=⟨fun pins s σ H Q I hw=>by
 refine wpAny_JoinedStr ?_
 have hh:=h.h pins s σ H Str.empty _ I hw
 have mono:∀ (l:List Expr) (acc:Str) (s:Shared) (Q Q':Str→Shared→Prop),(∀ o s,Q o s→Q' o s)→Joins (model X.prog X.w) X.A X.xe (evalEach l X.env) acc Q s→Joins (model X.prog X.w) X.A X.xe (evalEach l X.env) acc Q' s:=by
  intro l
  induction l with
  | nil=>intro acc s Q Q' hq h;exact hq _ _ h
  | cons e r ih=>
   intro acc s Q Q' hq h
   refine Joins_cons (thn (show wpAny _ _ (eval e X.env) _ _ _ from h) fun v s1 ⟨y,tk,e1,hl,q⟩=>⟨y,tk,e1,hl,ih _ _ _ _ hq q⟩)
 refine mono _ _ _ _ _ (fun o s' ⟨H',I',hl,q⟩=>⟨hl,.str o,H',I'.tok _,⟨_,rfl⟩,q⟩) hh⟩
end
theorem XW.own {X:Cx} {E:XK} (W:XW X E):PassesOwn (model X.prog X.w) X.A X.env X.xe:=by
 rw [W.xe]
 exact PassesOwn.leaving
theorem qZ {X:Cx} {k k':Nat} {x:Str} {ps:List Str} {sp:Sp} {E:XK} {e:Expr} {es:List Expr} {t:TA} {p pos:Pos} (F:FnX X.prog X.w X.K X.mg X.base k x ps sp) (W:XW X E) (hr:Room k' X.A) (ha:QA X (e :: es) t) (hk:k≤k':=by first | decide | omega) (hg:Gl X x:=by rfl)
  (hd:(x == ("__debug__" : Str))=false:=by decide) (hp:(e :: es).all j5=true:=by rfl):QE X (.Call (.Name x p) (e :: es) [] pos) (KH sp [] E t):=⟨jfm F W hr ha.h hk hg hd hp⟩
theorem jaZ {X:Cx} {E:XK} {C:Addr} {x:Str} {np cpos pos:Pos} {e:Expr} {es:List Expr} {t:TA} (W:XW X E) (hc:X.calm=true) (hg:Gl X x) (hm:X.mg x=some (.ref C)) (hx:PySem.W.excIn X.K C valB "ValueError.__new__" = true) (ha:QA X (e :: es) t) (hd:(x == ("__debug__" : Str))=false:=by decide) (hp:(e :: es).all j5=true:=by rfl) :
  QS X (.Raise (some (.Call (.Name x np) (e :: es) [] cpos)) none pos) (jb5 C E t):=⟨jcp W hc hg hm hx ha.h hd hp⟩
theorem jaY {X:Cx} {k k':Nat} {x c y n:Str} {ps:List Str} {sp:Sp} {C:Addr} {e:Expr} {es:List Expr} {t:TA} {ts:TS} {iy i:Nat} {p cp np yp ap hp pos:Pos} {b0:Stmt} {suite:List Stmt}
  (F:FnX X.prog X.w X.K X.mg X.base k x ps sp) (hst:X.stack=X.env :: X.outer) (hfr:X.env.frame=some X.env.locals) (hr:Room k' X.A) (ha:QA X.nox (e :: es) t) (hs:∀ e,QSs (X.hush e) (b0 :: suite) ts)
  (hN:X.N.Nodup) (hiy:X.N[iy]?=some y) (hy:Loc X.env.scope y) (hi:X.N[i]?=some n) (hn:X.env.scope.names.lookup n=some .local)
  (hgc:Gl X c) (hmc:X.mg c=some (.ref C)) (hx:W.excIn X.K C valB "ValueError.__new__" = true)
  (hk:k≤k':=by decide) (hg:Gl X x:=by rfl) (hf:X.fn y=true∨X.env.scope.names.lookup y=some .local:=by first | exact .inl rfl | exact .inr rfl | assumption)
  (hd:(x == ("__debug__" : Str))=false:=by decide) (hdc:(c == ("__debug__" : Str))=false:=by decide) (hpp:(e :: es).all j5=true:=by rfl) (hsw:swapsWith (.Call (.Name x p) (e :: es) [] cp) (some (.Name y yp)) ap.line X.env=pure false:=by rfl) :
  QS X (.Try [.Assign [.Name y yp] (.Call (.Name x p) (e :: es) [] cp) ap] [.ExceptHandler (some (.Name c np)) (some n) (b0 :: suite) hp] [] [] pos) (jb4 sp C iy i t ts):=
 ⟨jco F hst hfr hr ha.h (fun e=>(hs e).h) hN hiy hy hi hn hgc hmc hx hk hg hf hd hdc hpp hsw⟩
theorem YN {X:Cx}:qo X (.builtin "isinstance") (fun xs H Q=>∃ a C D b,xs=[.ref a,.ref D]∧H a=some (Ju (.ref C) a)∧PySem.W.XCls X.K C∧W.kitOne X.K (.ref C) (.ref D)=some b∧Q (.bl b) H):=by
 intro pins s σ H xs us Q I r h
 obtain ⟨a,C,D,b,rfl,ha,Z,e,q⟩:=h
 obtain ⟨u,v,rfl,ru,rv⟩:=jap r
 cases ru
 cases rv
 exact jbX I ha Z e fun tk=>⟨.bl b,H,I.tok _,rfl,q⟩
theorem jV {X:Cx} {k k':Nat} {x:Str} {ps:List Str} {sp:Sp} {e:Expr} {es:List Expr} {t:TA} {p pos:Pos} (h1:Fn (Cx.prog X) (Cx.w X) (Cx.K X) (Cx.mg X) (Cx.base X) k x ps sp) (h2:Room k' (Cx.A X)) (h3:QA X (e :: es) t) (h4:k≤k':=by omega) (h5:Gl X x:=by rfl) (h6:(x == Str.ofString "__debug__")=false:=by decide) (h7:List.all (e :: es) j5=true:=by rfl):QE X (Expr.Call (Expr.Name x p) (e :: es) [] pos) (KH sp [] E0 t):=
 ⟨@jeK _ _ _ _ _ _ _ _ _ _ _ h1 h2 h3.h h4 h5 h6 h7⟩
theorem jdv {X:Cx} {k k':Nat} {x:Str} {C:Addr} {ps:List Str} {sp:Sp} {e:Expr} {es:List Expr} {t:TA} {p pos:Pos} (h1:MkFn (Cx.prog X) (Cx.w X) (Cx.K X) (Cx.mg X) (Cx.base X) k x C ps sp) (h2:Room k' (Cx.A X)) (h3:QA X (e :: es) t) (h4:k+1≤k':=by omega) (h5:Gl X x:=by rfl) (h6:(x == Str.ofString "__debug__")=false:=by decide) (h7:List.all (e :: es) j5=true:=by rfl):QE X (Expr.Call (Expr.Name x p) (e :: es) [] pos) (jb7 C sp [] E0 t):=
 ⟨@jf7 _ _ _ _ _ _ _ _ _ _ _ _ h1 h2 h3.h h4 h5 h6 h7⟩
open PySem PySem.Spec PyProof.Rows PySem.W
abbrev kz (P:Program) (w:World) (v:Addr) (σ:List Str):HO:=.ext fun h=>SetAtS P w h v (ledOf w) σ
theorem Kk {X:Cx} {P:Program} {w:World} {K:W.Frag} (hc:X.calm=true) (h1:X.prog=P:=by rfl) (h2:X.w=w:=by rfl) (h3:X.K=K:=by rfl):qo X (.type "set") (fun xs H Q=>∃ (p:Addr) (ns:List Str),xs=[.ref p]∧SqL K H p (ns.map V.str)∧ns.length≤1000∧∀ v,H v=none→Q (.ref v) (upd H v (kz P w v (dedupS ns)))):=by subst h1 h2 h3;exact Kw hc
theorem JF {X:Cx} {P:Program} {w:World} {K:W.Frag} (hc:X.calm=true) (h1:X.prog=P:=by rfl) (h2:X.w=w:=by rfl) (h3:X.K=K:=by rfl):qo X (.type "set") (fun xs H Q=>∃ (p:Addr) (ns:List Str),xs=[.ref p]∧SqT K H p (ns.map V.str)∧ns.length≤1000∧∀ v,H v=none→Q (.ref v) (upd H v (kz P w v (dedupS ns)))):=by subst h1 h2 h3;exact Kj hc
theorem yV {X:Cx} {P:Program} {w:World} (hc:X.calm=true) (h1:X.prog=P:=by rfl) (h2:X.w=w:=by rfl):qo X (.builtin "sorted") (fun xs H Q=>∃ (p:Addr) (τ:List Str),xs=[.ref p]∧H p=some (kz P w p τ)∧τ.length < 64∧∀ (l:Addr) (ns:List Str),H l=none→ns.Perm τ→sortedS ns=true→Q (.ref l) (upd H l (.lst (ns.map V.str)))):=by subst h1 h2;exact Js hc
theorem jaG {X:Cx} {P:Program} {w:World} (h1:X.prog=P:=by rfl) (h2:X.w=w:=by rfl):OpR X (binaryOp .BitOr) (fun x y H Q=>∃ (a b:Addr) (σ1 σ2:List Str),x=.ref a∧y=.ref b∧H a=some (kz P w a σ1)∧H b=some (kz P w b σ2)∧σ1.Nodup∧σ2.Nodup∧σ1.length+σ2.length≤15∧∀ v σ',H v=none→σ'.Nodup→(∀ z,z∈σ'↔z∈σ1∨z∈σ2)→Q (.ref v) (upd H v (kz P w v σ'))):=by subst h1 h2;exact jfp
theorem ja1 {X:Cx} {P:Program} {w:World} {z:Str} {j:Nat} {p1 pos:Pos} (hc:W.kdsCode X.K X.env.code=true) (h1:X.prog=P:=by rfl) (h2:X.w=w:=by rfl):QE X (.Set [.Constant (.str z) j p1] 0 pos) (fun _ H Q=>∀ v,H v=none→Q (.ref v) (upd H v (kz P w v [z]))):=by subst h1 h2;exact jbR hc
theorem ym {X:Cx} {K:W.Frag} (h:X.K=K:=by rfl):OpR X (compareOp .NotIn) (rIn K true):=by subst h;exact Yt
theorem zU (x:Str):∀ ys:List Str,inV (.str x) (ys.map V.str)=decide (x∈ys)
 | []=>by simp [inV]
 | y :: ys=>by
  have ih:=zU x ys
  unfold inV at ih ⊢
  rw [List.map_cons,List.any_cons,ih]
  have e:eqV (.str y) (.str x)=decide (x=y):=by
   show (y == x)=_
   by_cases h:x=y
   ·subst h;simp
   ·rw [decide_eq_false h];simpa using fun z=>h z.symm
  rw [e]
  simp [List.mem_cons]
theorem Jp:∀ ys:List Str,(ys.map V.str).all yQ=true
 | []=>rfl
 | y :: ys=>by rw [List.map_cons,List.all_cons,Jp ys];rfl
theorem lt_trans {a b c:List Nat} (h1:ltCps a b=true) (h2:ltCps b c=true):ltCps a c=true:=by
 induction a generalizing b c with
 | nil=>cases c with
  | nil=>cases b <;> simp [ltCps] at h1 h2
  | cons _ _=>rfl
 | cons x a ih=>
  cases b with
  | nil=>simp [ltCps] at h1
  | cons y b=>cases c with
   | nil=>simp [ltCps] at h2
   | cons z c=>
    simp only [ltCps,Bool.or_eq_true,Bool.and_eq_true,decide_eq_true_eq,beq_iff_eq] at h1 h2 ⊢
    rcases h1 with h1 | ⟨h1,h1'⟩
    ·rcases h2 with h2 | ⟨h2,h2'⟩
     ·left;omega
     ·left;omega
    ·rcases h2 with h2 | ⟨h2,h2'⟩
     ·left;omega
     ·right;exact ⟨by omega,ih h1' h2'⟩
abbrev ltT (a b:Str):Prop:=ltCps a.cps.toList b.cps.toList=true
theorem jfw (a:List Nat):ltCps a a=false:=by
 induction a with
 | nil=>rfl
 | cons x a ih=>simp only [ltCps,Nat.lt_irrefl,decide_false,Bool.false_or,ih,Bool.and_false]
theorem jcY:∀ {a b:List Nat},ltCps a b=false→a≠b→ltCps b a=true
 | [],[],_,h=>absurd rfl h
 | [],_ :: _,h,_=>by simp [ltCps] at h
 | _ :: _,[],_,_=>rfl
 | x :: a,y :: b,h,hne=>by
  simp only [ltCps,Bool.or_eq_false_iff,Bool.and_eq_false_iff,decide_eq_false_iff_not] at h
  simp only [ltCps,Bool.or_eq_true,Bool.and_eq_true,decide_eq_true_eq,beq_iff_eq]
  by_cases e:x=y
  ·subst e
   right
   refine ⟨rfl,jcY ?_ fun z=>hne (by rw [z])⟩
   rcases h.2 with g | g
   ·exact absurd g (by simp)
   ·exact g
  ·left;omega
theorem jdC {a b:Str} (h:a.cps.toList=b.cps.toList):a=b:=by
 cases a;cases b
 congr 1
 exact Array.ext' h
theorem KO:∀ (p:Str) (l:List Str),risingS p l=true→(p :: l).Nodup→(p :: l).Pairwise ltT
 | p,[],_,_=>by simp
 | p,x :: r,h,nd=>by
  have h':(!ltCps x.cps.toList p.cps.toList && risingS x r)=true:=h
  rw [Bool.and_eq_true] at h'
  obtain ⟨n1,n2⟩:=List.nodup_cons.mp nd
  have ih:=KO x r h'.2 n2
  have hpx:ltT p x:=jcY (by simpa using h'.1) fun z=>n1 (by rw [← jdC z];exact List.mem_cons_self)
  refine List.pairwise_cons.mpr ⟨fun y hy=>?_,ih⟩
  rcases List.mem_cons.mp hy with rfl | hy
  ·exact hpx
  ·exact lt_trans hpx ((List.pairwise_cons.mp ih).1 y hy)
theorem jbc {l:List Str} (h:sortedS l=true) (nd:l.Nodup):l.Pairwise ltT:=by
 cases l with
 | nil=>exact .nil
 | cons p r=>exact KO p r h nd
theorem KW:∀ {l l':List Str},l.Pairwise ltT→l'.Pairwise ltT→(∀ x,x∈l↔x∈l')→l=l'
 | [],[],_,_,_=>rfl
 | [],y :: _,_,_,h=>by have:=(h y).mpr List.mem_cons_self;cases this
 | x :: _,[],_,_,h=>by have:=(h x).mp List.mem_cons_self;cases this
 | x :: l,y :: l',h1,h2,h=>by
  obtain ⟨a1,a2⟩:=List.pairwise_cons.mp h1
  obtain ⟨b1,b2⟩:=List.pairwise_cons.mp h2
  have irr:∀ z:Str,¬ ltT z z:=fun z hz=>by have:=jfw z.cps.toList;unfold ltT at hz;rw [this] at hz;cases hz
  have e:x=y:=by
   rcases List.mem_cons.mp ((h x).mp List.mem_cons_self) with e | hx
   ·exact e
   rcases List.mem_cons.mp ((h y).mpr List.mem_cons_self) with e | hy
   ·exact e.symm
   ·exact absurd (lt_trans (b1 x hx) (a1 y hy)) (irr y)
  subst e
  congr 1
  refine KW a2 b2 fun z=>⟨fun hz=>?_,fun hz=>?_⟩
  ·rcases List.mem_cons.mp ((h z).mp (List.mem_cons_of_mem _ hz)) with rfl | g
   ·exact absurd (a1 _ hz) (irr _)
   ·exact g
  ·rcases List.mem_cons.mp ((h z).mpr (List.mem_cons_of_mem _ hz)) with rfl | g
   ·exact absurd (b1 _ hz) (irr _)
   ·exact g
end L2
namespace LW
open PySem L2
abbrev qM:Stmt:=top 6
structure Pc where
 f:Str
 ps:List Str
 rs:List Str
 nd:List Cl
 gv:List Cl
 lv:Nat
 bd:List (StN lv)
def Pc.toD (p:Pc):D:=.tup [.str "proc",.str p.f,.tup (p.ps.map D.str),.tup (p.rs.map D.str),.tup (p.nd.map Cl.toD),.tup (p.gv.map Cl.toD),.tup (p.bd.map (stD p.lv))]
def Pc.named (p:Pc):List Str:=(p.nd++p.gv).flatMap Cl.ns++(jT p.lv p.bd).flatMap Nd.ns
def qN (rs:List Str) (x:Str):Bool:=!decide (x=("" : Str)) && !decide (x∈rs)
def Pc.others (p:Pc):List Str:=p.named.filter (qN p.rs)
structure PcOk (p:Pc):Prop where
 nd:p.nd.length≤20
 gv:p.gv.length≤20
 bd:(jT p.lv p.bd).length≤100
 nm:p.named.length≤420
 few:(dedupS p.others).length+(dedupS p.ps).length≤14
 ps:p.ps.length≤100
 sm:∀ N∈jT p.lv p.bd,N.few
theorem J3 {H:Hp} {p:Pc} {v:V} (h:Held H p.toD v):∃ a ap ar an ag ab vn vg vb,v=.ref a∧H a=some (.tup [.str "proc",.str p.f,.ref ap,.ref ar,.ref an,.ref ag,.ref ab])∧H ap=some (.tup (p.ps.map V.str))∧H ar=some (.tup (p.rs.map V.str))∧H an=some (.tup vn)∧HeldL H (p.nd.map Cl.toD) vn∧H ag=some (.tup vg)∧HeldL H (p.gv.map Cl.toD) vg∧H ab=some (.tup vb)∧HeldL H (p.bd.map (stD p.lv)) vb:=by
 obtain ⟨a,xs,rfl,ha,h1⟩:=jo h
 obtain ⟨v1,r1,rfl,e1,h2⟩:=jf h1
 obtain ⟨v2,r2,rfl,e2,h3⟩:=jf h2
 obtain ⟨v3,r3,rfl,e3,h4⟩:=jf h3
 obtain ⟨v4,r4,rfl,e4,h5⟩:=jf h4
 obtain ⟨v5,r5,rfl,e5,h6⟩:=jf h5
 obtain ⟨v6,r6,rfl,e6,h7⟩:=jf h6
 obtain ⟨v7,r7,rfl,e7,h8⟩:=jf h7
 cases jz h8
 cases ju e1
 cases ju e2
 obtain ⟨ap,xp,rfl,hp,hp'⟩:=jo e3
 obtain ⟨ar,xr,rfl,hr,hr'⟩:=jo e4
 obtain ⟨an,vn,rfl,hn,hn'⟩:=jo e5
 obtain ⟨ag,vg,rfl,hg,hg'⟩:=jo e6
 obtain ⟨ab,vb,rfl,hb,hb'⟩:=jo e7
 cases kU hp'
 cases kU hr'
 exact ⟨a,ap,ar,an,ag,ab,vn,vg,vb,rfl,ha,hp,hr,hn,hn',hg,hg',hb,hb'⟩
theorem jes (l:List Cl):(l.flatMap Cl.ns).length≤3 * l.length:=by
 induction l with
 | nil=>exact Nat.zero_le _
 | cons c r ih=>rw [List.flatMap_cons,List.length_append,List.length_cons];have:=c.ns_len;omega
theorem Yy:∀ {l m:List Str},l.Nodup→(∀ x∈l,x∈m)→l.length≤m.length
 | [],_,_,_=>Nat.zero_le _
 | x :: l,m,nd,h=>by
  obtain ⟨n1,n2⟩:=List.nodup_cons.mp nd
  have hx:=h x List.mem_cons_self
  have:=Yy (m:=m.erase x) n2 fun y hy=>(List.mem_erase_of_ne (show y≠x from fun z=>n1 (by rw [← z];exact hy))).mpr (h y (List.mem_cons_of_mem _ hy))
  rw [List.length_erase_of_mem hx] at this
  have:0 < m.length:=List.length_pos_of_mem hx
  rw [List.length_cons]
  omega
def Jx (n:Nat):Sp:=fun vs H Q _=>∃ (v:V) (p:Pc),vs=[v]∧p.lv=n∧Held H p.toD v∧PcOk p∧∀ (l:Addr) (ns:List Str) (H':Hp),Same H H'→H l=none→H' l=some (.lst (ns.map V.str))→ns.Pairwise ltT→ns.length≤15→(∀ x,x∈ns↔x∈p.others∨x∈p.ps∨x = "out")→Q (.ref l) H'
section
variable {P:Program} {w:World} {K:W.Frag} {mg:Str→Option Value} {base:Heap}
theorem Yv {n:Nat} {f:Addr} {fd:FuncData} (F:Fun K "numbers_of" "numbers_of" qM f fd) (B:Free0 mg) (F_claims_numbers:Fn P w K mg base 3 "claims_numbers" ["claims"] Jb) (F_all_statements:Fn P w K mg base (n+2) "all_statements" ["body"] (Y7 n)) (F_numbers_named:Fn P w K mg base 4 "numbers_named" ["statement"] Y5):FnOk P w K mg base CX0 (n+4+1) f fd ["proc"] (Jx n):=by
 have sc:FnScope ["proc","params","rows","needs","gives","body","named","statement","others"] ["proc"] (jm qM):=fQ
 refine F.okC sc (fun vs H Q E h=>?_) (fun cdv A outer s H vs Q E hcd hr h=>?_)
 ·obtain ⟨v,p,rfl,_⟩:=h
  rfl
 obtain ⟨v,p,rfl,rfl,hv,hp,q⟩:=h
 refine ⟨_,(jd (qE (jQ qD (zpv 0) (jR jh) ki) (kH rfl (jr (jn (i:=1) sc.nd rfl oQ) (jr (jn (i:=2) sc.nd rfl oQ) (jr (jn (i:=3) sc.nd rfl oQ) (jr (jn (i:=4) sc.nd rfl oQ) (jr (jn (i:=5) sc.nd rfl oQ) kj)))))))
   (jd (jt (i:=6) sc.nd rfl oQ (jV F_claims_numbers hr (jc (js qc (zpv 3) (zpv 4)) jb)))
   (jd (kr PassesOwn.never rfl (kJ (jV F_all_statements hr (jc (zpv 5) jb))) (jn (i:=7) sc.nd rfl oQ) (ji (j6 (qC PySem.F.plainAttrs_list PySem.F.slot_list_extend PySem.F.type_list_extend zj (zpv 6) (jc (jV F_numbers_named hr (jc (zpv 7) jb)) jb)))))
   (jd (qY (i:=8) sc.nd rfl oQ ["x"] [2] rfl (kY (sc:=jm qM) (N:=["proc","params","rows","needs","gives","body","named","statement","others"]) rfl rfl (by decide +kernel)) (kJ (zpv 6)) (fun s H ex=>⟨(jn (i:=0) (show List.Nodup (["x","rows"]:List Str) by decide +kernel) rfl oQ),(zf (jam (jx jgf (zpv 0) jy (jJ _)) (YT (jx (ym (K:=K)) (zpv 0) (zpv 1) rfl))).pt),(zpv 0)⟩))
   (ji (jq (kP (yV (P:=P) (w:=w) rfl) (by rfl) B.sorted_ jbN (jc (js (jaG (P:=P) (w:=w)) (js (jaG (P:=P) (w:=w)) (yo (Kk (P:=P) (w:=w) (K:=K) rfl) (by rfl) B.set_ jdj (jc (zpv 8) jb)) (yo (JF (P:=P) (w:=w) (K:=K) rfl) (by rfl) B.set_ jdj (jc (zpv 1) jb))) (ja1 (P:=P) (w:=w) hcd)) jb)))))))),?_⟩
 refine jO (σ':=[some v,none,none,none,none,none,none,none,none]) rfl ?_
 obtain ⟨a,ap,ar,an,ag,ab,vn,vg,vb,rfl,ha,hap,har,han,hn,hag,hg,hab,hb⟩:=J3 hv
 refine ⟨_,rfl,_,rfl,a,_,rfl,SqT.of ha,(fun h=>absurd h.1 (by show ¬ (HT.sIx 7 0 (some 2)=0);decide)),fun t ht=>?_⟩
 have s1:=je ht (.tup (j8 [.str "proc",.str p.f,.ref ap,.ref ar,.ref an,.ref ag,.ref ab] (some 2) none))
 have e1:upd H t (.tup (j8 [.str "proc",.str p.f,.ref ap,.ref ar,.ref an,.ref ag,.ref ab] (some 2) none)) t=some (.tup [.ref ap,.ref ar,.ref an,.ref ag,.ref ab]):=ja
 generalize upd H t (.tup (j8 [.str "proc",.str p.f,.ref ap,.ref ar,.ref an,.ref ag,.ref ab] (some 2) none))=H1 at *
 refine ⟨t,_,rfl,SqT.of e1,rfl,_,_,rfl,_,_,rfl,_,_,rfl,_,_,rfl,_,_,rfl,rfl,?_⟩
 refine jO (σ':=[some (.ref a),some (.ref ap),some (.ref ar),some (.ref an),some (.ref ag),some (.ref ab),none,none,none]) rfl ?_
 refine ⟨_,rfl,_,rfl,an,ag,_,_,rfl,rfl,s1 _ _ han,s1 _ _ hag,?_,fun t2 H2 s2 ht2=>?_⟩
 ·have l1:=hn.length;have l2:=hg.length
  rw [List.length_map] at l1 l2
  have:=hp.nd;have:=hp.gv
  exact j4 (by omega)
 have s12:=s1.trans s2
 refine ⟨t2,_,p.nd++p.gv,rfl,ht2,by rw [List.map_append];exact jK (hn.mono s12) (hg.mono s12),by rw [List.length_append];have:=hp.nd;have:=hp.gv;omega,fun l H3 s3 n3 e3=>?_⟩
 have s13:=s12.trans s3
 refine gQ ?_
 refine ⟨_,rfl,ab,vb,p.bd,rfl,s13 _ _ hab,hb.mono s13,by have:=hp.bd;omega,fun l2 vb H4 s4 n4 e4 hb=>?_⟩
 have e3':=s4 _ _ e3
 have s14:=s13.trans s4
 have hl:H l=none:=s12.free n3
 have ne2:l2≠l:=fun z=>by rw [z] at n4;rw [e3] at n4;cases n4
 have hbl:=hb.length
 rw [List.length_map] at hbl
 have hb40:=hp.bd
 have hn20:=hp.nd
 have hg20:=hp.gv
 have hcl:=jes (p.nd++p.gv)
 rw [List.length_append] at hcl
 refine ⟨l2,rfl,⟨_,SqL.of e4⟩,?_⟩
 refine yP (xs:=vb) (fun i σ G=>∃ u7,σ=[some (.ref a),some (.ref ap),some (.ref ar),some (.ref an),some (.ref ag),some (.ref ab),some (.ref l),u7,none]∧Same H G∧TK H4 G∧G l2=some (.lst vb)∧G l=some (.lst (((p.nd++p.gv).flatMap Cl.ns++((jT p.lv p.bd).take i).flatMap Nd.ns).map V.str))) ⟨none,rfl,s14,(fun _ _ e=>e),e4,by rw [e3'];simp⟩ ?_ ?_ ?_
 ·rintro i σ G _ ⟨u7,rfl,sG,tkG,hG2,_⟩
  exact SqL.of hG2
 ·rintro i x σ G hx ⟨u7,rfl,sG,tkG,hG2,hG⟩
  have hi:i < (jT p.lv p.bd).length:=by have:=(List.getElem?_eq_some_iff.mp hx).1;omega
  obtain ⟨x',hx',hxH⟩:=hb.get (show ((jT p.lv p.bd).map Nd.toD)[i]?=some (jT p.lv p.bd)[i].toD by rw [List.getElem?_map,List.getElem?_eq_getElem hi];rfl)
  rw [hx] at hx'
  cases hx'
  have hnm:=hp.nm
  have hfl:=qQ Nd.ns (jT p.lv p.bd) (i+1)
  have etk:(jT p.lv p.bd).take (i+1)=(jT p.lv p.bd).take i++[(jT p.lv p.bd)[i]]:=by rw [List.take_succ,List.getElem?_eq_getElem hi];rfl
  rw [etk,List.flatMap_append,List.length_append,List.flatMap_cons,List.flatMap_nil,List.append_nil] at hfl
  unfold Pc.named at hnm
  rw [List.length_append] at hnm
  refine gQ ?_
  refine ⟨_,rfl,.inl ⟨rfl,_,SqL.of hG⟩,_,rfl,x,(jT p.lv p.bd)[i],rfl,tkG.held hxH,hp.sm _ (List.getElem_mem hi),fun l3 G2 s5 n5 e5=>?_⟩
  have hGl:=s5 _ _ hG
  refine ⟨l,l3,_,_,rfl,rfl,hGl,e5,Nat.le_trans (by rw [List.length_map,List.length_map,List.length_append];omega) (j4 (Nat.le_refl 1000)),?_⟩
  refine ⟨_,rfl,fun b o e=>?_,fun b o e=>(TK.upd hGl (fun _ z=>by cases z)) _ _ (s5 _ _ (tkG _ _ e)),?_,?_⟩
  ·rw [jl (jk e hl)];exact s5 _ _ (sG _ _ e)
  ·rw [jl ne2];exact s5 _ _ hG2
  ·rw [ja,etk]
   simp only [List.flatMap_append,List.flatMap_cons,List.flatMap_nil,List.append_nil,List.map_append,List.append_assoc]
 rintro σ G ⟨u7,rfl,sG,tkG,hG2,hG⟩
 have et:(jT p.lv p.bd).take vb.length=jT p.lv p.bd:=by rw [← hbl,List.take_length]
 rw [et] at hG
 have eN:(p.nd++p.gv).flatMap Cl.ns++(jT p.lv p.bd).flatMap Nd.ns=p.named:=rfl
 rw [eN] at hG
 have hnl:p.named.length≤420:=hp.nm
 refine ⟨_,rfl,l,rfl,⟨_,SqL.of hG⟩,fun pp hpp=>?_⟩
 have s6:=je hpp (.lst [])
 refine ql (xs:=p.named.map V.str) (fun i σ' G'=>∃ u,σ'=[u,some (.ref ar)]∧Same G G'∧G' pp=some (.lst (((p.named.take i).filter (qN p.rs)).map V.str))) ⟨none,rfl,s6,ja⟩ ?_ ?_ ?_
 ·rintro i σ' G' _ ⟨u,rfl,sG',_⟩
  exact SqL.of (sG' _ _ hG)
 ·rintro i x σ' G' hx ⟨u,rfl,sG',hGp⟩
  have hi:i < p.named.length:=by
   have:=(List.getElem?_eq_some_iff.mp hx).1
   rw [List.length_map] at this
   exact this
  rw [List.getElem?_map,List.getElem?_eq_getElem hi] at hx
  cases hx
  have hfl:((p.named.take i).filter (qN p.rs)).length≤420:=by
   have:=List.length_filter_le (qN p.rs) (p.named.take i)
   rw [List.length_take] at this
   omega
  have et:(p.named.take (i+1)).filter (qN p.rs)=(p.named.take i).filter (qN p.rs)++(if qN p.rs p.named[i]=true then [p.named[i]] else []):=by
   rw [List.take_succ,List.getElem?_eq_getElem hi,List.filter_append]
   congr 1
   show List.filter _ [p.named[i]]=_
   rw [List.filter_cons]
   rfl
  unfold qe
  have eS:∀ x:Str,decide (V.str x=V.str ("" : Str))=decide (x=("" : Str)):=fun x=>by
   by_cases h:x=("" : Str)
   ·rw [decide_eq_true h,decide_eq_true (congrArg V.str h)]
   ·rw [decide_eq_false h,decide_eq_false (fun z=>h (by injection z))]
  refine ⟨_,rfl,rfl,_,rfl,jL (fun d1=>?_) (fun d1=>?_)⟩
  ·rw [eS] at d1
   refine ⟨_,rfl,_,rfl,ar,p.rs.map V.str,rfl,.inr (SqT.of (sG' _ _ (sG _ _ har))),rfl,Jp _,_,rfl,jL (fun d2=>?_) (fun d2=>?_)⟩
   ·have d2':(!inV (.str p.named[i]) (p.rs.map V.str))=true:=d2
    rw [zU] at d2'
    have ek:qN p.rs p.named[i]=true:=by unfold qN;rw [d1,d2'];rfl
    refine ⟨_,rfl,_,hGp,jA (by rw [List.length_map];omega),_,rfl,fun z o e=>?_,?_⟩
    ·rw [jl (jk e hpp)];exact sG' _ _ e
    ·rw [ja,et,if_pos ek,List.map_append];rfl
   ·have d2':¬ (!inV (.str p.named[i]) (p.rs.map V.str))=true:=d2
    rw [zU] at d2'
    have ek:¬ qN p.rs p.named[i]=true:=by unfold qN;rw [d1];exact d2'
    exact ⟨_,rfl,sG',by rw [et,if_neg ek,List.append_nil];exact hGp⟩
  ·rw [eS] at d1
   have ek:¬ qN p.rs p.named[i]=true:=fun z=>d1 (by unfold qN at z;rw [Bool.and_eq_true] at z;exact z.1)
   exact jfB ⟨_,rfl,sG',by rw [et,if_neg ek,List.append_nil];exact hGp⟩
 rintro σ' G6 ⟨u,rfl,sG6,hG6⟩
 rw [List.length_map,List.take_length] at hG6
 have eO:(p.named.filter (qN p.rs))=p.others:=rfl
 rw [eO] at hG6
 have hol:p.others.length≤420:=Nat.le_trans (List.length_filter_le _ _) hnl
 obtain ⟨d1,_,d2⟩:=zm p.others
 obtain ⟨d3,_,d4⟩:=zm p.ps
 have hfew:=hp.few
 have hps:=hp.ps
 have sAll:Same H G6:=sG.trans sG6
 refine gQ ?_
 refine ⟨_,rfl,pp,p.others,rfl,SqL.of hG6,by omega,fun v1 hv1=>?_⟩
 have s7:=je hv1 (kz P w v1 (dedupS p.others))
 have e7:upd G6 v1 (kz P w v1 (dedupS p.others)) v1=some (kz P w v1 (dedupS p.others)):=ja
 generalize upd G6 v1 (kz P w v1 (dedupS p.others))=G7 at *
 refine ⟨_,rfl,ap,p.ps,rfl,SqT.of (s7 _ _ (sAll _ _ hap)),by omega,fun v2 hv2=>?_⟩
 have s8:=je hv2 (kz P w v2 (dedupS p.ps))
 have e8:upd G7 v2 (kz P w v2 (dedupS p.ps)) v2=some (kz P w v2 (dedupS p.ps)):=ja
 generalize upd G7 v2 (kz P w v2 (dedupS p.ps))=G8 at *
 refine ⟨v1,v2,_,_,rfl,rfl,s8 _ _ e7,e8,d1,d3,by omega,fun v3 τ3 hv3 n3' m3=>?_⟩
 have s9:=je hv3 (kz P w v3 τ3)
 have e9:upd G8 v3 (kz P w v3 τ3) v3=some (kz P w v3 τ3):=ja
 generalize upd G8 v3 (kz P w v3 τ3)=G9 at *
 intro v4 hv4
 have s10:=je hv4 (kz P w v4 ["out"])
 have e10:upd G9 v4 (kz P w v4 ["out"]) v4=some (kz P w v4 ["out"]):=ja
 generalize upd G9 v4 (kz P w v4 ["out"])=G10 at *
 have l3:τ3.length≤14:=by
  have:=Yy (m:=dedupS p.others++dedupS p.ps) n3' (fun x hx=>List.mem_append.mpr ((m3 x).mp hx))
  rw [List.length_append] at this
  omega
 refine ⟨v3,v4,_,_,rfl,rfl,s10 _ _ e9,e10,n3',by simp,by show τ3.length+1≤15;omega,fun v5 τ5 hv5 n5 m5=>?_⟩
 have s11:=je hv5 (kz P w v5 τ5)
 have e11:upd G10 v5 (kz P w v5 τ5) v5=some (kz P w v5 τ5):=ja
 generalize upd G10 v5 (kz P w v5 τ5)=G11 at *
 have l5:τ5.length≤15:=by
  have:=Yy (m:=τ3++([("out" : Str)]:List Str)) n5 (fun x hx=>List.mem_append.mpr ((m5 x).mp hx))
  rw [List.length_append] at this
  exact Nat.le_trans this (by show τ3.length+1≤15;omega)
 refine ⟨v5,τ5,rfl,e11,by omega,fun l9 ns hl9 hperm hsort=>?_⟩
 have sT:Same H G11:=sAll.trans (s7.trans (s8.trans (s9.trans (s10.trans s11))))
 refine q l9 ns _ (sT.trans (je hl9 _)) (sT.free hl9) ja (jbc hsort (hperm.nodup_iff.mpr n5)) (by rw [hperm.length_eq];exact l5) fun x=>?_
 rw [hperm.mem_iff,m5,m3,d2,d4,List.mem_singleton,or_assoc]
end
abbrev qt:Stmt:=top 27
abbrev zN:Stmt:=top 28
abbrev qU:Stmt:=top 26
abbrev qw:Stmt:=top 29
def JK (x:Str):D:=.tup [.str "set",.str x,.tup [.str "is",.str ""],.int 0]
def jD (C:Cl):D:=.tup [.str "know",C.toD]
def Pc.wayD (p:Pc) (ns:List Str):List D:=(ns.filter fun x=>!decide (x∈p.ps)).map JK++p.nd.map jD
structure NumsOf (p:Pc) (ns:List Str):Prop where
 up:ns.Pairwise ltT
 few:ns.length≤15
 mem:∀ x,x∈ns↔x∈p.others∨x∈p.ps∨x = "out"
def Y4:Sp:=fun vs H Q _=>∃ x:Str,vs=[.str x]∧∀ u H',Same H H'→Held H' (JK x) u→Q u H'
def JH:Sp:=fun vs H Q _=>∃ (a:Addr) (us:List V) (Cs:List Cl),vs=[.ref a]∧H a=some (.tup us)∧HeldL H (Cs.map Cl.toD) us∧Cs.length≤100∧∀ l ks H',Same H H'→H l=none→H' l=some (.lst ks)→HeldL H' (Cs.map jD) ks→Q (.ref l) H'
def zJ:Sp:=fun vs H Q _=>∃ (a:Addr) (us:List V) (Cs:List Cl),vs=[.ref a]∧H a=some (.lst us)∧HeldL H (Cs.map Cl.toD) us∧Cs.length≤100∧∀ l ks H',Same H H'→H l=none→H' l=some (.lst ks)→HeldL H' (Cs.map jD) ks→Q (.ref l) H'
def jay (n:Nat):Sp:=fun vs H Q _=>∃ (v:V) (p:Pc),vs=[v]∧p.lv=n∧Held H p.toD v∧PcOk p∧∀ (l:Addr) (us:List V) (ns:List Str) (H':Hp),NumsOf p ns→Same H H'→H l=none→H' l=some (.lst us)→HeldL H' (p.wayD ns) us→Q (.ref l) H'
theorem K3 {H:Hp} {t:Addr} {d e:D} {x y:V} (h:H t=some (.tup [x,y])) (h1:Held H d x) (h2:Held H e y):Held H (.tup [d,e]) (.ref t):=by
 unfold Held
 exact ⟨t,_,rfl,h,jj h1 (jj h2 jp)⟩
section
variable {P:Program} {w:World} {K:W.Frag} {mg:Str→Option Value} {base:Heap}
theorem jbl {f:Addr} {fd:FuncData} (F:Fun K "set_to_nought" "set_to_nought" qt f fd):FnOk P w K mg base CX0 1 f fd ["x"] Y4:=by
 have sc:FnScope ["x"] ["x"] (jm qt):=fQ
 refine F.okZ sc (fun vs H Q E h=>?_) (fun cdv A outer s H vs Q E hr h=>?_)
 ·obtain ⟨x,rfl,_⟩:=h
  rfl
 obtain ⟨x,rfl,q⟩:=h
 refine ⟨_,(ji (jq (zpd (jC (jg jB (jg (kD 0) (jg (jC (jg jB (jg jB jv))) (jg Jf jv)))))))),?_⟩
 exact ⟨JK x,⟨_,rfl,Nat.le_of_ble_eq_true rfl,_,_,rfl,rfl,_,_,rfl,⟨_,rfl,jG⟩,_,_,rfl,⟨_,rfl,Nat.le_of_ble_eq_true rfl,_,_,rfl,rfl,_,_,rfl,rfl,rfl⟩,_,_,rfl,rfl,rfl⟩,fun v H' s h=>q v H' s h⟩
theorem jcO {f:Addr} {fd:FuncData} (F:Fun K "known" "known" zN f fd):FnOk P w K mg base CX0 1 f fd ["claims"] JH:=by
 have sc:FnScope ["claims"] ["claims"] (jm zN):=fQ
 refine F.okZ sc (fun vs H Q E h=>?_) (fun cdv A outer s H vs Q E hr h=>?_)
 ·obtain ⟨a,us,Cs,rfl,_⟩:=h
  rfl
 obtain ⟨a,us,Cs,rfl,ha,hCs,hlen,q⟩:=h
 refine ⟨_,(ji (jq (qJ ["claim"] [] rfl (kY (sc:=jm zN) (N:=["claims"]) rfl rfl (by decide +kernel)) (qq (zpv 0)) (fun s H ex=>⟨(jn (i:=0) (show List.Nodup (["claim"]:List Str) by decide +kernel) rfl oQ),qS,(jY (jc jy (jc (zpv 0) jb)))⟩)))),?_⟩
 refine jO (σ':=[some (.ref a)]) rfl ?_
 have hul:=hCs.length
 rw [List.length_map] at hul
 refine ⟨_,rfl,a,rfl,⟨_,SqT.of ha⟩,fun l hl=>?_⟩
 refine yS (xs:=us) (fun i σ' G=>∃ u ks,σ'=[u]∧Same H G∧G l=some (.lst ks)∧HeldL G ((Cs.take i).map jD) ks) ⟨none,[],rfl,je hl _,ja,jp⟩ ?_ ?_ ?_
 ·rintro i σ' G _ ⟨u,ks,rfl,sG,_⟩
  exact SqT.of (sG _ _ ha)
 ·rintro i x σ' G hx ⟨u,ks,rfl,sG,hG,hk⟩
  have hi:i < Cs.length:=by have:=(List.getElem?_eq_some_iff.mp hx).1;omega
  obtain ⟨x',hx',hxH⟩:=hCs.get (show (Cs.map Cl.toD)[i]?=some Cs[i].toD by rw [List.getElem?_map,List.getElem?_eq_getElem hi];rfl)
  rw [hx] at hx'
  cases hx'
  have hkl:=hk.length
  rw [List.length_map,List.length_take] at hkl
  unfold qe Yi
  refine YE ?_
  refine ⟨_,rfl,sm rfl,fun t ht=>?_⟩
  have s2:=je ht (.tup [V.str "know",x])
  have e2:upd G t (.tup [V.str "know",x]) t=some (.tup [V.str "know",x]):=ja
  generalize upd G t (.tup [V.str "know",x])=G2 at *
  have hG2:=s2 _ _ hG
  have tk:TK G2 (upd G2 l (.lst (ks++[.ref t]))):=TK.upd hG2 (fun _ z=>by cases z)
  refine ⟨ks,hG2,jA (by omega),_,_,rfl,fun b o e=>?_,ja,?_⟩
  ·rw [jl (jk e hl)];exact s2 _ _ (sG _ _ e)
  ·rw [show Cs.take (i+1)=Cs.take i++[Cs[i]] by rw [List.take_succ,List.getElem?_eq_getElem hi];rfl,List.map_append]
   exact jK (tk.heldL (hk.mono s2)) (jj (tk.held (K3 (d:=.str "know") (e:=Cs[i].toD) e2 jG (hxH.mono (sG.trans s2)))) jp)
 rintro σ' G ⟨u,ks,rfl,sG,hG,hk⟩
 rw [show Cs.take us.length=Cs by rw [← hul,List.take_length]] at hk
 exact q l ks G sG hl hG hk
theorem KR {f:Addr} {fd:FuncData} (F:Fun K "known" "known" zN f fd):FnOk P w K mg base CX0 1 f fd ["claims"] zJ:=by
 have sc:FnScope ["claims"] ["claims"] (jm zN):=fQ
 refine F.okZ sc (fun vs H Q E h=>?_) (fun cdv A outer s H vs Q E hr h=>?_)
 ·obtain ⟨a,us,Cs,rfl,_⟩:=h
  rfl
 obtain ⟨a,us,Cs,rfl,ha,hCs,hlen,q⟩:=h
 refine ⟨_,(ji (jq (qJ ["claim"] [] rfl (kY (sc:=jm zN) (N:=["claims"]) rfl rfl (by decide +kernel)) (kJ (zpv 0)) (fun s H ex=>⟨(jn (i:=0) (show List.Nodup (["claim"]:List Str) by decide +kernel) rfl oQ),qS,(jY (jc jy (jc (zpv 0) jb)))⟩)))),?_⟩
 refine jO (σ':=[some (.ref a)]) rfl ?_
 have hul:=hCs.length
 rw [List.length_map] at hul
 refine ⟨_,rfl,a,rfl,⟨_,SqL.of ha⟩,fun l hl=>?_⟩
 refine ql (xs:=us) (fun i σ' G=>∃ u ks,σ'=[u]∧Same H G∧G l=some (.lst ks)∧HeldL G ((Cs.take i).map jD) ks) ⟨none,[],rfl,je hl _,ja,jp⟩ ?_ ?_ ?_
 ·rintro i σ' G _ ⟨u,ks,rfl,sG,_⟩
  exact SqL.of (sG _ _ ha)
 ·rintro i x σ' G hx ⟨u,ks,rfl,sG,hG,hk⟩
  have hi:i < Cs.length:=by have:=(List.getElem?_eq_some_iff.mp hx).1;omega
  obtain ⟨x',hx',hxH⟩:=hCs.get (show (Cs.map Cl.toD)[i]?=some Cs[i].toD by rw [List.getElem?_map,List.getElem?_eq_getElem hi];rfl)
  rw [hx] at hx'
  cases hx'
  have hkl:=hk.length
  rw [List.length_map,List.length_take] at hkl
  unfold qe Yi
  refine YE ?_
  refine ⟨_,rfl,sm rfl,fun t ht=>?_⟩
  have s2:=je ht (.tup [V.str "know",x])
  have e2:upd G t (.tup [V.str "know",x]) t=some (.tup [V.str "know",x]):=ja
  generalize upd G t (.tup [V.str "know",x])=G2 at *
  have hG2:=s2 _ _ hG
  have tk:TK G2 (upd G2 l (.lst (ks++[.ref t]))):=TK.upd hG2 (fun _ z=>by cases z)
  refine ⟨ks,hG2,jA (by omega),_,_,rfl,fun b o e=>?_,ja,?_⟩
  ·rw [jl (jk e hl)];exact s2 _ _ (sG _ _ e)
  ·rw [show Cs.take (i+1)=Cs.take i++[Cs[i]] by rw [List.take_succ,List.getElem?_eq_getElem hi];rfl,List.map_append]
   exact jK (tk.heldL (hk.mono s2)) (jj (tk.held (K3 (d:=.str "know") (e:=Cs[i].toD) e2 jG (hxH.mono (sG.trans s2)))) jp)
 rintro σ' G ⟨u,ks,rfl,sG,hG,hk⟩
 rw [show Cs.take us.length=Cs by rw [← hul,List.take_length]] at hk
 exact q l ks G sG hl hG hk
theorem jcQ {n:Nat} {f:Addr} {fd:FuncData} (F:Fun K "first_way" "first_way" qU f fd) (F_numbers_of:Fn P w K mg base (n+4+1) "numbers_of" ["proc"] (Jx n)) (F_set_to_nought:Fn P w K mg base 1 "set_to_nought" ["x"] Y4) (F_known:Fn P w K mg base 1 "known" ["claims"] JH):FnOk P w K mg base CX0 (n+5+1) f fd ["proc"] (jay n):=by
 have sc:FnScope ["proc","params","needs"] ["proc"] (jm qU):=fQ
 refine F.okZ sc (fun vs H Q E h=>?_) (fun cdv A outer s H vs Q E hr h=>?_)
 ·obtain ⟨v,p,rfl,_⟩:=h
  rfl
 obtain ⟨v,p,rfl,rfl,hv,hp,q⟩:=h
 refine ⟨_,(jd (qE (jY (jc (jw jF (zpv 0) jh (fun _ _=>rfl)) (jc (jw jF (zpv 0) jh (fun _ _=>rfl)) jb))) (kH rfl (jr (jn (i:=1) sc.nd rfl oQ) (jr (jn (i:=2) sc.nd rfl oQ) kj))))
   (ji (jq (js qO (qJ ["x"] [1] rfl (kY (sc:=jm qU) (N:=["proc","params","needs"]) rfl rfl (by decide +kernel)) (kJ (jV F_numbers_of hr (jc (zpv 0) jb))) (fun s H ex=>⟨(jn (i:=0) (show List.Nodup (["x","params"]:List Str) by decide +kernel) rfl oQ),(zf (jx (ym (K:=K)) (zpv 0) (zpv 1) rfl)),(jV F_set_to_nought hr (jc (zpv 0) jb))⟩)) (jV F_known hr (jc (zpv 2) jb)))))),?_⟩
 refine jO (σ':=[some v,none,none]) rfl ?_
 obtain ⟨a,ap,ar,an,ag,ab,vn,vg,vb,rfl,ha,hap,har,han,hn,hag,hg,hab,hb⟩:=J3 hv
 refine ⟨_,rfl,a,_,_,_,rfl,rfl,SqT.of ha,rfl,_,rfl,a,_,_,_,rfl,rfl,SqT.of ha,rfl,sm rfl,fun t ht=>?_⟩
 have s1:=je ht (.tup [.ref ap,.ref an])
 have e1:upd H t (.tup [.ref ap,.ref an]) t=some (.tup [.ref ap,.ref an]):=ja
 generalize upd H t (.tup [.ref ap,.ref an])=H1 at *
 refine ⟨t,_,rfl,SqT.of e1,rfl,_,_,rfl,_,_,rfl,rfl,?_⟩
 refine jO (σ':=[some (.ref a),some (.ref ap),some (.ref an)]) rfl ?_
 refine ⟨_,rfl,.ref a,p,rfl,rfl,hv.mono s1,hp,fun l ns H2 s2 n2 e2 up few mem=>?_⟩
 have s12:=s1.trans s2
 refine ⟨l,rfl,⟨_,SqL.of e2⟩,fun pp hpp=>?_⟩
 refine ql (xs:=ns.map V.str) (fun i σ' G=>∃ u ks,σ'=[u,some (.ref ap)]∧Same H2 G∧G pp=some (.lst ks)∧HeldL G (((ns.take i).filter fun x=>!decide (x∈p.ps)).map JK) ks) ⟨none,[],rfl,je hpp _,ja,jp⟩ ?_ ?_ ?_
 ·rintro i σ' G _ ⟨u,ks,rfl,sG,_⟩
  exact SqL.of (sG _ _ e2)
 ·rintro i x σ' G hx ⟨u,ks,rfl,sG,hG,hk⟩
  have hi:i < ns.length:=by
   have:=(List.getElem?_eq_some_iff.mp hx).1
   rw [List.length_map] at this
   exact this
  rw [List.getElem?_map,List.getElem?_eq_getElem hi] at hx
  cases hx
  have et:(ns.take (i+1)).filter (fun x=>!decide (x∈p.ps))=(ns.take i).filter (fun x=>!decide (x∈p.ps))++(if (!decide (ns[i]∈p.ps))=true then [ns[i]] else []):=by
   rw [List.take_succ,List.getElem?_eq_getElem hi,List.filter_append]
   congr 1
   show List.filter _ [ns[i]]=_
   rw [List.filter_cons]
   rfl
  have hkl:=hk.length
  rw [List.length_map] at hkl
  have hfl:=List.length_filter_le (fun x=>!decide (x∈p.ps)) (ns.take i)
  rw [List.length_take] at hfl
  unfold qe
  refine ⟨_,rfl,_,rfl,ap,p.ps.map V.str,rfl,.inr (SqT.of (sG _ _ (s12 _ _ hap))),rfl,Jp _,_,rfl,jL (fun d2=>?_) (fun d2=>?_)⟩
  ·have d2':(!inV (.str ns[i]) (p.ps.map V.str))=true:=d2
   rw [zU] at d2'
   refine ⟨_,rfl,_,rfl,fun z G2 s3 hz=>?_⟩
   have hG2:=s3 _ _ hG
   have tk:TK G2 (upd G2 pp (.lst (ks++[z]))):=TK.upd hG2 (fun _ z=>by cases z)
   refine ⟨ks,hG2,jA (by omega),_,_,rfl,fun b o e=>?_,ja,?_⟩
   ·rw [jl (jk e hpp)];exact s3 _ _ (sG _ _ e)
   ·rw [et,if_pos d2',List.map_append]
    exact jK (tk.heldL (hk.mono s3)) (jj (tk.held hz) jp)
  ·have d2':¬ (!inV (.str ns[i]) (p.ps.map V.str))=true:=d2
   rw [zU] at d2'
   exact ⟨_,ks,rfl,sG,hG,by rw [et,if_neg d2',List.append_nil];exact hk⟩
 rintro σ' G ⟨u,ks,rfl,sG,hG,hk⟩
 rw [List.length_map,List.take_length] at hk
 have s1G:=s12.trans sG
 refine ⟨_,rfl,an,vn,p.nd,rfl,s1G _ _ han,hn.mono s1G,by have:=hp.nd;omega,fun l2 ks2 H4 s4 n4 e4 hk2=>?_⟩
 have hkl:=hk.length
 have hkl2:=hk2.length
 rw [List.length_map] at hkl hkl2
 have hfl:=List.length_filter_le (fun x=>!decide (x∈p.ps)) ns
 refine ⟨pp,l2,ks,ks2,rfl,rfl,s4 _ _ hG,e4,Nat.le_trans (by have:=hp.nd;omega) (j4 (Nat.le_refl 1000)),fun l3 hl3=>?_⟩
 have s5:=je hl3 (.lst (ks++ks2))
 exact q l3 _ ns _ ⟨up,few,mem⟩ (s1G.trans (s4.trans s5)) (s1G.free (s4.free hl3)) ja (jK (hk.mono (s4.trans s5)) (hk2.mono s5))
end
abbrev qF:Stmt:=jen (top 22) 0
abbrev KN:Stmt:=top 30
structure ClsW (K:W.Frag) (C:Addr):Prop where
 c:Cls K C
 n1:NoAttr K C "f"
 n2:NoAttr K C "procs"
 n3:NoAttr K C "met"
def jdz (f:Str) (vp:V) (ml:Addr):List (Str×V):=[("f",.str f),("procs",vp),("met",.ref ml)]
structure Du where
 f:Str
 kind:Str
 path:List Int
 k:Int
 way:List D
 goal:Cl
def DuAt (G:Hp) (d:Du) (v:V) (wl:Addr):Prop:=∃ t pt us gv,v=.ref t∧G t=some (.tup [.str d.f,.str d.kind,.ref pt,.int d.k,.ref wl,gv])∧G pt=some (.tup (d.path.map V.int))∧G wl=some (.lst us)∧HeldL G d.way us∧Held G d.goal.toD gv
def DutsAt (G:Hp):List Du→List V→List Addr→Prop
 | [],[],[]=>True
 | d :: ds,v :: vs,wl :: wls=>DuAt G d v wl∧DutsAt G ds vs wls
 | _,_,_=>False
theorem ku {G G':Hp} {ml:Addr} {xs:List V} (k:∀ b o,b≠ml→G b=some o→G' b=some o) (h:G ml=some (.lst xs)):TK G G':=fun b ys e=>k b _ (fun z=>by rw [z,h] at e;cases e) e
theorem DuAt.keep {G G':Hp} {ml:Addr} {xs:List V} (k:∀ b o,b≠ml→G b=some o→G' b=some o) (h:G ml=some (.lst xs)) {d:Du} {v:V} {wl:Addr} (hd:DuAt G d v wl) (hn:wl≠ml):DuAt G' d v wl:=by
 obtain ⟨t,pt,us,gv,rfl,h1,h2,h3,h4,h5⟩:=hd
 have tk:=ku k h
 exact ⟨t,pt,us,gv,rfl,tk _ _ h1,tk _ _ h2,k _ _ hn h3,tk.heldL h4,tk.held h5⟩
theorem DutsAt.keep {G G':Hp} {ml:Addr} {xs:List V} (k:∀ b o,b≠ml→G b=some o→G' b=some o) (h:G ml=some (.lst xs)):∀ {ds:List Du} {vs:List V} {wls:List Addr},DutsAt G ds vs wls→ml ∉ wls→DutsAt G' ds vs wls
 | [],[],[],_,_=>trivial
 | d :: ds,v :: vs,wl :: wls,hd,hn=>⟨hd.1.keep k h (fun z=>hn (by rw [z];exact List.mem_cons_self)),DutsAt.keep k h hd.2 (fun z=>hn (List.mem_cons_of_mem _ z))⟩
 | [],[],_ :: _,hd,_=>hd.elim
 | [],_ :: _,_,hd,_=>hd.elim
 | _ :: _,[],_,hd,_=>hd.elim
 | _ :: _,_ :: _,[],hd,_=>hd.elim
theorem DutsAt.app {G:Hp}:∀ {ds ds':List Du} {vs vs':List V} {wls wls':List Addr},DutsAt G ds vs wls→DutsAt G ds' vs' wls'→DutsAt G (ds++ds') (vs++vs') (wls++wls')
 | [],_,[],_,[],_,_,h=>h
 | d :: ds,_,v :: vs,_,wl :: wls,_,hd,h=>⟨hd.1,DutsAt.app hd.2 h⟩
 | [],_,[],_,_ :: _,_,hd,_=>hd.elim
 | [],_,_ :: _,_,_,_,hd,_=>hd.elim
 | _ :: _,_,[],_,_,_,hd,_=>hd.elim
 | _ :: _,_,_ :: _,_,[],_,hd,_=>hd.elim
theorem DutsAt.len {G:Hp}:∀ {ds:List Du} {vs:List V} {wls:List Addr},DutsAt G ds vs wls→vs.length=ds.length
 | [],[],[],_=>rfl
 | d :: ds,v :: vs,wl :: wls,hd=>by rw [List.length_cons,List.length_cons,DutsAt.len hd.2]
 | [],[],_ :: _,hd=>hd.elim
 | [],_ :: _,_,hd=>hd.elim
 | _ :: _,[],_,hd=>hd.elim
 | _ :: _,_ :: _,[],hd=>hd.elim
theorem kW {G:Hp}:∀ {ds:List Du} {vs:List V} {wls:List Addr},DutsAt G ds vs wls→∀ x∈wls,G x≠none
 | [],[],[],_,x,hx=>by cases hx
 | d :: ds,v :: vs,wl :: wls,hd,x,hx=>by
  rcases List.mem_cons.mp hx with rfl | hx
  ·obtain ⟨_,_,us,_,_,_,_,h,_⟩:=hd.1
   rw [h];simp
  ·exact kW hd.2 x hx
 | [],[],_ :: _,hd,_,_=>hd.elim
 | [],_ :: _,_,hd,_,_=>hd.elim
 | _ :: _,[],_,hd,_,_=>hd.elim
 | _ :: _,_ :: _,[],hd,_,_=>hd.elim
def Jh (f kind:Str) (path:List Int) (way:List D) (Cs:List Cl):List Du:=Cs.zipIdx.map fun c=>⟨f,kind,path,c.2,way,c.1⟩
theorem KU (f kind:Str) (path:List Int) (way:List D) {Cs:List Cl} {i:Nat} (hi:i < Cs.length):Jh f kind path way (Cs.take (i+1))=Jh f kind path way (Cs.take i)++[⟨f,kind,path,i,way,Cs[i]⟩]:=by
 unfold Jh
 rw [show Cs.take (i+1)=Cs.take i++[Cs[i]] by rw [List.take_succ,List.getElem?_eq_getElem hi];rfl,List.zipIdx_append,List.map_append,List.length_take,Nat.min_eq_left (Nat.le_of_lt hi)]
 simp
theorem jcW (f kind:Str) (path:List Int) (way:List D) (Cs:List Cl):(Jh f kind path way Cs).length=Cs.length:=by unfold Jh;rw [List.length_map,List.length_zipIdx]
def jcb (CW:Addr):Sp:=fun vs H Q _=>∃ (wo dx:Addr) (f:Str) (vp:V),vs=[.ref wo,.str f,vp]∧H wo=some (.ins CW dx [])∧∀ ml H',(∀ b o,b≠wo→H b=some o→H' b=some o)→H ml=none→H' wo=some (.ins CW dx (jdz f vp ml))→H' ml=some (.lst [])→Q .non H'
def WayL (G:Hp) (ml:Addr):List (List D)→List Addr→Prop
 | [],[]=>True
 | w :: ws,a :: as=>(a≠ml∧∃ us,G a=some (.lst us)∧HeldL G w us)∧WayL G ml ws as
 | _,_=>False
theorem WayL.keep {G G':Hp} {ml:Addr} {xs:List V} (k:∀ b o,b≠ml→G b=some o→G' b=some o) (h:G ml=some (.lst xs)):∀ {ws:List (List D)} {as:List Addr},WayL G ml ws as→WayL G' ml ws as
 | [],[],_=>trivial
 | w :: ws,a :: as,hd=>by
  obtain ⟨⟨n,us,e,hh⟩,hr⟩:=hd
  exact ⟨⟨n,us,k _ _ n e,(ku k h).heldL hh⟩,WayL.keep k h hr⟩
 | [],_ :: _,hd=>hd.elim
 | _ :: _,[],hd=>hd.elim
theorem WayL.mono {G G':Hp} {ml:Addr} (s:Same G G'):∀ {ws:List (List D)} {as:List Addr},WayL G ml ws as→WayL G' ml ws as
 | [],[],_=>trivial
 | w :: ws,a :: as,hd=>by
  obtain ⟨⟨n,us,e,hh⟩,hr⟩:=hd
  exact ⟨⟨n,us,s _ _ e,hh.mono s⟩,WayL.mono s hr⟩
 | [],_ :: _,hd=>hd.elim
 | _ :: _,[],hd=>hd.elim
theorem WayL.len {G:Hp} {ml:Addr}:∀ {ws:List (List D)} {as:List Addr},WayL G ml ws as→as.length=ws.length
 | [],[],_=>rfl
 | w :: ws,a :: as,hd=>by rw [List.length_cons,List.length_cons,WayL.len hd.2]
 | [],_ :: _,hd=>hd.elim
 | _ :: _,[],hd=>hd.elim
theorem WayL.get {G:Hp} {ml:Addr}:∀ {ws:List (List D)} {as:List Addr} {i:Nat} {w:List D} {a:Addr},WayL G ml ws as→ws[i]?=some w→as[i]?=some a→a≠ml∧∃ us,G a=some (.lst us)∧HeldL G w us
 | [],[],_,_,_,_,h,_=>by simp at h
 | w :: ws,a :: as,0,_,_,hd,h,h'=>by simp at h h';subst h h';exact hd.1
 | w :: ws,a :: as,i+1,_,_,hd,h,h'=>WayL.get hd.2 (by simpa using h) (by simpa using h')
 | [],_ :: _,_,_,_,hd,_,_=>hd.elim
 | _ :: _,[],_,_,_,hd,_,_=>hd.elim
theorem WayL.app {G:Hp} {ml:Addr}:∀ {ws ws':List (List D)} {as as':List Addr},WayL G ml ws as→WayL G ml ws' as'→WayL G ml (ws++ws') (as++as')
 | [],_,[],_,_,h=>h
 | w :: ws,_,a :: as,_,hd,h=>⟨hd.1,WayL.app hd.2 h⟩
 | [],_,_ :: _,_,hd,_=>hd.elim
 | _ :: _,_,[],_,hd,_=>hd.elim
def j7 (f kind:Str) (path:List Int) (ways:List (List D)) (Cs:List Cl):List Du:=ways.flatMap fun way=>Jh f kind path way Cs
theorem kX (f kind:Str) (path:List Int) (Cs:List Cl):∀ ways:List (List D),(j7 f kind path ways Cs).length=ways.length * Cs.length
 | []=>by unfold j7;simp
 | w :: ws=>by
  have:=kX f kind path Cs ws
  unfold j7 at this ⊢
  rw [List.flatMap_cons,List.length_append,jcW,this,List.length_cons,Nat.succ_mul]
  omega
theorem J5 (f kind:Str) (path:List Int) (Cs:List Cl) {ways:List (List D)} {i:Nat} (hi:i < ways.length):j7 f kind path (ways.take (i+1)) Cs=j7 f kind path (ways.take i) Cs++Jh f kind path ways[i] Cs:=by
 unfold j7
 rw [show ways.take (i+1)=ways.take i++[ways[i]] by rw [List.take_succ,List.getElem?_eq_getElem hi];rfl,List.flatMap_append]
 simp
def yF (CW:Addr):Sp:=fun vs H Q _=>∃ (wo dx ml pt wy ca:Addr) (was:List Addr) (f kind:Str) (vp:V) (ms cs:List V) (path:List Int) (ways:List (List D)) (Cs:List Cl),vs=[.ref wo,.str kind,.ref pt,.ref wy,.ref ca]∧H wo=some (.ins CW dx (jdz f vp ml))∧H ml=some (.lst ms)∧H pt=some (.tup (path.map V.int))∧H wy=some (.lst (was.map V.ref))∧WayL H ml ways was∧H ca=some (.tup cs)∧HeldL H (Cs.map Cl.toD) cs∧wy≠ml∧ca≠ml∧ways.length≤40∧ms.length+ways.length * Cs.length≤900∧
 ∀ ms' wls H',(∀ b o,b≠ml→H b=some o→H' b=some o)→H' ml=some (.lst (ms++ms'))→DutsAt H' (j7 f kind path ways Cs) ms' wls→wls.Nodup→(∀ x∈wls,H x=none)→Q .non H'
def jav (CW:Addr):Sp:=fun vs H Q _=>∃ (wo dx ml pt wy ca:Addr) (was:List Addr) (f kind:Str) (vp:V) (ms cs:List V) (path:List Int) (ways:List (List D)) (Cs:List Cl),vs=[.ref wo,.str kind,.ref pt,.ref wy,.ref ca]∧H wo=some (.ins CW dx (jdz f vp ml))∧H ml=some (.lst ms)∧H pt=some (.tup (path.map V.int))∧H wy=some (.lst (was.map V.ref))∧WayL H ml ways was∧H ca=some (.lst cs)∧HeldL H (Cs.map Cl.toD) cs∧wy≠ml∧ca≠ml∧ways.length≤40∧ms.length+ways.length * Cs.length≤900∧
 ∀ ms' wls H',(∀ b o,b≠ml→H b=some o→H' b=some o)→H' ml=some (.lst (ms++ms'))→DutsAt H' (j7 f kind path ways Cs) ms' wls→wls.Nodup→(∀ x∈wls,H x=none)→Q .non H'
section
variable {P:Program} {w:World} {K:W.Frag} {mg:Str→Option Value} {base:Heap}
theorem jd6 {CW:Addr} {f:Addr} {fd:FuncData} (T:ClsW K CW) (F:Fun K "__init__" "Walk.__init__" qF f fd):FnOk P w K mg base CX0 1 f fd ["self","f","procs"] (jcb CW):=by
 have sc:FnScope ["self","f","procs"] ["self","f","procs"] (jm qF):=fQ
 refine F.okZ sc (fun vs H Q E h=>?_) (fun cdv A outer s H vs Q E hr h=>?_)
 ·obtain ⟨wo,dx,f,vp,rfl,_⟩:=h
  rfl
 obtain ⟨wo,dx,f,vp,rfl,hwo,q⟩:=h
 refine ⟨_,(jd (Yg (zpv 0) (zpv 1) rfl)
   (jd (Yg (zpv 0) (zpv 2) rfl)
   (ji (Yg (zpv 0) (jN jb) rfl)))),?_⟩
 refine ⟨_,rfl,_,rfl,wo,CW,dx,[],rfl,hwo,T.c,T.n1,by show 0 < 1000;decide,?_⟩
 refine ⟨_,rfl,_,rfl,wo,CW,dx,_,rfl,ja,T.c,T.n2,by show 1 < 1000;decide,?_⟩
 refine ⟨sm rfl,fun ml hml=>?_⟩
 have nm:ml≠wo:=fun z=>by rw [z,ja] at hml;cases hml
 refine ⟨_,rfl,wo,CW,dx,_,rfl,(by rw [jl (Ne.symm nm)];exact ja),T.c,T.n3,by show 2 < 1000;decide,?_⟩
 rw [jl nm,jl nm] at hml
 refine q ml _ (fun b o hb e=>?_) hml ja ?_
 ·rw [jl hb,jl (jk e hml),jl hb,jl hb];exact e
 ·rw [jl nm];exact ja
theorem jcM {CW:Addr} {f:Addr} {fd:FuncData} (T:ClsW K CW) (F:Fun K "meet" "meet" KN f fd) (B:Free0 mg) (Z_enumerate:mg "enumerate" = none):FnOk P w K mg base CX0 1 f fd ["walk","kind","path","ways","claims"] (yF CW):=by
 have sc:FnScope ["walk","kind","path","ways","claims","way","k","claim"] ["walk","kind","path","ways","claims"] (jm KN):=fQ
 refine F.okZ sc (fun vs H Q E h=>?_) (fun cdv A outer s H vs Q E hr h=>?_)
 ·obtain ⟨wo,dx,ml,pt,wy,ca,was,f,kind,vp,ms,cs,path,ways,Cs,rfl,_⟩:=h
  rfl
 obtain ⟨wo,dx,ml,pt,wy,ca,was,f,kind,vp,ms,cs,path,ways,Cs,rfl,hwo,hml,hpt,hwy,hW,hca,hCs,nwy,nca,hl40,hlen,q⟩:=h
 refine ⟨_,(ji (kr PassesOwn.never rfl (kJ (zpv 3)) (jn (i:=5) sc.nd rfl oQ) (ji (kr PassesOwn.never rfl (Ja (by rfl) Z_enumerate (jc (zpv 4) jb)) (kH rfl (jr (jn (i:=6) sc.nd rfl oQ) (jr (jn (i:=7) sc.nd rfl oQ) kj))) (ji (j6 (qC PySem.F.plainAttrs_list PySem.F.slot_list_append PySem.F.type_list_append kO (zq (zpv 0) rfl) (jc (jY (jc (zq (zpv 0) rfl) (jc (zpv 1) (jc (zpv 2) (jc (zpv 6) (jc (yo zD (by rfl) B.list_ JP (jc (zpv 5) jb)) (jc (zpv 7) jb))))))) jb)))))))),?_⟩
 refine jO (σ':=[some (.ref wo),some (.str kind),some (.ref pt),some (.ref wy),some (.ref ca),none,none,none]) rfl ?_
 have ncl:=hCs.length
 rw [List.length_map] at ncl
 have lwa:=hW.len
 have nwo:wo≠ml:=fun z=>by rw [z,hml] at hwo;cases hwo
 have npt:pt≠ml:=fun z=>by rw [z,hml] at hpt;cases hpt
 have tk0:∀ {G:Hp},(∀ b o,b≠ml→H b=some o→G b=some o)→TK H G:=fun k=>ku k hml
 refine ⟨_,rfl,wy,rfl,⟨_,SqL.of hwy⟩,?_⟩
 refine yP (xs:=was.map V.ref) (fun i σ G=>∃ u5 u6 u7 ms' wls,σ=[some (.ref wo),some (.str kind),some (.ref pt),some (.ref wy),some (.ref ca),u5,u6,u7]∧(∀ b o,b≠ml→H b=some o→G b=some o)∧G ml=some (.lst (ms++ms'))∧DutsAt G (j7 f kind path (ways.take i) Cs) ms' wls∧wls.Nodup∧∀ x∈wls,H x=none) ⟨none,none,none,[],[],rfl,fun _ _ _ e=>e,by rw [List.append_nil];exact hml,by rw [List.take_zero];trivial,List.nodup_nil,fun _ z=>by cases z⟩ ?_ ?_ ?_
 ·rintro i σ G _ ⟨u5,u6,u7,ms',wls,rfl,kG,_⟩
  exact SqL.of (kG _ _ nwy hwy)
 ·rintro i x σ G hx ⟨u5,u6,u7,ms0,wls0,rfl,kG,hG,hD0,hnd,hnew⟩
  have hiw:i < was.length:=by have:=(List.getElem?_eq_some_iff.mp hx).1;rw [List.length_map] at this;exact this
  have hi:i < ways.length:=by omega
  rw [List.getElem?_map,List.getElem?_eq_getElem hiw] at hx
  cases hx
  obtain ⟨nwl,us,hwl,hway⟩:=hW.get (List.getElem?_eq_getElem hi) (List.getElem?_eq_getElem hiw)
  have ld0:=hD0.len
  rw [kX,List.length_take,Nat.min_eq_left (Nat.le_of_lt hi)] at ld0
  have hb0:ms0.length+Cs.length≤ways.length * Cs.length:=by
   rw [ld0,← Nat.succ_mul]
   exact Nat.mul_le_mul_right _ hi
  rw [J5 f kind path Cs hi]
  generalize was[i]=wl at *
  generalize ways[i]=way at *
  generalize j7 f kind path (ways.take i) Cs=ds0 at *
  refine gQ ?_
  refine ⟨_,rfl,ca,rfl,⟨_,SqT.of (kG _ _ nca hca)⟩,?_⟩
  refine Jo (xs:=cs) (fun j σ G=>∃ u6 u7 ms' wls,σ=[some (.ref wo),some (.str kind),some (.ref pt),some (.ref wy),some (.ref ca),some (.ref wl),u6,u7]∧(∀ b o,b≠ml→H b=some o→G b=some o)∧G ml=some (.lst (ms++ms'))∧ms'.length=ms0.length+j∧DutsAt G (ds0++Jh f kind path way (Cs.take j)) ms' wls∧wls.Nodup∧∀ x∈wls,H x=none) ⟨u6,u7,ms0,wls0,rfl,kG,hG,rfl,by rw [List.take_zero,show Jh f kind path way []=[] from rfl,List.append_nil];exact hD0,hnd,hnew⟩ ?_ ?_ ?_
  ·rintro j σ G _ ⟨u6,u7,ms',wls,rfl,kG,_⟩
   exact SqT.of (kG _ _ nca hca)
  ·clear hG hD0 hnd hnew kG
   rintro j y σ G t hy ⟨u6,u7,ms',wls,rfl,kG,hG,lms',hD,hnd,hnew⟩ ht
   have hj:j < Cs.length:=by have:=(List.getElem?_eq_some_iff.mp hy).1;omega
   obtain ⟨y',hy',hyH⟩:=hCs.get (show (Cs.map Cl.toD)[j]?=some Cs[j].toD by rw [List.getElem?_map,List.getElem?_eq_getElem hj];rfl)
   rw [hy] at hy'
   cases hy'
   have s1:=je ht (.tup [V.int j,y])
   have e1:upd G t (.tup [V.int j,y]) t=some (.tup [V.int j,y]):=ja
   generalize upd G t (.tup [V.int j,y])=G1 at *
   refine ⟨t,_,rfl,SqT.of e1,rfl,_,_,rfl,_,_,rfl,rfl,?_⟩
   refine jO (σ':=[some (.ref wo),some (.str kind),some (.ref pt),some (.ref wy),some (.ref ca),some (.ref wl),some (.int j),some y]) rfl ?_
   have k1:∀ b o,b≠ml→H b=some o→G1 b=some o:=fun b o hb e=>s1 _ _ (kG b o hb e)
   have hG1:=s1 _ _ hG
   refine ⟨_,rfl,wo,CW,dx,_,_,rfl,k1 _ _ nwo hwo,T.c,T.n3,rfl,.inl ⟨rfl,_,SqL.of hG1⟩,?_⟩
   refine ⟨_,rfl,wo,CW,dx,_,_,rfl,k1 _ _ nwo hwo,T.c,T.n1,rfl,_,rfl,_,rfl,_,rfl,_,rfl,wl,us,rfl,.inl (SqL.of (k1 _ _ nwl hwl)),fun nl hnl=>?_⟩
   have s2:=je hnl (.lst us)
   have e2:upd G1 nl (.lst us) nl=some (.lst us):=ja
   generalize upd G1 nl (.lst us)=G2 at *
   refine ⟨_,rfl,sm rfl,fun t2 ht2=>?_⟩
   have s3:=je ht2 (.tup [V.str f,.str kind,.ref pt,.int j,.ref nl,y])
   have e3:upd G2 t2 (.tup [V.str f,.str kind,.ref pt,.int j,.ref nl,y]) t2=some (.tup [V.str f,.str kind,.ref pt,.int j,.ref nl,y]):=ja
   generalize upd G2 t2 (.tup [V.str f,.str kind,.ref pt,.int j,.ref nl,y])=G3 at *
   have s13:=s1.trans (s2.trans s3)
   have hG3:=s13 _ _ hG
   have k3:∀ b o,b≠ml→H b=some o→G3 b=some o:=fun b o hb e=>s13 _ _ (kG b o hb e)
   have nnl:nl≠ml:=fun z=>by rw [z,hG1] at hnl;cases hnl
   have freeH:∀ b,b≠ml→G1 b=none→H b=none:=fun b hb hz=>by
    rcases hh:H b with _ | o
    ·rfl
    ·rw [k1 b o hb hh] at hz;cases hz
   refine ⟨ml,_,_,rfl,rfl,hG3,jA (by rw [List.length_append];omega),?_⟩
   have k4:∀ b o,b≠ml→G3 b=some o→upd G3 ml (.lst (ms++ms'++[.ref t2])) b=some o:=fun b o hb e=>by rw [jl hb];exact e
   have hmlw:ml ∉ wls:=fun z=>by have:=hnew _ z;rw [hml] at this;cases this
   refine ⟨_,_,ms'++[.ref t2],wls++[nl],rfl,fun b o hb e=>k4 b o hb (k3 b o hb e),by rw [ja,List.append_assoc],by rw [List.length_append,lms'];rfl,?_,?_,?_⟩
   ·rw [KU f kind path way hj,← List.append_assoc]
    refine DutsAt.app (DutsAt.keep (fun b o hb e=>k4 b o hb (s13 _ _ e)) hG hD hmlw) ⟨?_,trivial⟩
    refine DuAt.keep k4 hG3 ?_ nnl
    exact ⟨t2,pt,us,y,rfl,e3,k3 _ _ npt hpt,s3 _ _ e2,(tk0 k3).heldL hway,(tk0 k3).held hyH⟩
   ·refine List.nodup_append.mpr ⟨hnd,by simp,fun a ha b hb=>?_⟩
    rw [List.mem_singleton.mp hb]
    rintro rfl
    have:G1 a≠none:=kW (DutsAt.keep (G:=G) (G':=G1) (ml:=ml) (fun b o _ e=>s1 b o e) hG hD hmlw) a ha
    exact this hnl
   ·intro x hx
    rcases List.mem_append.mp hx with hx | hx
    ·exact hnew x hx
    ·rw [List.mem_singleton.mp hx]
     exact freeH nl nnl hnl
  ·rintro σ G ⟨u6,u7,ms',wls,rfl,kG,hG,_,hD,hnd,hnew⟩
   rw [← ncl,List.take_length] at hD
   exact ⟨_,_,_,ms',wls,rfl,kG,hG,hD,hnd,hnew⟩
 ·rintro σ G ⟨u5,u6,u7,ms',wls,rfl,kG,hG,hD,hnd,hnew⟩
  rw [List.length_map,lwa,List.take_length] at hD
  exact q ms' wls G kG hG hD hnd hnew
theorem jcN {CW:Addr} {f:Addr} {fd:FuncData} (T:ClsW K CW) (F:Fun K "meet" "meet" KN f fd) (B:Free0 mg) (Z_enumerate:mg "enumerate" = none):FnOk P w K mg base CX0 1 f fd ["walk","kind","path","ways","claims"] (jav CW):=by
 have sc:FnScope ["walk","kind","path","ways","claims","way","k","claim"] ["walk","kind","path","ways","claims"] (jm KN):=fQ
 refine F.okZ sc (fun vs H Q E h=>?_) (fun cdv A outer s H vs Q E hr h=>?_)
 ·obtain ⟨wo,dx,ml,pt,wy,ca,was,f,kind,vp,ms,cs,path,ways,Cs,rfl,_⟩:=h
  rfl
 obtain ⟨wo,dx,ml,pt,wy,ca,was,f,kind,vp,ms,cs,path,ways,Cs,rfl,hwo,hml,hpt,hwy,hW,hca,hCs,nwy,nca,hl40,hlen,q⟩:=h
 refine ⟨_,(ji (kr PassesOwn.never rfl (kJ (zpv 3)) (jn (i:=5) sc.nd rfl oQ) (ji (kr PassesOwn.never rfl (jbQ (by rfl) Z_enumerate (jc (zpv 4) jb)) (kH rfl (jr (jn (i:=6) sc.nd rfl oQ) (jr (jn (i:=7) sc.nd rfl oQ) kj))) (ji (j6 (qC PySem.F.plainAttrs_list PySem.F.slot_list_append PySem.F.type_list_append kO (zq (zpv 0) rfl) (jc (jY (jc (zq (zpv 0) rfl) (jc (zpv 1) (jc (zpv 2) (jc (zpv 6) (jc (yo zD (by rfl) B.list_ JP (jc (zpv 5) jb)) (jc (zpv 7) jb))))))) jb)))))))),?_⟩
 refine jO (σ':=[some (.ref wo),some (.str kind),some (.ref pt),some (.ref wy),some (.ref ca),none,none,none]) rfl ?_
 have ncl:=hCs.length
 rw [List.length_map] at ncl
 have lwa:=hW.len
 have nwo:wo≠ml:=fun z=>by rw [z,hml] at hwo;cases hwo
 have npt:pt≠ml:=fun z=>by rw [z,hml] at hpt;cases hpt
 have tk0:∀ {G:Hp},(∀ b o,b≠ml→H b=some o→G b=some o)→TK H G:=fun k=>ku k hml
 refine ⟨_,rfl,wy,rfl,⟨_,SqL.of hwy⟩,?_⟩
 refine yP (xs:=was.map V.ref) (fun i σ G=>∃ u5 u6 u7 ms' wls,σ=[some (.ref wo),some (.str kind),some (.ref pt),some (.ref wy),some (.ref ca),u5,u6,u7]∧(∀ b o,b≠ml→H b=some o→G b=some o)∧G ml=some (.lst (ms++ms'))∧DutsAt G (j7 f kind path (ways.take i) Cs) ms' wls∧wls.Nodup∧∀ x∈wls,H x=none) ⟨none,none,none,[],[],rfl,fun _ _ _ e=>e,by rw [List.append_nil];exact hml,by rw [List.take_zero];trivial,List.nodup_nil,fun _ z=>by cases z⟩ ?_ ?_ ?_
 ·rintro i σ G _ ⟨u5,u6,u7,ms',wls,rfl,kG,_⟩
  exact SqL.of (kG _ _ nwy hwy)
 ·rintro i x σ G hx ⟨u5,u6,u7,ms0,wls0,rfl,kG,hG,hD0,hnd,hnew⟩
  have hiw:i < was.length:=by have:=(List.getElem?_eq_some_iff.mp hx).1;rw [List.length_map] at this;exact this
  have hi:i < ways.length:=by omega
  rw [List.getElem?_map,List.getElem?_eq_getElem hiw] at hx
  cases hx
  obtain ⟨nwl,us,hwl,hway⟩:=hW.get (List.getElem?_eq_getElem hi) (List.getElem?_eq_getElem hiw)
  have ld0:=hD0.len
  rw [kX,List.length_take,Nat.min_eq_left (Nat.le_of_lt hi)] at ld0
  have hb0:ms0.length+Cs.length≤ways.length * Cs.length:=by
   rw [ld0,← Nat.succ_mul]
   exact Nat.mul_le_mul_right _ hi
  rw [J5 f kind path Cs hi]
  generalize was[i]=wl at *
  generalize ways[i]=way at *
  generalize j7 f kind path (ways.take i) Cs=ds0 at *
  refine gQ ?_
  refine ⟨_,rfl,ca,rfl,⟨_,SqL.of (kG _ _ nca hca)⟩,?_⟩
  refine jc9 (xs:=cs) (fun j σ G=>∃ u6 u7 ms' wls,σ=[some (.ref wo),some (.str kind),some (.ref pt),some (.ref wy),some (.ref ca),some (.ref wl),u6,u7]∧(∀ b o,b≠ml→H b=some o→G b=some o)∧G ml=some (.lst (ms++ms'))∧ms'.length=ms0.length+j∧DutsAt G (ds0++Jh f kind path way (Cs.take j)) ms' wls∧wls.Nodup∧∀ x∈wls,H x=none) ⟨u6,u7,ms0,wls0,rfl,kG,hG,rfl,by rw [List.take_zero,show Jh f kind path way []=[] from rfl,List.append_nil];exact hD0,hnd,hnew⟩ ?_ ?_ ?_
  ·rintro j σ G _ ⟨u6,u7,ms',wls,rfl,kG,_⟩
   exact SqL.of (kG _ _ nca hca)
  ·clear hG hD0 hnd hnew kG
   rintro j y σ G t hy ⟨u6,u7,ms',wls,rfl,kG,hG,lms',hD,hnd,hnew⟩ ht
   have hj:j < Cs.length:=by have:=(List.getElem?_eq_some_iff.mp hy).1;omega
   obtain ⟨y',hy',hyH⟩:=hCs.get (show (Cs.map Cl.toD)[j]?=some Cs[j].toD by rw [List.getElem?_map,List.getElem?_eq_getElem hj];rfl)
   rw [hy] at hy'
   cases hy'
   have s1:=je ht (.tup [V.int j,y])
   have e1:upd G t (.tup [V.int j,y]) t=some (.tup [V.int j,y]):=ja
   generalize upd G t (.tup [V.int j,y])=G1 at *
   refine ⟨t,_,rfl,SqT.of e1,rfl,_,_,rfl,_,_,rfl,rfl,?_⟩
   refine jO (σ':=[some (.ref wo),some (.str kind),some (.ref pt),some (.ref wy),some (.ref ca),some (.ref wl),some (.int j),some y]) rfl ?_
   have k1:∀ b o,b≠ml→H b=some o→G1 b=some o:=fun b o hb e=>s1 _ _ (kG b o hb e)
   have hG1:=s1 _ _ hG
   refine ⟨_,rfl,wo,CW,dx,_,_,rfl,k1 _ _ nwo hwo,T.c,T.n3,rfl,.inl ⟨rfl,_,SqL.of hG1⟩,?_⟩
   refine ⟨_,rfl,wo,CW,dx,_,_,rfl,k1 _ _ nwo hwo,T.c,T.n1,rfl,_,rfl,_,rfl,_,rfl,_,rfl,wl,us,rfl,.inl (SqL.of (k1 _ _ nwl hwl)),fun nl hnl=>?_⟩
   have s2:=je hnl (.lst us)
   have e2:upd G1 nl (.lst us) nl=some (.lst us):=ja
   generalize upd G1 nl (.lst us)=G2 at *
   refine ⟨_,rfl,sm rfl,fun t2 ht2=>?_⟩
   have s3:=je ht2 (.tup [V.str f,.str kind,.ref pt,.int j,.ref nl,y])
   have e3:upd G2 t2 (.tup [V.str f,.str kind,.ref pt,.int j,.ref nl,y]) t2=some (.tup [V.str f,.str kind,.ref pt,.int j,.ref nl,y]):=ja
   generalize upd G2 t2 (.tup [V.str f,.str kind,.ref pt,.int j,.ref nl,y])=G3 at *
   have s13:=s1.trans (s2.trans s3)
   have hG3:=s13 _ _ hG
   have k3:∀ b o,b≠ml→H b=some o→G3 b=some o:=fun b o hb e=>s13 _ _ (kG b o hb e)
   have nnl:nl≠ml:=fun z=>by rw [z,hG1] at hnl;cases hnl
   have freeH:∀ b,b≠ml→G1 b=none→H b=none:=fun b hb hz=>by
    rcases hh:H b with _ | o
    ·rfl
    ·rw [k1 b o hb hh] at hz;cases hz
   refine ⟨ml,_,_,rfl,rfl,hG3,jA (by rw [List.length_append];omega),?_⟩
   have k4:∀ b o,b≠ml→G3 b=some o→upd G3 ml (.lst (ms++ms'++[.ref t2])) b=some o:=fun b o hb e=>by rw [jl hb];exact e
   have hmlw:ml ∉ wls:=fun z=>by have:=hnew _ z;rw [hml] at this;cases this
   refine ⟨_,_,ms'++[.ref t2],wls++[nl],rfl,fun b o hb e=>k4 b o hb (k3 b o hb e),by rw [ja,List.append_assoc],by rw [List.length_append,lms'];rfl,?_,?_,?_⟩
   ·rw [KU f kind path way hj,← List.append_assoc]
    refine DutsAt.app (DutsAt.keep (fun b o hb e=>k4 b o hb (s13 _ _ e)) hG hD hmlw) ⟨?_,trivial⟩
    refine DuAt.keep k4 hG3 ?_ nnl
    exact ⟨t2,pt,us,y,rfl,e3,k3 _ _ npt hpt,s3 _ _ e2,(tk0 k3).heldL hway,(tk0 k3).held hyH⟩
   ·refine List.nodup_append.mpr ⟨hnd,by simp,fun a ha b hb=>?_⟩
    rw [List.mem_singleton.mp hb]
    rintro rfl
    have:G1 a≠none:=kW (DutsAt.keep (G:=G) (G':=G1) (ml:=ml) (fun b o _ e=>s1 b o e) hG hD hmlw) a ha
    exact this hnl
   ·intro x hx
    rcases List.mem_append.mp hx with hx | hx
    ·exact hnew x hx
    ·rw [List.mem_singleton.mp hx]
     exact freeH nl nnl hnl
  ·rintro σ G ⟨u6,u7,ms',wls,rfl,kG,hG,_,hD,hnd,hnew⟩
   rw [← ncl,List.take_length] at hD
   exact ⟨_,_,_,ms',wls,rfl,kG,hG,hD,hnd,hnew⟩
 ·rintro σ G ⟨u5,u6,u7,ms',wls,rfl,kG,hG,hD,hnd,hnew⟩
  rw [List.length_map,lwa,List.take_length] at hD
  exact q ms' wls G kG hG hD hnd hnew
end
abbrev jaA:Stmt:=top 16
abbrev zu:Stmt:=top 17
abbrev q4:Stmt:=top 18
abbrev zt:Stmt:=top 19
def Tm.say (N:Str→Str):Tm→Tm
 | .is x=>.is (N x)
 | .at_ r x d=>.at_ (N r) (N x) d
def Bd.say (N:Str→Str):Bd→Bd
 | .is x=>.is (N x)
 | .row x=>.row (N x)
def Cl.say (N:Str→Str):Cl→Cl
 | .least a b c=>.least (a.say N) (b.say N) c
 | .each t td u ud r way b c=>.each (N t) td (N u) ud (N r) way (b.say N) c
 | .rise t td u ud r=>.rise (N t) td (N u) ud (N r)
theorem j0 {H:Hp} {t:Addr} {ds:List D} {xs:List V} (h:H t=some (.tup xs)) (h1:HeldL H ds xs):Held H (.tup ds) (.ref t):=by
 unfold Held
 exact ⟨t,_,rfl,h,h1⟩
structure NmOk (kvs:List (Key×V)) (N:Str→Str):Prop where
 e:N "" = ""
 g:∀ x:Str,x≠""→(qr kvs (Sum.inr x)).getD (.str x)=.str (N x)
def q0:Sp:=fun vs H Q _=>∃ (x:Str) (m:Addr) (kvs:List (Key×V)) (N:Str→Str),vs=[.str x,.ref m]∧H m=some (.dK kvs)∧NmOk kvs N∧Q (.str (N x)) H
def zr:Sp:=fun vs H Q _=>∃ (v:V) (x:Str) (d:Int) (m:Addr) (kvs:List (Key×V)) (N:Str→Str),vs=[v,.ref m]∧Held H (plD x d) v∧H m=some (.dK kvs)∧NmOk kvs N∧∀ r H',Same H H'→Held H' (plD (N x) d) r→Q r H'
def Jw:Sp:=fun vs H Q _=>∃ (v:V) (p:Tm) (m:Addr) (kvs:List (Key×V)) (N:Str→Str),vs=[v,.ref m]∧Held H p.toD v∧H m=some (.dK kvs)∧NmOk kvs N∧∀ r H',Same H H'→Held H' (p.say N).toD r→Q r H'
def jcd:Sp:=fun vs H Q _=>∃ (v:V) (p:Cl) (m:Addr) (kvs:List (Key×V)) (N:Str→Str),vs=[v,.ref m]∧Held H p.toD v∧H m=some (.dK kvs)∧NmOk kvs N∧∀ r H',Same H H'→Held H' (p.say N).toD r→Q r H'
section
variable {P:Program} {w:World} {K:W.Frag} {mg:Str→Option Value} {base:Heap}
theorem Yw {f:Addr} {fd:FuncData} (F:Fun K "name_said" "name_said" zu f fd):FnOk P w K mg base CX0 1 f fd ["name","names"] q0:=by
 have sc:FnScope ["name","names"] ["name","names"] (jm zu):=fQ
 refine F.okZ sc (fun vs H Q E h=>?_) (fun cdv A outer s H vs Q E hr h=>?_)
 ·obtain ⟨x,m,kvs,N,rfl,_⟩:=h
  rfl
 obtain ⟨x,m,kvs,N,rfl,hm,o,q⟩:=h
 have hu:=jeT hr
 refine ⟨_,(jd (jU (jx km (zpv 0) jy (jJ _)) (ji (jq jy)) jE)
   (ji (jq (ja3 hu (zpv 1) (zpv 0) (zpv 0) ⟨rfl,rfl,rfl,rfl⟩)))),?_⟩
 refine ⟨_,rfl,rfl,_,rfl,jL (fun c=>?_) (fun c=>?_)⟩
 ·have c':x = "":=by
   have:=of_decide_eq_true c
   injection this
  subst c'
  rw [o.e] at q
  exact q
 ·refine ⟨_,rfl,m,rfl,.inl ⟨kvs,.inl hm⟩,_,rfl,_,rfl,_,DGet.k (k:=Sum.inr x) hm,?_⟩
  rw [o.g x fun z=>c (decide_eq_true (by rw [z]))]
  exact q
theorem Ks {f:Addr} {fd:FuncData} (F:Fun K "place_said" "place_said" q4 f fd) (F_name_said:Fn P w K mg base 1 "name_said" ["name","names"] q0):FnOk P w K mg base CX0 2 f fd ["place","names"] zr:=by
 have sc:FnScope ["place","names","x","d"] ["place","names"] (jm q4):=fQ
 refine F.okZ sc (fun vs H Q E h=>?_) (fun cdv A outer s H vs Q E hr h=>?_)
 ·obtain ⟨v,x,d,m,kvs,N,rfl,_⟩:=h
  rfl
 obtain ⟨v,x,d,m,kvs,N,rfl,hx,hm,o,q⟩:=h
 obtain ⟨a,rfl,ha⟩:=yr hx
 refine ⟨_,(jd (qE (zpv 0) (kH rfl (jr (jn (i:=2) sc.nd rfl oQ) (jr (jn (i:=3) sc.nd rfl oQ) kj))))
   (ji (jq (jY (jc (jP F_name_said hr (jc (zpv 2) (jc (zpv 1) jb))) (jc (zpv 3) jb)))))),?_⟩
 refine jO (σ':=[some (.ref a),some (.ref m),none,none]) rfl ?_
 refine ⟨_,rfl,a,_,rfl,SqT.of ha,rfl,_,_,rfl,_,_,rfl,rfl,?_⟩
 refine jO (σ':=[some (.ref a),some (.ref m),some (.str x),some (.int d)]) rfl ?_
 refine ⟨_,rfl,_,rfl,x,m,kvs,N,rfl,hm,o,_,rfl,sm rfl,fun r hr'=>?_⟩
 exact q _ _ (je hr' _) (j0 ja (jj jG (jj qd jp)))
theorem Yu {f:Addr} {fd:FuncData} (F:Fun K "term_said" "term_said" zt f fd) (F_name_said:Fn P w K mg base 1 "name_said" ["name","names"] q0) (F_place_said:Fn P w K mg base 2 "place_said" ["place","names"] zr):FnOk P w K mg base CX0 3 f fd ["term","names"] Jw:=by
 have sc:FnScope ["term","names"] ["term","names"] (jm zt):=fQ
 refine F.okZ sc (fun vs H Q E h=>?_) (fun cdv A outer s H vs Q E hr h=>?_)
 ·obtain ⟨x,p,m,kvs,N,rfl,_⟩:=h
  rfl
 obtain ⟨v,p,m,kvs,N,rfl,hx,hm,o,q⟩:=h
 refine ⟨_,(jd (jU (jx km (jw jF (zpv 0) jh (fun _ _=>rfl)) jy (jJ _)) (ji (jq (jY (jc jy (jc (jP F_name_said hr (jc (jw jF (zpv 0) jh (fun _ _=>rfl)) (jc (zpv 1) jb))) jb))))) jE)
   (ji (jq (jY (jc jy (jc (jP F_name_said hr (jc (jw jF (zpv 0) jh (fun _ _=>rfl)) (jc (zpv 1) jb))) (jc (jP F_place_said hr (jc (jw jF (zpv 0) jh (fun _ _=>rfl)) (jc (zpv 1) jb))) jb))))))),?_⟩
 refine jO (σ':=[some v,some (.ref m)]) rfl ?_
 cases p with
 | is y=>
  obtain ⟨a,rfl,ha⟩:=qT hx
  refine ⟨_,rfl,a,_,_,_,rfl,rfl,SqT.of ha,rfl,rfl,_,rfl,jL (fun _=>?_) (fun d=>absurd (decide_eq_true rfl) d)⟩
  refine ⟨_,rfl,a,_,_,_,rfl,rfl,SqT.of ha,rfl,_,rfl,y,m,kvs,N,rfl,hm,o,sm rfl,fun r hr'=>?_⟩
  exact q _ _ (je hr' _) (j0 ja (jj jG (jj jG jp)))
 | at_ r x d=>
  obtain ⟨a,b,rfl,ha,hb⟩:=jdm hx
  refine ⟨_,rfl,a,_,_,_,rfl,rfl,SqT.of ha,rfl,rfl,_,rfl,jL (fun d=>absurd (of_decide_eq_true d) (by decide)) (fun _=>?_)⟩
  refine ⟨_,rfl,a,_,_,_,rfl,rfl,SqT.of ha,rfl,_,rfl,r,m,kvs,N,rfl,hm,o,_,rfl,a,_,_,_,rfl,rfl,SqT.of ha,rfl,_,rfl,.ref b,x,d,m,kvs,N,rfl,j0 hb (jj jG (jj qd jp)),hm,o,fun u H1 s1 e4=>?_⟩
  refine ⟨sm rfl,fun z hz=>?_⟩
  exact q _ _ (s1.trans (je hz _)) (j0 ja (jj jG (jj jG (jj (e4.mono (je hz _)) jp))))
theorem jd8 {f:Addr} {fd:FuncData} (F:Fun K "said" "said" jaA f fd) (F_name_said:Fn P w K mg base 1 "name_said" ["name","names"] q0) (F_place_said:Fn P w K mg base 2 "place_said" ["place","names"] zr)
  (F_term_said:Fn P w K mg base 3 "term_said" ["term","names"] Jw):FnOk P w K mg base CX0 4 f fd ["claim","names"] jcd:=by
 have sc:FnScope ["claim","names","a","b","c","t","u","r","way"] ["claim","names"] (jm jaA):=fQ
 refine F.okZ sc (fun vs H Q E h=>?_) (fun cdv A outer s H vs Q E hr h=>?_)
 ·obtain ⟨x,p,m,kvs,N,rfl,_⟩:=h
  rfl
 obtain ⟨v,p,m,kvs,N,rfl,hx,hm,o,q⟩:=h
 refine ⟨_,(jd (jU (jx km (jw jF (zpv 0) jh (fun _ _=>rfl)) jy (jJ _)) (jd (qE (jQ qD (zpv 0) (jR jh) ki) (kH rfl (jr (jn (i:=2) sc.nd rfl oQ) (jr (jn (i:=3) sc.nd rfl oQ) (jr (jn (i:=4) sc.nd rfl oQ) kj)))))
   (ji (jq (jY (jc jy (jc (jP F_term_said hr (jc (zpv 2) (jc (zpv 1) jb))) (jc (jP F_term_said hr (jc (zpv 3) (jc (zpv 1) jb))) (jc (zpv 4) jb)))))))) jE)
   (jd (jt (i:=5) sc.nd rfl oQ (jP F_place_said hr (jc (jw jF (zpv 0) jh (fun _ _=>rfl)) (jc (zpv 1) jb))))
   (jd (jt (i:=6) sc.nd rfl oQ (jP F_place_said hr (jc (jw jF (zpv 0) jh (fun _ _=>rfl)) (jc (zpv 1) jb))))
   (jd (jt (i:=7) sc.nd rfl oQ (jP F_name_said hr (jc (jw jF (zpv 0) jh (fun _ _=>rfl)) (jc (zpv 1) jb))))
   (jd (jU (jx km (jw jF (zpv 0) jh (fun _ _=>rfl)) jy (jJ _)) (ji (jq (jY (jc jy (jc (zpv 5) (jc (zpv 6) (jc (zpv 7) jb))))))) jE)
   (jd (qE (jQ qD (zpv 0) (jR jh) ki) (kH rfl (jr (jn (i:=8) sc.nd rfl oQ) (jr (jn (i:=3) sc.nd rfl oQ) (jr (jn (i:=4) sc.nd rfl oQ) kj)))))
   (ji (jq (jY (jc jy (jc (zpv 5) (jc (zpv 6) (jc (zpv 7) (jc (zpv 8) (jc (jY (jc (jw jF (zpv 3) jh (fun _ _=>rfl)) (jc (jP F_name_said hr (jc (jw jF (zpv 3) jh (fun _ _=>rfl)) (jc (zpv 1) jb))) jb))) (jc (zpv 4) jb)))))))))))))))),?_⟩
 refine jO (σ':=[some v,some (.ref m),none,none,none,none,none,none,none]) rfl ?_
 cases p with
 | least ta tb c=>
  obtain ⟨a,va,vb,rfl,ha,h1,h2⟩:=Ji hx
  refine ⟨_,rfl,a,_,_,_,rfl,rfl,SqT.of ha,rfl,rfl,_,rfl,jL (fun _=>?_) (fun d=>absurd (decide_eq_true rfl) d)⟩
  refine ⟨_,rfl,_,rfl,a,_,rfl,SqT.of ha,(fun h=>absurd h.1 (by show ¬ (HT.sIx 4 0 (some 1)=0);decide)),fun p hp=>?_⟩
  have s1:=je hp (.tup (j8 [V.str "least",va,vb,V.int c] (some 1) none))
  have y1:upd H p (.tup (j8 [V.str "least",va,vb,V.int c] (some 1) none)) p=some (.tup [va,vb,V.int c]):=ja
  generalize upd H p (.tup (j8 [V.str "least",va,vb,V.int c] (some 1) none))=H1 at *
  refine ⟨p,_,rfl,SqT.of y1,rfl,_,_,rfl,_,_,rfl,_,_,rfl,rfl,?_⟩
  refine jO (σ':=[some (.ref a),some (.ref m),some va,some vb,some (.int c),none,none,none,none]) rfl ?_
  refine ⟨_,rfl,_,rfl,va,ta,m,kvs,N,rfl,h1.mono s1,s1 _ _ hm,o,fun u H2 s2 g2=>?_⟩
  refine ⟨_,rfl,_,rfl,vb,tb,m,kvs,N,rfl,h2.mono (s1.trans s2),s2 _ _ (s1 _ _ hm),o,fun u' H3 s3 g3=>?_⟩
  refine ⟨_,rfl,sm rfl,fun z hz=>?_⟩
  have s4:=je hz (.tup [V.str "least",u,u',V.int c])
  exact q _ _ (s1.trans (s2.trans (s3.trans s4))) (j0 ja (jj jG (jj (g2.mono (s3.trans s4)) (jj (g3.mono s4) (jj qd jp)))))
 | rise t td u ud r=>
  obtain ⟨a,at',au,rfl,ha,hta,hua⟩:=Y9 hx
  refine ⟨_,rfl,a,_,_,_,rfl,rfl,SqT.of ha,rfl,rfl,_,rfl,jL (fun d=>absurd (of_decide_eq_true d) (by decide)) (fun _=>?_)⟩
  refine ⟨_,rfl,a,_,_,_,rfl,rfl,SqT.of ha,rfl,_,rfl,.ref at',t,td,m,kvs,N,rfl,j0 hta (jj jG (jj qd jp)),hm,o,fun y2 H2 s2 g2=>?_⟩
  refine gQ ?_
  refine ⟨_,rfl,a,_,_,_,rfl,rfl,SqT.of (s2 _ _ ha),rfl,_,rfl,.ref au,u,ud,m,kvs,N,rfl,j0 (s2 _ _ hua) (jj jG (jj qd jp)),s2 _ _ hm,o,fun y3 H3 s3 g3=>?_⟩
  refine gQ ?_
  refine ⟨_,rfl,a,_,_,_,rfl,rfl,SqT.of (s3 _ _ (s2 _ _ ha)),rfl,_,rfl,r,m,kvs,N,rfl,s3 _ _ (s2 _ _ hm),o,?_⟩
  refine gQ ?_
  refine ⟨_,rfl,a,_,_,_,rfl,rfl,SqT.of (s3 _ _ (s2 _ _ ha)),rfl,rfl,_,rfl,jL (fun _=>?_) (fun d=>absurd (decide_eq_true rfl) d)⟩
  refine ⟨_,rfl,_,rfl,_,rfl,sm rfl,fun z hz=>?_⟩
  have s4:=je hz (.tup [V.str "rise",y2,y3,V.str (N r)])
  exact q _ _ (s2.trans (s3.trans s4)) (j0 ja (jj jG (jj (g2.mono (s3.trans s4)) (jj (g3.mono s4) (jj jG jp)))))
 | each t td u ud r way b c=>
  obtain ⟨a,at',au,ab,rfl,ha,hta,hua,hba⟩:=Zz hx
  obtain ⟨bk,bx,hba',hbs⟩:∃ bk bx:Str,H ab=some (.tup [.str bk,.str bx])∧(b.say N).toD=.tup [.str bk,.str (N bx)]:=by
   cases b with
   | is x=>exact ⟨_,_,hba,rfl⟩
   | row x=>exact ⟨_,_,hba,rfl⟩
  refine ⟨_,rfl,a,_,_,_,rfl,rfl,SqT.of ha,rfl,rfl,_,rfl,jL (fun d=>absurd (of_decide_eq_true d) (by decide)) (fun _=>?_)⟩
  refine ⟨_,rfl,a,_,_,_,rfl,rfl,SqT.of ha,rfl,_,rfl,.ref at',t,td,m,kvs,N,rfl,j0 hta (jj jG (jj qd jp)),hm,o,fun y2 H2 s2 g2=>?_⟩
  refine gQ ?_
  refine ⟨_,rfl,a,_,_,_,rfl,rfl,SqT.of (s2 _ _ ha),rfl,_,rfl,.ref au,u,ud,m,kvs,N,rfl,j0 (s2 _ _ hua) (jj jG (jj qd jp)),s2 _ _ hm,o,fun y3 H3 s3 g3=>?_⟩
  refine gQ ?_
  have s23:=s2.trans s3
  refine ⟨_,rfl,a,_,_,_,rfl,rfl,SqT.of (s23 _ _ ha),rfl,_,rfl,r,m,kvs,N,rfl,s23 _ _ hm,o,?_⟩
  refine gQ ?_
  refine ⟨_,rfl,a,_,_,_,rfl,rfl,SqT.of (s23 _ _ ha),rfl,rfl,_,rfl,jL (fun d=>absurd (of_decide_eq_true d) (by decide)) (fun _=>?_)⟩
  refine ⟨_,rfl,_,rfl,a,_,rfl,SqT.of (s23 _ _ ha),(fun h=>absurd h.1 (by show ¬ (HT.sIx 7 0 (some 4)=0);decide)),fun p hp=>?_⟩
  have s4:=je hp (.tup (j8 [V.str "each",.ref at',.ref au,.str r,.str way,.ref ab,V.int c] (some 4) none))
  have y1:upd H3 p (.tup (j8 [V.str "each",.ref at',.ref au,.str r,.str way,.ref ab,V.int c] (some 4) none)) p=some (.tup [.str way,.ref ab,V.int c]):=ja
  generalize upd H3 p (.tup (j8 [V.str "each",.ref at',.ref au,.str r,.str way,.ref ab,V.int c] (some 4) none))=H4 at *
  have s24:=s23.trans s4
  refine ⟨p,_,rfl,SqT.of y1,rfl,_,_,rfl,_,_,rfl,_,_,rfl,rfl,?_⟩
  refine gQ ?_
  refine ⟨_,rfl,_,rfl,_,rfl,_,rfl,_,rfl,ab,_,_,_,rfl,rfl,SqT.of (s24 _ _ hba'),rfl,_,rfl,ab,_,_,_,rfl,rfl,SqT.of (s24 _ _ hba'),rfl,_,rfl,bx,m,kvs,N,rfl,s24 _ _ hm,o,sm rfl,fun z1 hz1=>?_⟩
  have s5:=je hz1 (.tup [V.str bk,.str (N bx)])
  have y5:upd H4 z1 (.tup [V.str bk,.str (N bx)]) z1=some (.tup [V.str bk,.str (N bx)]):=ja
  generalize upd H4 z1 (.tup [V.str bk,.str (N bx)])=H5 at *
  refine ⟨_,rfl,sm rfl,fun z hz=>?_⟩
  have s6:=je hz (.tup [V.str "each",y2,y3,V.str (N r),.str way,.ref z1,.int c])
  refine q _ _ (s24.trans (s5.trans s6)) (j0 ja (jj jG (jj (g2.mono (s3.trans (s4.trans (s5.trans s6)))) (jj (g3.mono (s4.trans (s5.trans s6))) (jj jG (jj jG (jj ?_ (jj qd jp))))))))
  rw [hbs]
  exact j0 (s6 _ _ y5) (jj jG (jj jG jp))
end
end LW
namespace PySem
section
variable {prog:Program} {w:World} {A:Around} {E:Value→Shared→Prop} {s:Shared}
theorem YX {z TI TO i1 i2 l1 l2 T:Addr} {oT:Obj} {bb:Bool} {k1 k2:Nat} {xs ys:Array Value} {x y:Value} {Q:Value→Shared→Prop}
  (n1:i1≠z) (n2:i2≠z) (n12:i1≠i2) (m1:l1≠z) (m2:l2≠z) (m21:l2≠i1) (nTz:T≠z) (nTI:TI≠z)
  (hz:qb s.heap z TI TO (rawInt T) bb) (hT:s.heap.get? T=some oT) (hTI:IsPair s.heap TI (.ref i1) (.ref i2))
  (h1:s.heap.IsTupleIter i1 l1 k1) (h2L:s.heap.IsTupleIter i2 l2 k2) (hl1:s.heap.IsTuple l1 xs) (hl2:s.heap.IsTuple l2 ys) (hx:xs[k1]?=some x) (hy:ys[k2]?=some y)
  (hQ:∀ h',qb h' z TI TO (rawInt T) true→h'.IsTupleIter i1 l1 (k1+1)→h'.IsTupleIter i2 l2 (k2+1)→IsPair h' s.heap.objs.size x y→h'.objs.size=s.heap.objs.size+1→
   (∀ c o,c≠z→c≠i1→c≠i2→s.heap.get? c=some o→h'.get? c=some o)→Q (.ref s.heap.objs.size) { s with heap:=h' }) :
  wpAny (model prog w) A (Builtin.«zip.__next__» ⟨[.ref z],[]⟩) (fun fin s'=>∃ v,fin=.done (.ret v)∧Q v s') E s:=by
 show wpAny _ _ (field (.ref z) 2 >>= _) _ _ _
 refine wpAny_bind (wpAny_field hz rfl (x:=.bool false) rfl ?_)
 show wpAny _ _ (field (.ref z) 3 >>= _) _ _ _
 refine wpAny_bind (wpAny_field hz rfl (x:=.ref TI) rfl ?_)
 refine wpAny_bind (wpAny_seqItems hTI rfl ?_)
 show wpAny _ _ (Builtin.SmallTypes.ownedTupleIsFree (.ref z) >>= _) _ _ _
 refine wpAny_bind ?_
 unfold Builtin.SmallTypes.ownedTupleIsFree
 refine wpAny_bind (wpAny_field hz rfl (x:=rawInt T) rfl ?_)
 show wpAny _ _ (loadIfAlive ((T:Int).toNat) >>= _) _ _ _
 rw [Int.toNat_natCast]
 refine wpAny_bind (W.kdx_alive hT ?_)
 simp only [Option.isNone_some,Bool.false_eq_true,if_false]
 refine wpAny_bind (wpAny_field hz rfl (x:=.bool bb) rfl ?_)
 cases bb with
 | true=>
  rw [if_neg (show ¬ ((Value.bool true != Value.bool true)=true) from Bool.false_ne_true)]
  refine wpAny_pure ?_
  simp only [Bool.false_eq_true,if_false,← Array.forIn_toList,List.forIn_cons,List.forIn_nil]
  refine wpAny_bind (wpAny_bind (wpAny_bind (wpAny_holding ?_)))
  show wpAny _ _ (Builtin.SmallTypes.nextOf (.ref i1) >>= _) _ _ _
  refine wpAny_bind (kQ (h1) (hl1) hx fun h2 t2 b2=>wpAny_pure (wpAny_pure ?_))
  dsimp only
  refine wpAny_bind (wpAny_bind (wpAny_holding ?_))
  show wpAny _ _ (Builtin.SmallTypes.nextOf (.ref i2) >>= _) _ _ _
  refine wpAny_bind (kQ (h2L.extBut b2.extBut n12.symm) (hl2.extBut b2.extBut m21) hy fun h3 t3 b3=>wpAny_pure (wpAny_pure (wpAny_pure ?_)))
  dsimp only
  refine wpAny_bind (wpAny_newTuple (hsz:=by show 2≤sizeLine;decide) (wpAny_pure ⟨_,rfl,?_⟩))
  have sz:h3.objs.size=s.heap.objs.size:=by rw [b3.1,b2.1]
  show Q (.ref h3.objs.size) _
  have hzz:qb h3 z TI TO (rawInt T) true:=b3.extBut _ _ n2.symm (b2.extBut _ _ n1.symm hz)
  have kk:∀ c o,c≠z→c≠i1→c≠i2→s.heap.get? c=some o→h3.get? c=some o:=fun c o c1 c2 c3 e=>b3.extBut _ _ c3 (b2.extBut _ _ c2 (e))
  have t2':h3.IsTupleIter i1 l1 (k1+1):=t2.extBut b3.extBut n12
  have pp:∀ c o,h3.get? c=some o→(h3.push { cls:=.type "tuple",data:=.seq #[x,y] }).get? c=some o:=fun c o e=>Heap.get?_push_of_some _ e
  have np:IsPair (h3.push { cls:=.type "tuple",data:=.seq #[x,y] }) h3.objs.size x y:=Heap.get?_push_size _ rfl
  have zp:(h3.push { cls:=.type "tuple",data:=.seq #[x,y] }).objs.size=s.heap.objs.size+1:=by rw [Heap.size_push,sz]
  rw [sz] at np ⊢
  exact hQ _ (pp _ _ hzz) (t2'.at fun o e=>pp _ o e) (t3.at fun o e=>pp _ o e) np zp fun c o c1 c2 c3 e=>pp _ _ (kk c o c1 c2 c3 e)
 | false=>
  rw [if_pos (show (Value.bool false != Value.bool true)=true from rfl)]
  refine wpAny_bind (wpAny_setField_rec hz (by simp) fun h1' e1 b1=>?_)
  replace b1:Heap.SameBut z s.heap h1':=b1
  replace e1:qb h1' z TI TO (rawInt T) true:=e1
  refine wpAny_pure ?_
  simp only [Bool.false_eq_true,if_false,← Array.forIn_toList,List.forIn_cons,List.forIn_nil]
  refine wpAny_bind (wpAny_bind (wpAny_bind (wpAny_holding ?_)))
  show wpAny _ _ (Builtin.SmallTypes.nextOf (.ref i1) >>= _) _ _ _
  refine wpAny_bind (kQ (h1.extBut b1.extBut n1) (hl1.extBut b1.extBut m1) hx fun h2 t2 b2=>wpAny_pure (wpAny_pure ?_))
  dsimp only
  refine wpAny_bind (wpAny_bind (wpAny_holding ?_))
  show wpAny _ _ (Builtin.SmallTypes.nextOf (.ref i2) >>= _) _ _ _
  refine wpAny_bind (kQ ((h2L.extBut b1.extBut n2).extBut b2.extBut n12.symm) ((hl2.extBut b1.extBut m2).extBut b2.extBut m21) hy fun h3 t3 b3=>wpAny_pure (wpAny_pure (wpAny_pure ?_)))
  dsimp only
  refine wpAny_bind (wpAny_newTuple (hsz:=by show 2≤sizeLine;decide) (wpAny_pure ⟨_,rfl,?_⟩))
  have sz:h3.objs.size=s.heap.objs.size:=by rw [b3.1,b2.1,b1.1]
  show Q (.ref h3.objs.size) _
  have hzz:qb h3 z TI TO (rawInt T) true:=b3.extBut _ _ n2.symm (b2.extBut _ _ n1.symm e1)
  have kk:∀ c o,c≠z→c≠i1→c≠i2→s.heap.get? c=some o→h3.get? c=some o:=fun c o c1 c2 c3 e=>b3.extBut _ _ c3 (b2.extBut _ _ c2 (b1.extBut _ _ c1 e))
  have t2':h3.IsTupleIter i1 l1 (k1+1):=t2.extBut b3.extBut n12
  have pp:∀ c o,h3.get? c=some o→(h3.push { cls:=.type "tuple",data:=.seq #[x,y] }).get? c=some o:=fun c o e=>Heap.get?_push_of_some _ e
  have np:IsPair (h3.push { cls:=.type "tuple",data:=.seq #[x,y] }) h3.objs.size x y:=Heap.get?_push_size _ rfl
  have zp:(h3.push { cls:=.type "tuple",data:=.seq #[x,y] }).objs.size=s.heap.objs.size+1:=by rw [Heap.size_push,sz]
  rw [sz] at np ⊢
  exact hQ _ (pp _ _ hzz) (t2'.at fun o e=>pp _ o e) (t3.at fun o e=>pp _ o e) np zp fun c o c1 c2 c3 e=>pp _ _ (kk c o c1 c2 c3 e)
theorem YY {z TI TO i1 i2 l1 l2:Addr} {k1 k2:Nat} {xs ys:Array Value} {x y a b:Value} {Q:Value→Shared→Prop} (D:ZipApart z TI TO i1 i2 l1 l2)
  (hz:IsZip s.heap z TI TO .none) (hTI:IsPair s.heap TI (.ref i1) (.ref i2)) (hTO:IsPair s.heap TO a b)
  (h1:s.heap.IsTupleIter i1 l1 k1) (h2:s.heap.IsTupleIter i2 l2 k2) (hl1:s.heap.IsTuple l1 xs) (hl2:s.heap.IsTuple l2 ys) (hx:xs[k1]?=some x) (hy:ys[k2]?=some y)
  (hQ:∀ h',qb h' z TI TO (rawInt s.heap.objs.size) false→h'.IsTupleIter i1 l1 (k1+1)→h'.IsTupleIter i2 l2 (k2+1)→IsPair h' s.heap.objs.size x y→h'.objs.size=s.heap.objs.size+1→
   (∀ c o,c≠z→c≠TO→c≠i1→c≠i2→s.heap.get? c=some o→h'.get? c=some o)→Q (.ref s.heap.objs.size) { s with heap:=h' }) :
  wpAny (model prog w) A (Builtin.«zip.__next__» ⟨[.ref z],[]⟩) (fun fin s'=>∃ v,fin=.done (.ret v)∧Q v s') E s:=by
 show wpAny _ _ (field (.ref z) 2 >>= _) _ _ _
 refine wpAny_bind (wpAny_field hz rfl (x:=.bool false) rfl ?_)
 show wpAny _ _ (field (.ref z) 3 >>= _) _ _ _
 refine wpAny_bind (wpAny_field hz rfl (x:=.ref TI) rfl ?_)
 refine wpAny_bind (wpAny_seqItems hTI rfl ?_)
 show wpAny _ _ (Builtin.SmallTypes.ownedTupleIsFree (.ref z) >>= _) _ _ _
 refine wpAny_bind ?_
 unfold Builtin.SmallTypes.ownedTupleIsFree
 refine wpAny_bind (wpAny_field hz rfl (x:=.none) rfl (wpAny_pure ?_))
 simp only [if_true]
 refine wpAny_bind (wpAny_rule ?_)
 refine wpAny_bind (wpAny_field hz rfl (x:=.ref TO) rfl ?_)
 refine wpAny_bind (wpAny_setField_rec hz (by simp) fun g1 z1 b1=>?_)
 replace z1:IsZip g1 z TI TO .ellipsis:=z1
 refine wpAny_bind ?_
 simp only [List.zipIdx_cons,List.zipIdx_nil,List.forIn_cons,List.forIn_nil]
 refine wpAny_bind (wpAny_bind (wpAny_onRaise ?_))
 show wpAny _ _ (Builtin.SmallTypes.nextOf (.ref i1) >>= _) _ _ _
 refine wpAny_bind (kQ (h1.extBut b1.extBut D.i1z) (hl1.extBut b1.extBut D.l1z) hx fun g2 t2 b2=>wpAny_pure ?_)
 have o2:IsPair g2 TO a b:=b2.extBut _ _ D.TOi1 (b1.extBut _ _ D.TOz hTO)
 refine wpAny_bind (wpAny_seqItems o2 rfl ?_)
 refine wpAny_bind (wpAny_updateSeq_pair o2 fun g3 o3 b3=>?_)
 replace o3:IsPair g3 TO x b:=o3
 refine wpAny_bind (wpAny_letGo (wpAny_pure ?_))
 refine wpAny_bind (wpAny_bind (wpAny_onRaise ?_))
 show wpAny _ _ (Builtin.SmallTypes.nextOf (.ref i2) >>= _) _ _ _
 refine wpAny_bind (kQ (((h2.extBut b1.extBut D.i2z).extBut b2.extBut D.i12.symm).extBut b3.extBut D.TOi2.symm) (((hl2.extBut b1.extBut D.l2z).extBut b2.extBut D.l2i1).extBut b3.extBut D.l2TO) hy fun g4 t4 b4=>wpAny_pure ?_)
 have o4:IsPair g4 TO x b:=b4.extBut _ _ D.TOi2 o3
 refine wpAny_bind (wpAny_seqItems o4 rfl ?_)
 refine wpAny_bind (wpAny_updateSeq_pair o4 fun g5 o5 b5=>?_)
 replace o5:IsPair g5 TO x y:=o5
 refine wpAny_bind (wpAny_letGo (wpAny_pure (wpAny_pure ?_)))
 refine wpAny_bind (wpAny_seqItems o5 rfl ?_)
 refine wpAny_bind (wpAny_newTuple ?_)
 have sz:g5.objs.size=s.heap.objs.size:=by rw [b5.1,b4.1,b3.1,b2.1,b1.1]
 have z5:IsZip g5 z TI TO .ellipsis:=b5.extBut _ _ D.TOz.symm (b4.extBut _ _ D.i2z.symm (b3.extBut _ _ D.TOz.symm (b2.extBut _ _ D.i1z.symm z1)))
 have k5:∀ c o,c≠z→c≠TO→c≠i1→c≠i2→s.heap.get? c=some o→g5.get? c=some o:=fun c o c1 c2 c3 c4 e=>b5.extBut _ _ c2 (b4.extBut _ _ c4 (b3.extBut _ _ c2 (b2.extBut _ _ c3 (b1.extBut _ _ c1 e))))
 have t2':g5.IsTupleIter i1 l1 (k1+1):=((t2.extBut b3.extBut D.TOi1.symm).extBut b4.extBut D.i12).extBut b5.extBut D.TOi1.symm
 have t4':g5.IsTupleIter i2 l2 (k2+1):=t4.extBut b5.extBut D.TOi2.symm
 have zlt:z < g5.objs.size:=Heap.lt_size z5
 show wpAny _ _ (Builtin.SmallTypes.ownedTupleHandOut (.ref z) (.ref g5.objs.size) >>= _) _ _ _
 refine wpAny_bind ?_
 unfold Builtin.SmallTypes.ownedTupleHandOut
 have z6:IsZip (g5.push { cls:=.type "tuple",data:=.seq #[x,y] }) z TI TO .ellipsis:=Heap.get?_push_of_some _ z5
 refine wpAny_bind (wpAny_setField_rec z6 (by simp) fun g7 z7 b7=>?_)
 replace z7:IsZip g7 z TI TO (rawInt g5.objs.size):=z7
 refine wpAny_setField_rec z7 (by simp) fun g8 z8 b8=>?_
 replace z8:qb g8 z TI TO (rawInt g5.objs.size) false:=z8
 have up:∀ c o,c≠z→g5.get? c=some o→g8.get? c=some o:=fun c o c1 e=>b8.extBut _ _ c1 (b7.extBut _ _ c1 (Heap.get?_push_of_some _ e))
 have p8:IsPair g8 g5.objs.size x y:=b8.extBut _ _ (Nat.ne_of_gt zlt) (b7.extBut _ _ (Nat.ne_of_gt zlt) (Heap.get?_push_size _ rfl))
 have s8:g8.objs.size=g5.objs.size+1:=by rw [b8.1,b7.1,Heap.size_push]
 rw [sz] at z8 p8 s8
 refine wpAny_pure ⟨_,rfl,?_⟩
 show Q (.ref g5.objs.size) _
 rw [sz]
 exact hQ g8 z8 (t2'.at fun o e=>up _ o D.i1z e) (t4'.at fun o e=>up _ o D.i2z e) p8 s8 fun c o c1 c2 c3 c4 e=>up c o c1 (k5 c o c1 c2 c3 c4 e)
end
abbrev jal (h:Heap) (l1:Addr):Heap:=h.push { cls:=.type "tuple_iterator",data:=.fields #[.ref l1,.int 0 0] }
abbrev jak (h:Heap) (l1 l2:Addr):Heap:=(jal h l1).push { cls:=.type "tuple_iterator",data:=.fields #[.ref l2,.int 0 0] }
abbrev jaj (h:Heap) (l1 l2:Addr):Heap:=(jak h l1 l2).push { cls:=.type "tuple",data:=.seq #[.ref h.objs.size,.ref (jal h l1).objs.size] }
abbrev jai (h:Heap) (l1 l2:Addr):Heap:=(jaj h l1 l2).push { cls:=.type "tuple",data:=.seq #[.none,.none] }
abbrev JR (h:Heap) (l1 l2:Addr):Heap:=(jai h l1 l2).push { cls:=.type "zip",data:=.fields #[.none,.bool false,.bool false,.ref (jak h l1 l2).objs.size,.ref (jaj h l1 l2).objs.size] }
theorem ja5 (l1 l2:Addr) (xs ys:Array Value) :
  Meets (Builtin.«zip.__new__» ⟨[.type "zip",.ref l1,.ref l2],[]⟩) (fun _ R s=>s.heap.IsTuple l1 xs∧s.heap.IsTuple l2 ys∧R (.ok (.ret (.ref (jai s.heap l1 l2).objs.size))) { s with heap:=JR s.heap l1 l2 }):=
 .of_wp fun prog w A R s h=>by
  obtain ⟨hp,g,d,tk,os⟩:=s;obtain ⟨hl1,hl2,h⟩:=h
  have hsub:=sub_zip
  have hL1:Heap.IsTuple (Shared.heap ⟨hp,g,d,tk,os⟩) l1 xs:=hl1
  have hL2:Heap.IsTuple (Shared.heap ⟨hp.push { cls:=.type "tuple_iterator",data:=.fields #[.ref l1,.int 0 0] },g,d,tk,os⟩) l2 ys:=Heap.IsTuple.push hl2 _
  wp_walk using wpAny_pyIter_tuple hL1,wpAny_pyIter_tuple hL2
  exact ⟨_,rfl,h⟩
section
variable {prog:Program} {w:World} {A:Around} {E:Value→Shared→Prop} {s:Shared}
theorem Ki {l1 l2:Addr} {xs ys:Array Value} {Q:Value→Shared→Prop} (hl1:s.heap.IsTuple l1 xs) (hl2:s.heap.IsTuple l2 ys)
  (h:∀ h',IsZip h' (s.heap.objs.size+4) (s.heap.objs.size+2) (s.heap.objs.size+3) .none→IsPair h' (s.heap.objs.size+2) (.ref s.heap.objs.size) (.ref (s.heap.objs.size+1))→
   IsPair h' (s.heap.objs.size+3) .none .none→h'.IsTupleIter s.heap.objs.size l1 0→h'.IsTupleIter (s.heap.objs.size+1) l2 0→h'.objs.size=s.heap.objs.size+5→
   (∀ c o,s.heap.get? c=some o→h'.get? c=some o)→Q (.ref (s.heap.objs.size+4)) { s with heap:=h' }) :
  wpAny (model prog w) A (call (.type "zip") [.ref l1,.ref l2]) Q E s:=by
 refine callType_new F.called_zip (by decide) (F.typeCall_zip_2 _ _) (F.newCall_zip_2 _ _) (fun obj=>F.args_object_init_3 obj _ _) F.entry_zip_new (ja5 l1 l2 xs ys) ⟨hl1,hl2,?_⟩
 have z1:(jal s.heap l1).objs.size=s.heap.objs.size+1:=Heap.size_push ..
 have z2:(jak s.heap l1 l2).objs.size=s.heap.objs.size+2:=by rw [Heap.size_push,z1]
 have z3:(jaj s.heap l1 l2).objs.size=s.heap.objs.size+3:=by rw [Heap.size_push,z2]
 have z4:(jai s.heap l1 l2).objs.size=s.heap.objs.size+4:=by rw [Heap.size_push,z3]
 have z5:(JR s.heap l1 l2).objs.size=s.heap.objs.size+5:=by rw [Heap.size_push,z4]
 have up:∀ (h:Heap) (o:Obj) c u,h.get? c=some u→(h.push o).get? c=some u:=fun h o c u e=>Heap.get?_push_of_some _ e
 have g5:(JR s.heap l1 l2).get? (jai s.heap l1 l2).objs.size=some _:=Heap.get?_push_size _ rfl
 have g4:(JR s.heap l1 l2).get? (jaj s.heap l1 l2).objs.size=some _:=up _ _ _ _ (Heap.get?_push_size _ rfl)
 have g3:(JR s.heap l1 l2).get? (jak s.heap l1 l2).objs.size=some _:=up _ _ _ _ (up _ _ _ _ (Heap.get?_push_size _ rfl))
 have g2:(JR s.heap l1 l2).get? (jal s.heap l1).objs.size=some _:=up _ _ _ _ (up _ _ _ _ (up _ _ _ _ (Heap.get?_push_size _ rfl)))
 have g1:(JR s.heap l1 l2).get? s.heap.objs.size=some _:=up _ _ _ _ (up _ _ _ _ (up _ _ _ _ (up _ _ _ _ (Heap.get?_push_size _ rfl))))
 show _∧_
 rw [z2,z3,z4] at g5
 rw [z1,z2] at g3
 rw [z3] at g4
 rw [z1] at g2
 rw [z4]
 exact ⟨⟨_,g5,rfl⟩,h _ g5 g3 g4 ⟨_,g1,rfl,rfl⟩ ⟨_,g2,rfl,rfl⟩ z5 fun c o x=>up _ _ _ _ (up _ _ _ _ (up _ _ _ _ (up _ _ _ _ (up _ _ _ _ x))))⟩
end
structure ZipSt2 (h:Heap) (z TI TO i1 i2 l1 l2:Addr) (i:Nat):Prop where
 ti:IsPair h TI (.ref i1) (.ref i2)
 a:h.IsTupleIter i1 l1 i
 b:h.IsTupleIter i2 l2 i
 c:(IsZip h z TI TO .none∧∃ a b,IsPair h TO a b)∨∃ (T:Addr) (oT:Obj) (bb:Bool),qb h z TI TO (rawInt T) bb∧h.get? T=some oT∧T≠z∧T≠i1∧T≠i2
section
variable {prog:Program} {w:World} {A:Around} {E:Value→Shared→Prop} {s:Shared}
theorem ZO {z TI TO i1 i2 l1 l2:Addr} {i:Nat} {xs ys:Array Value} {x y:Value} {Q:Option Value→Shared→Prop} (D:ZipApart z TI TO i1 i2 l1 l2) (Z:ZipSt2 s.heap z TI TO i1 i2 l1 l2 i) (hl1:s.heap.IsTuple l1 xs) (hl2:s.heap.IsTuple l2 ys) (hx:xs[i]?=some x) (hy:ys[i]?=some y)
  (hQ:∀ h',ZipSt2 h' z TI TO i1 i2 l1 l2 (i+1)→IsPair h' s.heap.objs.size x y→(∀ c o,c≠z→c≠TO→c≠i1→c≠i2→s.heap.get? c=some o→h'.get? c=some o)→Q (some (.ref s.heap.objs.size)) { s with heap:=h' }) :
  wpAny (model prog w) A (pyNext (.ref z)) Q E s:=by
 have lt:∀ {c o},s.heap.get? c=some o→s.heap.objs.size≠c:=fun e=>Nat.ne_of_gt (Heap.lt_size e)
 have l1':s.heap.objs.size≠i1:=by obtain ⟨_,e,_⟩:=Z.a;exact lt e
 have l2':s.heap.objs.size≠i2:=by obtain ⟨_,e,_⟩:=Z.b;exact lt e
 rcases Z.c with ⟨hz,a,b,hTO⟩ | ⟨T,oT,bb,hz,hT,t1,t2,t3⟩
 ·have hT:s.TypeIs (.ref z) "zip":=⟨_,hz,rfl⟩
  unfold pyNext
  refine wpAny_bind (wpAny_attempt (wpAny_callSpecial?_slot (name:=Str.ofString "__next__") hT F.slot_zip_next (wpAny_call_entry F.slot_zip_next hT F.entry_zip_next ?_ (F.args_zip_next_1 _))))
  exact YY D hz Z.ti hTO Z.a Z.b hl1 hl2 hx hy fun h' a1 a2 a3 a4 a5 k=>wpAny_pure (hQ h' ⟨k _ _ D.TIz D.TITO D.TIi1 D.TIi2 Z.ti,a2,a3,.inr ⟨_,_,false,a1,a4,lt hz,l1',l2'⟩⟩ a4 k)
 ·have hT':s.TypeIs (.ref z) "zip":=⟨_,hz,rfl⟩
  unfold pyNext
  refine wpAny_bind (wpAny_attempt (wpAny_callSpecial?_slot (name:=Str.ofString "__next__") hT' F.slot_zip_next (wpAny_call_entry F.slot_zip_next hT' F.entry_zip_next ?_ (F.args_zip_next_1 _))))
  exact YX D.i1z D.i2z D.i12 D.l1z D.l2z D.l2i1 t1 D.TIz hz hT Z.ti Z.a Z.b hl1 hl2 hx hy fun h' a1 a2 a3 a4 a5 k=>wpAny_pure (hQ h' ⟨k _ _ D.TIz D.TIi1 D.TIi2 Z.ti,a2,a3,.inr ⟨T,oT,true,a1,k _ _ t1 t2 t3 hT,t1,t2,t3⟩⟩ a4 fun c o c1 _ c3 c4 e=>k c o c1 c3 c4 e)
theorem ja6 {z TI TO i1 i2 l1 l2:Addr} {i:Nat} {xs:Array Value} {Q:Option Value→Shared→Prop} (hh:A.handled=none) (D:ZipApart z TI TO i1 i2 l1 l2) (Z:ZipSt2 s.heap z TI TO i1 i2 l1 l2 i) (hl1:s.heap.IsTuple l1 xs) (hx:xs[i]?=none)
  (hQ:∀ h',(∀ c o,c≠z→c≠i1→s.heap.get? c=some o→h'.get? c=some o)→Q none { s with heap:=h' }):wpAny (model prog w) A (pyNext (.ref z)) Q E s:=by
 have hT':s.TypeIs (.ref z) "zip":=by
  rcases Z.c with ⟨hz,_⟩ | ⟨T,oT,bb,hz,_⟩
  ·exact ⟨_,hz,rfl⟩
  ·exact ⟨_,hz,rfl⟩
 unfold pyNext
 refine wpAny_bind (wpAny_attempt (wpAny_callSpecial?_slot (name:=Str.ofString "__next__") hT' F.slot_zip_next (wpAny_call_entry F.slot_zip_next hT' F.entry_zip_next ?_ (F.args_zip_next_1 _))))
 rcases Z.c with ⟨hz,_⟩ | ⟨T,oT,bb,hz,hT,t1,t2,t3⟩
 ·refine yj hh D.i1z D.l1z hz Z.ti Z.a hl1 hx fun h' e k he=>?_
  obtain ⟨o,ho,hc⟩:=he
  refine wpAny_bind (wpAny_isInstance (T:="StopIteration") (b:=true) ⟨o,ho,hc⟩ isSubtype_stop ?_)
  exact wpAny_pure (hQ _ k)
 ·refine JT hh D.i1z D.l1z hz hT Z.ti Z.a hl1 hx fun h' e k he=>?_
  obtain ⟨o,ho,hc⟩:=he
  refine wpAny_bind (wpAny_isInstance (T:="StopIteration") (b:=true) ⟨o,ho,hc⟩ isSubtype_stop ?_)
  exact wpAny_pure (hQ _ k)
end
end PySem
namespace L2
open PySem PySem.Spec PyProof.Rows PySem.W
theorem ZipSt2.keepD {h h':Heap} {z TI TO i1 i2 l1 l2 d:Addr} {i:Nat} (Z:ZipSt2 h z TI TO i1 i2 l1 l2 i) (nTI:TI≠d) (n1:i1≠d) (n2:i2≠d) (nz:z≠d) (nTO:TO≠d) (hd:∃ o,h'.get? d=some o) (k:∀ b o,b≠d→h.get? b=some o→h'.get? b=some o):ZipSt2 h' z TI TO i1 i2 l1 l2 i:=by
 refine ⟨k _ _ nTI Z.ti,Z.a.at fun o e=>k _ o n1 e,Z.b.at fun o e=>k _ o n2 e,?_⟩
 rcases Z.c with ⟨hz,a,b,hTO⟩ | ⟨T,oT,bb,hz,hT,t1,t2,t3⟩
 ·exact .inl ⟨k _ _ nz hz,a,b,k _ _ nTO hTO⟩
 ·refine .inr ⟨T,?_⟩
  by_cases e:T=d
  ·obtain ⟨o,ho⟩:=hd
   exact ⟨o,bb,k _ _ nz hz,by rw [e];exact ho,t1,t2,t3⟩
  ·exact ⟨oT,bb,k _ _ nz hz,k _ _ e hT,t1,t2,t3⟩
section
variable {prog:Program} {w:World} {A:Around} {E:Value→Shared→Prop} {R:Result→Shared→Prop}
theorem ZQ {d z TI TO i1 i2 l1 l2:Addr} {xs ys:List Value} {names:List Str} {vs:List V} (hh:A.handled=none) (D:ZipApart z TI TO i1 i2 l1 l2) (nTI:TI≠d) (n1:i1≠d) (n2:i2≠d) (nz:z≠d) (nTO:TO≠d) (m1:l1≠d) (m2:l2≠d)
  (rx:Vals (names.map V.str) xs) (ry:Vals vs ys) (hl:names.length=vs.length) (nd:names.Nodup) (hz:names.length≤sizeLine) :
  ∀ (k i:Nat) (s:Shared) (acc:List (Key×Value)),i+k=names.length→ZipSt2 s.heap z TI TO i1 i2 l1 l2 i→s.heap.IsTuple l1 xs.toArray→s.heap.IsTuple l2 ys.toArray→s.heap.DictOf (j9 prog w) d acc→KV (zKV (names.take i) (vs.take i)) acc→
   (∀ h' tk acc',(∀ b o,b≠d→b≠z→b≠TO→b≠i1→b≠i2→s.heap.get? b=some o→h'.get? b=some o)→h'.DictOf (j9 prog w) d acc'→KV (zKV names vs) acc'→R (.ok (.ret .none)) { s with heap:=h',toks:=tk })→
   ∀ c:Int,codeAny (model prog w) A (.builtin "dict.update.loop" ⟨[.ref d,.ref z,rawInt c,.none],[]⟩) R s:=by
 intro k
 have lx:=rx.length
 have ly:=ry.length
 rw [List.length_map] at lx
 induction k with
 | zero=>
  intro i s acc hk Z ht hl2 hd hkv hR c
  have hin:i=names.length:=by omega
  refine codeAny_builtin zV ?_
  rw [Around.under_plainId qx _]
  show wpAny _ A.in1 (pyNext (.ref z) >>= _) _ _ s
  refine wpAny_bind (ja6 (A:=A.in1) hh D Z ht (by simp;omega) fun h1 he1=>?_)
  show wpAny _ A.in1 (Builtin.Dict.addKeywords d [] >>= _) _ _ _
  refine wpAny_bind (wpAny_pure (wpAny_pure ?_))
  obtain ⟨o,es,ep,ho,x⟩:=hd
  subst hin
  rw [List.take_length,hl,List.take_length] at hkv
  exact hR h1 s.toks acc (fun b o _ b2 _ b4 _ e=>he1 b o b2 b4 e) ⟨o,es,ep,he1 d o (Ne.symm nz) (Ne.symm n1) ho,x⟩ hkv
 | succ k ih=>
  intro i s acc hk Z ht hl2 hd hkv hR c
  have hlt:i < names.length:=by omega
  have hxi:(names.map V.str)[i]?=some (.str names[i]):=by rw [List.getElem?_map,List.getElem?_eq_getElem hlt];rfl
  have hvi:vs[i]?=some (vs[i]'(by omega)):=List.getElem?_eq_getElem (by omega)
  obtain ⟨x,ex,rx'⟩:=rx.get hxi
  obtain ⟨y,ey,ry'⟩:=ry.get hvi
  refine codeAny_builtin zV ?_
  rw [Around.under_plainId qx _]
  show wpAny _ A.in1 (pyNext (.ref z) >>= _) _ _ s
  refine wpAny_bind (ZO D Z ht hl2 (x:=x) (y:=y) (by simpa using ex) (by simpa using ey) fun h1 Z1 hp1 k1=>?_)
  have ht1:h1.IsTuple l1 xs.toArray:=ht.at fun o e=>k1 _ o D.l1z D.l1TO D.l1i1 D.l1i2 e
  have hl21:h1.IsTuple l2 ys.toArray:=hl2.at fun o e=>k1 _ o D.l2z D.l2TO D.l2i1 D.l2i2 e
  have hd1:h1.DictOf (j9 prog w) d acc:=by
   obtain ⟨o,es,ep,ho,x⟩:=hd
   exact ⟨o,es,ep,k1 d o (Ne.symm nz) (Ne.symm nTO) (Ne.symm n1) (Ne.symm n2) ho,x⟩
  dsimp only
  refine wpAny_bind (wpAny_holding (wpAny_bind (wpAny_tryCatch (Ze hp1 ?_))))
  dsimp only
  have hal:acc.length=i:=by
   have:=Paired.length hkv
   unfold zKV at this
   rw [List.length_map,List.length_zip,List.length_take,List.length_take] at this
   omega
  refine wpAny_holding (wpAny_dictSet_pairs (k:=(Sum.inr names[i]:Key)) (K0 (k:=Sum.inr names[i]) rx') hd1 (fun h2 hd2 hs2=>?_) (by omega))
  refine wpAny_pure ⟨plainId_quiet qx _,?_⟩
  have hb2:∀ b o,b≠d→h1.get? b=some o→h2.get? b=some o:=fun b o hb e=>(hs2.2 b hb).trans e
  have fresh:(acc.any fun kv=>decide (kv.1=(Sum.inr names[i]:Key)))=false:=by
   rw [List.any_eq_false]
   intro kv hm
   have h1:kv.1∈acc.map (·.1):=List.mem_map.mpr ⟨kv,hm,rfl⟩
   rw [jel hkv] at h1
   unfold zKV at h1
   rw [List.map_map] at h1
   obtain ⟨q,hq,e⟩:=List.mem_map.mp h1
   intro zz
   have z':kv.1=Sum.inr names[i]:=of_decide_eq_true zz
   rw [← e] at z'
   have hqi:q.1=names[i]:=Sum.inr.inj z'
   have hmem:names[i]∈names.take i:=by
    rw [← hqi]
    exact (List.of_mem_zip hq).1
   obtain ⟨j,hj,hje⟩:=List.mem_iff_getElem.mp hmem
   rw [List.length_take] at hj
   rw [List.getElem_take] at hje
   exact (List.pairwise_iff_getElem.mp nd) j i (by omega) hlt (by omega) hje
  have hst:stored acc (Sum.inr names[i]) y=acc++[((Sum.inr names[i]:Key),y)]:=by
   unfold stored
   rw [fresh,if_neg Bool.false_ne_true]
  rw [hst] at hd2
  have hkv2:KV (zKV (names.take (i+1)) (vs.take (i+1))) (acc++[((Sum.inr names[i]:Key),y)]):=by
   have e1:zKV (names.take (i+1)) (vs.take (i+1))=zKV (names.take i) (vs.take i)++[((Sum.inr names[i]:Key),vs[i]'(by omega))]:=by
    unfold zKV
    rw [List.take_succ,List.getElem?_eq_getElem hlt,List.take_succ,hvi,List.zip_append (by rw [List.length_take,List.length_take];omega),List.map_append]
    rfl
   rw [e1]
   exact jek hkv ry'
  have hdx:∃ o,h2.get? d=some o:=by obtain ⟨o,es,ep,ho,_⟩:=hd2;exact ⟨o,ho⟩
  exact ih (i+1) { s with heap:=h2,toks:=_ } _ (by omega) (ZipSt2.keepD Z1 nTI n1 n2 nz nTO hdx hb2) (ht1.at fun o e=>hb2 _ o m1 e) (hl21.at fun o e=>hb2 _ o m2 e) hd2 hkv2 (fun h' tk acc' hk' hd' hkv'=>hR h' tk acc' (fun b o b1 b2 b3 b4 b5 e=>hk' b o b1 b2 b3 b4 b5 (hb2 b o b1 (k1 b o b2 b3 b4 b5 e))) hd' hkv') (c+1)
end
def jfV (K:W.Frag) (t:TA):TE:=fun σ H Q=>t σ H fun vs H1=>∃ (a b:Addr) (names:List Str) (ys:List V),vs=[.ref a,.ref b]∧SqT K H1 a (names.map V.str)∧SqT K H1 b ys∧names.length=ys.length∧names.Nodup∧names.length≤1000∧
 ∀ l:Addr,H1 l=none→Q (.ref l) (upd H1 l (.dK (zKV names ys)))
theorem jcB {X:Cx} {p pos p2 pos2:Pos} {e1 e2:Expr} {t:TA} (hc:X.calm=true) (hg:Gl X "dict") (hm:X.mg "dict" = none) (hv:bootBuiltins "dict" = some (.type "dict")) (hg2:Gl X "zip") (hm2:X.mg "zip" = none) (hv2:bootBuiltins "zip" = some (.type "zip")) (ha:PA X [e1,e2] t) (hp1:j5 e1=true:=by rfl) (hp2:j5 e2=true:=by rfl) :
  PE X (.Call (.Name "dict" p) [.Call (.Name "zip" p2) [e1,e2] [] pos2] [] pos) (jfV X.K t):=by
 intro pins s σ H Q I h
 refine wpAny_Call_Name_kw (zA I hg hm hv ?_)
 refine PyProof.Rows.callWith_type1 ?_ rfl rfl
 show wpAny _ _ (spliced [(false,eval (.Call (.Name "zip" p2) [e1,e2] [] pos2) X.env)]) _ _ s
 refine Calls.spliced_cons ?_
 refine wpAny_Call_Name_kw (zA I hg2 hm2 hv2 ?_)
 refine PyProof.Rows.callWith_type1 (thn (ha pos2 pins s σ H _ I h) fun us s1 z=>?_) (kR hp1 _ _) (zb _ _ [e2] (by simp [hp2]))
 obtain ⟨vs,H1,I1,r1,a,b,names,ys,rfl,hta,hb,hl,nd,hz,q⟩:=z
 clear I h
 obtain ⟨u1,u2,rfl,r1a,r1b⟩:=jap r1
 cases r1a
 cases r1b
 obtain ⟨xs,rx,htup,_⟩:=I1.tuple hta
 obtain ⟨its,ry,hlist,_⟩:=I1.tuple hb
 refine Ki htup hlist fun h' zz zp zo zi1 zi2 zs zk=>?_
 refine Calls.spliced_nil ?_
 have hbig:(h'.objs.size == sysModules)=false:=by
  have:=I1.big
  exact beq_eq_false_iff_ne.mpr (by rw [zs];exact Nat.ne_of_gt (Nat.lt_of_lt_of_le this (Nat.le_add_right _ _)))
 refine callType_codes (Q₁:=fun obj s₁=>obj=.ref h'.objs.size∧s₁={ s1 with heap:=h'.push { cls:=.type "dict",data:=.dict #[] } }) PySem.F.kt_called_dict (PySem.F.kt_typeCall_dict_1 _) PySem.F.entry_dict_init (PySem.kt_code_dict_new _ ⟨rfl,rfl⟩) ?_
 rintro obj s₁ ⟨rfl,rfl⟩
 have hnew:(h'.push { cls:=.type "dict",data:=.dict #[] }).DictOf (j9 X.prog X.w) h'.objs.size []:=Heap.DictOf.new h'
 have hp1:∀ b o,h'.get? b=some o→(h'.push { cls:=.type "dict",data:=.dict #[] }).get? b=some o:=fun b o e=>Heap.get?_push_of_some _ e
 refine ⟨hnew.typeIs,PySem.F.args_dict_init_2 _ _,?_⟩
 unfold Builtin.«dict.__init__»
 refine wpAny_bind ?_
 unfold Builtin.Dict.selfAndRest
 refine wpAny_bind (wpAny_notOrdered_dict hnew.typeIs ?_)
 show wpAny _ _ (pure (h'.objs.size,[Value.ref (s1.heap.objs.size+4)])) _ _ _
 refine wpAny_pure ?_
 show wpAny _ _ (Builtin.Dict.updateFrom "dict.__init__" h'.objs.size (.ref (s1.heap.objs.size+4)) [] .none) _ _ _
 unfold Builtin.Dict.updateFrom
 have ho1:=hp1 _ _ zz
 refine wpAny_bind (wpAny_typeOf (T:="zip") ⟨_,ho1,rfl⟩ ?_)
 rw [if_pos (by decide)]
 refine wpAny_bind (PySem.nokeysZ (show X.A.in1.in1.handled=none from I1.ok.hd hc) ho1 fun h2 t2 k2=>?_)
 rw [if_pos (show (none:Option Value).isNone=true from rfl)]
 have k20:∀ c o,h'.get? c=some o→h2.get? c=some o:=fun c o e=>k2 c o (hp1 c o e)
 refine wpAny_bind (wpAny_rule (wpAny_bind (wpAny_pyIter_zip (show IsZip h2 _ _ _ .none from k20 _ _ zz) ?_)))
 refine wpAny_pure ⟨plainId_quiet qx _,?_⟩
 have hd2:h2.DictOf (j9 X.prog X.w) h'.objs.size []:=by
  obtain ⟨o,es,ep,ho,x⟩:=hnew
  exact ⟨o,es,ep,k2 _ _ ho,x⟩
 have lta:a < s1.heap.objs.size:=by obtain ⟨o,e,_⟩:=htup;exact Heap.lt_size e
 have ltb:b < s1.heap.objs.size:=by obtain ⟨o,e,_⟩:=hlist;exact Heap.lt_size e
 generalize hS:s1.heap.objs.size=S at *
 have D:=Kx lta ltb
 rw [zs] at hd2 hbig ⊢
 refine ZQ (A:=X.A.in1) (xs:=xs) (ys:=its) (names:=names) (vs:=ys) (show X.A.in1.handled=none from I1.ok.hd hc) D (nlt (by omega)) (nlt (by omega)) (nlt (by omega)) (nlt (by omega)) (nlt (by omega)) (Nat.ne_of_lt (Nat.lt_of_lt_of_le lta (Nat.le_add_right _ _))) (Nat.ne_of_lt (Nat.lt_of_lt_of_le ltb (Nat.le_add_right _ _))) rx ry hl nd (Nat.le_of_lt (jA hz)) names.length 0 _ [] (by omega) ⟨k20 _ _ zp,zi1.at fun o e=>k20 _ o e,zi2.at fun o e=>k20 _ o e,.inl ⟨k20 _ _ zz,_,_,k20 _ _ zo⟩⟩ (Heap.IsTuple.at htup fun o e=>k20 _ o (zk _ o e)) (Heap.IsTuple.at hlist fun o e=>k20 _ o (zk _ o e)) hd2 .nil ?_ 0
 intro h3 tk acc' hk hd' hkv'
 refine ⟨rfl,.ref (S+5),_,I1.laid (t':=tk) (fun c o e=>?_) (by omega) (jab (kvs:=zKV names ys) ?_ hbig hkv' hd'),rfl,q _ (I1.hok.fresh (by omega))⟩
 ·have lc:=Heap.lt_size e
  rw [hS] at lc
  have g:∀ k,c≠S+k:=fun k=>Nat.ne_of_lt (Nat.lt_of_lt_of_le lc (Nat.le_add_right _ _))
  exact hk c o (g 5) (g 4) (g 3) (g 0) (g 1) (k20 _ _ (zk _ _ e))
 ·unfold zKV
  rw [List.length_map,List.length_zip,← hl,Nat.min_self]
  exact Nat.le_of_lt (jA hz)
end L2
namespace PySem
section
variable {prog:Program} {w:World} {A:Around} {E:Value→Shared→Prop} {s:Shared}
theorem ZP {z TI TO i1 i2 l1 l2:Addr} {k1 k2:Nat} {xs ys:Array Value} {x y a b:Value} {Q:Value→Shared→Prop} (D:ZipApart z TI TO i1 i2 l1 l2)
  (hz:IsZip s.heap z TI TO .none) (hTI:IsPair s.heap TI (.ref i1) (.ref i2)) (hTO:IsPair s.heap TO a b)
  (h1:s.heap.IsTupleIter i1 l1 k1) (h2:s.heap.IsTupleIter i2 l2 k2) (hl1:s.heap.IsTuple l1 xs) (hl2:s.heap.IsTuple l2 ys) (hx:xs[k1]?=some x) (hy:ys[k2]?=some y)
  (hQ:∀ h',qb h' z TI TO (rawInt s.heap.objs.size) false→h'.IsTupleIter i1 l1 (k1+1)→h'.IsTupleIter i2 l2 (k2+1)→IsPair h' s.heap.objs.size x y→h'.objs.size=s.heap.objs.size+1→IsPair h' TO x y→
   (∀ c o,c≠z→c≠TO→c≠i1→c≠i2→s.heap.get? c=some o→h'.get? c=some o)→Q (.ref s.heap.objs.size) { s with heap:=h' }) :
  wpAny (model prog w) A (Builtin.«zip.__next__» ⟨[.ref z],[]⟩) (fun fin s'=>∃ v,fin=.done (.ret v)∧Q v s') E s:=by
 show wpAny _ _ (field (.ref z) 2 >>= _) _ _ _
 refine wpAny_bind (wpAny_field hz rfl (x:=.bool false) rfl ?_)
 show wpAny _ _ (field (.ref z) 3 >>= _) _ _ _
 refine wpAny_bind (wpAny_field hz rfl (x:=.ref TI) rfl ?_)
 refine wpAny_bind (wpAny_seqItems hTI rfl ?_)
 show wpAny _ _ (Builtin.SmallTypes.ownedTupleIsFree (.ref z) >>= _) _ _ _
 refine wpAny_bind ?_
 unfold Builtin.SmallTypes.ownedTupleIsFree
 refine wpAny_bind (wpAny_field hz rfl (x:=.none) rfl (wpAny_pure ?_))
 simp only [if_true]
 refine wpAny_bind (wpAny_rule ?_)
 refine wpAny_bind (wpAny_field hz rfl (x:=.ref TO) rfl ?_)
 refine wpAny_bind (wpAny_setField_rec hz (by simp) fun g1 z1 b1=>?_)
 replace z1:IsZip g1 z TI TO .ellipsis:=z1
 refine wpAny_bind ?_
 simp only [List.zipIdx_cons,List.zipIdx_nil,List.forIn_cons,List.forIn_nil]
 refine wpAny_bind (wpAny_bind (wpAny_onRaise ?_))
 show wpAny _ _ (Builtin.SmallTypes.nextOf (.ref i1) >>= _) _ _ _
 refine wpAny_bind (kQ (h1.extBut b1.extBut D.i1z) (hl1.extBut b1.extBut D.l1z) hx fun g2 t2 b2=>wpAny_pure ?_)
 have o2:IsPair g2 TO a b:=b2.extBut _ _ D.TOi1 (b1.extBut _ _ D.TOz hTO)
 refine wpAny_bind (wpAny_seqItems o2 rfl ?_)
 refine wpAny_bind (wpAny_updateSeq_pair o2 fun g3 o3 b3=>?_)
 replace o3:IsPair g3 TO x b:=o3
 refine wpAny_bind (wpAny_letGo (wpAny_pure ?_))
 refine wpAny_bind (wpAny_bind (wpAny_onRaise ?_))
 show wpAny _ _ (Builtin.SmallTypes.nextOf (.ref i2) >>= _) _ _ _
 refine wpAny_bind (kQ (((h2.extBut b1.extBut D.i2z).extBut b2.extBut D.i12.symm).extBut b3.extBut D.TOi2.symm) (((hl2.extBut b1.extBut D.l2z).extBut b2.extBut D.l2i1).extBut b3.extBut D.l2TO) hy fun g4 t4 b4=>wpAny_pure ?_)
 have o4:IsPair g4 TO x b:=b4.extBut _ _ D.TOi2 o3
 refine wpAny_bind (wpAny_seqItems o4 rfl ?_)
 refine wpAny_bind (wpAny_updateSeq_pair o4 fun g5 o5 b5=>?_)
 replace o5:IsPair g5 TO x y:=o5
 refine wpAny_bind (wpAny_letGo (wpAny_pure (wpAny_pure ?_)))
 refine wpAny_bind (wpAny_seqItems o5 rfl ?_)
 refine wpAny_bind (wpAny_newTuple ?_)
 have sz:g5.objs.size=s.heap.objs.size:=by rw [b5.1,b4.1,b3.1,b2.1,b1.1]
 have z5:IsZip g5 z TI TO .ellipsis:=b5.extBut _ _ D.TOz.symm (b4.extBut _ _ D.i2z.symm (b3.extBut _ _ D.TOz.symm (b2.extBut _ _ D.i1z.symm z1)))
 have k5:∀ c o,c≠z→c≠TO→c≠i1→c≠i2→s.heap.get? c=some o→g5.get? c=some o:=fun c o c1 c2 c3 c4 e=>b5.extBut _ _ c2 (b4.extBut _ _ c4 (b3.extBut _ _ c2 (b2.extBut _ _ c3 (b1.extBut _ _ c1 e))))
 have t2':g5.IsTupleIter i1 l1 (k1+1):=((t2.extBut b3.extBut D.TOi1.symm).extBut b4.extBut D.i12).extBut b5.extBut D.TOi1.symm
 have t4':g5.IsTupleIter i2 l2 (k2+1):=t4.extBut b5.extBut D.TOi2.symm
 have zlt:z < g5.objs.size:=Heap.lt_size z5
 show wpAny _ _ (Builtin.SmallTypes.ownedTupleHandOut (.ref z) (.ref g5.objs.size) >>= _) _ _ _
 refine wpAny_bind ?_
 unfold Builtin.SmallTypes.ownedTupleHandOut
 have z6:IsZip (g5.push { cls:=.type "tuple",data:=.seq #[x,y] }) z TI TO .ellipsis:=Heap.get?_push_of_some _ z5
 refine wpAny_bind (wpAny_setField_rec z6 (by simp) fun g7 z7 b7=>?_)
 replace z7:IsZip g7 z TI TO (rawInt g5.objs.size):=z7
 refine wpAny_setField_rec z7 (by simp) fun g8 z8 b8=>?_
 replace z8:qb g8 z TI TO (rawInt g5.objs.size) false:=z8
 have up:∀ c o,c≠z→g5.get? c=some o→g8.get? c=some o:=fun c o c1 e=>b8.extBut _ _ c1 (b7.extBut _ _ c1 (Heap.get?_push_of_some _ e))
 have p8:IsPair g8 g5.objs.size x y:=b8.extBut _ _ (Nat.ne_of_gt zlt) (b7.extBut _ _ (Nat.ne_of_gt zlt) (Heap.get?_push_size _ rfl))
 have s8:g8.objs.size=g5.objs.size+1:=by rw [b8.1,b7.1,Heap.size_push]
 rw [sz] at z8 p8 s8
 refine wpAny_pure ⟨_,rfl,?_⟩
 show Q (.ref g5.objs.size) _
 rw [sz]
 exact hQ g8 z8 (t2'.at fun o e=>up _ o D.i1z e) (t4'.at fun o e=>up _ o D.i2z e) p8 s8 (up _ _ D.TOz o5) fun c o c1 c2 c3 c4 e=>up c o c1 (k5 c o c1 c2 c3 c4 e)
structure ZipFo (h:Heap) (z TI TO i1 i2 l1 l2:Addr) (i:Nat):Prop where
 zz:IsZip h z TI TO .none
 ti:IsPair h TI (.ref i1) (.ref i2)
 to:∃ a b,IsPair h TO a b
 a:h.IsTupleIter i1 l1 i
 b:h.IsTupleIter i2 l2 i
theorem ja7 {z TI TO i1 i2 l1 l2:Addr} {i:Nat} {xs ys:Array Value} {x y:Value} {Q:Option Value→Shared→Prop} (D:ZipApart z TI TO i1 i2 l1 l2) (Z:ZipFo s.heap z TI TO i1 i2 l1 l2 i) (hl1:s.heap.IsTuple l1 xs) (hl2:s.heap.IsTuple l2 ys) (hx:xs[i]?=some x) (hy:ys[i]?=some y)
  (hQ:∀ h',IsZip h' z TI TO (rawInt s.heap.objs.size)→h'.IsTupleIter i1 l1 (i+1)→h'.IsTupleIter i2 l2 (i+1)→IsPair h' s.heap.objs.size x y→h'.objs.size=s.heap.objs.size+1→(∃ a b,IsPair h' TO a b)→(∀ c o,c≠z→c≠TO→c≠i1→c≠i2→s.heap.get? c=some o→h'.get? c=some o)→Q (some (.ref s.heap.objs.size)) { s with heap:=h' }) :
  wpAny (model prog w) A (pyNext (.ref z)) Q E s:=by
 have hz:=Z.zz
 obtain ⟨a,b,hTO⟩:=Z.to
 have hT:s.TypeIs (.ref z) "zip":=⟨_,hz,rfl⟩
 unfold pyNext
 refine wpAny_bind (wpAny_attempt (wpAny_callSpecial?_slot (name:=Str.ofString "__next__") hT F.slot_zip_next (wpAny_call_entry F.slot_zip_next hT F.entry_zip_next ?_ (F.args_zip_next_1 _))))
 exact ZP D hz Z.ti hTO Z.a Z.b hl1 hl2 hx hy fun h' a1 a2 a3 a4 a5 a6 k=>wpAny_pure (hQ h' a1 a2 a3 a4 a5 ⟨x,y,a6⟩ k)
theorem jbV {z TI TO i1 i2 l1 l2:Addr} {i:Nat} {xs:Array Value} {Q:Option Value→Shared→Prop} (hh:A.handled=none) (D:ZipApart z TI TO i1 i2 l1 l2) (Z:ZipFo s.heap z TI TO i1 i2 l1 l2 i) (hl1:s.heap.IsTuple l1 xs) (hx:xs[i]?=none)
  (hQ:∀ h',(∀ c o,c≠z→c≠i1→s.heap.get? c=some o→h'.get? c=some o)→Q none { s with heap:=h' }):wpAny (model prog w) A (pyNext (.ref z)) Q E s:=by
 have hz:=Z.zz
 have hT':s.TypeIs (.ref z) "zip":=⟨_,hz,rfl⟩
 unfold pyNext
 refine wpAny_bind (wpAny_attempt (wpAny_callSpecial?_slot (name:=Str.ofString "__next__") hT' F.slot_zip_next (wpAny_call_entry F.slot_zip_next hT' F.entry_zip_next ?_ (F.args_zip_next_1 _))))
 refine yj hh D.i1z D.l1z hz Z.ti Z.a hl1 hx fun h' e k he=>?_
 obtain ⟨o,ho,hc⟩:=he
 refine wpAny_bind (wpAny_isInstance (T:="StopIteration") (b:=true) ⟨o,ho,hc⟩ isSubtype_stop ?_)
 exact wpAny_pure (hQ _ k)
end
end PySem
namespace L2
open PySem PySem.Spec PyProof.Rows
def jdp (K:W.Frag) (l1 l2:Addr):It:=
 ⟨fun i H=>∃ xs ys x y,SqT K H l1 xs∧SqT K H l2 ys∧xs[i]?=some x∧ys[i]?=some y,fun i H x H'=>∃ t a b,H t=none∧(∀ xs,SqT K H l1 xs→xs[i]?=some a)∧(∀ ys,SqT K H l2 ys→ys[i]?=some b)∧x=.ref t∧H'=upd H t (.tup [a,b]),fun i H=>∃ xs,SqT K H l1 xs∧xs.length≤i⟩
theorem jb3 {P:Program} {w:World} {K:W.Frag} {elts:List Expr} {x1:Nat} {tp:Pos} (l1 l2 z TI TO i1 i2:Addr) (D:ZipApart z TI TO i1 i2 l1 l2):Turn P w K (.Tuple elts x1 tp) (jdp K l1 l2) [z,TI,TO,i1,i2] z (fun i h=>ZipFo h z TI TO i1 i2 l1 l2 i) where
 mem:=by simp
 obj:=fun i h st b hb=>by
  obtain ⟨zz,ti,⟨a,b',to⟩,⟨o1,e1,c1,d1⟩,⟨o2,e2,c2,d2⟩⟩:=st
  simp only [List.mem_cons,List.mem_nil_iff,or_false] at hb
  rcases hb with rfl | rfl | rfl | rfl | rfl
  ·exact ⟨_,zz,fun v z=>by cases z⟩
  ·exact ⟨_,ti,fun v z=>by cases z⟩
  ·exact ⟨_,to,fun v z=>by cases z⟩
  ·exact ⟨o1,e1,fun v z=>by rw [d1] at z;cases z⟩
  ·exact ⟨o2,e2,fun v z=>by rw [d2] at z;cases z⟩
 keep:=fun i h h' st k=>by
  obtain ⟨zz,ti,⟨a,b',to⟩,⟨o1,e1,c1,d1⟩,⟨o2,e2,c2,d2⟩⟩:=st
  exact ⟨k z (by simp) _ zz,k TI (by simp) _ ti,⟨a,b',k TO (by simp) _ to⟩,⟨o1,k i1 (by simp) o1 e1,c1,d1⟩,⟨o2,k i2 (by simp) o2 e2,c2,d2⟩⟩
 item:=by
  intro X hP hw hK hc i pins s σ H E I hf st hg
  subst hP hw hK
  obtain ⟨xs,ys,x,y,hq1,hq2,hx,hy⟩:=hg
  obtain ⟨its1,rv1,p1,hz1⟩:=I.tuple hq1
  obtain ⟨its2,rv2,p2,hz2⟩:=I.tuple hq2
  obtain ⟨u1,hu1,ru1⟩:=rv1.get hx
  obtain ⟨u2,hu2,ru2⟩:=rv2.get hy
  obtain ⟨a0,a1,a2,a3,a4,a5⟩:=hf z (by simp)
  obtain ⟨b0,b1,b2,b3,b4,b5⟩:=hf TO (by simp)
  obtain ⟨c0,c1,c2,c3,c4,c5⟩:=hf i1 (by simp)
  obtain ⟨d0,d1,d2,d3,d4,d5⟩:=hf i2 (by simp)
  obtain ⟨t0,_⟩:=hf TI (by simp)
  refine ja7 D st (show s.heap.IsTuple l1 its1.toArray from p1) (show s.heap.IsTuple l2 its2.toArray from p2) (x:=u1) (y:=u2) (by simpa using hu1) (by simpa using hu2) fun h' o1 o2 o3 o4 o5 o6 ok=>?_
  refine ⟨_,rfl,wpAny_letOwnedTupleGo_zip (s:={ s with heap:=h' }) o1 fun h2 g1 g2=>?_⟩
  have hfr:H s.heap.objs.size=none:=I.hok.fresh (Nat.le_refl _)
  have kp:∀ b o,b≠z→b≠TO→b≠i1→b≠i2→s.heap.get? b=some o→h2.get? b=some o:=fun b o e1 e2 e3 e4 q=>(g2.2 b e1).trans (ok b o e1 e2 e3 e4 q)
  have nt:∀ b o,s.heap.get? b=some o→b≠s.heap.objs.size:=fun b o q=>Nat.ne_of_lt (Heap.lt_size q)
  have ne:∀ b v,H b=some v→b≠z∧b≠TO∧b≠i1∧b≠i2:=fun b v q=>⟨fun t=>(by rw [t,a0] at q;cases q),fun t=>(by rw [t,b0] at q;cases q),fun t=>(by rw [t,c0] at q;cases q),fun t=>(by rw [t,d0] at q;cases q)⟩
  have het:s.heap.objs.size≠z:=fun e=>absurd (Heap.lt_size st.zz) (by rw [← e];exact Nat.lt_irrefl _)
  have kc:∀ b o,b ∉ [z,TO,i1,i2]→s.heap.get? b=some o→h2.get? b=some o:=fun b o hc' q=>kp b o (fun z=>hc' (by simp [z])) (fun z=>hc' (by simp [z])) (fun z=>hc' (by simp [z])) (fun z=>hc' (by simp [z])) q
  have I1:Inv X pins σ (upd H s.heap.objs.size (.tup [x,y])) { s with heap:=h2,gens:=s.gens,drawn:=s.drawn,toks:=s.toks }:=by
   refine I.step (g':=s.gens) (d':=s.drawn) (ch:=[z,TO,i1,i2]) (fun b hb=>?_) (fun b o _ _ hc' q _=>kc b o hc' q) (fun b o _ _ hc' q _=>⟨o.slots,kc b o hc' q⟩)
    (fun b o _ q n=>by rw [jl (nt b o q)];exact n) (fun b o hc' q=>⟨o,kc b o hc' q⟩) (fun b ys q=>by rw [jl (jk q hfr)];exact q) (fun b o z q=>by rw [jl (jk q hfr)];exact q)
    (fun b ps q=>⟨#[],by rw [jl (jk q hfr),q];simp⟩) (fun m hm=>?_) (fun b v q=>?_) I.bare
   ·simp only [List.mem_cons,List.mem_nil_iff,or_false] at hb
    rcases hb with rfl | rfl | rfl | rfl
    ·exact ⟨a3,a1,a4,a5⟩
    ·exact ⟨b3,b1,b4,b5⟩
    ·exact ⟨c3,c1,c4,c5⟩
    ·exact ⟨d3,d1,d4,d5⟩
   ·obtain ⟨o,es,ep,ho,r⟩:=hm
    exact ⟨o,es,ep,kp _ o (Ne.symm a1) (Ne.symm b1) (Ne.symm c1) (Ne.symm d1) ho,r⟩
   ·by_cases hb:b=s.heap.objs.size
    ·subst hb
     rw [ja] at q
     cases q
     refine ⟨?_,[u1,u2],.cons ru1 (.cons ru2 .nil),_,(g2.2 _ het).trans o4,rfl,0,rfl⟩
     show 2≤sizeLine
     rw [sizeLine_eq]
     decide
    ·rw [jl hb] at q
     refine (I.hok b v q).stay (fun c v' hc' q'=>?_) (fun c q'=>by rw [jl (jk q' hfr)];exact q') fun c ys q'=>by rw [jl (jk q' hfr)];exact q'
     rcases hc' with rfl | hc'
     ·obtain ⟨n1,n2,n3,n4⟩:=ne c v q
      exact kp c v' n1 n2 n3 n4 q'
     ·obtain ⟨n1,n2,n3,n4⟩:=ne c _ hc'
      exact kp c v' n1 n2 n3 n4 q'
  have nz:∀ b,b≠z→∀ o,h'.get? b=some o→h2.get? b=some o:=fun b hb o q=>(g2.2 b hb).trans q
  obtain ⟨q1,q2,hTO⟩:=o6
  refine ⟨.ref s.heap.objs.size,_,I1,rfl,⟨_,x,y,hfr,fun ys' hy'=>by rw [I.tuple_inj hy' hq1];exact hx,fun ys' hy'=>by rw [I.tuple_inj hy' hq2];exact hy,rfl,rfl⟩,⟨g1,?_,⟨q1,q2,nz TO D.TOz _ hTO⟩,o2.at fun o e=>nz _ D.i1z o e,o3.at fun o e=>nz _ D.i2z o e⟩,fun b hb=>?_⟩
  ·exact kp TI _ D.TIz D.TITO D.TIi1 D.TIi2 st.ti
  ·have hlt:∀ b,H b=none→(∃ o,s.heap.get? b=some o)→upd H s.heap.objs.size (.tup [x,y]) b=none:=fun b h1 ⟨o,h2⟩=>by rw [jl (nt b o h2)];exact h1
   simp only [List.mem_cons,List.mem_nil_iff,or_false] at hb
   obtain ⟨s1,s2,⟨a',b',s3⟩,⟨p,s4,_⟩,⟨p',s5,_⟩⟩:=st
   rcases hb with rfl | rfl | rfl | rfl | rfl
   ·exact hlt _ a0 ⟨_,s1⟩
   ·exact hlt _ t0 ⟨_,s2⟩
   ·exact hlt _ b0 ⟨_,s3⟩
   ·exact hlt _ c0 ⟨_,s4⟩
   ·exact hlt _ d0 ⟨_,s5⟩
 done:=by
  intro X hP hw hK hc i pins s σ H E I hf st hg
  subst hP hw hK
  obtain ⟨xs,hq,hx⟩:=hg
  obtain ⟨its,rv,p,hz⟩:=I.tuple hq
  obtain ⟨a0,a1,a2,a3,a4,a5⟩:=hf z (by simp)
  obtain ⟨c0,c1,c2,c3,c4,c5⟩:=hf i1 (by simp)
  have hl:=rv.length
  refine jbV (I.ok.hd hc) D st (show s.heap.IsTuple l1 its.toArray from p) (by simp;omega) fun h' eb=>⟨rfl,?_⟩
  have kc:∀ b o,b ∉ [z,i1]→s.heap.get? b=some o→h'.get? b=some o:=fun b o hc' q=>eb b o (fun z=>hc' (by simp [z])) (fun z=>hc' (by simp [z])) q
  have ne:∀ b v,H b=some v→b≠z∧b≠i1:=fun b v q=>⟨fun t=>(by rw [t,a0] at q;cases q),fun t=>(by rw [t,c0] at q;cases q)⟩
  refine I.step (t':=s.toks) (g':=s.gens) (d':=s.drawn) (ch:=[z,i1]) (fun b hb=>?_) (fun b o _ _ hc' q _=>kc b o hc' q) (fun b o _ _ hc' q _=>⟨o.slots,kc b o hc' q⟩)
    (fun b o _ q n=>n) (fun b o hc' q=>⟨o,kc b o hc' q⟩) (fun b ys q=>q) (fun b o z q=>q) (fun b ps q=>⟨#[],by rw [q];simp⟩) (fun m hm=>?_) (fun b v q=>?_) I.bare
  ·simp only [List.mem_cons,List.mem_nil_iff,or_false] at hb
   rcases hb with rfl | rfl
   ·exact ⟨a3,a1,a4,a5⟩
   ·exact ⟨c3,c1,c4,c5⟩
  ·obtain ⟨o,es,ep,ho,r⟩:=hm
   exact ⟨o,es,ep,eb _ o (Ne.symm a1) (Ne.symm c1) ho,r⟩
  ·refine (I.hok b v q).stay (fun c v' hc' q'=>?_) (fun c q'=>q') fun c ys q'=>q'
   rcases hc' with rfl | hc'
   ·exact eb c v' (ne c v q).1 (ne c v q).2 q'
   ·exact eb c v' (ne c _ hc').1 (ne c _ hc').2 q'
 self:=fun _ _ _ _ _ st h=>wpAny_pyIter_zip st.zz h
section
variable {X:Cx} {elts:List Expr} {x1:Nat} {tp:Pos}
def jgl (K:W.Frag) (ta:TA):TI:=fun σ H R=>ta σ H fun vs H1=>∃ l1 l2,vs=[.ref l1,.ref l2]∧(∃ xs,SqT K H1 l1 xs)∧(∃ ys,SqT K H1 l2 ys)∧R (jdp K l1 l2) H1
theorem jff {a b:Expr} {ta:TA} {p pos:Pos} (hg:Gl X "zip") (hm:X.mg "zip" = none) (ha:PA X [a,b] ta) (hp1:j5 a=true:=by rfl) (hp2:j5 b=true:=by rfl):PI X (.Tuple elts x1 tp) (.Call (.Name "zip" p) [a,b] [] pos) (jgl X.K ta):=by
 intro pins s σ H R I h
 refine Call_ (zA I hg hm jdi (PyProof.Rows.callWith_type1 (thn (ha pos pins s σ H _ I h) fun us s1 ⟨vs,H1,I1,r1,q1⟩=>?_) (kR hp1 _ _) (zb _ _ [b] (by simp [hp2]))))
 obtain ⟨l1,l2,e,⟨xs,hq1⟩,⟨ys,hq2⟩,q⟩:=q1
 subst e
 obtain ⟨u1,u2,rfl,r1a,r1b⟩:=jap r1
 cases r1a
 cases r1b
 obtain ⟨its1,rv1,p1,hz1⟩:=I1.tuple hq1
 obtain ⟨its2,rv2,p2,hz2⟩:=I1.tuple hq2
 have lta:l1 < s1.heap.objs.size:=by obtain ⟨o,e,_⟩:=p1;exact Heap.lt_size e
 have ltb:l2 < s1.heap.objs.size:=by obtain ⟨o,e,_⟩:=p2;exact Heap.lt_size e
 refine Ki (show s1.heap.IsTuple l1 its1.toArray from p1) (show s1.heap.IsTuple l2 its2.toArray from p2) fun h' g1 g2 g3 g4 g5 g6 g7=>?_
 refine wpAny_pyIter_zip (s:={ s1 with heap:=h' }) g1 ?_
 have I2:Inv X pins σ H1 { s1 with heap:=h' }:=I1.kept (t':=s1.toks) g7
 refine ⟨s1.heap.objs.size+4,[s1.heap.objs.size+4,s1.heap.objs.size+2,s1.heap.objs.size+3,s1.heap.objs.size,s1.heap.objs.size+1],_,_,_,rfl,I2,jb3 l1 l2 _ _ _ _ _ (Kx lta ltb),⟨g1,g2,⟨_,_,g3⟩,g4,g5⟩,fun b hb=>?_,q⟩
 have hb':s1.heap.objs.size≤b:=by
  simp only [List.mem_cons,List.mem_nil_iff,or_false] at hb
  rcases hb with rfl | rfl | rfl | rfl | rfl
  ·exact Nat.le_add_right _ _
  ·exact Nat.le_add_right _ _
  ·exact Nat.le_add_right _ _
  ·exact Nat.le_refl _
  ·exact Nat.le_add_right _ _
 exact I1.fpOk hb' (I1.hok.fresh hb')
theorem jeq {K:W.Frag} {l1 l2:Addr} {xs ys:List V} {g:TG} {tb:TS} {D:Ends} {σ:St} {H:Hp} (Pv:Nat→St→Hp→Prop) (hlen:xs.length=ys.length) (h0:Pv 0 σ H) (hl:∀ i σ H,i≤xs.length→Pv i σ H→SqT K H l1 xs∧SqT K H l2 ys)
  (hs:∀ i x y σ H t,xs[i]?=some x→ys[i]?=some y→Pv i σ H→H t=none→g (.ref t) σ (upd H t (.tup [x,y])) fun σ2 H2=>tb { D with nx:=Pv (i+1),ct:=Pv (i+1),bk:=D.nx } σ2 H2) (hd:∀ σ H,Pv xs.length σ H→D.nx σ H) :
  ∃ W:Nat→Nat→St→Hp→Prop,(∃ m,W 0 m σ H)∧∀ i m σ H,W i m σ H→
   ((jdp K l1 l2).stop i H∧D.nx σ H)∨((jdp K l1 l2).go i H∧∃ N:St→Hp→Prop,(∀ σ' H',N σ' H'→∃ m',m' < m∧W (i+1) m' σ' H')∧∀ x H',(jdp K l1 l2).yld i H x H'→g x σ H' fun σ2 H2=>tb { D with nx:=N,ct:=N,bk:=D.nx } σ2 H2):=by
 refine ⟨fun i m σ H=>m=xs.length - i∧i≤xs.length∧Pv i σ H,⟨xs.length,by simp,Nat.zero_le _,h0⟩,?_⟩
 rintro i m σ H ⟨rfl,hi,p⟩
 obtain ⟨q1,q2⟩:=hl i σ H hi p
 by_cases hlt:i < xs.length
 ·refine .inr ⟨⟨xs,ys,xs[i],ys[i]'(by omega),q1,q2,by simp [hlt],List.getElem?_eq_getElem _⟩,Pv (i+1),fun σ' H' p'=>⟨xs.length - (i+1),by omega,rfl,hlt,p'⟩,fun x H' y=>?_⟩
  obtain ⟨t,a,b,ht,ha,hb,rfl,rfl⟩:=y
  exact hs i a b σ H t (ha xs q1) (hb ys q2) p ht
 ·have:i=xs.length:=by omega
  subst this
  exact .inl ⟨⟨xs,q1,Nat.le_refl _⟩,hd σ H p⟩
end
theorem ja2 {X:Cx} {p pos p2 pos2:Pos} {e1 e2:Expr} {t:TA} (hc:X.calm=true) (hg:Gl X "dict") (hm:X.mg "dict" = none) (hv:bootBuiltins "dict" = some (.type "dict")) (hg2:Gl X "zip") (hm2:X.mg "zip" = none) (hv2:bootBuiltins "zip" = some (.type "zip")) (ha:QA X [e1,e2] t) (hp1:j5 e1=true:=by rfl) (hp2:j5 e2=true:=by rfl) :
  QE X (.Call (.Name "dict" p) [.Call (.Name "zip" p2) [e1,e2] [] pos2] [] pos) (jfV X.K t):=⟨jcB hc hg hm hv hg2 hm2 hv2 ha.h hp1 hp2⟩
theorem jdt {X:Cx} {elts:List Expr} {x1:Nat} {tp:Pos} {a b:Expr} {ta:TA} {p pos:Pos} (hg:Gl X "zip") (hm:X.mg "zip" = none) (ha:QA X [a,b] ta) (hp1:j5 a=true:=by rfl) (hp2:j5 b=true:=by rfl):QI X (.Tuple elts x1 tp) (.Call (.Name "zip" p) [a,b] [] pos) (jgl X.K ta):=⟨jff hg hm ha.h hp1 hp2⟩
end L2
namespace LW
open PySem L2
abbrev kM:Stmt:=top 32
abbrev qg:Stmt:=top 35
abbrev qh:Stmt:=top 31
def jeO (r:Str):D:=.tup [.str "lose",.str r]
def jgB (x:Str):D:=.tup [.str "any",.str x]
def je3 (y a:Str):D:=.tup [.str "set",.str y,.tup [.str "is",.str a],.int 0]
def zC (f y:Str):Str:=f++("." : Str)++y
def yW (g:Str) (p:Pc) (rows:List Str) (x:Str):Str:=if x = "" then "" else if x∈p.ps then zC g x else ((p.rs.zip rows).lookup x).getD x
def K9 (g:Str) (p:Pc) (rows:List Str) (x0 x:Str):Str:=if x = "out" then x0 else yW g p rows x
def kg (g:Str) (ps as:List Str):List D:=(ps.zip as).map fun q=>je3 (zC g q.1) q.2
def Jv (g:Str) (p:Pc) (rows:List Str) (x0:Str):List D:=rows.map jeO++[jgB x0]++(p.gv.map (Cl.say (K9 g p rows x0))).map jD
def Sm.walk (f:Str) (pr:Str→Pc) (path:List Int) (ways:List (List D)):Sm→List Du×List (List D)
 | .claim C=>(j7 f "claim" path ways [C],ways)
 | .call x g as rows=>(j7 f "need" path (ways.map (·++kg g (pr g).ps as)) ((pr g).nd.map (Cl.say (yW g (pr g) rows))),(ways.map (·++kg g (pr g).ps as)).map (·++Jv g (pr g) rows x))
 | S=>([],ways.map (·++[S.toD]))
structure CalOk (g:Str) (p:Pc):Prop where
 rs:p.rs.Nodup
 psl:p.ps.length≤6
 rsl:p.rs.length≤6
 nd:p.nd.length≤20
 gv:p.gv.length≤20
 gl:g.length≤100
 yl:∀ y∈p.ps,y.length≤100
 ye:∀ y∈p.ps,y≠""
def ProcsAt (G:Hp) (dp:Addr) (gs:List Str) (pr:Str→Pc):Prop:=∃ kvs,G dp=some (.dK kvs)∧∀ g∈gs,∃ v,qr kvs (Sum.inr g)=some v∧Held G (pr g).toD v
theorem ProcsAt.keep {G G':Hp} {dp ml:Addr} {gs:List Str} {pr:Str→Pc} {xs:List V} (k:∀ b o,b≠ml→G b=some o→G' b=some o) (h:G ml=some (.lst xs)) (hp:ProcsAt G dp gs pr):ProcsAt G' dp gs pr:=by
 obtain ⟨kvs,e,hh⟩:=hp
 refine ⟨kvs,k _ _ (fun z=>by rw [z,h] at e;cases e) e,fun g hg=>?_⟩
 obtain ⟨v,e1,e2⟩:=hh g hg
 exact ⟨v,e1,(ku k h).held e2⟩
theorem ProcsAt.mono {G G':Hp} {dp:Addr} {gs:List Str} {pr:Str→Pc} (s:Same G G') (hp:ProcsAt G dp gs pr):ProcsAt G' dp gs pr:=by
 obtain ⟨kvs,e,hh⟩:=hp
 refine ⟨kvs,s _ _ e,fun g hg=>?_⟩
 obtain ⟨v,e1,e2⟩:=hh g hg
 exact ⟨v,e1,e2.mono s⟩
def Sm.fit (gs:List Str) (pr:Str→Pc):Sm→Prop
 | .call _ g as rows=>g∈gs∧CalOk g (pr g)∧(pr g).ps.length=as.length∧(pr g).rs.length=rows.length
 | _=>True
structure WkAt (CW:Addr) (H:Hp) (wo dx ml dp:Addr) (f:Str) (gs:List Str) (pr:Str→Pc) (ms:List V) (wy:Addr) (ways:List (List D)):Prop where
 hwo:H wo=some (.ins CW dx (jdz f (.ref dp) ml))
 hml:H ml=some (.lst ms)
 hp:ProcsAt H dp gs pr
 hwy:∃ was,H wy=some (.lst (was.map V.ref))∧WayL H ml ways was
 nwy:wy≠ml
theorem WkAt.mono {CW:Addr} {H H':Hp} {wo dx ml dp:Addr} {f:Str} {gs:List Str} {pr:Str→Pc} {ms:List V} {wy:Addr} {ways:List (List D)} (W:WkAt CW H wo dx ml dp f gs pr ms wy ways) (s:Same H H'):WkAt CW H' wo dx ml dp f gs pr ms wy ways:=by
 obtain ⟨was,e,h⟩:=W.hwy
 exact ⟨s _ _ W.hwo,s _ _ W.hml,W.hp.mono s,⟨was,s _ _ e,h.mono s⟩,W.nwy⟩
theorem WkAt.nwo {CW:Addr} {H:Hp} {wo dx ml dp:Addr} {f:Str} {gs:List Str} {pr:Str→Pc} {ms:List V} {wy:Addr} {ways:List (List D)} (W:WkAt CW H wo dx ml dp f gs pr ms wy ways):wo≠ml:=fun z=>by have:=W.hwo;rw [z,W.hml] at this;cases this
theorem WkAt.keep {CW:Addr} {H H':Hp} {wo dx ml dp:Addr} {f:Str} {gs:List Str} {pr:Str→Pc} {ms ms':List V} {wy:Addr} {ways:List (List D)} (W:WkAt CW H wo dx ml dp f gs pr ms wy ways) (k:∀ b o,b≠ml→H b=some o→H' b=some o) (h:H' ml=some (.lst ms')):WkAt CW H' wo dx ml dp f gs pr ms' wy ways:=by
 obtain ⟨was,e,hw⟩:=W.hwy
 exact ⟨k _ _ W.nwo W.hwo,h,W.hp.keep k W.hml,⟨was,k _ _ W.nwy e,hw.keep k W.hml⟩,W.nwy⟩
def zL:Sp:=fun vs H Q _=>∃ (wy ml rw:Addr) (was:List Addr) (ms rs:List V) (ways:List (List D)) (rows:List D),vs=[.ref wy,.ref rw]∧H wy=some (.lst (was.map V.ref))∧H ml=some (.lst ms)∧WayL H ml ways was∧H rw=some (.lst rs)∧HeldL H rows rs∧ways.length≤40∧(∀ w∈ways,w.length+rows.length≤900)∧∀ l as H',Same H H'→H l=none→H' l=some (.lst (as.map V.ref))→WayL H' ml (ways.map (·++rows)) as→Q (.ref l) H'
def Yk (CW:Addr):Sp:=fun vs H Q _=>∃ (wo dx ml dp pt wy:Addr) (sv:V) (f:Str) (gs:List Str) (pr:Str→Pc) (ms:List V) (path:List Int) (ways:List (List D)) (x g:Str) (as rows:List Str),vs=[.ref wo,sv,.ref wy,.ref pt]∧WkAt CW H wo dx ml dp f gs pr ms wy ways∧H pt=some (.tup (path.map V.int))∧Held H (Sm.call x g as rows).toD sv∧(Sm.call x g as rows).fit gs pr∧(Sm.call x g as rows).few∧ms.length+ways.length * 20≤900∧ways.length≤40∧(∀ w∈ways,w.length≤800)∧
 ∀ ms' wls wy' H',(∀ b o,b≠ml→H b=some o→H' b=some o)→WkAt CW H' wo dx ml dp f gs pr (ms++ms') wy' ((Sm.call x g as rows).walk f pr path ways).2→DutsAt H' ((Sm.call x g as rows).walk f pr path ways).1 ms' wls→wls.Nodup→(∀ x∈wls,H x=none)→Q (.ref wy') H'
theorem kE {H:Hp} {d:D} {v:V} (h:Held H d v):HeldL H [d] [v]:=jj h jp
section
variable {P:Program} {w:World} {K:W.Frag} {mg:Str→Option Value} {base:Heap}
theorem jbp {f:Addr} {fd:FuncData} (F:Fun K "behind_each" "behind_each" qw f fd):FnOk P w K mg base CX0 1 f fd ["ways","rows"] zL:=by
 have sc:FnScope ["ways","rows"] ["ways","rows"] (jm qw):=fQ
 refine F.okZ sc (fun vs H Q E h=>?_) (fun cdv A outer s H vs Q E hr h=>?_)
 ·obtain ⟨wy,ml,rw,was,ms,rs,ways,rows,rfl,_⟩:=h
  rfl
 obtain ⟨wy,ml,rw,was,ms,rs,ways,rows,rfl,hwy,hml,hW,hrw,hrows,hl40,hlen,q⟩:=h
 have lwa:=hW.len
 refine ⟨_,(ji (jq (qJ ["way"] [1] rfl (kY (sc:=jm qw) (N:=["ways","rows"]) rfl rfl (by decide +kernel)) (kJ (zpv 0)) (fun s H ex=>⟨(jn (i:=0) (show List.Nodup (["way","rows"]:List Str) by decide +kernel) rfl oQ),qS,(js qO (zpv 0) (zpv 1))⟩)))),?_⟩
 refine jO (σ':=[some (.ref wy),some (.ref rw)]) rfl ?_
 refine ⟨_,rfl,wy,rfl,⟨_,SqL.of hwy⟩,fun l hl=>?_⟩
 refine ql (xs:=was.map V.ref) (fun i σ' G=>∃ u as,σ'=[u,some (.ref rw)]∧Same H G∧G l=some (.lst (as.map V.ref))∧as.length=i∧l ∉ as∧WayL G ml ((ways.take i).map (·++rows)) as) ⟨none,[],rfl,je hl _,ja,rfl,List.not_mem_nil,by rw [List.take_zero];trivial⟩ ?_ ?_ ?_
 ·rintro i σ' G _ ⟨u,as,rfl,sG,_⟩
  exact SqL.of (sG _ _ hwy)
 ·rintro i x σ' G hx ⟨u,as,rfl,sG,hG,las,nl,hA⟩
  have hiw:i < was.length:=by have:=(List.getElem?_eq_some_iff.mp hx).1;rw [List.length_map] at this;exact this
  have hi:i < ways.length:=by omega
  rw [List.getElem?_map,List.getElem?_eq_getElem hiw] at hx
  cases hx
  obtain ⟨nwl,us,hwl,hway⟩:=hW.get (List.getElem?_eq_getElem hi) (List.getElem?_eq_getElem hiw)
  have hb:=hlen _ (List.getElem_mem hi)
  have e1:=hway.length
  have e2:=hrows.length
  unfold qe Yi
  refine YE ?_
  refine ⟨_,rfl,_,rfl,_,rw,us,rs,rfl,rfl,sG _ _ hwl,sG _ _ hrw,Nat.le_trans (by omega) (j4 (by decide:900≤1000)),fun l2 hl2=>?_⟩
  have s2:=je hl2 (.lst (us++rs))
  have e3:upd G l2 (.lst (us++rs)) l2=some (.lst (us++rs)):=ja
  have n2:l2≠l:=fun z=>by rw [z,hG] at hl2;cases hl2
  have n3:l2≠ml:=fun z=>by rw [z,sG _ _ hml] at hl2;cases hl2
  generalize upd G l2 (.lst (us++rs))=G2 at *
  have hG2:=s2 _ _ hG
  have k5:∀ b o,b≠l→G2 b=some o→upd G2 l (.lst (as.map V.ref++[.ref l2])) b=some o:=fun b o hb e=>by rw [jl hb];exact e
  have tk5:=ku k5 hG2
  refine ⟨_,hG2,jA (by rw [List.length_map];omega),_,as++[l2],rfl,fun b o e=>k5 b o (jk e hl) (s2 _ _ (sG _ _ e)),by rw [ja,List.map_append];rfl,by rw [List.length_append,las];rfl,?_,?_⟩
  ·intro z
   rcases List.mem_append.mp z with z | z
   ·exact nl z
   ·exact n2 (List.mem_singleton.mp z).symm
  ·rw [show ways.take (i+1)=ways.take i++[ways[i]] by rw [List.take_succ,List.getElem?_eq_getElem hi];rfl,List.map_append]
   refine WayL.app ?_ ⟨⟨n3,us++rs,k5 _ _ n2 e3,?_⟩,trivial⟩
   ·have hA2:=hA.mono s2
    generalize upd G2 l (.lst (as.map V.ref++[.ref l2]))=G3 at *
    clear hG2 hG hA e3 las
    generalize (ways.take i).map (·++rows)=ws at *
    induction ws generalizing as with
    | nil=>cases as with
     | nil=>trivial
     | cons _ _=>exact hA2.elim
    | cons w ws ih=>cases as with
     | nil=>exact hA2.elim
     | cons a as=>
      obtain ⟨⟨m1,us',m2,m3⟩,m4⟩:=hA2
      exact ⟨⟨m1,us',k5 _ _ (fun z=>nl (by rw [z];exact List.mem_cons_self)) m2,tk5.heldL m3⟩,ih as (fun z=>nl (List.mem_cons_of_mem _ z)) m4⟩
   ·exact tk5.heldL (jK (hway.mono (sG.trans s2)) (hrows.mono (sG.trans s2)))
 rintro σ' G ⟨u,as,rfl,sG,hG,las,nl,hA⟩
 rw [List.length_map,lwa,List.take_length] at hA
 exact q l as G sG hl hG hA
end
end LW
namespace L2
open PySem PySem.Spec PyProof.Rows
theorem jca {a b:Str} (h:a.cps.toList=b.cps.toList):a=b:=by
 cases a;cases b
 congr 1
 exact Array.toList_inj.mp h
end L2
namespace LW
open PySem L2
theorem J9 (z:Str):z.length=z.cps.toList.length:=by simp [Str.length]
theorem ZL (x y:Str):(x++y).cps.toList=x.cps.toList++y.cps.toList:=by
 show (x.cps++y.cps).toList=_
 simp
theorem yh (x y:Str):(x++y).length=x.length+y.length:=by rw [J9,J9,J9,ZL,List.length_append]
theorem zl (x:Str):Str.empty++x=x:=jca (by rw [ZL];rfl)
theorem jdw (rows:List Str):∀ (names:List Str) (x:Str),qr (zKV names (rows.map V.str)) (Sum.inr x)=((names.zip rows).lookup x).map V.str:=by
 induction rows with
 | nil=>intro names x;unfold zKV;simp [qr]
 | cons r rows ih=>
  intro names x
  cases names with
  | nil=>unfold zKV;simp [qr]
  | cons n names=>
   have ih:=ih names x
   unfold zKV at ih ⊢
   rw [List.map_cons,List.zip_cons_cons,List.map_cons,List.zip_cons_cons,List.lookup_cons]
   by_cases h:x=n
   ·subst h
    rw [kK rfl]
    simp
   ·rw [kL (fun z=>h (Sum.inr.inj z).symm),ih]
    have:(x == n)=false:=by simpa using h
    rw [this]
structure NmAt (kvs:List (Key×V)) (g:Str) (p:Pc) (rows:List Str) (i:Nat):Prop where
 v:∀ x:Str,qr kvs (Sum.inr x)=if x∈p.ps.take i then some (.str (zC g x)) else ((p.rs.zip rows).lookup x).map V.str
 l:kvs.length≤6+i
theorem NmAt.ok {kvs:List (Key×V)} {g:Str} {p:Pc} {rows:List Str} {i:Nat} (h:NmAt kvs g p rows i) (hi:p.ps.length≤i):NmOk kvs (yW g p rows):=by
 refine ⟨by unfold yW;rw [if_pos rfl],fun x hx=>?_⟩
 rw [h.v,List.take_of_length_le hi]
 unfold yW
 rw [if_neg hx]
 by_cases hp:x∈p.ps
 ·rw [if_pos hp,if_pos hp];rfl
 ·rw [if_neg hp,if_neg hp]
  cases (p.rs.zip rows).lookup x <;> rfl
theorem NmAt.out {kvs:List (Key×V)} {g:Str} {p:Pc} {rows:List Str} {i:Nat} (h:NmAt kvs g p rows i) (hi:p.ps.length≤i) (x0:Str):NmOk (qa kvs (Sum.inr "out") (.str x0)) (K9 g p rows x0):=by
 have ho:=h.ok hi
 have ne:¬ (("" : Str) = "out"):=by decide
 refine ⟨by unfold K9;rw [if_neg ne];exact ho.e,fun x hx=>?_⟩
 rw [zH]
 unfold K9
 by_cases hp:x = "out"
 ·rw [if_pos hp,if_pos (by rw [hp])];rfl
 ·rw [if_neg hp,if_neg (fun z=>hp (Sum.inr.inj z))]
  exact ho.g x hx
theorem WayL.keepL {G G':Hp} {ml:Addr} (k:∀ b xs,G b=some (.lst xs)→G' b=some (.lst xs)) (tk:TK G G'):∀ {ws:List (List D)} {as:List Addr},WayL G ml ws as→WayL G' ml ws as
 | [],[],_=>trivial
 | w :: ws,a :: as,hd=>by
  obtain ⟨⟨n,us,e,hh⟩,hr⟩:=hd
  exact ⟨⟨n,us,k _ _ e,tk.heldL hh⟩,WayL.keepL k tk hr⟩
 | [],_ :: _,hd=>hd.elim
 | _ :: _,[],hd=>hd.elim
theorem DutsAt.keepL {G G':Hp} (k:∀ b xs,G b=some (.lst xs)→G' b=some (.lst xs)) (tk:TK G G'):∀ {ds:List Du} {vs:List V} {wls:List Addr},DutsAt G ds vs wls→DutsAt G' ds vs wls
 | [],[],[],_=>trivial
 | d :: ds,v :: vs,wl :: wls,hd=>by
  obtain ⟨⟨t,pt,us,gv,rfl,h1,h2,h3,h4,h5⟩,h⟩:=hd
  exact ⟨⟨t,pt,us,gv,rfl,tk _ _ h1,tk _ _ h2,k _ _ h3,tk.heldL h4,tk.held h5⟩,DutsAt.keepL k tk h⟩
 | [],[],_ :: _,hd=>hd.elim
 | [],_ :: _,_,hd=>hd.elim
 | _ :: _,[],_,hd=>hd.elim
 | _ :: _,_ :: _,[],hd=>hd.elim
theorem DutsAt.mono {G G':Hp} (s:Same G G') {ds:List Du} {vs:List V} {wls:List Addr} (h:DutsAt G ds vs wls):DutsAt G' ds vs wls:=DutsAt.keepL (fun b xs e=>s _ _ e) (fun b ys e=>s _ _ e) h
theorem zP {G:Hp} {a b:Addr} {xs:List V} {ys:List V} (h1:G a=some (.tup ys)) (h2:G b=some (.lst xs)):a≠b:=fun z=>by rw [z,h2] at h1;cases h1
section
variable {P:Program} {w:World} {K:W.Frag} {mg:Str→Option Value} {base:Heap}
theorem jcH {CW:Addr} {f:Addr} {fd:FuncData} (T:ClsW K CW) (F:Fun K "walk_call" "walk_call" qg f fd) (B:Free0 mg) (Z_zip:mg "zip" = none) (F_meet:Fn P w K mg base 1 "meet" ["walk","kind","path","ways","claims"] (jav CW)) (F_behind_each:Fn P w K mg base 1 "behind_each" ["ways","rows"] zL) (F_said:Fn P w K mg base 4 "said" ["claim","names"] jcd) (F_known:Fn P w K mg base 1 "known" ["claims"] zJ):FnOk P w K mg base CX0 5 f fd ["walk","statement","ways","path"] (Yk CW):=by
 have sc:FnScope ["walk","statement","ways","path","x","f","args","rows","params","own_rows","needs","gives","names","handed","y","arg","told"] ["walk","statement","ways","path"] (jm qg):=fQ
 refine F.okZ sc (fun vs H Q E h=>?_) (fun cdv A outer s H vs Q E hr h=>?_)
 ·obtain ⟨wo,dx,ml,dp,pt,wy,sv,f,gs,pr,ms,path,ways,x,g,as,rows,rfl,_⟩:=h
  rfl
 obtain ⟨wo,dx,ml,dp,pt,wy,sv,f,gs,pr,ms,path,ways,x,g,as,rows,rfl,W,hpt,hS,hfit,hfew,hm,hl40,hw800,q⟩:=h
 have hu:=jeT hr
 refine ⟨_,(jd (qE (jQ qD (zpv 1) (jR jh) ki) (kH rfl (jr (jn (i:=4) sc.nd rfl oQ) (jr (jn (i:=5) sc.nd rfl oQ) (jr (jn (i:=6) sc.nd rfl oQ) (jr (jn (i:=7) sc.nd rfl oQ) kj))))))
   (jd (qE (jQ qD (YW hu (zq (zpv 0) rfl) (zpv 5) (fun _ _=>rfl)) (jR jh) (jR jh)) (kH rfl (jr (jn (i:=8) sc.nd rfl oQ) (jr (jn (i:=9) sc.nd rfl oQ) (jr (jn (i:=10) sc.nd rfl oQ) (jr (jn (i:=11) sc.nd rfl oQ) kj))))))
   (jd (jt (i:=12) sc.nd rfl oQ (ja2 rfl (by rfl) B.dict_ jet (by rfl) Z_zip jdi (jc (zpv 9) (jc (zpv 7) jb))))
   (jd (jt (i:=13) sc.nd rfl oQ (jN jb))
   (jd (kr PassesOwn.never rfl (jdt (by rfl) Z_zip (jc (zpv 8) (jc (zpv 6) jb))) (kH rfl (jr (jn (i:=14) sc.nd rfl oQ) (jr (jn (i:=15) sc.nd rfl oQ) kj))) (jd (YU hu (zpv 12) (zpv 14) (YV (zx (Yh (zpv 5)) (zx jy (zx (Yh (zpv 14)) jcl)))) rfl)
   (ji (j6 (qC PySem.F.plainAttrs_list PySem.F.slot_list_append PySem.F.type_list_append kO (zpv 13) (jc (jY (jc jy (jc (YW hu (zpv 12) (zpv 14) (fun _ _=>rfl)) (jc (jY (jc jy (jc (zpv 15) jb))) (jc jh jb))))) jb))))))
   (jd (jt (i:=2) sc.nd rfl oQ (jP F_behind_each hr (jc (zpv 2) (jc (zpv 13) jb))))
   (jd (j6 (jP F_meet hr (jc (zpv 0) (jc jy (jc (zpv 3) (jc (zpv 2) (jc (qJ ["need"] [12] rfl (kY (sc:=jm qg) (N:=["walk","statement","ways","path","x","f","args","rows","params","own_rows","needs","gives","names","handed","y","arg","told"]) rfl rfl (by decide +kernel)) (qq (zpv 10)) (fun s H ex=>⟨(jn (i:=0) (show List.Nodup (["need","names"]:List Str) by decide +kernel) rfl oQ),qS,(jP F_said hr (jc (zpv 0) (jc (zpv 1) jb)))⟩)) jb)))))))
   (jd (YU hu (zpv 12) jy (zpv 4) rfl)
   (jd (jt (i:=16) sc.nd rfl oQ (jP F_known hr (jc (qJ ["give"] [12] rfl (kY (sc:=jm qg) (N:=["walk","statement","ways","path","x","f","args","rows","params","own_rows","needs","gives","names","handed","y","arg","told"]) rfl rfl (by decide +kernel)) (qq (zpv 11)) (fun s H ex=>⟨(jn (i:=0) (show List.Nodup (["give","names"]:List Str) by decide +kernel) rfl oQ),qS,(jP F_said hr (jc (zpv 0) (jc (zpv 1) jb)))⟩)) jb)))
   (ji (jq (jP F_behind_each hr (jc (zpv 2) (jc (js qO (js qO (qJ ["r"] [] rfl (kY (sc:=jm qg) (N:=["walk","statement","ways","path","x","f","args","rows","params","own_rows","needs","gives","names","handed","y","arg","told"]) rfl rfl (by decide +kernel)) (qq (zpv 7)) (fun s H ex=>⟨(jn (i:=0) (show List.Nodup (["r"]:List Str) by decide +kernel) rfl oQ),qS,(jY (jc jy (jc (zpv 0) jb)))⟩)) (jN (jc (jY (jc jy (jc (zpv 4) jb))) jb))) (zpv 16)) jb)))))))))))))),?_⟩
 refine jO (σ':=[some (.ref wo),some sv,some (.ref wy),some (.ref pt),none,none,none,none,none,none,none,none,none,none,none,none,none]) rfl ?_
 obtain ⟨a,ba,ca,rfl,ha,hba,hca⟩:=Kl hS
 obtain ⟨hg,hcal,hlp,hlr⟩:=hfit
 have hfa:=hfew.1
 have hfr:=hfew.2
 refine ⟨_,rfl,_,rfl,a,_,rfl,SqT.of ha,(fun h=>absurd h.1 (by show ¬ (HT.sIx 5 0 (some 1)=0);decide)),fun t ht=>?_⟩
 have s1:=je ht (.tup (j8 [V.str "call",.str x,.str g,.ref ba,.ref ca] (some 1) none))
 have e1:upd H t (.tup (j8 [V.str "call",.str x,.str g,.ref ba,.ref ca] (some 1) none)) t=some (.tup [.str x,.str g,.ref ba,.ref ca]):=ja
 generalize upd H t (.tup (j8 [V.str "call",.str x,.str g,.ref ba,.ref ca] (some 1) none))=H1 at *
 refine ⟨t,_,rfl,SqT.of e1,rfl,_,_,rfl,_,_,rfl,_,_,rfl,_,_,rfl,rfl,?_⟩
 refine jO (σ':=[some (.ref wo),some (.ref a),some (.ref wy),some (.ref pt),some (.str x),some (.str g),some (.ref ba),some (.ref ca),none,none,none,none,none,none,none,none,none]) rfl ?_
 have W1:=W.mono s1
 obtain ⟨kvs,hdp,hpr⟩:=W.hp
 obtain ⟨pv',hpv,hP⟩:=hpr g hg
 obtain ⟨pa,ap,ar,an,ag,ab,vn,vg,vb,rfl,hpa,hap,har,han,hn,hag,hgv,hab,hbb⟩:=J3 hP
 refine ⟨_,rfl,wo,CW,dx,_,_,rfl,W1.hwo,T.c,T.n2,rfl,_,rfl,dp,_,rfl,(by have:=DGet.k (k:=Sum.inr g) (s1 _ _ hdp);rw [hpv] at this;exact this),?_⟩
 refine ⟨_,rfl,_,rfl,pa,_,rfl,SqT.of (s1 _ _ hpa),(fun h=>absurd h.1 (by show ¬ (HT.sIx 7 0 (some 2)=0);decide)),fun t2 ht2=>?_⟩
 have s2:=je ht2 (.tup (j8 [V.str "proc",.str (pr g).f,.ref ap,.ref ar,.ref an,.ref ag,.ref ab] (some 2) (some 6)))
 have e2:upd H1 t2 (.tup (j8 [V.str "proc",.str (pr g).f,.ref ap,.ref ar,.ref an,.ref ag,.ref ab] (some 2) (some 6))) t2=some (.tup [.ref ap,.ref ar,.ref an,.ref ag]):=ja
 generalize upd H1 t2 (.tup (j8 [V.str "proc",.str (pr g).f,.ref ap,.ref ar,.ref an,.ref ag,.ref ab] (some 2) (some 6)))=H2 at *
 refine ⟨t2,_,rfl,SqT.of e2,rfl,_,_,rfl,_,_,rfl,_,_,rfl,_,_,rfl,rfl,?_⟩
 refine jO (σ':=[some (.ref wo),some (.ref a),some (.ref wy),some (.ref pt),some (.str x),some (.str g),some (.ref ba),some (.ref ca),some (.ref ap),some (.ref ar),some (.ref an),some (.ref ag),none,none,none,none,none]) rfl ?_
 have s12:=s1.trans s2
 refine ⟨_,rfl,_,rfl,ar,ca,(pr g).rs,rows.map V.str,rfl,SqT.of (s12 _ _ har),SqT.of (s12 _ _ hca),by rw [List.length_map];exact hlr,hcal.rs,Nat.le_trans hcal.rsl (by decide),fun dn hdn=>?_⟩
 have s3:=je hdn (.dK (zKV (pr g).rs (rows.map V.str)))
 have e3:upd H2 dn (.dK (zKV (pr g).rs (rows.map V.str))) dn=some (.dK (zKV (pr g).rs (rows.map V.str))):=ja
 generalize upd H2 dn (.dK (zKV (pr g).rs (rows.map V.str)))=H3 at *
 have s13:=s12.trans s3
 refine gQ ?_
 refine ⟨sm rfl,fun hl hhl=>?_⟩
 have s4:=je hhl (.lst [])
 have e4:upd H3 hl (.lst []) hl=some (.lst []):=ja
 generalize upd H3 hl (.lst [])=H4 at *
 have s14:=s13.trans s4
 have e3':=s4 _ _ e3
 have ndh:dn≠hl:=fun z=>by rw [z,e4] at e3';cases e3'
 have hdn0:H dn=none:=s12.free hdn
 have hhl0:H hl=none:=s13.free hhl
 have W4:=W.mono s14
 refine gQ ?_
 refine ⟨_,rfl,_,rfl,ap,ba,rfl,⟨_,SqT.of (s14 _ _ hap)⟩,⟨_,SqT.of (s14 _ _ hba)⟩,?_⟩
 have hnm0:NmAt (zKV (pr g).rs (rows.map V.str)) g (pr g) rows 0:=⟨fun z=>by rw [jdw,List.take_zero];simp,by unfold zKV;rw [List.length_map,List.length_zip,List.length_map];have:=hcal.rsl;omega⟩
 have hlP:(pr g).ps.length≤6:=hcal.psl
 refine jeq (xs:=(pr g).ps.map V.str) (ys:=as.map V.str) (fun i σ G=>∃ u14 u15 kvs hs,σ=[some (.ref wo),some (.ref a),some (.ref wy),some (.ref pt),some (.str x),some (.str g),some (.ref ba),some (.ref ca),some (.ref ap),some (.ref ar),some (.ref an),some (.ref ag),some (.ref dn),some (.ref hl),u14,u15,none]∧Same H G∧G dn=some (.dK kvs)∧NmAt kvs g (pr g) rows i∧G hl=some (.lst hs)∧HeldL G (kg g ((pr g).ps.take i) (as.take i)) hs∧hs.length=i) (by rw [List.length_map,List.length_map];exact hlp) ⟨none,none,_,[],rfl,s14,e3',hnm0,e4,by rw [List.take_zero,List.take_zero];exact jp,rfl⟩ ?_ ?_ ?_
 ·rintro i σ G _ ⟨u14,u15,kvs,hs,rfl,sG,_⟩
  exact ⟨SqT.of (sG _ _ hap),SqT.of (sG _ _ hba)⟩
 ·rintro i vx vy σ G t3 hx hy ⟨u14,u15,kvs,hs,rfl,sG,hGd,hN,hGh,hH,lhs⟩ ht3
  have hip:i < (pr g).ps.length:=by have:=(List.getElem?_eq_some_iff.mp hx).1;rw [List.length_map] at this;exact this
  have hia:i < as.length:=by omega
  rw [List.getElem?_map,List.getElem?_eq_getElem hip] at hx
  rw [List.getElem?_map,List.getElem?_eq_getElem hia] at hy
  cases hx
  cases hy
  have etk:(pr g).ps.take (i+1)=(pr g).ps.take i++[(pr g).ps[i]]:=by rw [List.take_succ,List.getElem?_eq_getElem hip];rfl
  have etk2:as.take (i+1)=as.take i++[as[i]]:=by rw [List.take_succ,List.getElem?_eq_getElem hia];rfl
  have hhd:kg g ((pr g).ps.take (i+1)) (as.take (i+1))=kg g ((pr g).ps.take i) (as.take i)++[je3 (zC g (pr g).ps[i]) as[i]]:=by
   unfold kg
   rw [etk,etk2,List.zip_append (by rw [List.length_take,List.length_take];omega),List.map_append]
   rfl
  have hyl:=hcal.yl _ (List.getElem_mem hip)
  have hgl:=hcal.gl
  rw [hhd]
  have hNv:=hN.v
  have hmem:∀ z,z∈(pr g).ps.take (i+1)↔z∈(pr g).ps.take i∨z=(pr g).ps[i]:=fun z=>by rw [etk,List.mem_append,List.mem_singleton]
  generalize (pr g).ps[i]=y at *
  generalize as[i]=arg at *
  have z1:=je ht3 (.tup [V.str y,.str arg])
  have y1:upd G t3 (.tup [V.str y,.str arg]) t3=some (.tup [V.str y,.str arg]):=ja
  generalize upd G t3 (.tup [V.str y,.str arg])=G1 at *
  refine ⟨t3,_,rfl,SqT.of y1,rfl,_,_,rfl,_,_,rfl,rfl,?_⟩
  refine jO (σ':=[some (.ref wo),some (.ref a),some (.ref wy),some (.ref pt),some (.str x),some (.str g),some (.ref ba),some (.ref ca),some (.ref ap),some (.ref ar),some (.ref an),some (.ref ag),some (.ref dn),some (.ref hl),some (.str y),some (.str arg),none]) rfl ?_
  have dl:("." : Str).length=1:=by decide +kernel
  refine ⟨_,rfl,g,rfl,Nat.le_trans hgl (j4 (by decide)),g,rfl,(by rw [zl];exact Nat.le_trans hgl (j4 (by decide))),".",rfl,(by rw [zl,yh,dl];exact Nat.le_trans (Nat.add_le_add_right hgl 1) (j4 (by decide))),_,rfl,y,rfl,Nat.le_trans hyl (j4 (by decide)),y,rfl,(by rw [zl,yh,yh,dl];exact j4 (by omega)),(by rw [zl,yh,yh,dl];exact j4 (by omega)),?_⟩
  rw [show Str.empty++g++("." : Str)++y=zC g y by rw [zl];rfl]
  have hGd1:=z1 _ _ hGd
  have hll:=hN.l
  refine ⟨_,rfl,_,rfl,dn,_,rfl,DPut.k (k:=Sum.inr y) hGd1 (jA (by omega)),?_⟩
  have k2:∀ b o,b≠dn→G1 b=some o→upd G1 dn (.dK (qa kvs (Sum.inr y) (.str (zC g y)))) b=some o:=fun b o hb e=>by rw [jl hb];exact e
  have tk2:TK G1 (upd G1 dn (.dK (qa kvs (Sum.inr y) (.str (zC g y))))):=fun b ys e=>k2 b _ (fun z=>by rw [z,hGd1] at e;cases e) e
  have y2:upd G1 dn (.dK (qa kvs (Sum.inr y) (.str (zC g y)))) dn=some (.dK (qa kvs (Sum.inr y) (.str (zC g y)))):=ja
  have hN':NmAt (qa kvs (Sum.inr y) (.str (zC g y))) g (pr g) rows (i+1):=⟨fun z=>by
   rw [zH]
   by_cases hz:z=y
   ·rw [if_pos (by rw [hz]),if_pos ((hmem z).mpr (.inr hz)),hz]
   ·rw [if_neg (fun e=>hz (Sum.inr.inj e)),hNv z]
    by_cases hp:z∈(pr g).ps.take i
    ·rw [if_pos hp,if_pos ((hmem z).mpr (.inl hp))]
    ·rw [if_neg hp,if_neg (fun e=>((hmem z).mp e).elim hp hz)],by have:=Zb kvs (Sum.inr y) (.str (zC g y));omega⟩
  have hv2:qr (qa kvs (Sum.inr y) (.str (zC g y))) (Sum.inr y)=some (.str (zC g y)):=by rw [zH,if_pos rfl]
  generalize qa kvs (Sum.inr y) (.str (zC g y))=kvs2 at *
  generalize upd G1 dn (.dK kvs2)=G2 at *
  have hGh2:=k2 _ _ (Ne.symm ndh) (z1 _ _ hGh)
  refine ⟨_,rfl,.inl ⟨rfl,_,SqL.of hGh2⟩,?_⟩
  refine ⟨_,rfl,_,rfl,dn,_,rfl,(by have:=DGet.k (k:=Sum.inr y) y2;rw [hv2] at this;exact this),?_⟩
  refine ⟨_,rfl,sm rfl,fun t4 ht4=>?_⟩
  have z3:=je ht4 (.tup [V.str "is",.str arg])
  have y3:upd G2 t4 (.tup [V.str "is",.str arg]) t4=some (.tup [V.str "is",.str arg]):=ja
  generalize upd G2 t4 (.tup [V.str "is",.str arg])=G3 at *
  refine ⟨sm rfl,fun t5 ht5=>?_⟩
  have z4:=je ht5 (.tup [V.str "set",.str (zC g y),.ref t4,.int 0])
  have y4:upd G3 t5 (.tup [V.str "set",.str (zC g y),.ref t4,.int 0]) t5=some (.tup [V.str "set",.str (zC g y),.ref t4,.int 0]):=ja
  generalize upd G3 t5 (.tup [V.str "set",.str (zC g y),.ref t4,.int 0])=G4 at *
  have z34:=z3.trans z4
  have hGh4:=z34 _ _ hGh2
  have hz:Held G4 (je3 (zC g y) arg) (.ref t5):=j0 y4 (jj jG (jj jG (jj (j0 (z4 _ _ y3) (jj jG (jj jG jp))) (jj qd jp))))
  have tk:TK G4 (upd G4 hl (.lst (hs++[.ref t5]))):=TK.upd hGh4 (fun _ z=>by cases z)
  refine ⟨hl,_,_,rfl,rfl,hGh4,jA (by omega),_,_,kvs2,hs++[.ref t5],rfl,fun b o e=>?_,?_,hN',ja,?_,by rw [List.length_append,lhs];rfl⟩
  ·rw [jl (jk e hhl0)]
   exact z34 _ _ (k2 _ _ (jk e hdn0) (z1 _ _ (sG _ _ e)))
  ·rw [jl ndh];exact z34 _ _ y2
  ·exact jK (tk.heldL ((tk2.heldL (hH.mono z1)).mono z34)) (kE (tk.held hz))
 clear e4 e3' hnm0
 rintro σ G ⟨u14,u15,kvs2,hs,rfl,sG,hGd,hN,hGh,hH,lhs⟩
 rw [List.length_map] at hN hH lhs
 rw [List.take_length,hlp,List.take_length] at hH
 have WG:=W.mono sG
 have nw:∀ w∈ways,w.length+(kg g (pr g).ps as).length≤900:=fun w hw=>by
  have:=hw800 w hw
  have e:(kg g (pr g).ps as).length≤6:=by unfold kg;rw [List.length_map,List.length_zip];omega
  omega
 have hlhd:(kg g (pr g).ps as).length≤6:=by unfold kg;rw [List.length_map,List.length_zip];omega
 obtain ⟨was,hwy,hW⟩:=WG.hwy
 refine ⟨_,rfl,_,rfl,wy,ml,hl,was,ms,hs,ways,kg g (pr g).ps as,rfl,hwy,WG.hml,hW,hGh,hH,hl40,nw,fun wy1 was1 G1 z1 nwy1 hwy1 hW1=>?_⟩
 have sG1:=sG.trans z1
 have hGd1:=z1 _ _ hGd
 have hoN:=hN.ok (Nat.le_refl _)
 have hnl:=hn.length
 rw [List.length_map] at hnl
 have hgl:=hgv.length
 rw [List.length_map] at hgl
 have hnd20:=hcal.nd
 have hgv20:=hcal.gv
 have nwyml:wy1≠ml:=fun z=>by rw [z,WG.hml] at nwy1;cases nwy1
 refine gQ ?_
 refine ⟨_,rfl,_,rfl,_,rfl,_,rfl,an,rfl,⟨_,SqT.of (sG1 _ _ han)⟩,fun ln hln=>?_⟩
 refine yS (xs:=vn) (fun i σ' G'=>∃ u ks,σ'=[u,some (.ref dn)]∧Same G1 G'∧G' ln=some (.lst ks)∧HeldL G' ((((pr g).nd.take i).map (Cl.say (yW g (pr g) rows))).map Cl.toD) ks) ⟨none,[],rfl,je hln _,ja,jp⟩ ?_ ?_ ?_
 ·rintro i σ' G' _ ⟨u,ks,rfl,sG',_⟩
  exact SqT.of (sG' _ _ (sG1 _ _ han))
 ·rintro i v σ' G' hx ⟨u,ks,rfl,sG',hG',hk⟩
  have hi:i < (pr g).nd.length:=by have:=(List.getElem?_eq_some_iff.mp hx).1;omega
  obtain ⟨x',hx',hxH⟩:=hn.get (show ((pr g).nd.map Cl.toD)[i]?=some (pr g).nd[i].toD by rw [List.getElem?_map,List.getElem?_eq_getElem hi];rfl)
  rw [hx] at hx'
  cases hx'
  have hkl:=hk.length
  rw [List.length_map,List.length_map,List.length_take] at hkl
  unfold qe Yi
  refine YE ?_
  refine ⟨_,rfl,_,rfl,v,(pr g).nd[i],dn,kvs2,_,rfl,hxH.mono (sG1.trans sG'),sG' _ _ hGd1,hoN,fun r G2 z2 hr'=>?_⟩
  have hG2:=z2 _ _ hG'
  have tk:TK G2 (upd G2 ln (.lst (ks++[r]))):=TK.upd hG2 (fun _ z=>by cases z)
  refine ⟨ks,hG2,jA (by omega),_,_,rfl,fun b o e=>?_,ja,?_⟩
  ·rw [jl (jk e hln)];exact z2 _ _ (sG' _ _ e)
  ·rw [show (pr g).nd.take (i+1)=(pr g).nd.take i++[(pr g).nd[i]] by rw [List.take_succ,List.getElem?_eq_getElem hi];rfl,List.map_append,List.map_append]
   exact jK (tk.heldL (hk.mono z2)) (kE (tk.held hr'))
 rintro σ' G2 ⟨u,ks,rfl,z2,hG2,hk⟩
 rw [show (pr g).nd.take vn.length=(pr g).nd by rw [← hnl,List.take_length]] at hk
 have sG2:=sG1.trans z2
 have nln:ln≠ml:=fun z=>by rw [z,z1 _ _ WG.hml] at hln;cases hln
 have W2:=W.mono sG2
 have lw1:(ways.map (·++kg g (pr g).ps as)).length≤40:=by rw [List.length_map];exact hl40
 refine ⟨wo,dx,ml,pt,wy1,ln,was1,f,"need",.ref dp,ms,ks,path,_,(pr g).nd.map (Cl.say (yW g (pr g) rows)),rfl,W2.hwo,W2.hml,sG2 _ _ hpt,z2 _ _ hwy1,hW1.mono z2,hG2,hk,nwyml,nln,lw1,?_,fun ms' wls G3 k3 hml3 hD3 nd3 new3=>?_⟩
 ·rw [List.length_map,List.length_map]
  have:ways.length * (pr g).nd.length≤ways.length * 20:=Nat.mul_le_mul_left _ hnd20
  omega
 have kA:∀ b o,b≠ml→H b=some o→G3 b=some o:=fun b o hb e=>k3 b o hb (sG2 _ _ e)
 have W3:=W.keep kA hml3
 have ndml:dn≠ml:=fun z=>by rw [z,W.hml] at hdn0;cases hdn0
 have hGd3:=k3 _ _ ndml (z2 _ _ hGd1)
 have hwy3:=k3 _ _ nwyml (z2 _ _ hwy1)
 have hW3:=(hW1.mono z2).keep k3 W2.hml
 have hagm:=zP hag W.hml
 have hcam:=zP hca W.hml
 have hll:=hN.l
 refine ⟨_,rfl,_,rfl,dn,_,rfl,DPut.k (k:=Sum.inr "out") hGd3 (jA (by omega)),?_⟩
 have hoO:=hN.out (Nat.le_refl _) x
 have k4:∀ b o,b≠dn→G3 b=some o→upd G3 dn (.dK (qa kvs2 (Sum.inr "out") (.str x))) b=some o:=fun b o hb e=>by rw [jl hb];exact e
 have y4:upd G3 dn (.dK (qa kvs2 (Sum.inr "out") (.str x))) dn=some (.dK (qa kvs2 (Sum.inr "out") (.str x))):=ja
 generalize qa kvs2 (Sum.inr "out") (.str x)=kvs3 at *
 generalize upd G3 dn (.dK kvs3)=G4 at *
 have k4l:∀ b xs,G3 b=some (.lst xs)→G4 b=some (.lst xs):=fun b xs e=>k4 b _ (fun z=>by rw [z,hGd3] at e;cases e) e
 have k4t:TK G3 G4:=fun b ys e=>k4 b _ (fun z=>by rw [z,hGd3] at e;cases e) e
 have kB:∀ b o,b≠ml→H b=some o→G4 b=some o:=fun b o hb e=>k4 _ _ (jk e hdn0) (kA b o hb e)
 have hml4:=k4l _ _ hml3
 have hD4:DutsAt G4 (j7 f "need" path (ways.map (·++kg g (pr g).ps as)) ((pr g).nd.map (Cl.say (yW g (pr g) rows)))) ms' wls:=DutsAt.keepL k4l k4t hD3
 have hwy4:=k4l _ _ hwy3
 have hW4:=hW3.keepL k4l k4t
 have hgv4:=(ku kB W.hml).heldL hgv
 refine ⟨_,rfl,ag,rfl,⟨_,SqT.of (kB _ _ hagm hag)⟩,fun lg hlg=>?_⟩
 refine yS (xs:=vg) (fun i σ' G'=>∃ u ks,σ'=[u,some (.ref dn)]∧Same G4 G'∧G' lg=some (.lst ks)∧HeldL G' ((((pr g).gv.take i).map (Cl.say (K9 g (pr g) rows x))).map Cl.toD) ks) ⟨none,[],rfl,je hlg _,ja,jp⟩ ?_ ?_ ?_
 ·rintro i σ' G' _ ⟨u,ks,rfl,sG',_⟩
  exact SqT.of (sG' _ _ (kB _ _ hagm hag))
 ·rintro i v σ' G' hx ⟨u,ks,rfl,sG',hG',hk⟩
  have hi:i < (pr g).gv.length:=by have:=(List.getElem?_eq_some_iff.mp hx).1;omega
  obtain ⟨x',hx',hxH⟩:=hgv4.get (show ((pr g).gv.map Cl.toD)[i]?=some (pr g).gv[i].toD by rw [List.getElem?_map,List.getElem?_eq_getElem hi];rfl)
  rw [hx] at hx'
  cases hx'
  have hkl:=hk.length
  rw [List.length_map,List.length_map,List.length_take] at hkl
  unfold qe Yi
  refine YE ?_
  refine ⟨_,rfl,_,rfl,v,(pr g).gv[i],dn,kvs3,_,rfl,hxH.mono sG',sG' _ _ y4,hoO,fun r G2 z2 hr'=>?_⟩
  have hG2:=z2 _ _ hG'
  have tk:TK G2 (upd G2 lg (.lst (ks++[r]))):=TK.upd hG2 (fun _ z=>by cases z)
  refine ⟨ks,hG2,jA (by omega),_,_,rfl,fun b o e=>?_,ja,?_⟩
  ·rw [jl (jk e hlg)];exact z2 _ _ (sG' _ _ e)
  ·rw [show (pr g).gv.take (i+1)=(pr g).gv.take i++[(pr g).gv[i]] by rw [List.take_succ,List.getElem?_eq_getElem hi];rfl,List.map_append,List.map_append]
   exact jK (tk.heldL (hk.mono z2)) (kE (tk.held hr'))
 rintro σ' G5 ⟨u',ks2,rfl,z5,hG5,hk5⟩
 rw [show (pr g).gv.take vg.length=(pr g).gv by rw [← hgl,List.take_length]] at hk5
 refine ⟨lg,ks2,(pr g).gv.map (Cl.say (K9 g (pr g) rows x)),rfl,hG5,hk5,by rw [List.length_map];omega,fun lk ks3 G6 z6 nlk hlk hk6=>?_⟩
 have z56:=z5.trans z6
 refine gQ ?_
 refine ⟨_,rfl,_,rfl,ca,rfl,⟨_,SqT.of (z56 _ _ (kB _ _ hcam hca))⟩,fun lr hlr=>?_⟩
 have z46:=z56
 have hlen6:=hk6.length
 rw [List.length_map,List.length_map] at hlen6
 refine yS (xs:=rows.map V.str) (fun i σ' G'=>∃ u ks,σ'=[u]∧Same G6 G'∧G' lr=some (.lst ks)∧HeldL G' ((rows.take i).map jeO) ks) ⟨none,[],rfl,je hlr _,ja,jp⟩ ?_ ?_ ?_
 ·rintro i σ' G' _ ⟨u,ks,rfl,sG',_⟩
  exact SqT.of (sG' _ _ (z56 _ _ (kB _ _ hcam hca)))
 ·rintro i v σ' G' hx ⟨u,ks,rfl,sG',hG',hk⟩
  have hi:i < rows.length:=by have:=(List.getElem?_eq_some_iff.mp hx).1;rw [List.length_map] at this;exact this
  rw [List.getElem?_map,List.getElem?_eq_getElem hi] at hx
  cases hx
  have hkl:=hk.length
  rw [List.length_map,List.length_take] at hkl
  unfold qe Yi
  refine YE ?_
  refine ⟨_,rfl,sm rfl,fun t7 ht7=>?_⟩
  have z2:=je ht7 (.tup [V.str "lose",.str rows[i]])
  have y2:upd G' t7 (.tup [V.str "lose",.str rows[i]]) t7=some (.tup [V.str "lose",.str rows[i]]):=ja
  generalize upd G' t7 (.tup [V.str "lose",.str rows[i]])=G2 at *
  have hG2:=z2 _ _ hG'
  have tk:TK G2 (upd G2 lr (.lst (ks++[.ref t7]))):=TK.upd hG2 (fun _ z=>by cases z)
  refine ⟨ks,hG2,jA (by omega),_,_,rfl,fun b o e=>?_,ja,?_⟩
  ·rw [jl (jk e hlr)];exact z2 _ _ (sG' _ _ e)
  ·rw [show rows.take (i+1)=rows.take i++[rows[i]] by rw [List.take_succ,List.getElem?_eq_getElem hi];rfl,List.map_append]
   exact jK (tk.heldL (hk.mono z2)) (kE (tk.held (j0 y2 (jj jG (jj jG jp)))))
 rintro σ' G7 ⟨u7,ks7,rfl,z7,hG7,hk7⟩
 rw [List.length_map,List.take_length] at hk7
 have hl7:=hk7.length
 rw [List.length_map] at hl7
 refine ⟨_,rfl,sm rfl,fun t8 ht8=>?_⟩
 have z8:=je ht8 (.tup [V.str "any",.str x])
 have y8:upd G7 t8 (.tup [V.str "any",.str x]) t8=some (.tup [V.str "any",.str x]):=ja
 generalize upd G7 t8 (.tup [V.str "any",.str x])=G8 at *
 refine ⟨sm rfl,fun l9 hl9=>?_⟩
 have z9:=je hl9 (.lst [V.ref t8])
 have y9:upd G8 l9 (.lst [V.ref t8]) l9=some (.lst [V.ref t8]):=ja
 generalize upd G8 l9 (.lst [V.ref t8])=G9 at *
 have z89:=z8.trans z9
 refine ⟨lr,l9,_,_,rfl,rfl,z89 _ _ hG7,y9,Nat.le_trans (by show ks7.length+1≤1000;omega) (j4 (Nat.le_refl 1000)),fun l10 hl10=>?_⟩
 have z10:=je hl10 (.lst (ks7++[V.ref t8]))
 have y10:upd G9 l10 (.lst (ks7++[V.ref t8])) l10=some (.lst (ks7++[V.ref t8])):=ja
 generalize upd G9 l10 (.lst (ks7++[V.ref t8]))=G10 at *
 have z710:=z7.trans (z89.trans z10)
 refine ⟨_,rfl,l10,lk,_,_,rfl,rfl,y10,z710 _ _ hlk,Nat.le_trans (by rw [List.length_append];show ks7.length+1+_≤1000;omega) (j4 (Nat.le_refl 1000)),fun l11 hl11=>?_⟩
 have z11:=je hl11 (.lst (ks7++[V.ref t8]++ks3))
 have y11:upd G10 l11 (.lst (ks7++[V.ref t8]++ks3)) l11=some (.lst (ks7++[V.ref t8]++ks3)):=ja
 generalize upd G10 l11 (.lst (ks7++[V.ref t8]++ks3))=G11 at *
 have z611:=z710.trans z11
 have z411:=z56.trans z611
 have hrows:HeldL G11 (Jv g (pr g) rows x) (ks7++[V.ref t8]++ks3):=jK (jK (hk7.mono (z89.trans (z10.trans z11))) (kE (j0 ((z9.trans (z10.trans z11)) _ _ y8) (jj jG (jj jG jp))))) (hk6.mono z611)
 have hltd:(Jv g (pr g) rows x).length≤30:=by
  have:=hrows.length
  rw [this,List.length_append,List.length_append]
  show ks7.length+1+_≤30
  omega
 refine ⟨wy1,ml,l11,was1,_,_,_,Jv g (pr g) rows x,rfl,z411 _ _ hwy4,z411 _ _ hml4,hW4.mono z411,y11,hrows,lw1,fun w hw=>?_,fun wy2 was2 G12 z12 nwy2 hwy2 hW12=>?_⟩
 ·obtain ⟨w',hw',rfl⟩:=List.mem_map.mp hw
  have:=hw800 w' hw'
  rw [List.length_append]
  omega
 have z412:=z411.trans z12
 have W12:=(W.keep kB hml4).mono z412
 refine q ms' wls wy2 G12 (fun b o hb e=>z412 _ _ (kB b o hb e)) ⟨W12.hwo,W12.hml,W12.hp,⟨was2,hwy2,hW12⟩,?_⟩ (hD4.mono z412) nd3 fun b hb=>sG2.free (new3 b hb)
 exact fun z=>by rw [z,z411 _ _ hml4] at nwy2;cases nwy2
end
abbrev Wk:=List Du×List (List D)
def goO {α:Type} (wk:List Int→List (List D)→α→Option Wk) (ar:List Int):Nat→List (List D)→List α→Option Wk
 | _,ways,[]=>some ([],ways)
 | k,ways,s :: r=>match wk (ar++[(k:Int)]) ways s with
  | none=>none
  | some r1=>if r1.2.length≤16 then (match goO wk ar (k+1) r1.2 r with
   | none=>none
   | some r2=>some (r1.1++r2.1,r2.2)) else none
def Fo.walk {α:Type} (wk:List Int→List (List D)→α→Option Wk) (f:Str) (pr:Str→Pc) (path:List Int) (ways:List (List D)):Fo α→Option Wk
 | .leaf S=>some (S.walk f pr path ways)
 | .ite a b c x y=>match goO wk (path++[0]) 0 (ways.map (·++[jD (.least a b c)])) x with
  | none=>none
  | some r1=>(match goO wk (path++[1]) 0 (ways.map (·++[jD (.least b a (1 - c))])) y with
   | none=>none
   | some r2=>some (r1.1++r2.1,r1.2++r2.2))
 | .whl a b c ks x=>match goO wk (path++[0]) 0 [ks.map jD++[jD (.least a b c)]] x with
  | none=>none
  | some r1=>some (j7 f "enter" path ways ks++(r1.1++j7 f "keep" path r1.2 ks),[ks.map jD++[jD (.least b a (1 - c))]])
def jM (f:Str) (pr:Str→Pc):(n:Nat)→List Int→List (List D)→StN n→Option Wk
 | 0=>fun _ _ _=>none
 | n+1=>fun path ways s=>Fo.walk (jM f pr n) f pr path ways s
abbrev goN (f:Str) (pr:Str→Pc) (n:Nat) (ar:List Int) (ways:List (List D)) (l:List (StN n)):Option Wk:=goO (jM f pr n) ar 0 ways l
def Sm.cost:Sm→Nat
 | .claim _=>16
 | .call _ _ _ _=>320
 | _=>0
def Sm.len:Sm→Nat
 | .claim _=>0
 | .call _ _ _ _=>33
 | _=>1
def Fo.cost {α:Type} (g:α→Nat):Fo α→Nat
 | .leaf S=>S.cost
 | .ite _ _ _ x y=>(x.map g).sum+(y.map g).sum
 | .whl _ _ _ ks x=>32 * ks.length+(x.map g).sum
def Fo.len {α:Type} (g:α→Nat):Fo α→Nat
 | .leaf S=>S.len
 | .ite _ _ _ x y=>1+(x.map g).sum+(y.map g).sum
 | .whl _ _ _ ks x=>ks.length+1+(x.map g).sum
def Fo.ok {α:Type} (g:α→Prop) (gs:List Str) (pr:Str→Pc):Fo α→Prop
 | .leaf S=>S.fit gs pr∧S.few
 | .ite _ _ _ x y=>x.length≤100∧y.length≤100∧(∀ s∈x,g s)∧∀ s∈y,g s
 | .whl _ _ _ ks x=>ks.length≤20∧x.length≤100∧∀ s∈x,g s
def kF:(n:Nat)→StN n→Nat
 | 0=>fun _=>0
 | n+1=>fun s=>Fo.cost (kF n) s
def qp:(n:Nat)→StN n→Nat
 | 0=>fun _=>0
 | n+1=>fun s=>Fo.len (qp n) s
def okN (gs:List Str) (pr:Str→Pc):(n:Nat)→StN n→Prop
 | 0=>fun _=>False
 | n+1=>fun s=>Fo.ok (okN gs pr n) gs pr s
structure Bnd (r:Wk) (cost len most:Nat) (ways:List (List D)):Prop where
 c:r.1.length≤cost
 w:r.2.length≤most
 l:∀ m,(∀ v∈ways,v.length+len≤m)→len≤m→∀ v∈r.2,v.length≤m
theorem jc0 {f:Str} {gs:List Str} {pr:Str→Pc} {path:List Int} {ways:List (List D)} {S:Sm} (hf:S.fit gs pr) (hw:S.few) (h16:ways.length≤16):Bnd (S.walk f pr path ways) S.cost S.len 32 ways:=by
 cases S with
 | claim C=>
  refine ⟨?_,Nat.le_trans h16 (by decide),fun m h _ v hv=>h v hv⟩
  show (j7 f "claim" path ways [C]).length≤16
  rw [kX]
  show ways.length * 1≤16
  omega
 | call x g as rows=>
  refine ⟨?_,?_,fun m h _ v hv=>?_⟩
  ·show (j7 f "need" path (ways.map (·++kg g (pr g).ps as)) ((pr g).nd.map (Cl.say (yW g (pr g) rows)))).length≤320
   rw [kX,List.length_map,List.length_map]
   have:=hf.2.1.nd
   exact Nat.le_trans (Nat.mul_le_mul h16 this) (by decide)
  ·show ((ways.map (·++kg g (pr g).ps as)).map (·++Jv g (pr g) rows x)).length≤32
   rw [List.length_map,List.length_map]
   omega
  ·obtain ⟨w1,h1,rfl⟩:=List.mem_map.mp (show v∈(ways.map (·++kg g (pr g).ps as)).map (·++Jv g (pr g) rows x) from hv)
   obtain ⟨w2,h2,rfl⟩:=List.mem_map.mp h1
   have h3:=h w2 h2
   have h4:(kg g (pr g).ps as).length≤6:=by unfold kg;rw [List.length_map,List.length_zip];have:=hf.2.1.psl;omega
   have h5:(Jv g (pr g) rows x).length≤27:=by
    unfold Jv
    rw [List.length_append,List.length_append,List.length_map,List.length_map,List.length_map]
    have:=hf.2.1.gv
    have:=hw.2
    show rows.length+1+(pr g).gv.length≤27
    omega
   have h6:(Sm.call x g as rows).len=33:=rfl
   rw [List.length_append,List.length_append]
   omega
 | set x t c=>
  refine ⟨Nat.zero_le _,?_,fun m h _ v hv=>?_⟩
  ·show (ways.map (·++[(Sm.set x t c).toD])).length≤32
   rw [List.length_map];omega
  ·obtain ⟨w1,h1,rfl⟩:=List.mem_map.mp (show v∈ways.map (·++[(Sm.set x t c).toD]) from hv)
   rw [List.length_append]
   exact h w1 h1
 | put r x d t c=>
  refine ⟨Nat.zero_le _,?_,fun m h _ v hv=>?_⟩
  ·show (ways.map (·++[(Sm.put r x d t c).toD])).length≤32
   rw [List.length_map];omega
  ·obtain ⟨w1,h1,rfl⟩:=List.mem_map.mp (show v∈ways.map (·++[(Sm.put r x d t c).toD]) from hv)
   rw [List.length_append]
   exact h w1 h1
 | any x=>
  refine ⟨Nat.zero_le _,?_,fun m h _ v hv=>?_⟩
  ·show (ways.map (·++[(Sm.any x).toD])).length≤32
   rw [List.length_map];omega
  ·obtain ⟨w1,h1,rfl⟩:=List.mem_map.mp (show v∈ways.map (·++[(Sm.any x).toD]) from hv)
   rw [List.length_append]
   exact h w1 h1
theorem Z7 {α:Type} {wk:List Int→List (List D)→α→Option Wk} {c ln:α→Nat} {ok:α→Prop} (hwk:∀ s path ways r,ok s→ways.length≤16→wk path ways s=some r→Bnd r (c s) (ln s) 32 ways):∀ (l:List α) (k:Nat) (ar:List Int) (ways:List (List D)) (r:Wk),(∀ s∈l,ok s)→ways.length≤16→goO wk ar k ways l=some r→Bnd r (l.map c).sum (l.map ln).sum 16 ways
 | [],k,ar,ways,r,_,h16,h=>by
  unfold goO at h
  cases h
  exact ⟨Nat.zero_le _,h16,fun m h _ v hv=>h v hv⟩
 | s :: l,k,ar,ways,r,hok,h16,h=>by
  unfold goO at h
  split at h
  ·cases h
  ·rename_i r1 e1
   have b1:=hwk s _ _ r1 (hok s List.mem_cons_self) h16 e1
   split at h
   ·rename_i h17
    split at h
    ·cases h
    ·rename_i r2 e2
     cases h
     have b2:=Z7 hwk l _ _ _ r2 (fun t ht=>hok t (List.mem_cons_of_mem _ ht)) h17 e2
     refine ⟨?_,b2.w,fun m hm hl v hv=>?_⟩
     ·show (r1.1++r2.1).length≤_
      rw [List.length_append,List.map_cons,List.sum_cons]
      have:=b1.c;have:=b2.c
      omega
     ·rw [List.map_cons,List.sum_cons] at hm hl
      refine b2.l m (fun u hu=>?_) (by omega) v hv
      have:=b1.l (m - (l.map ln).sum) (fun t ht=>by have:=hm t ht;omega) (by omega) u hu
      omega
   ·cases h
theorem Y2 {f:Str} {gs:List Str} {pr:Str→Pc}:∀ (n:Nat) (s:StN n) (path:List Int) (ways:List (List D)) (r:Wk),okN gs pr n s→ways.length≤16→jM f pr n path ways s=some r→Bnd r (kF n s) (qp n s) 32 ways
 | 0,s,_,_,_,h,_,_=>h.elim
 | n+1,s,path,ways,r,hok,h16,h=>by
  have ih:=Z7 (c:=kF n) (ln:=qp n) (ok:=okN gs pr n) (wk:=jM f pr n) fun s path ways r=>Y2 n s path ways r
  have hm:∀ d:D,(ways.map (·++[d])).length≤16:=fun d=>by rw [List.length_map];exact h16
  match s,hok,h with
  | .leaf S,hok,h=>
   cases h
   exact jc0 hok.1 hok.2 h16
  | .ite a b c x y,hok,h=>
   obtain ⟨_,_,hx,hy⟩:=hok
   unfold jM Fo.walk at h
   dsimp only at h
   split at h
   ·cases h
   ·rename_i r1 e1
    split at h
    ·cases h
    ·rename_i r2 e2
     cases h
     have b1:=ih x _ _ _ r1 hx (hm _) e1
     have b2:=ih y _ _ _ r2 hy (hm _) e2
     refine ⟨?_,?_,fun m hm hl v hv=>?_⟩
     ·show (r1.1++r2.1).length≤(x.map (kF n)).sum+(y.map (kF n)).sum
      rw [List.length_append]
      exact Nat.add_le_add b1.c b2.c
     ·show (r1.2++r2.2).length≤32
      rw [List.length_append]
      exact Nat.add_le_add b1.w b2.w
     ·have hm:∀ v∈ways,v.length+(1+(x.map (qp n)).sum+(y.map (qp n)).sum)≤m:=hm
      have hl:1+(x.map (qp n)).sum+(y.map (qp n)).sum≤m:=hl
      rcases List.mem_append.mp (show v∈r1.2++r2.2 from hv) with hv | hv
      ·refine b1.l m (fun u hu=>?_) (by omega) v hv
       obtain ⟨u',hu',rfl⟩:=List.mem_map.mp hu
       have:=hm u' hu'
       rw [List.length_append]
       show u'.length+1+_≤m
       omega
      ·refine b2.l m (fun u hu=>?_) (by omega) v hv
       obtain ⟨u',hu',rfl⟩:=List.mem_map.mp hu
       have:=hm u' hu'
       rw [List.length_append]
       show u'.length+1+_≤m
       omega
  | .whl a b c ks x,hok,h=>
   obtain ⟨_,_,hx⟩:=hok
   unfold jM Fo.walk at h
   dsimp only at h
   split at h
   ·cases h
   ·rename_i r1 e1
    cases h
    have b1:=ih x _ _ [ks.map jD++[jD (.least a b c)]] r1 hx (show 1≤16 by decide) e1
    refine ⟨?_,?_,fun m hm hl v hv=>?_⟩
    ·show (j7 f "enter" path ways ks++(r1.1++j7 f "keep" path r1.2 ks)).length≤32 * ks.length+(x.map (kF n)).sum
     rw [List.length_append,List.length_append,kX,kX]
     have h1:=b1.c
     have h2:ways.length * ks.length≤16 * ks.length:=Nat.mul_le_mul_right _ h16
     have h3:r1.2.length * ks.length≤16 * ks.length:=Nat.mul_le_mul_right _ b1.w
     omega
    ·show 1≤32
     decide
    ·have hl:ks.length+1+(x.map (qp n)).sum≤m:=hl
     rw [List.mem_singleton.mp (show v∈[ks.map jD++[jD (.least b a (1 - c))]] from hv),List.length_append,List.length_map]
     show ks.length+1≤m
     omega
theorem yd {f:Str} {gs:List Str} {pr:Str→Pc} {n:Nat} {l:List (StN n)} {k:Nat} {ar:List Int} {ways:List (List D)} {r:Wk} (hok:∀ s∈l,okN gs pr n s) (h16:ways.length≤16) (h:goO (jM f pr n) ar k ways l=some r):Bnd r (l.map (kF n)).sum (l.map (qp n)).sum 16 ways:=
 Z7 (fun s path ways r=>Y2 n s path ways r) l k ar ways r hok h16 h
theorem Zq {α:Type} {wk:List Int→List (List D)→α→Option Wk} {ar:List Int} (s:α):∀ (l:List α) (k:Nat) (ways:List (List D)),goO wk ar k ways (l++[s])=(match goO wk ar k ways l with
  | none=>none
  | some r1=>match wk (ar++[((k+l.length:Nat):Int)]) r1.2 s with
   | none=>none
   | some r2=>if r2.2.length≤16 then some (r1.1++r2.1,r2.2) else none)
 | [],k,ways=>by
  rw [List.nil_append]
  unfold goO
  dsimp only
  rw [List.length_nil,Nat.add_zero]
  cases wk (ar++[(k:Int)]) ways s with
  | none=>rfl
  | some r=>
   dsimp only
   split
   ·unfold goO
    simp
   ·rfl
 | t :: l,k,ways=>by
  rw [List.cons_append,goO,goO]
  cases wk (ar++[(k:Int)]) ways t with
  | none=>rfl
  | some r=>
   dsimp only
   split
   ·rw [Zq s l (k+1) r.2,List.length_cons,show k+1+l.length=k+(l.length+1) by omega]
    cases goO wk ar (k+1) r.2 l with
    | none=>rfl
    | some r2=>
     dsimp only
     cases wk (ar++[((k+(l.length+1):Nat):Int)]) r2.2 s with
     | none=>rfl
     | some r3=>
      dsimp only
      by_cases h3:r3.2.length≤16
      ·rw [if_pos h3,if_pos h3]
       simp
      ·rw [if_neg h3,if_neg h3]
   ·rfl
theorem Ke {α:Type} {wk:List Int→List (List D)→α→Option Wk} {ar:List Int}:∀ (l r:List α) (k:Nat) (ways:List (List D)),goO wk ar k ways l=none→goO wk ar k ways (l++r)=none
 | [],r,k,ways,h=>by cases h
 | t :: l,r,k,ways,h=>by
  rw [List.cons_append]
  rw [goO] at h ⊢
  cases e:wk (ar++[(k:Int)]) ways t with
  | none=>rfl
  | some r1=>
   rw [e] at h
   dsimp only at h ⊢
   split
   ·rename_i h16
    rw [if_pos h16] at h
    cases e2:goO wk ar (k+1) r1.2 l with
    | none=>rw [Ke l r (k+1) r1.2 e2]
    | some r2=>rw [e2] at h;cases h
   ·rfl
abbrev JI:Stmt:=top 15
abbrev zM:Stmt:=top 33
abbrev qL:Stmt:=top 34
def yE:Sp:=fun vs H Q _=>∃ (v:V) (a b:Tm) (c:Int),vs=[v]∧Held H (Cl.least a b c).toD v∧∀ u H',Same H H'→Held H' (Cl.least b a (1 - c)).toD u→Q u H'
structure PreW (f:Str) (ms:List V) (path:List Int) (ways:List (List D)) (d cost len:Nat):Prop where
 fl:f.length≤100
 w16:ways.length≤16
 hms:ms.length+cost≤900
 hlen:∀ w∈ways,w.length+len≤800
 len0:len≤760
 hpath:path.length+d≤90
def jaW (CW CT:Addr) (H:Hp) (wo dx ml dp:Addr) (f:Str) (gs:List Str) (pr:Str→Pc) (ms:List V) (r:Option Wk) (Q:VK) (E:XK):Prop:=
 (∀ r' ms' wls wy' H',r=some r'→(∀ b o,b≠ml→H b=some o→H' b=some o)→WkAt CW H' wo dx ml dp f gs pr (ms++ms') wy' r'.2→DutsAt H' r'.1 ms' wls→wls.Nodup→(∀ x∈wls,H x=none)→Q (.ref wy') H')∧
 (r=none→∀ H',(∀ b o,b≠ml→H b=some o→H' b=some o)→E (.ref CT) none H')
def jcc (CW CT:Addr) (n:Nat):Sp:=fun vs H Q E=>∃ (wo dx ml dp pt wy:Addr) (sv:V) (f:Str) (gs:List Str) (pr:Str→Pc) (ms:List V) (path:List Int) (ways:List (List D)) (S:StN (n+1)),vs=[.ref wo,sv,.ref wy,.ref pt]∧WkAt CW H wo dx ml dp f gs pr ms wy ways∧H pt=some (.tup (path.map V.int))∧Held H (stD (n+1) S) sv∧okN gs pr (n+1) S∧PreW f ms path ways (2 * n+1) (kF (n+1) S) (qp (n+1) S)∧
 jaW CW CT H wo dx ml dp f gs pr ms (jM f pr (n+1) path ways S) Q E
def Jc (CW CT:Addr) (n:Nat):Sp:=fun vs H Q E=>∃ (wo dx ml dp ar wy ba:Addr) (f:Str) (gs:List Str) (pr:Str→Pc) (ms bs:List V) (path:List Int) (ways:List (List D)) (bd:List (StN n)),vs=[.ref wo,.ref ba,.ref wy,.ref ar]∧WkAt CW H wo dx ml dp f gs pr ms wy ways∧H ar=some (.tup (path.map V.int))∧H ba=some (.tup bs)∧HeldL H (bd.map (stD n)) bs∧(∀ S∈bd,okN gs pr n S)∧bd.length≤100∧PreW f ms path ways (2 * n) (bd.map (kF n)).sum (bd.map (qp n)).sum∧
 jaW CW CT H wo dx ml dp f gs pr ms (goN f pr n path ways bd) Q E
section
variable {P:Program} {w:World} {K:W.Frag} {mg:Str→Option Value} {base:Heap}
theorem jbk {f:Addr} {fd:FuncData} (F:Fun K "turned" "turned" JI f fd):FnOk P w K mg base CX0 1 f fd ["least"] yE:=by
 have sc:FnScope ["least","a","b","c"] ["least"] (jm JI):=fQ
 refine F.okZ sc (fun vs H Q E h=>?_) (fun cdv A outer s H vs Q E hr h=>?_)
 ·obtain ⟨v,a,b,c,rfl,_⟩:=h
  rfl
 obtain ⟨v,a,b,c,rfl,hv,q⟩:=h
 refine ⟨_,(jd (qE (jQ qD (zpv 0) (jR jh) ki) (kH rfl (jr (jn (i:=1) sc.nd rfl oQ) (jr (jn (i:=2) sc.nd rfl oQ) (jr (jn (i:=3) sc.nd rfl oQ) kj)))))
   (ji (jq (zpd (jC (jg jB (jg (kD 2) (jg (kD 1) (jg (yq (js Yr jh (zpv 3))) jv))))))))),?_⟩
 refine jO (σ':=[some v,none,none,none]) rfl ?_
 obtain ⟨t,va,vb,rfl,ht,ha,hb⟩:=Ji hv
 refine ⟨_,rfl,_,rfl,t,_,rfl,SqT.of ht,(fun h=>absurd h.1 (by show ¬ (HT.sIx 4 0 (some 1)=0);decide)),fun t' ht'=>?_⟩
 have s1:=je ht' (.tup (j8 [.str "least",va,vb,.int c] (some 1) none))
 have e1:upd H t' (.tup (j8 [.str "least",va,vb,.int c] (some 1) none)) t'=some (.tup [va,vb,.int c]):=ja
 generalize upd H t' (.tup (j8 [.str "least",va,vb,.int c] (some 1) none))=H1 at *
 refine ⟨t',_,rfl,SqT.of e1,rfl,_,_,rfl,_,_,rfl,_,_,rfl,rfl,?_⟩
 refine jO (σ':=[some (.ref t),some va,some vb,some (.int c)]) rfl ?_
 refine ⟨(Cl.least b a (1 - c)).toD,⟨_,rfl,Nat.le_of_ble_eq_true rfl,_,_,rfl,rfl,_,_,rfl,⟨_,rfl,(hb.mono s1)⟩,_,_,rfl,⟨_,rfl,(ha.mono s1)⟩,_,_,rfl,(fun G sG Q q=>?_),rfl⟩,fun v H' s h=>q v H' (s1.trans s) h⟩
 exact ⟨_,rfl,1,c,rfl,rfl,q _ _ (fun _ _ e=>e) (by unfold Held;rfl)⟩
theorem jcR {CW CT:Addr} {f:Addr} {fd:FuncData} {td:Tok} (F:Fun K "walk_body" "walk_body" qh f fd) (B:Free0 mg) (Z_enumerate:mg "enumerate" = none) (G_ways:mg "MOST_WAYS" = some (.int 16 td)):FnOk P w K mg base (CX1 P w) 7 f fd ["walk","body","ways","around"] (Jc CW CT 0):=by
 have sc:FnScope ["walk","body","ways","around","k","statement"] ["walk","body","ways","around"] (jm qh):=fQ
 refine F.okX sc (fun vs H Q E h=>?_) (fun cdv A outer s H vs Q E hr W h=>?_)
 ·obtain ⟨wo,dx,ml,dp,ar,wy,ba,f,gs,pr,ms,bs,path,ways,bd,rfl,_⟩:=h
  rfl
 obtain ⟨wo,dx,ml,dp,ar,wy,ba,f,gs,pr,ms,bs,path,ways,bd,rfl,U,har,hba,hbd,hok,hl,hp,q⟩:=h
 cases jfY (l:=bd)
 cases jz hbd
 refine ⟨_,(jd (kr W.own rfl (Ja (by rfl) Z_enumerate (jc (zpv 1) jb)) (kH rfl (jr (jn (i:=4) sc.nd rfl oQ) (jr (jn (i:=5) sc.nd rfl oQ) kj))) (jd (jt (i:=2) sc.nd rfl oQ zY)
   (ji (jU (jx Zh (kP jZ (by rfl) B.len_ qX (jc (zpv 2) jb)) (zg (v:=.int 16) (by rfl) G_ways ⟨_,rfl⟩) (jJ _)) (ji ja0) jE))))
   (ji (jq (zpv 2)))),?_⟩
 refine jO (σ':=[some (.ref wo),some (.ref ba),some (.ref wy),some (.ref ar),none,none]) rfl ?_
 refine ⟨_,rfl,ba,rfl,⟨_,SqT.of hba⟩,?_⟩
 refine Jo (xs:=[]) (fun i σ G=>∃ u4 u5,σ=[some (.ref wo),some (.ref ba),some (.ref wy),some (.ref ar),u4,u5]∧G=H) ⟨none,none,rfl,rfl⟩ ?_ ?_ ?_
 ·rintro i σ G _ ⟨u4,u5,rfl,rfl⟩
  exact SqT.of hba
 ·rintro i y σ G t hy _ _
  simp at hy
 rintro σ G ⟨u4,u5,rfl,rfl⟩
 exact ⟨_,rfl,q.1 ([],ways) [] [] wy G rfl (fun _ _ _ e=>e) (by rw [List.append_nil];exact U) trivial List.nodup_nil fun _ z=>by cases z⟩
theorem jec {n:Nat} {CW CT:Addr} {f:Addr} {fd:FuncData} {td:Tok} (F:Fun K "walk_body" "walk_body" qh f fd) (T:ClsW K CW) (B:Free0 mg) (Z_enumerate:mg "enumerate" = none) (G_ways:mg "MOST_WAYS" = some (.int 16 td)) (G_TooMany:mg "TooMany" = some (.ref CT)) (X_TooMany:W.excIn K CT valB "ValueError.__new__" = true) (F_walk_statement:FnX P w K mg base (3 * n+9) "walk_statement" ["walk","statement","ways","path"] (jcc CW CT n)):FnOk P w K mg base (CX1 P w) (3 * n+9+1) f fd ["walk","body","ways","around"] (Jc CW CT (n+1)):=by
 have sc:FnScope ["walk","body","ways","around","k","statement"] ["walk","body","ways","around"] (jm qh):=fQ
 refine F.okX sc (fun vs H Q E h=>?_) (fun cdv A outer s H vs Q E hr W h=>?_)
 ·obtain ⟨wo,dx,ml,dp,ar,wy,ba,f,gs,pr,ms,bs,path,ways,bd,rfl,_⟩:=h
  rfl
 obtain ⟨wo,dx,ml,dp,ar,wy,ba,f,gs,pr,ms,bs,path,ways,bd,rfl,U,har,hba,hbd,hok,hl100,hp,q⟩:=h
 refine ⟨_,(jd (kr W.own rfl (Ja (by rfl) Z_enumerate (jc (zpv 1) jb)) (kH rfl (jr (jn (i:=4) sc.nd rfl oQ) (jr (jn (i:=5) sc.nd rfl oQ) kj))) (jd (jt (i:=2) sc.nd rfl oQ (qZ F_walk_statement W hr (jc (zpv 0) (jc (zpv 5) (jc (zpv 2) (jc (js qc (zpv 3) (jY (jc (zpv 4) jb))) jb))))))
   (ji (jU (jx Zh (kP jZ (by rfl) B.len_ qX (jc (zpv 2) jb)) (zg (v:=.int 16) (by rfl) G_ways ⟨_,rfl⟩) (jJ _)) (ji (jaZ W rfl (by rfl) G_TooMany X_TooMany (jc (YV (zx jy (zx (jbS (zg (v:=.int 16) (by rfl) G_ways ⟨_,rfl⟩)) (zx jy (zx (Yh (zq (zpv 0) rfl)) jcl))))) jb))) jE))))
   (ji (jq (zpv 2)))),?_⟩
 refine jO (σ':=[some (.ref wo),some (.ref ba),some (.ref wy),some (.ref ar),none,none]) rfl ?_
 have hbl:=hbd.length
 rw [List.length_map] at hbl
 have nar:=zP har U.hml
 have nba:=zP hba U.hml
 refine ⟨_,rfl,ba,rfl,⟨_,SqT.of hba⟩,?_⟩
 refine Jo (xs:=bs) (fun i σ G=>∃ u4 u5 ms' wls wy' r,goN f pr (n+1) path ways (bd.take i)=some r∧σ=[some (.ref wo),some (.ref ba),some (.ref wy'),some (.ref ar),u4,u5]∧(∀ b o,b≠ml→H b=some o→G b=some o)∧WkAt CW G wo dx ml dp f gs pr (ms++ms') wy' r.2∧DutsAt G r.1 ms' wls∧wls.Nodup∧∀ x∈wls,H x=none) ⟨none,none,[],[],wy,([],ways),rfl,rfl,fun _ _ _ e=>e,by rw [List.append_nil];exact U,trivial,List.nodup_nil,fun _ z=>by cases z⟩ ?_ ?_ ?_
 ·rintro i σ G _ ⟨u4,u5,ms',wls,wy',r,er,rfl,kG,_⟩
  exact SqT.of (kG _ _ nba hba)
 ·rintro i y σ G t hy ⟨u4,u5,ms',wls,wy',r,er,rfl,kG,U',hD,hnd,hnew⟩ ht
  have hi:i < bd.length:=by have:=(List.getElem?_eq_some_iff.mp hy).1;omega
  obtain ⟨y',hy',hyH⟩:=hbd.get (show (bd.map (stD (n+1)))[i]?=some (stD (n+1) bd[i]) by rw [List.getElem?_map,List.getElem?_eq_getElem hi];rfl)
  rw [hy] at hy'
  cases hy'
  have etk:bd.take (i+1)=bd.take i++[bd[i]]:=by rw [List.take_succ,List.getElem?_eq_getElem hi];rfl
  have edr:bd=bd.take (i+1)++bd.drop (i+1):=(List.take_append_drop _ _).symm
  have bn:=yd (gs:=gs) (fun S hS=>hok S (List.mem_of_mem_take hS)) hp.w16 er
  have ldu:=hD.len
  have hsn:=Zq (wk:=jM f pr (n+1)) (ar:=path) bd[i] (bd.take i) 0 ways
  rw [← etk,show goO (jM f pr (n+1)) path 0 ways (bd.take i)=some r from er] at hsn
  dsimp only at hsn
  rw [List.length_take,Nat.min_eq_left (Nat.le_of_lt hi),Nat.zero_add] at hsn
  have hsum:∀ g:StN (n+1)→Nat,((bd.take i).map g).sum+g bd[i]≤(bd.map g).sum:=fun g=>by
   have h1:(bd.map g).sum=((bd.take (i+1)).map g).sum+((bd.drop (i+1)).map g).sum:=by rw [← List.sum_append,← List.map_append,List.take_append_drop]
   rw [h1,etk,List.map_append,List.sum_append]
   simp
  have hc:=hsum (kF (n+1))
  have hln:=hsum (qp (n+1))
  have hms:=hp.hms
  have hl0:=hp.len0
  have hpa:=hp.hpath
  have bc:=bn.c
  have hiOk:=hok _ (List.getElem_mem hi)
  have hnone:∀ r2,jM f pr (n+1) (path++[(i:Int)]) r.2 bd[i]=r2→(r2=none∨∃ r3,r2=some r3∧¬ r3.2.length≤16)→goN f pr (n+1) path ways bd=none:=fun r2 e h=>by
   rw [edr]
   refine Ke _ _ _ _ ?_
   rw [hsn,e]
   rcases h with rfl | ⟨r3,rfl,h3⟩
   ·rfl
   ·dsimp only
    rw [if_neg h3]
  have s1:=je ht (.tup [V.int i,y])
  have e1:upd G t (.tup [V.int i,y]) t=some (.tup [V.int i,y]):=ja
  generalize upd G t (.tup [V.int i,y])=G1 at *
  refine ⟨t,_,rfl,SqT.of e1,rfl,_,_,rfl,_,_,rfl,rfl,?_⟩
  refine jO (σ':=[some (.ref wo),some (.ref ba),some (.ref wy'),some (.ref ar),some (.int i),some y]) rfl ?_
  have k1:∀ b o,b≠ml→H b=some o→G1 b=some o:=fun b o hb e=>s1 _ _ (kG b o hb e)
  refine ⟨_,rfl,_,rfl,_,rfl,_,rfl,_,rfl,sm rfl,fun t1 ht1=>?_⟩
  have s2:=je ht1 (.tup [V.int i])
  have e2:upd G1 t1 (.tup [V.int i]) t1=some (.tup [V.int i]):=ja
  generalize upd G1 t1 (.tup [V.int i])=G2 at *
  refine ⟨ar,t1,_,_,rfl,rfl,s2 _ _ (k1 _ _ nar har),e2,Nat.le_trans (by rw [List.length_map];show path.length+1≤1000;omega) (j4 (Nat.le_refl 1000)),fun t2 G3 s3 e3=>?_⟩
  have s13:=s1.trans (s2.trans s3)
  have k3:∀ b o,b≠ml→H b=some o→G3 b=some o:=fun b o hb e=>s13 _ _ (kG b o hb e)
  have U3:=U'.mono s13
  refine ⟨wo,dx,ml,dp,t2,wy',y,f,gs,pr,ms++ms',path++[(i:Int)],r.2,bd[i],rfl,U3,by rw [List.map_append];exact e3,(ku k3 U.hml).held hyH,hiOk,⟨hp.fl,bn.w,by rw [List.length_append];omega,fun w hw'=>?_,by omega,by rw [List.length_append];show path.length+1+_≤90;omega⟩,fun r2 ms2 wls2 wy2 G4 er2 k4 U4 hD4 nd4 new4=>?_,fun er2 G4 k4=>?_⟩
  ·have:=bn.l (800 - qp (n+1) bd[i]) (fun u hu=>by have:=hp.hlen u hu;omega) (by omega) w hw'
   omega
  ·obtain ⟨was4,hwy4,hW4⟩:=U4.hwy
   have l4:=hW4.len
   refine gQ ?_
   refine ⟨_,rfl,wy2,_,rfl,.inl (SqL.of hwy4),_,_,rfl,rfl,_,rfl,jL (fun d=>?_) (fun d=>?_)⟩
   ·have d16:¬ r2.2.length≤16:=fun z=>by
     have d':=of_decide_eq_true d
     rw [List.length_map,l4] at d'
     have d':(16:Int) < (r2.2.length:Int):=d'
     omega
    have hE:=q.2 (hnone _ er2 (.inr ⟨r2,rfl,d16⟩)) G4 fun b o hb e=>k4 b o hb (k3 b o hb e)
    have hfl:=hp.fl
    have La:∀ {x y:Str} {k m:Nat},x.length≤k→y.length≤m→(x++y).length≤k+m:=fun hx hy=>by rw [yh];omega
    have l1:(Str.empty++("more than " : Str)).length≤10:=by decide +kernel
    have l2:(Str.ofString (toString (16:Int))).length≤2:=by decide +kernel
    have l3:(" ways in " : Str).length≤9:=by decide +kernel
    have m2:=La l1 l2
    have m3:=La m2 l3
    have m4:=La m3 hfl
    exact ⟨_,rfl,j4 (Nat.le_trans l1 (by decide)),16,rfl,by decide,_,rfl,j4 (Nat.le_trans m2 (by decide)),_,rfl,j4 (Nat.le_trans m3 (by decide)),_,rfl,wo,CW,dx,_,_,rfl,U4.hwo,T.c,T.n1,rfl,f,rfl,j4 (Nat.le_trans hfl (by decide)),f,rfl,j4 (Nat.le_trans m4 (by decide)),j4 (Nat.le_trans m4 (by decide)),(show 1≤1000 by decide),hE⟩
   ·have d16:r2.2.length≤16:=by
     have d':¬ ((16:Int) < ((was4.map V.ref).length:Int)):=fun z=>d (decide_eq_true z)
     rw [List.length_map,l4] at d'
     omega
    have kA:∀ b o,b≠ml→G b=some o→G4 b=some o:=fun b o hb e=>k4 b o hb (s13 _ _ e)
    have hmw:ml ∉ wls:=fun z=>by have:=hnew _ z;rw [U.hml] at this;cases this
    refine ⟨_,_,ms'++ms2,wls++wls2,wy2,(r.1++r2.1,r2.2),?_,rfl,fun b o hb e=>k4 b o hb (k3 b o hb e),by rw [← List.append_assoc];exact U4,DutsAt.app (DutsAt.keep kA U'.hml hD hmw) hD4,?_,?_⟩
    ·show goO (jM f pr (n+1)) path 0 ways (bd.take (i+1))=_
     rw [hsn,er2]
     dsimp only
     rw [if_pos d16]
    ·refine List.nodup_append.mpr ⟨hnd,nd4,fun b hb c hc=>?_⟩
     rintro rfl
     have:=kW (hD.mono s13) b hb
     exact this (new4 b hc)
    ·intro b hb
     rcases List.mem_append.mp hb with hb | hb
     ·exact hnew b hb
     ·have hn:=new4 b hb
      have hbm:b≠ml:=fun z=>by rw [z,U3.hml] at hn;cases hn
      rcases hh:H b with _ | o
      ·rfl
      ·rw [k3 b o hbm hh] at hn;cases hn
  ·exact q.2 (hnone _ er2 (.inl rfl)) G4 fun b o hb e=>k4 b o hb (k3 b o hb e)
 rintro σ G ⟨u4,u5,ms',wls,wy',r,er,rfl,kG,U',hD,hnd,hnew⟩
 rw [← hbl,List.take_length] at er
 exact ⟨_,rfl,q.1 r ms' wls wy' G er kG U' hD hnd hnew⟩
end
def jfZ (CW CT:Addr) (n:Nat):Sp:=fun vs H Q E=>∃ (wo dx ml dp pt wy:Addr) (sv:V) (f:Str) (gs:List Str) (pr:Str→Pc) (ms:List V) (path:List Int) (ways:List (List D)) (a b:Tm) (c:Int) (x y:List (StN n)),vs=[.ref wo,sv,.ref wy,.ref pt]∧WkAt CW H wo dx ml dp f gs pr ms wy ways∧H pt=some (.tup (path.map V.int))∧Held H (Nd.ite a b c (x.map (stD n)) (y.map (stD n))).toD sv∧x.length≤100∧y.length≤100∧(∀ s∈x,okN gs pr n s)∧(∀ s∈y,okN gs pr n s)∧PreW f ms path ways (2 * n+1) ((x.map (kF n)).sum+(y.map (kF n)).sum) (1+(x.map (qp n)).sum+(y.map (qp n)).sum)∧
 jaW CW CT H wo dx ml dp f gs pr ms (Fo.walk (jM f pr n) f pr path ways (.ite a b c x y)) Q E
def jat (CW CT:Addr) (n:Nat):Sp:=fun vs H Q E=>∃ (wo dx ml dp pt wy:Addr) (sv:V) (f:Str) (gs:List Str) (pr:Str→Pc) (ms:List V) (path:List Int) (ways:List (List D)) (a b:Tm) (c:Int) (ks:List Cl) (x:List (StN n)),vs=[.ref wo,sv,.ref wy,.ref pt]∧WkAt CW H wo dx ml dp f gs pr ms wy ways∧H pt=some (.tup (path.map V.int))∧Held H (Nd.whl a b c ks (x.map (stD n))).toD sv∧ks.length≤20∧x.length≤100∧(∀ s∈x,okN gs pr n s)∧PreW f ms path ways (2 * n+1) (32 * ks.length+(x.map (kF n)).sum) (ks.length+1+(x.map (qp n)).sum)∧
 jaW CW CT H wo dx ml dp f gs pr ms (Fo.walk (jM f pr n) f pr path ways (.whl a b c ks x)) Q E
theorem Y1 {f:Str} {pr:Str→Pc} {n:Nat} {path:List Int} {ways:List (List D)} {a b:Tm} {c:Int} {x y:List (StN n)} {r1 r2:Wk} (e1:goN f pr n (path++[0]) (ways.map (·++[jD (.least a b c)])) x=some r1) (e2:goN f pr n (path++[1]) (ways.map (·++[jD (.least b a (1 - c))])) y=some r2):Fo.walk (jM f pr n) f pr path ways (.ite a b c x y)=some (r1.1++r2.1,r1.2++r2.2):=by
 unfold Fo.walk
 dsimp only
 rw [show goO (jM f pr n) (path++[0]) 0 (ways.map (·++[jD (.least a b c)])) x=some r1 from e1]
 dsimp only
 rw [show goO (jM f pr n) (path++[1]) 0 (ways.map (·++[jD (.least b a (1 - c))])) y=some r2 from e2]
theorem KA {f:Str} {pr:Str→Pc} {n:Nat} {path:List Int} {ways:List (List D)} {a b:Tm} {c:Int} {x y:List (StN n)} (e1:goN f pr n (path++[0]) (ways.map (·++[jD (.least a b c)])) x=none):Fo.walk (jM f pr n) f pr path ways (.ite a b c x y)=none:=by
 unfold Fo.walk
 dsimp only
 rw [show goO (jM f pr n) (path++[0]) 0 (ways.map (·++[jD (.least a b c)])) x=none from e1]
theorem Kz {f:Str} {pr:Str→Pc} {n:Nat} {path:List Int} {ways:List (List D)} {a b:Tm} {c:Int} {x y:List (StN n)} {r1:Wk} (e1:goN f pr n (path++[0]) (ways.map (·++[jD (.least a b c)])) x=some r1) (e2:goN f pr n (path++[1]) (ways.map (·++[jD (.least b a (1 - c))])) y=none):Fo.walk (jM f pr n) f pr path ways (.ite a b c x y)=none:=by
 unfold Fo.walk
 dsimp only
 rw [show goO (jM f pr n) (path++[0]) 0 (ways.map (·++[jD (.least a b c)])) x=some r1 from e1]
 dsimp only
 rw [show goO (jM f pr n) (path++[1]) 0 (ways.map (·++[jD (.least b a (1 - c))])) y=none from e2]
theorem YZ {f:Str} {pr:Str→Pc} {n:Nat} {path:List Int} {ways:List (List D)} {a b:Tm} {c:Int} {ks:List Cl} {x:List (StN n)} {r1:Wk} (e1:goN f pr n (path++[0]) [ks.map jD++[jD (.least a b c)]] x=some r1):Fo.walk (jM f pr n) f pr path ways (.whl a b c ks x)=some (j7 f "enter" path ways ks++(r1.1++j7 f "keep" path r1.2 ks),[ks.map jD++[jD (.least b a (1 - c))]]):=by
 unfold Fo.walk
 dsimp only
 rw [show goO (jM f pr n) (path++[0]) 0 [ks.map jD++[jD (.least a b c)]] x=some r1 from e1]
theorem Ky {f:Str} {pr:Str→Pc} {n:Nat} {path:List Int} {ways:List (List D)} {a b:Tm} {c:Int} {ks:List Cl} {x:List (StN n)} (e1:goN f pr n (path++[0]) [ks.map jD++[jD (.least a b c)]] x=none):Fo.walk (jM f pr n) f pr path ways (.whl a b c ks x)=none:=by
 unfold Fo.walk
 dsimp only
 rw [show goO (jM f pr n) (path++[0]) 0 [ks.map jD++[jD (.least a b c)]] x=none from e1]
theorem jcV {H G:Hp} {ml:Addr} (k:∀ b o,b≠ml→H b=some o→G b=some o) {ms:List V} (hm:G ml=some (.lst ms)) {b:Addr} (hb:G b=none):H b=none:=by
 have hbm:b≠ml:=fun z=>by rw [z,hm] at hb;cases hb
 rcases hh:H b with _ | o
 ·rfl
 ·rw [k b o hbm hh] at hb;cases hb
theorem Jq {H G G':Hp} {ml:Addr} {ms:List V} {d1 d2:List Du} {m1 m2:List V} {w1 w2:List Addr} (k:∀ b o,b≠ml→H b=some o→G b=some o) (k':∀ b o,b≠ml→G b=some o→G' b=some o) (hm:G ml=some (.lst ms)) (hH:H ml≠none) (D1:DutsAt G d1 m1 w1) (n1:w1.Nodup) (f1:∀ x∈w1,H x=none) (D2:DutsAt G' d2 m2 w2) (n2:w2.Nodup) (f2:∀ x∈w2,G x=none) :
  DutsAt G' (d1++d2) (m1++m2) (w1++w2)∧(w1++w2).Nodup∧∀ x∈w1++w2,H x=none:=by
 refine ⟨DutsAt.app (DutsAt.keep k' hm D1 fun z=>hH (f1 _ z)) D2,List.nodup_append.mpr ⟨n1,n2,fun b hb c hc=>?_⟩,fun b hb=>?_⟩
 ·rintro rfl
  exact kW D1 b hb (f2 b hc)
 ·rcases List.mem_append.mp hb with hb | hb
  ·exact f1 b hb
  ·exact jcV k hm (f2 b hb)
section
variable {P:Program} {w:World} {K:W.Frag} {mg:Str→Option Value} {base:Heap}
theorem jgi {n k:Nat} {CW CT:Addr} {f:Addr} {fd:FuncData} (F:Fun K "walk_if" "walk_if" zM f fd) (F_known:Fn P w K mg base 1 "known" ["claims"] zJ) (F_turned:Fn P w K mg base 1 "turned" ["least"] yE) (F_behind_each:Fn P w K mg base 1 "behind_each" ["ways","rows"] zL) (F_walk_body:FnX P w K mg base (3 * n+7) "walk_body" ["walk","body","ways","around"] (Jc CW CT n)):FnOk P w K mg base (CX1 P w) (3 * n+7+1) f fd ["walk","statement","ways","path"] (jfZ CW CT n):=by
 have sc:FnScope ["walk","statement","ways","path","least","body","other","first","second"] ["walk","statement","ways","path"] (jm zM):=fQ
 refine F.okX sc (fun vs H Q E h=>?_) (fun cdv A outer s H vs Q E hr W h=>?_)
 ·obtain ⟨wo,dx,ml,dp,pt,wy,sv,f,gs,pr,ms,path,ways,a,b,c,x,y,rfl,_⟩:=h
  rfl
 obtain ⟨wo,dx,ml,dp,pt,wy,sv,f,gs,pr,ms,path,ways,a,b,c,x,y,rfl,U,hpt,hS,hx100,hy100,hx,hy,hp,q⟩:=h
 refine ⟨_,(jd (qE (jQ qD (zpv 1) (jR jh) ki) (kH rfl (jr (jn (i:=4) sc.nd rfl oQ) (jr (jn (i:=5) sc.nd rfl oQ) (jr (jn (i:=6) sc.nd rfl oQ) kj)))))
   (jd (jt (i:=7) sc.nd rfl oQ (qZ F_walk_body W hr (jc (zpv 0) (jc (zpv 5) (jc (jV F_behind_each hr (jc (zpv 2) (jc (jV F_known hr (jc (jN (jc (zpv 4) jb)) jb)) jb))) (jc (js qc (zpv 3) (jY (jc jh jb))) jb))))))
   (jd (jt (i:=8) sc.nd rfl oQ (qZ F_walk_body W hr (jc (zpv 0) (jc (zpv 6) (jc (jV F_behind_each hr (jc (zpv 2) (jc (jV F_known hr (jc (jN (jc (jV F_turned hr (jc (zpv 4) jb)) jb)) jb)) jb))) (jc (js qc (zpv 3) (jY (jc jh jb))) jb))))))
   (ji (jq (js qO (zpv 7) (zpv 8))))))),?_⟩
 refine jO (σ':=[some (.ref wo),some sv,some (.ref wy),some (.ref pt),none,none,none,none,none]) rfl ?_
 obtain ⟨t,u,p,r,xs,ys,rfl,ht,hu,hp1,hxs,hr1,hys⟩:=yc hS
 have hms:=hp.hms
 have hl0:=hp.len0
 have hpa:=hp.hpath
 have hw16:=hp.w16
 refine ⟨_,rfl,_,rfl,t,_,rfl,SqT.of ht,(fun h=>absurd h.1 (by show ¬ (HT.sIx 4 0 (some 1)=0);decide)),fun t' ht'=>?_⟩
 have s1:=je ht' (.tup (j8 [.str "if",u,.ref p,.ref r] (some 1) none))
 have e1:upd H t' (.tup (j8 [.str "if",u,.ref p,.ref r] (some 1) none)) t'=some (.tup [u,.ref p,.ref r]):=ja
 generalize upd H t' (.tup (j8 [.str "if",u,.ref p,.ref r] (some 1) none))=H1 at *
 refine ⟨t',_,rfl,SqT.of e1,rfl,_,_,rfl,_,_,rfl,_,_,rfl,rfl,?_⟩
 refine jO (σ':=[some (.ref wo),some (.ref t),some (.ref wy),some (.ref pt),some u,some (.ref p),some (.ref r),none,none]) rfl ?_
 refine ⟨_,rfl,_,rfl,_,rfl,_,rfl,sm rfl,fun l1 hl1=>?_⟩
 have s2:=je hl1 (.lst [u])
 have e2:upd H1 l1 (.lst [u]) l1=some (.lst [u]):=ja
 generalize upd H1 l1 (.lst [u])=H2 at *
 have s12:=s1.trans s2
 refine ⟨l1,[u],[.least a b c],rfl,e2,kE (hu.mono s12),(show 1≤100 by decide),fun l2 ks2 H3 s3 n3 e3 hk3=>?_⟩
 have s13:=s12.trans s3
 have U3:=U.mono s13
 obtain ⟨was,hwy3,hW3⟩:=U3.hwy
 have lk3:=hk3.length
 refine ⟨wy,ml,l2,was,ms,ks2,ways,[jD (.least a b c)],rfl,hwy3,U3.hml,hW3,e3,hk3,by omega,fun w hw=>by have:=hp.hlen w hw;show w.length+1≤900;omega,fun l3 as3 H4 s4 n4 e4 hW4=>?_⟩
 refine ⟨_,rfl,sm rfl,fun t1 ht1=>?_⟩
 have s5:=je ht1 (.tup [V.int 0])
 have e5:upd H4 t1 (.tup [V.int 0]) t1=some (.tup [V.int 0]):=ja
 generalize upd H4 t1 (.tup [V.int 0])=H5 at *
 have s05:=s13.trans (s4.trans s5)
 refine ⟨pt,t1,_,_,rfl,rfl,s05 _ _ hpt,e5,j4 (by rw [List.length_map];show path.length+1≤1000;omega),fun t2 H6 s6 e6=>?_⟩
 have s06:=s05.trans s6
 have s46:=s4.trans (s5.trans s6)
 have U6:=U.mono s06
 have hml6:=U6.hml
 have n3l:l3≠ml:=fun z=>by rw [z,U3.hml] at n4;cases n4
 have hlenx:∀ w∈ways.map (·++[jD (.least a b c)]),w.length+(x.map (qp n)).sum≤800:=fun w hw=>by
  obtain ⟨w',hw',rfl⟩:=List.mem_map.mp hw
  have:=hp.hlen w' hw'
  rw [List.length_append]
  show w'.length+1+_≤800
  omega
 have hleny:∀ w∈ways.map (·++[jD (.least b a (1 - c))]),w.length+(y.map (qp n)).sum≤800:=fun w hw=>by
  obtain ⟨w',hw',rfl⟩:=List.mem_map.mp hw
  have:=hp.hlen w' hw'
  rw [List.length_append]
  show w'.length+1+_≤800
  omega
 refine ⟨wo,dx,ml,dp,t2,l3,p,f,gs,pr,ms,xs,path++[0],ways.map (·++[jD (.least a b c)]),x,rfl,⟨U6.hwo,U6.hml,U6.hp,⟨as3,s6 _ _ (s5 _ _ e4),hW4.mono (s5.trans s6)⟩,n3l⟩,by rw [List.map_append];exact e6,s06 _ _ hp1,hxs.mono s06,hx,hx100,⟨hp.fl,by rw [List.length_map];exact hw16,by omega,hlenx,by omega,by rw [List.length_append];show path.length+1+_≤90;omega⟩,fun r1 ms1 wls1 wy1 H7 er1 k7 U7 hD7 nd7 new7=>?_,fun er1 H7 k7=>q.2 (KA er1) H7 fun b o hb e=>k7 b o hb (s06 _ _ e)⟩
 have k07:∀ b o,b≠ml→H b=some o→H7 b=some o:=fun b o hb e=>k7 b o hb (s06 _ _ e)
 have tk7:=ku k07 U.hml
 have b1:=yd (gs:=gs) hx (by rw [List.length_map];exact hw16) er1
 have ld7:=hD7.len
 have bc1:=b1.c
 have bw1:=b1.w
 have V7:WkAt CW H7 wo dx ml dp f gs pr (ms++ms1) wy ways:=U.keep k07 U7.hml
 have npt:=zP hpt U.hml
 refine gQ ?_
 refine ⟨_,rfl,_,rfl,_,rfl,_,rfl,u,a,b,c,rfl,tk7.held hu,fun u2 H8 s8 hu2=>⟨sm rfl,fun l4 hl4=>?_⟩⟩
 have s9:=je hl4 (.lst [u2])
 have e9:upd H8 l4 (.lst [u2]) l4=some (.lst [u2]):=ja
 generalize upd H8 l4 (.lst [u2])=H9 at *
 have s79:=s8.trans s9
 refine ⟨l4,[u2],[.least b a (1 - c)],rfl,e9,kE (hu2.mono s9),(show 1≤100 by decide),fun l5 ks5 H10 s10 n10 e10 hk10=>?_⟩
 have s710:=s79.trans s10
 have V10:=V7.mono s710
 obtain ⟨was7,hwy10,hW10⟩:=V10.hwy
 refine ⟨wy,ml,l5,was7,ms++ms1,ks5,ways,[jD (.least b a (1 - c))],rfl,hwy10,V10.hml,hW10,e10,hk10,by omega,fun w hw=>by have:=hp.hlen w hw;show w.length+1≤900;omega,fun l6 as6 H11 s11 n11 e11 hW11=>?_⟩
 have s711:=s710.trans s11
 refine ⟨_,rfl,sm rfl,fun t3 ht3=>?_⟩
 have s12':=je ht3 (.tup [V.int 1])
 have e12:upd H11 t3 (.tup [V.int 1]) t3=some (.tup [V.int 1]):=ja
 generalize upd H11 t3 (.tup [V.int 1])=H12 at *
 have s712:=s711.trans s12'
 refine ⟨pt,t3,_,_,rfl,rfl,s712 _ _ (k07 _ _ npt hpt),e12,j4 (by rw [List.length_map];show path.length+1≤1000;omega),fun t4 H13 s13' e13=>?_⟩
 have s713:=s712.trans s13'
 have V13:=V7.mono s713
 have n6l:l6≠ml:=fun z=>by rw [z,V10.hml] at n11;cases n11
 refine ⟨wo,dx,ml,dp,t4,l6,r,f,gs,pr,ms++ms1,ys,path++[1],ways.map (·++[jD (.least b a (1 - c))]),y,rfl,⟨V13.hwo,V13.hml,V13.hp,⟨as6,s13' _ _ (s12' _ _ e11),hW11.mono (s12'.trans s13')⟩,n6l⟩,by rw [List.map_append];exact e13,s713 _ _ (tk7 _ _ hr1),(tk7.heldL hys).mono s713,hy,hy100,⟨hp.fl,by rw [List.length_map];exact hw16,by rw [List.length_append];omega,hleny,by omega,by rw [List.length_append];show path.length+1+_≤90;omega⟩,fun r2 ms2 wls2 wy2 H14 er2 k14 U14 hD14 nd14 new14=>?_,fun er2 H14 k14=>q.2 (Kz er1 er2) H14 fun b o hb e=>k14 b o hb (s713 _ _ (k07 b o hb e))⟩
 have k714:∀ b o,b≠ml→H7 b=some o→H14 b=some o:=fun b o hb e=>k14 b o hb (s713 _ _ e)
 have b2:=yd (gs:=gs) hy (by rw [List.length_map];exact hw16) er2
 have bw2:=b2.w
 have U7':WkAt CW H14 wo dx ml dp f gs pr (ms++ms1++ms2) wy1 r1.2:=U7.keep k714 U14.hml
 obtain ⟨wa1,hwa1,hWa1⟩:=U7'.hwy
 obtain ⟨wa2,hwa2,hWa2⟩:=U14.hwy
 have lw1:=hWa1.len
 have lw2:=hWa2.len
 refine gQ ?_
 refine ⟨_,rfl,_,rfl,wy1,wy2,_,_,rfl,rfl,hwa1,hwa2,j4 (by rw [List.length_map,List.length_map];omega),fun l hl=>?_⟩
 have s15:=je hl (.lst (wa1.map V.ref++wa2.map V.ref))
 have e15:upd H14 l (.lst (wa1.map V.ref++wa2.map V.ref)) l=some (.lst (wa1.map V.ref++wa2.map V.ref)):=ja
 generalize upd H14 l (.lst (wa1.map V.ref++wa2.map V.ref))=H15 at *
 obtain ⟨j1,j2,j3⟩:=Jq (G':=H15) (H:=H) k07 (fun b o hb e=>s15 _ _ (k714 b o hb e)) U7.hml (by rw [U.hml];simp) hD7 nd7 (fun z hz=>s06.free (new7 z hz)) (hD14.mono s15) nd14 (fun z hz=>s713.free (new14 z hz))
 have U15:=U14.mono s15
 refine q.1 _ (ms1++ms2) (wls1++wls2) l H15 (Y1 er1 er2) (fun b o hb e=>s15 _ _ (k714 b o hb (k07 b o hb e))) ⟨U15.hwo,by rw [← List.append_assoc];exact U15.hml,U15.hp,⟨wa1++wa2,by rw [List.map_append];exact e15,WayL.app (hWa1.mono s15) (hWa2.mono s15)⟩,fun z=>by rw [z,U14.hml] at hl;cases hl⟩ j1 j2 j3
end
section
variable {P:Program} {w:World} {K:W.Frag} {mg:Str→Option Value} {base:Heap}
theorem jcG {n:Nat} {CW CT:Addr} {f:Addr} {fd:FuncData} (F:Fun K "walk_while" "walk_while" qL f fd) (F_meet:Fn P w K mg base 1 "meet" ["walk","kind","path","ways","claims"] (yF CW)) (F_knownT:Fn P w K mg base 1 "known" ["claims"] JH) (F_known:Fn P w K mg base 1 "known" ["claims"] zJ) (F_turned:Fn P w K mg base 1 "turned" ["least"] yE) (F_walk_body:FnX P w K mg base (3 * n+7) "walk_body" ["walk","body","ways","around"] (Jc CW CT n)):FnOk P w K mg base (CX1 P w) (3 * n+7+1) f fd ["walk","statement","ways","path"] (jat CW CT n):=by
 have sc:FnScope ["walk","statement","ways","path","least","keeps","body","head","rounds"] ["walk","statement","ways","path"] (jm qL):=fQ
 refine F.okX sc (fun vs H Q E h=>?_) (fun cdv A outer s H vs Q E hr W h=>?_)
 ·obtain ⟨wo,dx,ml,dp,pt,wy,sv,f,gs,pr,ms,path,ways,a,b,c,ks,x,rfl,_⟩:=h
  rfl
 obtain ⟨wo,dx,ml,dp,pt,wy,sv,f,gs,pr,ms,path,ways,a,b,c,ks,x,rfl,U,hpt,hS,hk20,hx100,hx,hp,q⟩:=h
 refine ⟨_,(jd (qE (jQ qD (zpv 1) (jR jh) ki) (kH rfl (jr (jn (i:=4) sc.nd rfl oQ) (jr (jn (i:=5) sc.nd rfl oQ) (jr (jn (i:=6) sc.nd rfl oQ) kj)))))
   (jd (j6 (jV F_meet hr (jc (zpv 0) (jc jy (jc (zpv 3) (jc (zpv 2) (jc (zpv 5) jb)))))))
   (jd (jt (i:=7) sc.nd rfl oQ (jV F_knownT hr (jc (zpv 5) jb)))
   (jd (jt (i:=8) sc.nd rfl oQ (qZ F_walk_body W hr (jc (zpv 0) (jc (zpv 6) (jc (jN (jc (js qO (zpv 7) (jV F_known hr (jc (jN (jc (zpv 4) jb)) jb))) jb)) (jc (js qc (zpv 3) (jY (jc jh jb))) jb))))))
   (jd (j6 (jV F_meet hr (jc (zpv 0) (jc jy (jc (zpv 3) (jc (zpv 8) (jc (zpv 5) jb)))))))
   (ji (jq (jN (jc (js qO (zpv 7) (jV F_known hr (jc (jN (jc (jV F_turned hr (jc (zpv 4) jb)) jb)) jb))) jb))))))))),?_⟩
 refine jO (σ':=[some (.ref wo),some sv,some (.ref wy),some (.ref pt),none,none,none,none,none]) rfl ?_
 obtain ⟨t,u,p,r,xs,ys,rfl,ht,hu,hp1,hxs,hr1,hys⟩:=yB hS
 have hms:=hp.hms
 have hl0:=hp.len0
 have hpa:=hp.hpath
 have hw16:=hp.w16
 have lxs:=hxs.length
 rw [List.length_map] at lxs
 refine ⟨_,rfl,_,rfl,t,_,rfl,SqT.of ht,(fun h=>absurd h.1 (by show ¬ (HT.sIx 4 0 (some 1)=0);decide)),fun t' ht'=>?_⟩
 have s1:=je ht' (.tup (j8 [.str "while",u,.ref p,.ref r] (some 1) none))
 have e1:upd H t' (.tup (j8 [.str "while",u,.ref p,.ref r] (some 1) none)) t'=some (.tup [u,.ref p,.ref r]):=ja
 generalize upd H t' (.tup (j8 [.str "while",u,.ref p,.ref r] (some 1) none))=H1 at *
 refine ⟨t',_,rfl,SqT.of e1,rfl,_,_,rfl,_,_,rfl,_,_,rfl,rfl,?_⟩
 refine jO (σ':=[some (.ref wo),some (.ref t),some (.ref wy),some (.ref pt),some u,some (.ref p),some (.ref r),none,none]) rfl ?_
 have U1:=U.mono s1
 obtain ⟨was1,hwy1,hW1⟩:=U1.hwy
 have np:=zP hp1 U.hml
 have npt:=zP hpt U.hml
 have hm1:ways.length * ks.length≤16 * ks.length:=Nat.mul_le_mul_right _ hw16
 refine ⟨_,rfl,_,rfl,_,rfl,_,rfl,wo,dx,ml,pt,wy,p,was1,f,"enter",.ref dp,ms,xs,path,ways,ks,rfl,U1.hwo,U1.hml,s1 _ _ hpt,hwy1,hW1,s1 _ _ hp1,hxs.mono s1,U1.nwy,np,by omega,by omega,fun ms0 wls0 H2 k2 hm2 hD2 nd2 new2=>?_⟩
 have k02:∀ b o,b≠ml→H b=some o→H2 b=some o:=fun b o hb e=>k2 b o hb (s1 _ _ e)
 have tk2:=ku k02 U.hml
 have U2:WkAt CW H2 wo dx ml dp f gs pr (ms++ms0) wy ways:=U.keep k02 hm2
 have ld2:=hD2.len
 rw [kX] at ld2
 refine ⟨_,rfl,p,xs,ks,rfl,k02 _ _ np hp1,tk2.heldL hxs,by omega,fun hd kh H3 s3 n3 e3 hk3=>?_⟩
 have lkh:=hk3.length
 rw [List.length_map] at lkh
 refine gQ ?_
 refine ⟨_,rfl,_,rfl,_,rfl,_,rfl,sm rfl,fun l1 hl1=>?_⟩
 have s4:=je hl1 (.lst [u])
 have e4:upd H3 l1 (.lst [u]) l1=some (.lst [u]):=ja
 generalize upd H3 l1 (.lst [u])=H4 at *
 have s24:=s3.trans s4
 refine ⟨l1,[u],[.least a b c],rfl,e4,kE ((tk2.held hu).mono s24),(show 1≤100 by decide),fun l2 kl H5 s5 n5 e5 hk5=>?_⟩
 have lkl:=hk5.length
 have lkl:1=kl.length:=lkl
 have s35:=s4.trans s5
 refine ⟨hd,l2,kh,kl,rfl,rfl,s35 _ _ e3,e5,j4 (by omega),fun l3 hl3=>?_⟩
 have s6:=je hl3 (.lst (kh++kl))
 have e6:upd H5 l3 (.lst (kh++kl)) l3=some (.lst (kh++kl)):=ja
 generalize upd H5 l3 (.lst (kh++kl))=H6 at *
 have hway:HeldL H6 (ks.map jD++[jD (.least a b c)]) (kh++kl):=jK (hk3.mono (s35.trans s6)) (hk5.mono s6)
 refine ⟨sm rfl,fun wl hwl=>?_⟩
 have s7:=je hwl (.lst [V.ref l3])
 have e7:upd H6 wl (.lst [V.ref l3]) wl=some (.lst [V.ref l3]):=ja
 generalize upd H6 wl (.lst [V.ref l3])=H7 at *
 have s27:=s24.trans (s5.trans (s6.trans s7))
 refine ⟨_,rfl,sm rfl,fun t1 ht1=>?_⟩
 have s8:=je ht1 (.tup [V.int 0])
 have e8:upd H7 t1 (.tup [V.int 0]) t1=some (.tup [V.int 0]):=ja
 generalize upd H7 t1 (.tup [V.int 0])=H8 at *
 have s28:=s27.trans s8
 refine ⟨pt,t1,_,_,rfl,rfl,s28 _ _ (k02 _ _ npt hpt),e8,j4 (by rw [List.length_map];show path.length+1≤1000;omega),fun t2 H9 s9 e9=>?_⟩
 have s29:=s28.trans s9
 have s79:=s8.trans s9
 have U9:=U2.mono s29
 have hml5:H5 ml=some (.lst (ms++ms0)):=(U2.mono (s24.trans s5)).hml
 have n3l:l3≠ml:=fun z=>by rw [z,hml5] at hl3;cases hl3
 have hml6:=s6 _ _ hml5
 have nwl:wl≠ml:=fun z=>by rw [z,hml6] at hwl;cases hwl
 have lway:(ks.map jD++[jD (.least a b c)]).length=ks.length+1:=by rw [List.length_append,List.length_map];rfl
 refine ⟨wo,dx,ml,dp,t2,wl,r,f,gs,pr,ms++ms0,ys,path++[0],[ks.map jD++[jD (.least a b c)]],x,rfl,⟨U9.hwo,U9.hml,U9.hp,⟨[l3],s79 _ _ e7,⟨⟨n3l,_,s79 _ _ (s7 _ _ e6),hway.mono (s7.trans s79)⟩,trivial⟩⟩,nwl⟩,by rw [List.map_append];exact e9,s29 _ _ (tk2 _ _ hr1),(tk2.heldL hys).mono s29,hx,hx100,⟨hp.fl,(show 1≤16 by decide),by rw [List.length_append];omega,fun w hw=>by rw [List.mem_singleton.mp hw,lway];omega,by omega,by rw [List.length_append];show path.length+1+_≤90;omega⟩,fun r1 ms1 wls1 wy1 H10 er1 k10 U10 hD10 nd10 new10=>?_,fun er1 H10 k10=>q.2 (Ky er1) H10 fun b o hb e=>k10 b o hb (s29 _ _ (k02 b o hb e))⟩
 have b1:=yd (gs:=gs) hx (show [ks.map jD++[jD (.least a b c)]].length≤16 from (show 1≤16 by decide)) er1
 have bc1:=b1.c
 have bw1:=b1.w
 have k210:∀ b o,b≠ml→H2 b=some o→H10 b=some o:=fun b o hb e=>k10 b o hb (s29 _ _ e)
 have k010:∀ b o,b≠ml→H b=some o→H10 b=some o:=fun b o hb e=>k210 b o hb (k02 b o hb e)
 have ld10:=hD10.len
 have hm3:r1.2.length * ks.length≤16 * ks.length:=Nat.mul_le_mul_right _ bw1
 obtain ⟨was10,hwy10,hW10⟩:=U10.hwy
 have tk010:=ku k010 U.hml
 refine gQ ?_
 refine ⟨_,rfl,_,rfl,_,rfl,_,rfl,wo,dx,ml,pt,wy1,p,was10,f,"keep",.ref dp,ms++ms0++ms1,xs,path,r1.2,ks,rfl,U10.hwo,U10.hml,k010 _ _ npt hpt,hwy10,hW10,k010 _ _ np hp1,tk010.heldL hxs,U10.nwy,np,by omega,by rw [List.length_append,List.length_append];omega,fun ms2 wls2 H11 k11 hm11 hD11 nd11 new11=>?_⟩
 have k011:∀ b o,b≠ml→H b=some o→H11 b=some o:=fun b o hb e=>k11 b o hb (k010 b o hb e)
 have k211:∀ b o,b≠ml→H2 b=some o→H11 b=some o:=fun b o hb e=>k11 b o hb (k210 b o hb e)
 have tk011:=ku k011 U.hml
 have nhd:hd≠ml:=fun z=>by rw [z,U2.hml] at n3;cases n3
 have k311:∀ b o,b≠ml→H3 b=some o→H11 b=some o:=fun b o hb e=>k11 b o hb (k10 b o hb (s9 _ _ (s8 _ _ (s7 _ _ (s6 _ _ (s5 _ _ (s4 _ _ e)))))))
 have hml3:=s3 _ _ U2.hml
 refine ⟨_,rfl,_,rfl,u,a,b,c,rfl,tk011.held hu,fun u2 H12 s12 hu2=>⟨sm rfl,fun l4 hl4=>?_⟩⟩
 have s13:=je hl4 (.lst [u2])
 have e13:upd H12 l4 (.lst [u2]) l4=some (.lst [u2]):=ja
 generalize upd H12 l4 (.lst [u2])=H13 at *
 refine ⟨l4,[u2],[.least b a (1 - c)],rfl,e13,kE (hu2.mono s13),(show 1≤100 by decide),fun l5 kl2 H14 s14 n14 e14 hk14=>?_⟩
 have lk14:=hk14.length
 have lk14:1=kl2.length:=lk14
 have s1114:=s12.trans (s13.trans s14)
 refine ⟨hd,l5,kh,kl2,rfl,rfl,s1114 _ _ (k311 _ _ nhd e3),e14,j4 (by omega),fun l6 hl6=>?_⟩
 have s15:=je hl6 (.lst (kh++kl2))
 have e15:upd H14 l6 (.lst (kh++kl2)) l6=some (.lst (kh++kl2)):=ja
 generalize upd H14 l6 (.lst (kh++kl2))=H15 at *
 have hml14:=s1114 _ _ hm11
 have n6:l6≠ml:=fun z=>by rw [z,hml14] at hl6;cases hl6
 refine ⟨sm rfl,fun l hl=>?_⟩
 have s16:=je hl (.lst [V.ref l6])
 have e16:upd H15 l (.lst [V.ref l6]) l=some (.lst [V.ref l6]):=ja
 generalize upd H15 l (.lst [V.ref l6])=H16 at *
 have s1116:=s1114.trans (s15.trans s16)
 have hml15:=s15 _ _ hml14
 have nl:l≠ml:=fun z=>by rw [z,hml15] at hl;cases hl
 have hway2:HeldL H16 (ks.map jD++[jD (.least b a (1 - c))]) (kh++kl2):=jK (((ku k311 hml3).heldL hk3).mono s1116) (hk14.mono (s15.trans s16))
 have U11:WkAt CW H11 wo dx ml dp f gs pr (ms++ms0++ms1++ms2) wy ways:=U.keep k011 hm11
 have U16:=U11.mono s1116
 obtain ⟨j1,j2,j3⟩:=Jq (H:=H2) (G:=H10) (G':=H16) k210 (fun b o hb e=>s1116 _ _ (k11 b o hb e)) U10.hml (by rw [U2.hml];simp) hD10 nd10 (fun z hz=>s29.free (new10 z hz)) (hD11.mono s1116) nd11 new11
 obtain ⟨i1,i2,i3⟩:=Jq (H:=H) (G:=H2) (G':=H16) k02 (fun b o hb e=>s1116 _ _ (k211 b o hb e)) U2.hml (by rw [U.hml];simp) hD2 nd2 (fun z hz=>s1.free (new2 z hz)) j1 j2 j3
 exact q.1 _ (ms0++(ms1++ms2)) (wls0++(wls1++wls2)) l H16 (YZ er1) (fun b o hb e=>s1116 _ _ (k011 b o hb e)) ⟨U16.hwo,by rw [← List.append_assoc,← List.append_assoc];exact U16.hml,U16.hp,⟨[l6],e16,⟨⟨n6,_,s16 _ _ e15,hway2⟩,trivial⟩⟩,nl⟩ i1 i2 i3
end
section
variable {P:Program} {w:World} {K:W.Frag} {mg:Str→Option Value} {base:Heap}
theorem jd7 {n:Nat} {CW CT:Addr} {f:Addr} {fd:FuncData} (F:Fun K "walk_statement" "walk_statement" kM f fd) (F_meet:Fn P w K mg base 1 "meet" ["walk","kind","path","ways","claims"] (yF CW)) (F_behind_each:Fn P w K mg base 1 "behind_each" ["ways","rows"] zL) (F_walk_call:Fn P w K mg base 5 "walk_call" ["walk","statement","ways","path"] (Yk CW)) (F_walk_if:FnX P w K mg base (3 * n+8) "walk_if" ["walk","statement","ways","path"] (jfZ CW CT n)) (F_walk_while:FnX P w K mg base (3 * n+8) "walk_while" ["walk","statement","ways","path"] (jat CW CT n)):FnOk P w K mg base (CX1 P w) (3 * n+8+1) f fd ["walk","statement","ways","path"] (jcc CW CT n):=by
 have sc:FnScope ["walk","statement","ways","path","kind"] ["walk","statement","ways","path"] (jm kM):=fQ
 refine F.okX sc (fun vs H Q E h=>?_) (fun cdv A outer s H vs Q E hr Wx h=>?_)
 ·obtain ⟨wo,dx,ml,dp,pt,wy,sv,f,gs,pr,ms,path,ways,S,rfl,_⟩:=h
  rfl
 obtain ⟨wo,dx,ml,dp,pt,wy,sv,f,gs,pr,ms,path,ways,S,rfl,W,hpt,hS,hok,hp,q⟩:=h
 refine ⟨_,(jd (jt (i:=4) sc.nd rfl oQ (jw jF (zpv 1) jh (fun _ _=>rfl)))
   (jd (jU (jx km (zpv 4) jy (jJ _)) (jd (j6 (jV F_meet hr (jc (zpv 0) (jc jy (jc (zpv 3) (jc (zpv 2) (jc (jQ qD (zpv 1) (jR jh) ki) jb)))))))
   (ji (jq (zpv 2)))) jE)
   (jd (jU (jx km (zpv 4) jy (jJ _)) (ji (jq (qZ F_walk_if Wx hr (jc (zpv 0) (jc (zpv 1) (jc (zpv 2) (jc (zpv 3) jb))))))) jE)
   (jd (jU (jx km (zpv 4) jy (jJ _)) (ji (jq (qZ F_walk_while Wx hr (jc (zpv 0) (jc (zpv 1) (jc (zpv 2) (jc (zpv 3) jb))))))) jE)
   (jd (jU (jx km (zpv 4) jy (jJ _)) (ji (jq (jV F_walk_call hr (jc (zpv 0) (jc (zpv 1) (jc (zpv 2) (jc (zpv 3) jb))))))) jE)
   (ji (jq (jV F_behind_each hr (jc (zpv 2) (jc (jN (jc (zpv 1) jb)) jb)))))))))),?_⟩
 refine jO (σ':=[some (.ref wo),some sv,some (.ref wy),some (.ref pt),none]) rfl ?_
 have hms:=hp.hms
 have hl0:=hp.len0
 have hw16:=hp.w16
 match S,hS,hok,hp,hms,hl0,q with
 | .ite a b c x y,hS,hok,hp,hms,hl0,q=>
  obtain ⟨t,u,p,r,xs,ys,rfl,ht,_⟩:=yc (show Held H (Nd.ite a b c (x.map (stD n)) (y.map (stD n))).toD sv from hS)
  refine ⟨_,rfl,t,_,_,_,rfl,rfl,SqT.of ht,rfl,?_⟩
  refine gQ ?_
  refine ⟨_,rfl,rfl,_,rfl,jL (fun d=>absurd (of_decide_eq_true d) (by decide)) (fun _=>?_)⟩
  refine ⟨_,rfl,rfl,_,rfl,jL (fun _=>?_) (fun d=>absurd (decide_eq_true rfl) d)⟩
  exact ⟨_,rfl,_,rfl,_,rfl,_,rfl,wo,dx,ml,dp,pt,wy,_,f,gs,pr,ms,path,ways,a,b,c,x,y,rfl,W,hpt,hS,hok.1,hok.2.1,hok.2.2.1,hok.2.2.2,hp,q⟩
 | .whl a b c ks x,hS,hok,hp,hms,hl0,q=>
  obtain ⟨t,u,p,r,xs,ys,rfl,ht,_⟩:=yB (show Held H (Nd.whl a b c ks (x.map (stD n))).toD sv from hS)
  refine ⟨_,rfl,t,_,_,_,rfl,rfl,SqT.of ht,rfl,?_⟩
  refine gQ ?_
  refine ⟨_,rfl,rfl,_,rfl,jL (fun d=>absurd (of_decide_eq_true d) (by decide)) (fun _=>?_)⟩
  refine ⟨_,rfl,rfl,_,rfl,jL (fun d=>absurd (of_decide_eq_true d) (by decide)) (fun _=>?_)⟩
  refine ⟨_,rfl,rfl,_,rfl,jL (fun _=>?_) (fun d=>absurd (decide_eq_true rfl) d)⟩
  exact ⟨_,rfl,_,rfl,_,rfl,_,rfl,wo,dx,ml,dp,pt,wy,_,f,gs,pr,ms,path,ways,a,b,c,ks,x,rfl,W,hpt,hS,hok.1,hok.2.1,hok.2.2,hp,q⟩
 | .leaf S,hS,hok,hp,hms,hl0,q=>
  have hS:Held H S.toD sv:=hS
  obtain ⟨hfit,hfew⟩:=(show S.fit gs pr∧S.few from hok)
  have hms:ms.length+S.cost≤900:=hms
  have hlw:∀ w∈ways,w.length≤800:=fun w hw=>by have:=hp.hlen w hw;omega
  have q1:=fun ms' wls wy' H'=>q.1 (S.walk f pr path ways) ms' wls wy' H' rfl
  obtain ⟨a,k,r,rfl,ha,h1,h2,h3,h4⟩:=Sm.head hS
  obtain ⟨was,hwy,hW⟩:=W.hwy
  refine ⟨_,rfl,a,_,_,V.str k,rfl,rfl,SqT.of ha,yY (j:=0) rfl,?_⟩
  refine gQ ?_
  refine ⟨_,rfl,rfl,_,rfl,jL (fun d=>?_) (fun d=>?_)⟩
  ·have ek:k = "claim":=by have:=of_decide_eq_true d;injection this
   obtain ⟨C,rfl⟩:=h4.mp ek
   clear ha h4 h3 h2 h1 d
   obtain ⟨a',u,ea,ha,hu'⟩:=yg hS
   cases ea
   refine ⟨_,rfl,_,rfl,_,rfl,_,rfl,_,rfl,a,_,rfl,SqT.of ha,(fun h=>absurd h.1 (by show ¬ (HT.sIx 2 0 (some 1)=0);decide)),fun t ht=>?_⟩
   have s1:=je ht (.tup (j8 [.str "claim",u] (some 1) none))
   have e1:upd H t (.tup (j8 [.str "claim",u] (some 1) none)) t=some (.tup [u]):=ja
   have ntm:t≠ml:=fun z=>by rw [z,W.hml] at ht;cases ht
   generalize upd H t (.tup (j8 [.str "claim",u] (some 1) none))=H1 at *
   have hms:ms.length+16≤900:=hms
   refine ⟨wo,dx,ml,pt,wy,t,was,f,"claim",.ref dp,ms,[u],path,ways,[C],rfl,s1 _ _ W.hwo,s1 _ _ W.hml,s1 _ _ hpt,s1 _ _ hwy,hW.mono s1,e1,kE (hu'.mono s1),W.nwy,ntm,by omega,by show ms.length+ways.length * 1≤900;omega,fun ms' wls H' k' hm' hD hnd hnew=>?_⟩
   have kk:∀ b o,b≠ml→H b=some o→H' b=some o:=fun b o hb e=>k' b o hb (s1 _ _ e)
   exact ⟨_,rfl,q1 ms' wls wy H' kk (W.keep kk hm') hD hnd fun x hx=>s1.free (hnew x hx)⟩
  ·have nC:∀ C,S≠.claim C:=fun C z=>d (decide_eq_true (congrArg V.str (h4.mpr ⟨C,z⟩)))
   refine ⟨_,rfl,rfl,_,rfl,jL (fun d=>absurd (of_decide_eq_true d) (fun z=>h1 (by injection z))) (fun _=>?_)⟩
   refine ⟨_,rfl,rfl,_,rfl,jL (fun d=>absurd (of_decide_eq_true d) (fun z=>h2 (by injection z))) (fun _=>?_)⟩
   refine ⟨_,rfl,rfl,_,rfl,jL (fun d=>?_) (fun d=>?_)⟩
   ·have ek:k = "call":=by have:=of_decide_eq_true d;injection this
    obtain ⟨x,g,as,rows,rfl⟩:=h3.mp ek
    have hms:ms.length+320≤900:=hms
    exact ⟨_,rfl,_,rfl,_,rfl,_,rfl,wo,dx,ml,dp,pt,wy,_,f,gs,pr,ms,path,ways,x,g,as,rows,rfl,W,hpt,hS,hfit,hfew,by omega,by omega,hlw,q1⟩
   have nL:∀ x g as rows,S≠.call x g as rows:=fun x g as rows z=>d (decide_eq_true (congrArg V.str (h3.mpr ⟨x,g,as,rows,z⟩)))
   have ew:S.walk f pr path ways=([],ways.map (·++[S.toD])):=by cases S <;> first | rfl | exact absurd rfl (nC _) | exact absurd rfl (nL _ _ _ _)
   refine ⟨_,rfl,_,rfl,sm rfl,fun rl hrl=>?_⟩
   have s1:=je hrl (.lst [.ref a])
   have e1:upd H rl (.lst [.ref a]) rl=some (.lst [.ref a]):=ja
   generalize upd H rl (.lst [.ref a])=H1 at *
   refine ⟨wy,ml,rl,was,ms,[.ref a],ways,[S.toD],rfl,s1 _ _ hwy,s1 _ _ W.hml,hW.mono s1,e1,kE (hS.mono s1),by omega,fun w hw=>by have:=hlw w hw;show w.length+1≤900;omega,fun l as H' s2 n1 e2 hW2=>?_⟩
   have s12:=s1.trans s2
   have W2:=W.mono s12
   have hml':=s1 _ _ W.hml
   refine q1 [] [] l H' (fun b o _ e=>s12 _ _ e) ⟨W2.hwo,by rw [List.append_nil];exact W2.hml,W2.hp,⟨as,e2,by rw [ew];exact hW2⟩,(fun z=>by rw [z,hml'] at n1;cases n1)⟩ (by rw [ew];trivial) List.nodup_nil fun _ z=>by cases z
theorem JU {CW CT:Addr} {td:Tok} {f1 f2 f3 f4:Addr} {fd1 fd2 fd3 fd4:FuncData} (U1:Fun K "walk_body" "walk_body" qh f1 fd1) (b1:Binds K fd1 ["walk","body","ways","around"] []) (m1:mg "walk_body" = some (.ref f1)) (U2:Fun K "walk_statement" "walk_statement" kM f2 fd2) (b2:Binds K fd2 ["walk","statement","ways","path"] []) (m2:mg "walk_statement" = some (.ref f2)) (U3:Fun K "walk_if" "walk_if" zM f3 fd3) (b3:Binds K fd3 ["walk","statement","ways","path"] []) (m3:mg "walk_if" = some (.ref f3)) (U4:Fun K "walk_while" "walk_while" qL f4 fd4) (b4:Binds K fd4 ["walk","statement","ways","path"] []) (m4:mg "walk_while" = some (.ref f4))
  (T:ClsW K CW) (B:Free0 mg) (Z_enumerate:mg "enumerate" = none) (G_ways:mg "MOST_WAYS" = some (.int 16 td)) (G_TooMany:mg "TooMany" = some (.ref CT)) (X_TooMany:W.excIn K CT valB "ValueError.__new__" = true)
  (F_meet:Fn P w K mg base 1 "meet" ["walk","kind","path","ways","claims"] (yF CW)) (F_behind_each:Fn P w K mg base 1 "behind_each" ["ways","rows"] zL) (F_walk_call:Fn P w K mg base 5 "walk_call" ["walk","statement","ways","path"] (Yk CW)) (F_knownT:Fn P w K mg base 1 "known" ["claims"] JH) (F_known:Fn P w K mg base 1 "known" ["claims"] zJ) (F_turned:Fn P w K mg base 1 "turned" ["least"] yE):∀ n,FnX P w K mg base (3 * n+7) "walk_body" ["walk","body","ways","around"] (Jc CW CT n)
 | 0=>FnX.mk' U1 b1 m1 (jcR U1 B Z_enumerate G_ways)
 | n+1=>
  have ih:=JU U1 b1 m1 U2 b2 m2 U3 b3 m3 U4 b4 m4 T B Z_enumerate G_ways G_TooMany X_TooMany F_meet F_behind_each F_walk_call F_knownT F_known F_turned n
  have hi:=FnX.mk' U3 b3 m3 (jgi (k:=0) U3 F_known F_turned F_behind_each ih)
  have hw:=FnX.mk' U4 b4 m4 (jcG U4 F_meet F_knownT F_known F_turned ih)
  have hs:=FnX.mk' U2 b2 m2 (jd7 U2 F_meet F_behind_each F_walk_call hi hw)
  FnX.mk' U1 b1 m1 (jec U1 T B Z_enumerate G_ways G_TooMany X_TooMany hs)
end
abbrev zv:Stmt:=top 25
abbrev kS:Stmt:=top 24
abbrev JJ:Stmt:=top 23
def Pc.dus (p:Pc) (pr:Str→Pc) (ns:List Str):Option (List Du):=match goN p.f pr p.lv [] [p.wayD ns] p.bd with
 | none=>none
 | some r=>some (r.1++j7 p.f "give" [] r.2 p.gv)
structure PcFit (gs:List Str) (pr:Str→Pc) (p:Pc):Prop where
 ok:PcOk p
 fit:∀ S∈p.bd,okN gs pr p.lv S
 bd:p.bd.length≤100
 cost:(p.bd.map (kF p.lv)).sum+16 * p.gv.length≤800
 len:(p.bd.map (qp p.lv)).sum≤700
 fl:p.f.length≤100
 lv:p.lv≤40
def JX (CT:Addr) (n:Nat):Sp:=fun vs H Q E=>∃ (v:V) (dp:Addr) (p:Pc) (gs:List Str) (pr:Str→Pc),vs=[v,.ref dp]∧p.lv=n∧Held H p.toD v∧PcFit gs pr p∧ProcsAt H dp gs pr∧(∀ (ml:Addr) (ms:List V) (wls:List Addr) (ns:List Str) (ds:List Du) (H':Hp),NumsOf p ns→p.dus pr ns=some ds→Same H H'→H ml=none→H' ml=some (.lst ms)→DutsAt H' ds ms wls→wls.Nodup→(∀ x∈wls,H x=none)→ml ∉ wls→Q (.ref ml) H')∧
 (∀ ns H',NumsOf p ns→p.dus pr ns=none→Same H H'→E (.ref CT) none H')
theorem jb0 {p:Pc} {ns:List Str} (hp:PcOk p) (hn:NumsOf p ns):(p.wayD ns).length≤35:=by
 unfold Pc.wayD
 have h1:=List.length_filter_le (fun x=>!decide (x∈p.ps)) ns
 have h2:=hn.few
 have h3:=hp.nd
 rw [List.length_append,List.length_map,List.length_map]
 omega
section
variable {P:Program} {w:World} {K:W.Frag} {mg:Str→Option Value} {base:Heap}
theorem Zi {n:Nat} {CW CT:Addr} {f:Addr} {fd:FuncData} (T:ClsW K CW) (F:Fun K "duties_of" "duties_of" zv f fd) (M_Walk:MkFn P w K mg base 1 "Walk" CW ["self","f","procs"] (jcb CW)) (F_first_way:Fn P w K mg base (n+5+1) "first_way" ["proc"] (jay n)) (F_walk_body:FnX P w K mg base (3 * n+7) "walk_body" ["walk","body","ways","around"] (Jc CW CT n)) (F_meet:Fn P w K mg base 1 "meet" ["walk","kind","path","ways","claims"] (yF CW)):FnOk P w K mg base (CX1 P w) (3 * n+7+1) f fd ["proc","procs"] (JX CT n):=by
 have sc:FnScope ["proc","procs","f","gives","body","walk","ways"] ["proc","procs"] (jm zv):=fQ
 refine F.okX sc (fun vs H Q E h=>?_) (fun cdv A outer s H vs Q E hr W h=>?_)
 ·obtain ⟨v,dp,p,gs,pr,rfl,_⟩:=h
  rfl
 obtain ⟨v,dp,p,gs,pr,rfl,rfl,hv,hpf,hpr,q⟩:=h
 have hp:=hpf.ok
 refine ⟨_,(jd (jbP (i:=2) (j:=3) (l:=4) rfl sc.nd rfl rfl rfl (by decide) (by decide) (by decide) oQ oQ oQ (jc (jw jF (zpv 0) jh (fun _ _=>rfl)) (jc (jw jF (zpv 0) jh (fun _ _=>rfl)) (jc (jw jF (zpv 0) jh (fun _ _=>rfl)) jb))) (by rfl) oQ oQ oQ)
   (jd (jt (i:=5) sc.nd rfl oQ (jdv M_Walk hr (jc (zpv 2) (jc (zpv 1) jb))))
   (jd (jt (i:=6) sc.nd rfl oQ (qZ F_walk_body W hr (jc (zpv 5) (jc (zpv 4) (jc (jN (jc (jV F_first_way hr (jc (zpv 0) jb)) jb)) (jc (jY jb) jb))))))
   (jd (j6 (jV F_meet hr (jc (zpv 5) (jc jy (jc (jY jb) (jc (zpv 6) (jc (zpv 3) jb)))))))
   (ji (jq (zq (zpv 5) rfl))))))),?_⟩
 refine jO (σ':=[some v,some (.ref dp),none,none,none,none,none]) rfl ?_
 obtain ⟨a,ap,ar0,an,ag,ab,vn,vg,vb,rfl,ha,hap,har0,han,hn,hag,hg,hab,hb⟩:=J3 hv
 refine ⟨_,rfl,a,_,_,_,rfl,rfl,SqT.of ha,rfl,_,rfl,a,_,_,_,rfl,rfl,SqT.of ha,rfl,_,rfl,a,_,_,_,rfl,rfl,SqT.of ha,rfl,_,_,_,rfl,?_⟩
 refine jO (σ':=[some (.ref a),some (.ref dp),some (.str p.f),some (.ref ag),some (.ref ab),none,none]) rfl ?_
 refine ⟨_,rfl,_,rfl,fun wo dx hwo hdx ndx=>?_⟩
 have s1:Same H (upd (upd H dx (.own wo)) wo (.ins CW dx [])):=fun b o z=>by rw [jl (jk z hwo),jl (jk z hdx)];exact z
 have c1:upd (upd H dx (.own wo)) wo (.ins CW dx []) wo=some (.ins CW dx []):=ja
 generalize upd (upd H dx (.own wo)) wo (.ins CW dx [])=H1 at *
 refine ⟨wo,dx,p.f,.ref dp,rfl,c1,fun ml H2 k2 hml c2 e2=>⟨rfl,?_⟩⟩
 have s2:Same H H2:=fun b o z=>k2 b o (jk z hwo) (s1 _ _ z)
 have hml0:H ml=none:=s1.free hml
 refine gQ ?_
 refine ⟨_,rfl,_,rfl,_,rfl,.ref a,p,rfl,rfl,hv.mono s2,hp,fun wl us ns H3 hns s3 n3 e3 hway=>⟨sm rfl,fun wy hwy=>?_⟩⟩
 have s4:=je hwy (.lst [.ref wl])
 have e4:upd H3 wy (.lst [.ref wl]) wy=some (.lst [.ref wl]):=ja
 generalize upd H3 wy (.lst [.ref wl])=H4 at *
 refine ⟨sm rfl,fun ar har=>?_⟩
 have s5:=je har (.tup [])
 have e5:upd H4 ar (.tup []) ar=some (.tup []):=ja
 generalize upd H4 ar (.tup [])=H5 at *
 have s25:=s3.trans (s4.trans s5)
 have s05:=s2.trans s25
 have lus:=hway.length
 have lway:=jb0 hp hns
 have lbd:=hp.bd
 have lgv:=hp.gv
 have hml3:=s3 _ _ e2
 have nwlm:wl≠ml:=fun z=>by rw [z,e2] at n3;cases n3
 have hml5:H5 ml=some (.lst []):=s25 _ _ e2
 have hcost:=hpf.cost
 have hlen:=hpf.len
 have hlv:=hpf.lv
 refine ⟨wo,dx,ml,dp,ar,wy,ab,p.f,gs,pr,[],vb,[],[p.wayD ns],p.bd,rfl,⟨s25 _ _ c2,s25 _ _ e2,hpr.mono s05,⟨[wl],s5 _ _ e4,⟨⟨nwlm,us,s5 _ _ (s4 _ _ e3),hway.mono (s4.trans s5)⟩,trivial⟩⟩,(fun z=>by rw [z,hml3] at hwy;cases hwy)⟩,e5,s05 _ _ hab,hb.mono s05,hpf.fit,hpf.bd,⟨hpf.fl,(show 1≤16 by decide),by show 0+_≤900;omega,fun w hw=>by rw [List.mem_singleton.mp hw];omega,by omega,by show 0+_≤90;omega⟩,fun r ms' wls wy' H6 er k6 W6 hD hnd hnew=>?_,fun er H6 k6=>q.2 ns H6 hns (by unfold Pc.dus;rw [er]) fun b o z=>k6 b o (jk z hml0) (s05 _ _ z)⟩
 rw [List.nil_append] at W6
 have ldu:=hD.len
 have bn:=yd (gs:=gs) hpf.fit (show [p.wayD ns].length≤16 from (show 1≤16 by decide)) er
 have bc:=bn.c
 have bw:=bn.w
 have hmm:r.2.length * p.gv.length≤16 * p.gv.length:=Nat.mul_le_mul_right _ bw
 have edus:p.dus pr ns=some (r.1++j7 p.f "give" [] r.2 p.gv):=by unfold Pc.dus;rw [er]
 have s06:Same H H6:=fun b o z=>k6 b o (jk z hml0) (s05 _ _ z)
 refine gQ ?_
 refine ⟨_,rfl,sm rfl,fun pt hpt=>?_⟩
 have s7:=je hpt (.tup [])
 have e7:upd H6 pt (.tup []) pt=some (.tup []):=ja
 generalize upd H6 pt (.tup [])=H7 at *
 have W7:=W6.mono s7
 obtain ⟨was7,hwy7,hW7⟩:=W7.hwy
 have s07:=s06.trans s7
 have nag:=zP (s07 _ _ hag) W7.hml
 refine ⟨_,rfl,_,rfl,wo,dx,ml,pt,wy',ag,was7,p.f,"give",.ref dp,ms',vg,[],_,p.gv,rfl,W7.hwo,W7.hml,e7,hwy7,hW7,s07 _ _ hag,hg.mono s07,W7.nwy,nag,by omega,by omega,fun ms2 wls2 H8 k8 hm8 hD8 nd8 new8=>?_⟩
 have s08:Same H H8:=fun b o z=>k8 b o (jk z hml0) (s07 _ _ z)
 have nwo:wo≠ml:=fun z=>by have:=W7.hwo;rw [z,W7.hml] at this;cases this
 have hm5:H5 ml=some (.lst []):=s25 _ _ e2
 have hmlw:ml ∉ wls:=fun z=>by have:=hnew _ z;rw [hm5] at this;cases this
 have hmlw2:ml ∉ wls2:=fun z=>by have:=new8 _ z;rw [W7.hml] at this;cases this
 refine ⟨_,rfl,wo,CW,dx,_,_,rfl,k8 _ _ nwo W7.hwo,T.c,T.n3,rfl,q.1 ml _ (wls++wls2) ns _ H8 hns edus s08 hml0 hm8 ?_ ?_ ?_ ?_⟩
 ·exact DutsAt.app (DutsAt.keep (G:=H6) (G':=H8) (fun b o hb e=>k8 b o hb (s7 _ _ e)) W6.hml hD hmlw) hD8
 ·refine List.nodup_append.mpr ⟨hnd,nd8,fun x hx y hy=>?_⟩
  rintro rfl
  have h1:=kW hD x hx
  rcases hh:H6 x with _ | o
  ·exact h1 hh
  ·have:=new8 x hy
   rw [s7 _ _ hh] at this
   cases this
 ·intro x hx
  rcases List.mem_append.mp hx with hx | hx
  ·exact s05.free (hnew x hx)
  ·exact s07.free (new8 x hx)
 ·intro z
  rcases List.mem_append.mp z with z | z
  ·exact hmlw z
  ·exact hmlw2 z
def jau:Sp:=fun vs H Q _=>∃ (a:Addr) (us:List V) (prog:List Pc) (pr:Str→Pc),vs=[.ref a]∧H a=some (.tup us)∧HeldL H (prog.map Pc.toD) us∧prog.length≤100∧(prog.map Pc.f).Nodup∧(∀ p∈prog,pr p.f=p)∧∀ d H',Same H H'→H d=none→ProcsAt H' d (prog.map Pc.f) pr→Q (.ref d) H'
theorem jcK {f:Addr} {fd:FuncData} (F:Fun K "procs_by_name" "procs_by_name" kS f fd):FnOk P w K mg base CX0 1 f fd ["program"] jau:=by
 have sc:FnScope ["program"] ["program"] (jm kS):=fQ
 refine F.okZ sc (fun vs H Q E h=>?_) (fun cdv A outer s H vs Q E hr h=>?_)
 ·obtain ⟨a,us,prog,pr,rfl,_⟩:=h
  rfl
 obtain ⟨a,us,prog,pr,rfl,ha,hpv,hl,hnd,hpr,q⟩:=h
 have hpl:=hpv.length
 rw [List.length_map] at hpl
 refine ⟨_,(ji (jq (ja4 ["proc"] [] rfl (kY (sc:=jm kS) (N:=["program"]) rfl rfl (by decide +kernel)) (qq (zpv 0)) (fun s H ex=>⟨(jn (i:=0) (show List.Nodup (["proc"]:List Str) by decide +kernel) rfl oQ),qS,(jw (yN (K:=K)) (zpv 0) jh (fun _ _=>rfl)),(zpv 0)⟩)))),?_⟩
 refine ⟨_,rfl,a,rfl,⟨_,SqT.of ha⟩,fun d hd=>?_⟩
 refine jbH (xs:=us) (fun i σ' G=>(∃ u,σ'=[u])∧Same H G∧∃ kv,G d=some (.dK kv)∧kv.length≤i∧∀ p∈prog.take i,∃ v,qr kv (Sum.inr p.f)=some v∧Held H p.toD v) ⟨⟨none,rfl⟩,je hd _,[],ja,Nat.le_refl _,fun p hp=>by cases hp⟩ ?_ ?_ ?_
 ·rintro i σ' G _ ⟨_,sG,_⟩
  exact SqT.of (sG _ _ ha)
 ·rintro i x σ' G hx ⟨⟨u,rfl⟩,sG,kv,eG,hkl,hkv⟩
  have hi:i < prog.length:=by have:=(List.getElem?_eq_some_iff.mp hx).1;omega
  obtain ⟨x',hx',hxH⟩:=hpv.get (show (prog.map Pc.toD)[i]?=some prog[i].toD by rw [List.getElem?_map,List.getElem?_eq_getElem hi];rfl)
  rw [hx] at hx'
  cases hx'
  have hxH0:=hxH
  obtain ⟨b,ap,ar,an,ag,ab,vn,vg,vb,rfl,hb,_⟩:=J3 hxH
  unfold qe Yi
  refine YE ?_
  refine ⟨_,rfl,b,_,_,_,rfl,rfl,SqT.of (sG _ _ hb),rfl,_,rfl,kv,Sum.inr prog[i].f,rfl,eG,jA (by omega),⟨_,rfl⟩,fun b o e=>?_,_,ja,?_,fun p hp=>?_⟩
  ·rw [jl (jk e hd)];exact sG _ _ e
  ·exact Nat.le_trans (Zb _ _ _) (by omega)
  ·rw [show prog.take (i+1)=prog.take i++[prog[i]] by rw [List.take_succ,List.getElem?_eq_getElem hi];rfl] at hp
   rcases List.mem_append.mp hp with hp | hp
   ·obtain ⟨v,e1,e2⟩:=hkv p hp
    refine ⟨v,?_,e2⟩
    rw [zH,if_neg,e1]
    intro e
    have e:=Sum.inr.inj e
    obtain ⟨j,hj,hje⟩:=List.mem_iff_getElem.mp hp
    rw [List.length_take] at hj
    rw [List.getElem_take] at hje
    have:=(List.pairwise_iff_getElem.mp hnd) j i (by rw [List.length_map];omega) (by rw [List.length_map];omega) (by omega)
    rw [List.getElem_map,List.getElem_map,hje] at this
    exact this e
   ·rw [List.mem_singleton.mp hp]
    exact ⟨_,by rw [zH,if_pos rfl],hxH0⟩
 ·rintro σ' G ⟨_,sG,kv,eG,_,hkv⟩
  rw [← hpl,List.take_length] at hkv
  refine q d G sG hd ⟨kv,eG,fun g hg=>?_⟩
  obtain ⟨p,hp,rfl⟩:=List.mem_map.mp hg
  obtain ⟨v,e1,e2⟩:=hkv p hp
  exact ⟨v,e1,by rw [hpr p hp];exact e2.mono sG⟩
end
def zd (pr:Str→Pc) (num:Pc→List Str):List Pc→Option (List Du)
 | []=>some []
 | p :: r=>match p.dus pr (num p) with
  | none=>none
  | some d=>match zd pr num r with
   | none=>none
   | some e=>some (d++e)
theorem K6 (pr:Str→Pc) (num:Pc→List Str) (p:Pc):∀ l:List Pc,zd pr num (l++[p])=(match zd pr num l with
  | none=>none
  | some d=>match p.dus pr (num p) with
   | none=>none
   | some e=>some (d++e))
 | []=>by
  show zd pr num [p]=_
  unfold zd
  dsimp only [zd]
  cases p.dus pr (num p) with
  | none=>rfl
  | some e=>simp
 | x :: l=>by
  rw [List.cons_append]
  rw [zd,zd,K6 pr num p l]
  cases x.dus pr (num x) with
  | none=>rfl
  | some d=>
   dsimp only
   cases zd pr num l with
   | none=>rfl
   | some d'=>
    dsimp only
    cases p.dus pr (num p) with
    | none=>rfl
    | some e=>simp
theorem K7 (pr:Str→Pc) (num:Pc→List Str):∀ l r:List Pc,zd pr num l=none→zd pr num (l++r)=none
 | [],r,h=>by cases h
 | x :: l,r,h=>by
  rw [List.cons_append]
  rw [zd] at h ⊢
  cases e:x.dus pr (num x) with
  | none=>rfl
  | some d=>
   rw [e] at h
   dsimp only at h ⊢
   cases e2:zd pr num l with
   | none=>rw [K7 pr num l r e2]
   | some d'=>rw [e2] at h;cases h
theorem NumsOf.uniq {p:Pc} {ns ns':List Str} (h:NumsOf p ns) (h':NumsOf p ns'):ns=ns':=KW h.up h'.up fun x=>by rw [h.mem,h'.mem]
def Pc.most (p:Pc):Nat:=(p.bd.map (kF p.lv)).sum+16 * p.gv.length
theorem ZA {gs:List Str} {pr:Str→Pc} {p:Pc} {ns:List Str} {ds:List Du} (hp:PcFit gs pr p) (h:p.dus pr ns=some ds):ds.length≤p.most:=by
 unfold Pc.dus at h
 split at h
 ·cases h
 ·rename_i r er
  cases h
  have bn:=yd (gs:=gs) hp.fit (show [p.wayD ns].length≤16 from (show 1≤16 by decide)) er
  have hmm:r.2.length * p.gv.length≤16 * p.gv.length:=Nat.mul_le_mul_right _ bn.w
  have:=bn.c
  unfold Pc.most
  rw [List.length_append,kX]
  omega
theorem K8 {gs:List Str} {pr:Str→Pc} {num:Pc→List Str}:∀ {l:List Pc} {ds:List Du},(∀ p∈l,PcFit gs pr p)→zd pr num l=some ds→ds.length≤(l.map Pc.most).sum
 | [],ds,_,h=>by
  unfold zd at h
  cases h
  exact Nat.zero_le _
 | p :: l,ds,hp,h=>by
  rw [zd] at h
  split at h
  ·cases h
  ·rename_i d e1
   split at h
   ·cases h
   ·rename_i d' e2
    cases h
    have h1:=ZA (hp p List.mem_cons_self) e1
    have h2:=K8 (fun x hx=>hp x (List.mem_cons_of_mem _ hx)) e2
    rw [List.length_append,List.map_cons,List.sum_cons]
    omega
def zK (CT:Addr) (n:Nat):Sp:=fun vs H Q E=>∃ (a:Addr) (us:List V) (prog:List Pc) (pr:Str→Pc) (num:Pc→List Str),vs=[.ref a]∧H a=some (.tup us)∧HeldL H (prog.map Pc.toD) us∧prog.length≤20∧(prog.map Pc.f).Nodup∧(∀ p∈prog,p.lv=n∧pr p.f=p∧PcFit (prog.map Pc.f) pr p∧NumsOf p (num p))∧(prog.map Pc.most).sum≤900∧
 (∀ (ml:Addr) (ms:List V) (wls:List Addr) (ds:List Du) (H':Hp),zd pr num prog=some ds→Same H H'→H ml=none→H' ml=some (.lst ms)→DutsAt H' ds ms wls→wls.Nodup→(∀ x∈wls,H x=none)→ml ∉ wls→Q (.ref ml) H')∧
 (zd pr num prog=none→∀ H',Same H H'→E (.ref CT) none H')
section
variable {P:Program} {w:World} {K:W.Frag} {mg:Str→Option Value} {base:Heap}
theorem jbm {n:Nat} {CT:Addr} {f:Addr} {fd:FuncData} (F:Fun K "duties" "duties" JJ f fd) (F_procs_by_name:Fn P w K mg base 1 "procs_by_name" ["program"] jau) (F_duties_of:FnX P w K mg base (3 * n+8) "duties_of" ["proc","procs"] (JX CT n)):FnOk P w K mg base (CX1 P w) (3 * n+8+1) f fd ["program"] (zK CT n):=by
 have sc:FnScope ["program","procs","told","proc"] ["program"] (jm JJ):=fQ
 refine F.okX sc (fun vs H Q E h=>?_) (fun cdv A outer s H vs Q E hr W h=>?_)
 ·obtain ⟨a,us,prog,pr,num,rfl,_⟩:=h
  rfl
 obtain ⟨a,us,prog,pr,num,rfl,ha,hpv,hl20,hnp,hok,hmost,q⟩:=h
 refine ⟨_,(jd (jt (i:=1) sc.nd rfl oQ (jV F_procs_by_name hr (jc (zpv 0) jb)))
   (jd (jt (i:=2) sc.nd rfl oQ (jN jb))
   (jd (kr W.own rfl (qq (zpv 0)) (jn (i:=3) sc.nd rfl oQ) (ji (j6 (qC PySem.F.plainAttrs_list PySem.F.slot_list_extend PySem.F.type_list_extend zj (zpv 2) (jc (qZ F_duties_of W hr (jc (zpv 3) (jc (zpv 1) jb))) jb)))))
   (ji (jq (zpv 2)))))),?_⟩
 refine jO (σ':=[some (.ref a),none,none,none]) rfl ?_
 have hul:=hpv.length
 rw [List.length_map] at hul
 refine ⟨_,rfl,a,us,prog,pr,rfl,ha,hpv,by omega,hnp,fun p hp=>(hok p hp).2.1,fun d H1 s1 hd hP=>?_⟩
 refine gQ ?_
 refine ⟨sm rfl,fun l hl=>?_⟩
 have s2:=je hl (.lst [])
 have e2:upd H1 l (.lst []) l=some (.lst []):=ja
 generalize upd H1 l (.lst [])=H2 at *
 have hl0:=s1.free hl
 refine gQ ?_
 have s12:=s1.trans s2
 refine ⟨_,rfl,a,rfl,⟨_,SqT.of (s12 _ _ ha)⟩,?_⟩
 refine yO (xs:=us) (fun i σ G=>∃ u3 ms wls ds,zd pr num (prog.take i)=some ds∧σ=[some (.ref a),some (.ref d),some (.ref l),u3]∧Same H G∧ProcsAt G d (prog.map Pc.f) pr∧G l=some (.lst ms)∧DutsAt G ds ms wls∧wls.Nodup∧(∀ x∈wls,H x=none)∧l ∉ wls) ⟨none,[],[],[],rfl,rfl,s12,hP.mono s2,e2,trivial,List.nodup_nil,(fun _ z=>by cases z),List.not_mem_nil⟩ ?_ ?_ ?_
 ·rintro i σ G _ ⟨u3,ms,wls,ds,ed,rfl,sG,_⟩
  exact SqT.of (sG _ _ ha)
 ·rintro i x σ G hx ⟨u3,ms,wls,ds,ed,rfl,sG,hPG,hG,hD,hnd,hnew,hnl⟩
  have hi:i < prog.length:=by have:=(List.getElem?_eq_some_iff.mp hx).1;omega
  obtain ⟨x',hx',hxH⟩:=hpv.get (show (prog.map Pc.toD)[i]?=some prog[i].toD by rw [List.getElem?_map,List.getElem?_eq_getElem hi];rfl)
  rw [hx] at hx'
  cases hx'
  obtain ⟨hlv,_,hp,hn⟩:=hok _ (List.getElem_mem hi)
  have etk:prog.take (i+1)=prog.take i++[prog[i]]:=by rw [List.take_succ,List.getElem?_eq_getElem hi];rfl
  have hsn:=K6 pr num prog[i] (prog.take i)
  rw [← etk,ed] at hsn
  dsimp only at hsn
  have ld:=hD.len
  have ld2:=K8 (fun p hp=>(hok p (List.mem_of_mem_take hp)).2.2.1) ed
  have hsum:((prog.take i).map Pc.most).sum+prog[i].most≤(prog.map Pc.most).sum:=by
   have h1:(prog.map Pc.most).sum=((prog.take (i+1)).map Pc.most).sum+((prog.drop (i+1)).map Pc.most).sum:=by rw [← List.sum_append,← List.map_append,List.take_append_drop]
   rw [h1,etk,List.map_append,List.sum_append]
   simp
  refine gQ ?_
  refine ⟨_,rfl,.inl ⟨rfl,_,SqL.of hG⟩,_,rfl,_,rfl,x,d,prog[i],prog.map Pc.f,pr,rfl,hlv,hxH.mono sG,hp,hPG,fun ml ms2 wls2 ns ds2 G2 hns eds s3 n3 e3 hD2 nd2 new2 nml=>?_,fun ns G2 hns eds s3=>?_⟩
  ·have en:=hns.uniq hn
   subst en
   have ld3:=hD2.len
   have ld4:=ZA hp eds
   have hG2:=s3 _ _ hG
   refine ⟨l,ml,_,_,rfl,rfl,hG2,e3,Nat.le_trans (by omega) (j4 (Nat.le_refl 1000)),?_⟩
   have k4:∀ b o,b≠l→G2 b=some o→upd G2 l (.lst (ms++ms2)) b=some o:=fun b o hb e=>by rw [jl hb];exact e
   have hnl2:l ∉ wls2:=fun z=>by have:=new2 _ z;rw [hG] at this;cases this
   refine ⟨_,ms++ms2,wls++wls2,ds++ds2,by rw [hsn,eds],rfl,fun b o e=>k4 b o (jk e hl0) (s3 _ _ (sG _ _ e)),(hPG.mono s3).keep k4 hG2,ja,?_,?_,?_,?_⟩
   ·exact DutsAt.app (DutsAt.keep (G:=G) (fun b o hb e=>k4 b o hb (s3 _ _ e)) hG hD hnl) (DutsAt.keep k4 hG2 hD2 hnl2)
   ·refine List.nodup_append.mpr ⟨hnd,nd2,fun x hx y hy=>?_⟩
    rintro rfl
    exact kW hD x hx (new2 x hy)
   ·intro x hx
    rcases List.mem_append.mp hx with hx | hx
    ·exact hnew x hx
    ·exact sG.free (new2 x hx)
   ·intro z
    rcases List.mem_append.mp z with z | z
    ·exact hnl z
    ·exact hnl2 z
  ·have en:=hns.uniq hn
   subst en
   refine q.2 ?_ G2 (sG.trans s3)
   rw [show prog=prog.take (i+1)++prog.drop (i+1) from (List.take_append_drop _ _).symm]
   exact K7 pr num _ _ (by rw [hsn,eds])
 rintro σ G ⟨u3,ms,wls,ds,ed,rfl,sG,hPG,hG,hD,hnd,hnew,hnl⟩
 rw [← hul,List.take_length] at ed
 exact ⟨_,rfl,q.1 l ms wls ds G ed sG hl0 hG hD hnd hnew hnl⟩
end
end LW
namespace Tim
open PySem PyProof.Rows
section
variable {prog:Program} {w:World} {A:Around} {E:Value→Shared→Prop} {s:Shared} {κ:KeyKind}
def kq (κ:KeyKind) (p:Keyed):κ.α:=(κ.keyOf p.1).getD κ.dflt
def Ko (κ:KeyKind) (p:Keyed):Prop:=∃ a,κ.keyOf p.1=some a
end
abbrev SL (κ:KeyKind) (l:List Keyed):Prop:=l.Pairwise fun p q=>κ.kle (kq κ p) (kq κ q)
abbrev Le (κ:KeyKind) (p q:Keyed):Prop:=κ.kle (kq κ p) (kq κ q)
section
variable {κ:KeyKind} {A B L:List Keyed} {ia ib:Nat}
structure LoI (κ:KeyKind) (A B L:List Keyed) (ia ib:Nat):Prop where
 perm:L.Perm (A.take ia++B.take ib)
 srt:SL κ L
 ba:∀ x∈L,∀ y∈A.drop ia,Le κ x y
 bb:∀ x∈L,∀ y∈B.drop ib,Le κ x y
theorem LoI.swap (I:LoI κ A B L ia ib):LoI κ B A L ib ia:=⟨I.perm.trans List.perm_append_comm,I.srt,I.bb,I.ba⟩
def ZM (κ:KeyKind) (A B M:List Keyed):Prop:=M.Perm (A++B)∧SL κ M
theorem LoI.done (I:LoI κ A B L ia ib) (sa:SL κ A) (sb:SL κ B) (h:∀ x∈A.drop ia,∀ y∈B.drop ib,Le κ x y):ZM κ A B (L++A.drop ia++B.drop ib):=by
 refine ⟨?_,?_⟩
 ·have e1:=List.take_append_drop ia A
  have e2:=List.take_append_drop ib B
  have h1:(L++A.drop ia++B.drop ib).Perm ((A.take ia++B.take ib)++(A.drop ia++B.drop ib)):=by
   rw [List.append_assoc]
   exact I.perm.append_right _
  refine h1.trans ?_
  have h2:((A.take ia++B.take ib)++(A.drop ia++B.drop ib)).Perm ((A.take ia++A.drop ia)++(B.take ib++B.drop ib)):=by
   rw [List.append_assoc,List.append_assoc]
   refine List.Perm.append_left _ ?_
   rw [← List.append_assoc,← List.append_assoc]
   exact List.perm_append_comm.append_right _
  rw [e1,e2] at h2
  exact h2
 ·refine List.pairwise_append.mpr ⟨List.pairwise_append.mpr ⟨I.srt,sa.drop,I.ba⟩,sb.drop,fun x hx y hy=>?_⟩
  rcases List.mem_append.mp hx with hx | hx
  ·exact I.bb x hx y hy
  ·exact h x hx y hy
theorem LoI.last (I:LoI κ A B L ia ib) (sa:SL κ A) (sb:SL κ B) (h:∀ x∈B.drop ib,∀ y∈A.drop ia,Le κ x y):ZM κ A B (L++B.drop ib++A.drop ia):=by
 obtain ⟨h1,h2⟩:=I.swap.done sb sa h
 exact ⟨h1.trans List.perm_append_comm,h2⟩
end
theorem Zx {a:Array Keyed} {i j:Nat}:(a.extract i j).toList=(a.toList.drop i).take (j - i):=by
 simp
theorem jaO {a:Array Keyed} {i:Nat}:(a.extract i a.size).toList=a.toList.drop i:=by
 rw [Zx,List.take_of_length_le (by rw [List.length_drop];simp)]
abbrev Z9 (a b out:Array Keyed) (ia ib:Nat):Array Keyed:=out++a.extract ia a.size++b.extract ib b.size
section
variable {prog:Program} {w:World} {A:Around} {E:Value→Shared→Prop} {s:Shared} {κ:KeyKind} {a b:Array Keyed}
structure MC (κ:KeyKind) (a b:Array Keyed):Prop where
 ka:∀ i (h:i < a.size),Ko κ a[i]
 kb:∀ i (h:i < b.size),Ko κ b[i]
 sa:SL κ a.toList
 sb:SL κ b.toList
 last:∀ j (h:j < b.size) (h':a.size - 1 < a.size),Le κ b[j] a[a.size - 1]
theorem jbG {out:Array Keyed} {ia ib:Nat}:(Z9 a b out ia ib).toList=out.toList++a.toList.drop ia++b.toList.drop ib:=by
 unfold Z9
 rw [Array.toList_append,Array.toList_append,jaO,jaO]
theorem MC.fin {out:Array Keyed} {ia ib:Nat} (C:MC κ a b) (I:LoI κ a.toList b.toList out.toList ia ib) (h:ia=a.size∨ib=b.size):ZM κ a.toList b.toList (Z9 a b out ia ib).toList:=by
 rw [jbG]
 refine I.done C.sa C.sb fun x hx y hy=>?_
 rcases h with rfl | rfl
 ·rw [List.drop_eq_nil_of_le (by simp)] at hx;cases hx
 ·rw [List.drop_eq_nil_of_le (by simp)] at hy;cases hy
variable {st:SortSt} {N:Nat}
end
section
variable {κ:KeyKind} {A B L:List Keyed} {na nb:Nat}
structure HiI (κ:KeyKind) (A B L:List Keyed) (na nb:Nat):Prop where
 perm:L.Perm (A.drop na++B.drop nb)
 srt:L.Pairwise fun p q=>Le κ q p
 ba:∀ x∈L,∀ y∈A.take na,Le κ y x
 bb:∀ x∈L,∀ y∈B.take nb,Le κ y x
theorem HiI.swap (I:HiI κ A B L na nb):HiI κ B A L nb na:=⟨I.perm.trans List.perm_append_comm,I.srt,I.bb,I.ba⟩
theorem HiI.done (I:HiI κ A B L na nb) (sa:SL κ A) (sb:SL κ B) (h:∀ x∈A.take na,∀ y∈B.take nb,Le κ x y):ZM κ A B (A.take na++B.take nb++L.reverse):=by
 refine ⟨?_,?_⟩
 ·have e1:=List.take_append_drop na A
  have e2:=List.take_append_drop nb B
  have h1:(A.take na++B.take nb++L.reverse).Perm ((A.take na++B.take nb)++(A.drop na++B.drop nb)):=((List.reverse_perm L).trans I.perm).append_left _
  refine h1.trans ?_
  have h2:((A.take na++B.take nb)++(A.drop na++B.drop nb)).Perm ((A.take na++A.drop na)++(B.take nb++B.drop nb)):=by
   rw [List.append_assoc,List.append_assoc]
   refine List.Perm.append_left _ ?_
   rw [← List.append_assoc,← List.append_assoc]
   exact List.perm_append_comm.append_right _
  rw [e1,e2] at h2
  exact h2
 ·refine List.pairwise_append.mpr ⟨List.pairwise_append.mpr ⟨sa.take,sb.take,h⟩,List.pairwise_reverse.mpr I.srt,fun x hx y hy=>?_⟩
  have hy':=List.mem_reverse.mp hy
  rcases List.mem_append.mp hx with hx | hx
  ·exact I.ba y hy' x hx
  ·exact I.bb y hy' x hx
end
abbrev jaa (a b out:Array Keyed) (na nb:Nat):Array Keyed:=a.extract 0 na++b.extract 0 nb++out.reverse
section
variable {prog:Program} {w:World} {A:Around} {E:Value→Shared→Prop} {s:Shared} {κ:KeyKind} {a b:Array Keyed}
theorem Zv {l:Array Keyed} {n:Nat}:(l.extract 0 n).toList=l.toList.take n:=by
 rw [Zx,List.drop_zero,Nat.sub_zero]
theorem ZC {out:Array Keyed} {na nb:Nat}:(jaa a b out na nb).toList=a.toList.take na++b.toList.take nb++out.toList.reverse:=by
 unfold jaa
 rw [Array.toList_append,Array.toList_append,Zv,Zv,Array.toList_reverse]
structure MD (κ:KeyKind) (a b:Array Keyed):Prop where
 ka:∀ i (h:i < a.size),Ko κ a[i]
 kb:∀ i (h:i < b.size),Ko κ b[i]
 sa:SL κ a.toList
 sb:SL κ b.toList
 first:∀ i (h:i < a.size) (h':0 < b.size),Le κ b[0] a[i]
theorem MD.fin {out:Array Keyed} {na nb:Nat} (C:MD κ a b) (I:HiI κ a.toList b.toList out.toList na nb) (h:na=0∨nb=0):ZM κ a.toList b.toList (jaa a b out na nb).toList:=by
 rw [ZC]
 refine I.done C.sa C.sb fun x hx y hy=>?_
 rcases h with rfl | rfl
 ·cases hx
 ·cases hy
variable {st:SortSt} {N:Nat}
end
section
variable {prog:Program} {w:World} {A:Around} {E:Value→Shared→Prop} {s:Shared} {κ:KeyKind} {st:SortSt} {arr:Array Keyed}
def Seg (κ:KeyKind) (arr:Array Keyed) (lo hi:Nat):Prop:=∀ i j,lo≤i→i≤j→j < hi→κ.kle (KK κ arr i) (KK κ arr j)
end
section
variable {prog:Program} {w:World} {A:Around} {E:Value→Shared→Prop} {s:Shared} {a₀ ar0:Array Keyed} {κ:KeyKind} {P:Array (Nat×Nat×Nat)} {lo:Nat}
structure TB (a₀:Array Keyed) (P:Array (Nat×Nat×Nat)) (lo:Nat) (ar0:Array Keyed) (st:SortSt):Prop where
 perm:(arrOf st).Perm a₀
 kind:kindOf st=oneType'
 failed:failedOf st=none
 pend:pendingOf st=P
 low:∀ k,k < lo→(arrOf st)[k]?=ar0[k]?
theorem TB.size {st:SortSt} (h:TB a₀ P lo ar0 st):(arrOf st).size=a₀.size:=h.perm.size_eq
theorem TB.key {st:SortSt} (T:TB a₀ P lo ar0 st) (keys:KeysOf κ a₀) {i:Nat} (below:i < a₀.size):∃ li:i < (arrOf st).size,Ko κ ((arrOf st)[i]):=
 ⟨by rw [T.size];exact below,keys _ ((Array.perm_iff_toList_perm.mp T.perm).mem_iff.mp (Array.getElem_mem_toList _))⟩
theorem grown {R:Nat→Nat→Prop} (refl:∀ i,R i i) (trans:∀ i j k,R i j→R j k→R i k) {lo top:Nat} (low:lo < top) (old:∀ i j,lo≤i→i≤j→j < top→R i j) (new:R (top - 1) top):∀ i j,lo≤i→i≤j→j < top+1→R i j:=fun i j a b c=>by
 rcases Nat.lt_or_ge j top with d | d
 ·exact old i j a b d
 have ej:j=top:=by omega
 rcases Nat.lt_or_ge i j with f | f
 ·rw [ej];exact trans _ _ _ (old i (top - 1) a (by omega) (by omega)) new
 ·rw [show i=j by omega];exact refl j
end
section
variable {prog:Program} {w:World} {A:Around} {E:Value→Shared→Prop} {s:Shared} {a₀:Array Keyed} {κ:KeyKind}
def zX (κ:KeyKind) (arr:Array Keyed):Nat→List (Nat×Nat×Nat)→Nat→Prop
 | lo,[],hi=>lo=hi
 | lo,p :: r,hi=>p.1=lo∧0 < p.2.1∧Seg κ arr lo (lo+p.2.1)∧zX κ arr (lo+p.2.1) r hi
theorem yU {arr:Array Keyed}:∀ {p q:List (Nat×Nat×Nat)} {lo hi:Nat},zX κ arr lo (p++q) hi↔∃ mid,zX κ arr lo p mid∧zX κ arr mid q hi
 | [],q,lo,hi=>by
  show zX κ arr lo q hi↔∃ mid,lo=mid∧zX κ arr mid q hi
  constructor
  ·intro h;exact ⟨lo,rfl,h⟩
  ·rintro ⟨_,rfl,h⟩;exact h
 | x :: p,q,lo,hi=>by
  have ih:=yU (arr:=arr) (p:=p) (q:=q) (lo:=lo+x.2.1) (hi:=hi)
  show (x.1=lo∧0 < x.2.1∧Seg κ arr lo (lo+x.2.1)∧zX κ arr (lo+x.2.1) (p++q) hi)↔∃ mid,(x.1=lo∧0 < x.2.1∧Seg κ arr lo (lo+x.2.1)∧zX κ arr (lo+x.2.1) p mid)∧zX κ arr mid q hi
  rw [ih]
  constructor
  ·rintro ⟨h1,h2,h3,mid,h4,h5⟩;exact ⟨mid,⟨h1,h2,h3,h4⟩,h5⟩
  ·rintro ⟨mid,⟨h1,h2,h3,h4⟩,h5⟩;exact ⟨h1,h2,h3,mid,h4,h5⟩
structure SInv (κ:KeyKind) (a₀:Array Keyed) (hi:Nat) (st:SortSt):Prop where
 perm:(arrOf st).Perm a₀
 kind:kindOf st=oneType'
 failed:failedOf st=none
 chain:zX κ (arrOf st) 0 (pendingOf st).toList hi
theorem SInv.push {st:SortSt} {lo n:Nat} (S:SInv κ a₀ lo st) (h:Seg κ (arrOf st) lo (lo+n)) (hn:0 < n):SInv κ a₀ (lo+n) (setPending st ((pendingOf st).push (lo,n,0))):=by
 refine ⟨S.perm,S.kind,S.failed,?_⟩
 show zX κ (arrOf st) 0 ((pendingOf st).push (lo,n,0)).toList (lo+n)
 rw [Array.toList_push]
 exact yU.mpr ⟨lo,S.chain,rfl,hn,h,rfl⟩
end
def jfu:Value→Option Int
 | .int n _=>some n
 | _=>none
@[reducible] def intKind:PyProof.Rows.KeyKind where
 α:=Int
 blt a b:=decide (a < b)
 irrefl a:=decide_eq_false (Int.lt_irrefl a)
 trans a b c h1 h2:=decide_eq_true (Int.lt_trans (of_decide_eq_true h1) (of_decide_eq_true h2))
 negTrans a b c h:=by
  have:=of_decide_eq_true h
  by_cases x:a < b
  ·exact .inl (decide_eq_true x)
  ·exact .inr (decide_eq_true (by omega))
 total a b h1 h2:=by
  have:=of_decide_eq_false h1
  have:=of_decide_eq_false h2
  omega
 keyOf:=jfu
 dflt:=0
end Tim
namespace L2
open PySem PySem.Spec PyProof.Rows PySem.W
open PySem PySem.Spec PyProof PyProof.Rows PySem.W
theorem Jm:∀ {vs:List Value} {ns:List Int},IntsAre vs ns→∃ l:List (Int×Tok),vs=l.map (fun p=>Value.int p.1 p.2)∧l.map (·.1)=ns
 | _,_,.nil=>⟨[],rfl,rfl⟩
 | _,_,.cons n t h=>by
  obtain ⟨l,e1,e2⟩:=Jm h
  exact ⟨(n,t) :: l,by rw [e1];rfl,by rw [List.map_cons,e2]⟩
theorem jfJ {X:Cx} (hc:X.calm=true):qo X (.builtin "min") (fun xs H Q=>∃ (p:Addr) (ns:List Int),xs=[.ref p]∧SqL X.K H p (ns.map V.int)∧ns≠[]∧∀ m,m∈ns→(∀ d∈ns,m≤d)→Q (.int m) H):=by
 intro pins s σ H xs us Q I r h
 obtain ⟨p,ns,rfl,hq,hne,q⟩:=h
 obtain ⟨u,rfl,rx⟩:=yk r
 cases rx
 obtain ⟨its,rv,pl,hz⟩:=I.list hq
 obtain ⟨l,e1,e2⟩:=Jm (Kc rv)
 have hl:0 < l.length:=by
  have:l.length=ns.length:=by rw [← e2,List.length_map]
  rw [this]
  exact List.length_pos_iff.mpr hne
 have ei:its.toArray=intItems l.toArray:=by rw [e1];simp [intItems]
 have hi:=pl.isList
 rw [ei] at hi
 refine min_intList (I.ok.hd hc) hi (by simpa using hl) fun v h' tk hv k=>?_
 obtain ⟨b1,b2⟩:=argBest_lt (numAt l.toArray) (l.toArray.size - 1)
 generalize argBest (fun i j=>decide (numAt l.toArray i < numAt l.toArray j)) (l.toArray.size - 1)=j at *
 have sz:l.toArray.size=l.length:=by simp
 have hj:j < l.length:=by omega
 have en:∀ i (h:i < l.length),numAt l.toArray i=l[i].1:=fun i h=>by simp [numAt,h]
 have ev:v=.int l[j].1 l[j].2:=by
  have:=hv
  simp [intItems,hj] at this
  exact this.symm
 subst ev
 refine ⟨.int l[j].1,H,I.kept k,⟨_,rfl⟩,q _ (by rw [← e2];exact List.mem_map.mpr ⟨_,List.getElem_mem hj,rfl⟩) fun d hd=>?_⟩
 rw [← e2] at hd
 obtain ⟨x,hx,rfl⟩:=List.mem_map.mp hd
 obtain ⟨i,hi,rfl⟩:=List.mem_iff_getElem.mp hx
 have:=b2 i (by omega)
 rw [en j hj,en i hi] at this
 exact this
theorem jbM {X:Cx} (hc:X.calm=true):qo X (.builtin "max") (fun xs H Q=>∃ (p:Addr) (ns:List Int),xs=[.ref p]∧SqL X.K H p (ns.map V.int)∧ns≠[]∧∀ m,m∈ns→(∀ d∈ns,d≤m)→Q (.int m) H):=by
 intro pins s σ H xs us Q I r h
 obtain ⟨p,ns,rfl,hq,hne,q⟩:=h
 obtain ⟨u,rfl,rx⟩:=yk r
 cases rx
 obtain ⟨its,rv,pl,hz⟩:=I.list hq
 obtain ⟨l,e1,e2⟩:=Jm (Kc rv)
 have hl:0 < l.length:=by
  have:l.length=ns.length:=by rw [← e2,List.length_map]
  rw [this]
  exact List.length_pos_iff.mpr hne
 have ei:its.toArray=intItems l.toArray:=by rw [e1];simp [intItems]
 have hi:=pl.isList
 rw [ei] at hi
 refine max_intList (I.ok.hd hc) hi (by simpa using hl) fun v h' tk hv k=>?_
 obtain ⟨b1,b2⟩:=argBest_gt (numAt l.toArray) (l.toArray.size - 1)
 generalize argBest (fun i j=>decide (numAt l.toArray i > numAt l.toArray j)) (l.toArray.size - 1)=j at *
 have sz:l.toArray.size=l.length:=by simp
 have hj:j < l.length:=by omega
 have en:∀ i (h:i < l.length),numAt l.toArray i=l[i].1:=fun i h=>by simp [numAt,h]
 have ev:v=.int l[j].1 l[j].2:=by
  have:=hv
  simp [intItems,hj] at this
  exact this.symm
 subst ev
 refine ⟨.int l[j].1,H,I.kept k,⟨_,rfl⟩,q _ (by rw [← e2];exact List.mem_map.mpr ⟨_,List.getElem_mem hj,rfl⟩) fun d hd=>?_⟩
 rw [← e2] at hd
 obtain ⟨x,hx,rfl⟩:=List.mem_map.mp hd
 obtain ⟨i,hi,rfl⟩:=List.mem_iff_getElem.mp hx
 have:=b2 i (by omega)
 rw [en j hj,en i hi] at this
 exact this
end L2
namespace LW
open PySem L2
abbrev jaC:Stmt:=top 37
abbrev jbe:Stmt:=top 38
abbrev Yo:Stmt:=top 39
abbrev jaB:Stmt:=top 40
theorem jdl {ns:List Int} {k:Int} (h0:0≤k) (h:k < (ns.length:Int)):atI (ns.map V.int) k=some (.int (ns.getD k.toNat 0)):=by
 have hk:k.toNat < ns.length:=by omega
 have:=yY (xs:=ns.map V.int) (j:=k.toNat) (v:=.int (ns.getD k.toNat 0)) (by rw [List.getElem?_map,List.getD_eq_getElem?_getD,List.getElem?_eq_getElem hk];rfl)
 rw [show ((k.toNat:Nat):Int)=k by omega] at this
 exact this
def jcf (K:W.Frag):Sp:=fun vs H Q _=>∃ (a:Addr) (ns:List Int) (k:Int),vs=[.ref a,.int k]∧SqL K H a (ns.map V.int)∧0≤k∧k≤1000∧∀ c:Int,Q (.int c) H
def qk:D:=(Sm.set "y" (.is "x") 1).toD
def ifD (k:Int) (x y:List D):D:=(Nd.ite (.is "x") (.is "y") k x y).toD
inductive IfD:Nat→D→Prop
 | base (k:Int):IfD 0 (ifD k [qk] [])
 | first {m:Nat} {d:D} (k:Int) (h:IfD m d):IfD (m+1) (ifD k [d] [qk])
 | other {m:Nat} {d:D} (k:Int) (h:IfD m d):IfD (m+1) (ifD k [] [qk,d])
def kC (c:Int):Int:=c % (2 * 10 ^ 18) - 10 ^ 18
def zF:Nat→Int→D
 | 0,c=>ifD (kC c) [qk] []
 | m+1,c=>if c / 2 % 2=0 then ifD (kC c) [zF m (c / 3)] [qk] else ifD (kC c) [] [qk,zF m (c / 3)]
theorem YB:∀ (m:Nat) (c:Int),IfD m (zF m c)
 | 0,c=>.base _
 | m+1,c=>by
  unfold zF
  split
  ·exact .first _ (YB m _)
  ·exact .other _ (YB m _)
def jax (n:Nat):Sp:=fun vs H Q _=>∃ (c:Int) (m:Nat),vs=[.int c,.int (m+2)]∧m≤n∧∀ v H',Same H H'→Held H' (zF m c) v→Q v H'
def yL:List Nat→Nat→Nat
 | [],w=>w
 | f :: r,w=>if 16 < w * f then 17 else yL r (w * f)
def jce:Sp:=fun vs H Q _=>∃ (a:Addr) (fs:List Nat),vs=[.ref a]∧H a=some (.lst (fs.map fun f=>V.int (f:Nat)))∧fs.length≤100∧Q (.int (yL fs 1:Nat)) H
def Ym (CT:Addr) (n:Nat):Sp:=fun vs H Q _=>∃ (v:V),vs=[v]∧zK CT n [v] H Q (fun cls _ H'=>cls=.ref CT∧∀ e,H' e=none→Q (.bl true) (upd H' e (Ju (.ref CT) e)))
theorem jfq {X:Cx}:OpR X (compareOp .Is) (fun x y H Q=>∃ i j,x=.bl i∧y=.bl j∧Q (.bl (i == j)) H):=by
 intro pins s σ H x y v u Q I rx ry h
 obtain ⟨i,j,rfl,rfl,q⟩:=h
 cases rx;cases ry
 refine wpAny_is_plain rfl ?_
 have e:(Value.bool i == Value.bool j)=(i == j):=by cases i <;> cases j <;> rfl
 rw [e]
 exact ⟨.bl (i == j),H,I,rfl,q⟩
theorem ze {X:Cx} {K:W.Frag} (hK:X.K=K:=by rfl):qo X (.builtin "isinstance") (fun xs H Q=>∃ a C D b,xs=[.ref a,.ref D]∧H a=some (Ju (.ref C) a)∧PySem.W.XCls K C∧W.kitOne K (.ref C) (.ref D)=some b∧Q (.bl b) H):=by
 subst hK
 exact YN
theorem Kp {CT:Addr} {n:Nat} {vs:List V} {H:Hp} {Q Q':VK} {E E':XK} (hQ:∀ v H',Q v H'→Q' v H') (hE:∀ H',E (.ref CT) none H'→E' (.ref CT) none H') (h:zK CT n vs H Q E):zK CT n vs H Q' E':=by
 obtain ⟨a,us,prog,pr,num,rfl,ha,hpv,hl20,hnp,hok,hmost,q1,q2⟩:=h
 exact ⟨a,us,prog,pr,num,rfl,ha,hpv,hl20,hnp,hok,hmost,fun ml ms wls ds H' e1 e2 e3 e4 e5 e6 e7 e8=>hQ _ _ (q1 ml ms wls ds H' e1 e2 e3 e4 e5 e6 e7 e8),fun e H' s=>hE _ (q2 e H' s)⟩
section
variable {P:Program} {w:World} {K:W.Frag} {mg:Str→Option Value} {base:Heap}
theorem jeb {f:Addr} {fd:FuncData} (F:Fun K "_law_cell" "_law_cell" jaC f fd) (B:Free0 mg):FnOk P w K mg base CX0 1 f fd ["_law_script","_law_k"] (jcf K):=by
 have sc:FnScope ["_law_script","_law_k","_law_number"] ["_law_script","_law_k"] (jm jaC):=fQ
 refine F.okZ sc (fun vs H Q E h=>?_) (fun cdv A outer s H vs Q E hr h=>?_)
 ·obtain ⟨a,ns,k,rfl,_⟩:=h
  rfl
 obtain ⟨a,ns,k,rfl,hS,h0,h1,q⟩:=h
 have hl:(ns.map V.int).length=ns.length:=List.length_map _
 refine ⟨_,(jd (jU (jx jeM (zpv 1) (kP jZ (by rfl) B.len_ qX (jc (zpv 0) jb)) (jJ _)) (ji (jq (jw q8 (zpv 0) (zpv 1) (fun _ _=>rfl)))) jE)
   (jd (jt (i:=2) sc.nd rfl oQ (js yt (js zc (zpv 1) jh) jh))
   (jd (JS (jU (jx Zh (kP jZ (by rfl) B.len_ qX (jc (zpv 0) jb)) jh (jJ _)) (ji (jt (i:=2) sc.nd rfl oQ (js qy (js yt (js zc (jw q8 (zpv 0) (js qy (js zc (zpv 1) jh) (kP jZ (by rfl) B.len_ qX (jc (zpv 0) jb))) (fun _ _=>rfl)) jh) (js zc (zpv 1) jh)) jh))) jE))
   (jd (jt (i:=2) sc.nd rfl oQ (js yt (js qy (js zc (zpv 2) (zpv 2)) jh) jh))
   (ji (jq (js qy (js zc (zpv 2) (zpv 2)) jh))))))),?_⟩
 refine jO (σ':=[some (.ref a),some (.int k),none]) rfl ?_
 refine ⟨_,rfl,_,rfl,a,_,rfl,.inl hS,_,_,rfl,rfl,_,rfl,jL (fun c=>?_) (fun c=>?_)⟩
 ·have c':k < (ns.length:Int):=by
   have:=of_decide_eq_true c
   rw [hl] at this
   exact this
  exact ⟨_,rfl,_,rfl,a,_,_,_,rfl,rfl,hS,jdl h0 c',q _⟩
 ·refine ⟨_,rfl,_,_,rfl,rfl,.inr ⟨by decide,by decide⟩,_,_,rfl,rfl,?_⟩
  refine gQ ?_
  refine ⟨fun σ' G=>∃ z:Int,σ'=[some (.ref a),some (.int k),some (.int z)]∧G=H∧0≤z∧z < 2147483647,?_,?_⟩
  ·refine ⟨_,rfl,a,_,rfl,.inl hS,_,_,rfl,rfl,_,rfl,jL (fun d=>?_) (fun d=>?_)⟩
   ·have d':0 < ns.length:=by
     have:=of_decide_eq_true d
     rw [hl] at this
     omega
    have hm0:0≤k * 7 % (ns.length:Int):=Int.emod_nonneg _ (by omega)
    have hm1:k * 7 % (ns.length:Int) < (ns.length:Int):=Int.emod_lt_of_pos _ (by omega)
    have hat:atI (ns.map V.int) (k * 7 % (((ns.map V.int).length:Nat):Int))=some (.int (ns.getD (k * 7 % (ns.length:Int)).toNat 0)):=by
     rw [hl]
     exact jdl hm0 hm1
    refine ⟨_,rfl,_,rfl,_,_,rfl,rfl,.inr ⟨by decide,by decide⟩,_,rfl,a,_,rfl,.inl hS,_,_,rfl,rfl,(by rw [hl];omega),a,_,_,_,rfl,rfl,hS,hat,_,_,rfl,rfl,.inr ⟨by decide,by decide⟩,_,rfl,_,_,rfl,rfl,.inr ⟨by decide,by decide⟩,_,_,rfl,rfl,_,_,rfl,rfl,(by show (0:Int) < 2147483647;decide),?_⟩
    exact ⟨_,rfl,rfl,Int.emod_nonneg _ (by decide),Int.emod_lt_of_pos _ (by decide)⟩
   ·exact ⟨_,rfl,rfl,by omega,by omega⟩
  ·rintro σ' G ⟨z,rfl,rfl,z0,z1⟩
   refine ⟨_,rfl,_,rfl,_,_,rfl,rfl,.inl ⟨by omega,by omega⟩,_,_,rfl,rfl,(by show (0:Int) < 2147483629;decide),_,_,rfl,rfl,?_⟩
   refine gQ ?_
   have y0:=Int.emod_nonneg (z * z) (b:=2147483629) (by decide)
   have y1:=Int.emod_lt_of_pos (z * z) (b:=2147483629) (by decide)
   exact ⟨_,rfl,_,rfl,_,_,rfl,rfl,.inl ⟨by omega,by omega⟩,_,_,rfl,rfl,(by show (0:Int) < 2147483587;decide),q _⟩
theorem jea {f:Addr} {fd:FuncData} (F:Fun K "_law_if" "_law_if" jbe f fd):FnOk P w K mg base CX0 1 f fd ["_law_cell_here","_law_many"] (jax 0):=by
 have sc:FnScope ["_law_cell_here","_law_many","_law_least","_law_plain","_law_inner"] ["_law_cell_here","_law_many"] (jm jbe):=fQ
 refine F.okZ sc (fun vs H Q E h=>?_) (fun cdv A outer s H vs Q E hr h=>?_)
 ·obtain ⟨c,m,rfl,_⟩:=h
  rfl
 obtain ⟨c,m,rfl,hm,q⟩:=h
 obtain rfl:m=0:=by omega
 refine ⟨_,(jd (jt (i:=2) sc.nd rfl oQ (zpd (jC (jg jB (jg (jC (jg jB (jg jB jv))) (jg (jC (jg jB (jg jB jv))) (jg (yq (js Yr (js qy (zpv 0) (js zc jh (js Ys jh jh))) (js Ys jh jh))) jv)))))))
   (jd (jt (i:=3) sc.nd rfl oQ (zpd (jC (jg (jC (jg jB (jg jB (jg (jC (jg jB (jg jB jv))) (jg Jf jv))))) jv))))
   (jd (jU (jx km (zpv 1) jh (jJ _)) (ji (jq (zpd (jC (jg jB (jg (kD 2) (jg (kD 3) (jg (jC jv) jv)))))))) jE)
   (jd (jt (i:=4) sc.nd rfl oQ (zpd (jC (jg (yq zY) jv))))
   (jd (jU (jx km (js qy (js zi (zpv 0) jh) jh) jh (jJ _)) (ji (jq (zpd (jC (jg jB (jg (kD 2) (jg (kD 4) (jg (kD 3) jv)))))))) jE)
   (ji (jq (zpd (jC (jg jB (jg (kD 2) (jg (jC jv) (jg (yq (js qc (zpv 3) (zpv 4))) jv))))))))))))),?_⟩
 refine jO (σ':=[some (.int c),some (.int ((0:Nat)+2)),none,none,none]) rfl ?_
 refine ⟨(Cl.least (.is "x") (.is "y") (c % (2 * 10 ^ 18) - 10 ^ 18)).toD,⟨_,rfl,Nat.le_of_ble_eq_true rfl,_,_,rfl,rfl,_,_,rfl,⟨_,rfl,Nat.le_of_ble_eq_true rfl,_,_,rfl,rfl,_,_,rfl,rfl,rfl⟩,_,_,rfl,⟨_,rfl,Nat.le_of_ble_eq_true rfl,_,_,rfl,rfl,_,_,rfl,rfl,rfl⟩,_,_,rfl,(fun G sG Q q=>⟨_,rfl,10,18,rfl,rfl,⟨by decide,by decide,by decide⟩,2,10 ^ 18,rfl,rfl,.inl ⟨by decide,by decide⟩,c,2 * 10 ^ 18,rfl,rfl,(show (0:Int) < 2 * 10 ^ 18 by decide),10,18,rfl,rfl,⟨by decide,by decide,by decide⟩,_,_,rfl,rfl,q _ _ (fun _ _ e=>e) (by unfold Held;rfl)⟩),rfl⟩,fun vl H1 s1 hl=>?_⟩
 refine gQ ?_
 refine ⟨.tup [qk],⟨_,rfl,Nat.le_of_ble_eq_true rfl,_,_,rfl,⟨_,rfl,Nat.le_of_ble_eq_true rfl,_,_,rfl,rfl,_,_,rfl,rfl,_,_,rfl,⟨_,rfl,Nat.le_of_ble_eq_true rfl,_,_,rfl,rfl,_,_,rfl,rfl,rfl⟩,_,_,rfl,rfl,rfl⟩,rfl⟩,fun vp H2 s2 hpl=>?_⟩
 refine gQ ?_
 refine ⟨_,rfl,rfl,_,rfl,jL (fun _=>?_) (fun d=>absurd (decide_eq_true rfl) d)⟩
 refine ⟨ifD (c % (2 * 10 ^ 18) - 10 ^ 18) [qk] [],⟨_,rfl,Nat.le_of_ble_eq_true rfl,_,_,rfl,rfl,_,_,rfl,⟨_,rfl,(hl.mono s2)⟩,_,_,rfl,⟨_,rfl,hpl⟩,_,_,rfl,⟨_,rfl,Nat.le_of_ble_eq_true rfl,rfl⟩,rfl⟩,fun v H3 s3 hv=>?_⟩
 exact q v H3 (s1.trans (s2.trans s3)) hv
theorem jcP {n:Nat} {f:Addr} {fd:FuncData} (F:Fun K "_law_if" "_law_if" jbe f fd) (F_if:Fn P w K mg base (n+1) "_law_if" ["_law_cell_here","_law_many"] (jax n)):FnOk P w K mg base CX0 (n+1+1) f fd ["_law_cell_here","_law_many"] (jax (n+1)):=by
 have sc:FnScope ["_law_cell_here","_law_many","_law_least","_law_plain","_law_inner"] ["_law_cell_here","_law_many"] (jm jbe):=fQ
 refine F.okZ sc (fun vs H Q E h=>?_) (fun cdv A outer s H vs Q E hr h=>?_)
 ·obtain ⟨c,m,rfl,_⟩:=h
  rfl
 obtain ⟨c,m,rfl,hm,q⟩:=h
 refine ⟨_,(jd (jt (i:=2) sc.nd rfl oQ (zpd (jC (jg jB (jg (jC (jg jB (jg jB jv))) (jg (jC (jg jB (jg jB jv))) (jg (yq (js Yr (js qy (zpv 0) (js zc jh (js Ys jh jh))) (js Ys jh jh))) jv)))))))
   (jd (jt (i:=3) sc.nd rfl oQ (zpd (jC (jg (jC (jg jB (jg jB (jg (jC (jg jB (jg jB jv))) (jg Jf jv))))) jv))))
   (jd (jU (jx km (zpv 1) jh (jJ _)) (ji (jq (zpd (jC (jg jB (jg (kD 2) (jg (kD 3) (jg (jC jv) jv)))))))) jE)
   (jd (jt (i:=4) sc.nd rfl oQ (zpd (jC (jg (yq (jV F_if hr (jc (js zi (zpv 0) jh) (jc (js Yr (zpv 1) jh) jb)))) jv))))
   (jd (jU (jx km (js qy (js zi (zpv 0) jh) jh) jh (jJ _)) (ji (jq (zpd (jC (jg jB (jg (kD 2) (jg (kD 4) (jg (kD 3) jv)))))))) jE)
   (ji (jq (zpd (jC (jg jB (jg (kD 2) (jg (jC jv) (jg (yq (js qc (zpv 3) (zpv 4))) jv))))))))))))),?_⟩
 refine jO (σ':=[some (.int c),some (.int ((m:Nat)+2)),none,none,none]) rfl ?_
 refine ⟨(Cl.least (.is "x") (.is "y") (c % (2 * 10 ^ 18) - 10 ^ 18)).toD,⟨_,rfl,Nat.le_of_ble_eq_true rfl,_,_,rfl,rfl,_,_,rfl,⟨_,rfl,Nat.le_of_ble_eq_true rfl,_,_,rfl,rfl,_,_,rfl,rfl,rfl⟩,_,_,rfl,⟨_,rfl,Nat.le_of_ble_eq_true rfl,_,_,rfl,rfl,_,_,rfl,rfl,rfl⟩,_,_,rfl,(fun G sG Q q=>⟨_,rfl,10,18,rfl,rfl,⟨by decide,by decide,by decide⟩,2,10 ^ 18,rfl,rfl,.inl ⟨by decide,by decide⟩,c,2 * 10 ^ 18,rfl,rfl,(show (0:Int) < 2 * 10 ^ 18 by decide),10,18,rfl,rfl,⟨by decide,by decide,by decide⟩,_,_,rfl,rfl,q _ _ (fun _ _ e=>e) (by unfold Held;rfl)⟩),rfl⟩,fun vl H1 s1 hl=>?_⟩
 refine gQ ?_
 refine ⟨.tup [qk],⟨_,rfl,Nat.le_of_ble_eq_true rfl,_,_,rfl,⟨_,rfl,Nat.le_of_ble_eq_true rfl,_,_,rfl,rfl,_,_,rfl,rfl,_,_,rfl,⟨_,rfl,Nat.le_of_ble_eq_true rfl,_,_,rfl,rfl,_,_,rfl,rfl,rfl⟩,_,_,rfl,rfl,rfl⟩,rfl⟩,fun vp H2 s2 hpl=>?_⟩
 refine gQ ?_
 refine ⟨_,rfl,rfl,_,rfl,jL (fun d=>?_) (fun d=>?_)⟩
 ·obtain rfl:m=0:=by
   have d':V.int ((m:Int)+2)=V.int 2:=of_decide_eq_true d
   injection d' with d'
   omega
  refine ⟨ifD (c % (2 * 10 ^ 18) - 10 ^ 18) [qk] [],⟨_,rfl,Nat.le_of_ble_eq_true rfl,_,_,rfl,rfl,_,_,rfl,⟨_,rfl,(hl.mono s2)⟩,_,_,rfl,⟨_,rfl,hpl⟩,_,_,rfl,⟨_,rfl,Nat.le_of_ble_eq_true rfl,rfl⟩,rfl⟩,fun v H3 s3 hv=>?_⟩
  exact q v H3 (s1.trans (s2.trans s3)) hv
 ·obtain ⟨m,rfl⟩:∃ m',m=m'+1:=by
   cases m with
   | zero=>exact absurd (decide_eq_true rfl) d
   | succ m=>exact ⟨m,rfl⟩
  refine ⟨.tup [zF m (c / 3)],⟨_,rfl,Nat.le_of_ble_eq_true rfl,_,_,rfl,(fun G sG Q q=>⟨_,rfl,c,3,rfl,rfl,⟨by decide,by decide⟩,_,rfl,((m+1:Nat):Int)+2,1,rfl,rfl,c / 3,m,congrArg (fun z=>[V.int (c / 3),V.int z]) (by omega:((m+1:Nat):Int)+2 - 1=(m:Int)+2),by omega,fun v H' s h=>q v H' s h⟩),rfl⟩,fun vi H3 s3 hi=>?_⟩
  refine gQ ?_
  have s13:=s1.trans (s2.trans s3)
  refine ⟨_,rfl,c,2,rfl,rfl,⟨by decide,by decide⟩,c / 2,2,rfl,rfl,(show (0:Int) < 2 by decide),rfl,_,rfl,jL (fun d=>?_) (fun d=>?_)⟩
  ·have d0:c / 2 % 2=0:=by have d':=of_decide_eq_true d;injection d'
   refine ⟨ifD (kC c) [zF m (c / 3)] [qk],⟨_,rfl,Nat.le_of_ble_eq_true rfl,_,_,rfl,rfl,_,_,rfl,⟨_,rfl,(hl.mono (s2.trans s3))⟩,_,_,rfl,⟨_,rfl,hi⟩,_,_,rfl,⟨_,rfl,(hpl.mono s3)⟩,rfl⟩,fun v H4 s4 hv=>?_⟩
   exact q v H4 (s13.trans s4) (by unfold zF;rw [if_pos d0];exact hv)
  ·have d0:¬ c / 2 % 2=0:=fun z=>d (decide_eq_true (congrArg V.int z))
   obtain ⟨pa,pvs,rfl,hpa,hpvs⟩:=jo hpl
   obtain ⟨ia,ivs,rfl,hia,hivs⟩:=jo hi
   have lp1:=hpvs.length
   have li1:=hivs.length
   refine ⟨ifD (kC c) [] [qk,zF m (c / 3)],⟨_,rfl,Nat.le_of_ble_eq_true rfl,_,_,rfl,rfl,_,_,rfl,⟨_,rfl,(hl.mono (s2.trans s3))⟩,_,_,rfl,⟨_,rfl,Nat.le_of_ble_eq_true rfl,rfl⟩,_,_,rfl,(fun G sG Q q=>⟨_,rfl,_,rfl,pa,ia,pvs,ivs,rfl,rfl,sG _ _ (s3 _ _ hpa),sG _ _ hia,j4 (by rw [← lp1,← li1];exact (by decide:1+1≤1000)),fun p H' s hp=>q (.ref p) H' s (qW hp (jK (ds:=[qk]) (ds':=[zF m (c / 3)]) (hpvs.mono (s3.trans (sG.trans s))) (hivs.mono (sG.trans s))))⟩),rfl⟩,fun v H4 s4 hv=>?_⟩
   exact q v H4 (s13.trans s4) (by unfold zF;rw [if_neg d0];exact hv)
theorem jd9 {f:Addr} {fd:FuncData} (F:Fun K "_law_over" "_law_over" jaB f fd):FnOk P w K mg base CX0 1 f fd ["_law_factors"] jce:=by
 have sc:FnScope ["_law_factors","_law_ways","_law_many"] ["_law_factors"] (jm jaB):=fQ
 refine F.okZ sc (fun vs H Q E h=>?_) (fun cdv A outer s H vs Q E hr h=>?_)
 ·obtain ⟨a,fs,rfl,_⟩:=h
  rfl
 obtain ⟨a,fs,rfl,ha,hl,q⟩:=h
 refine ⟨_,(jd (jt (i:=1) sc.nd rfl oQ jh)
   (jd (kr PassesOwn.never rfl (kJ (zpv 0)) (jn (i:=2) sc.nd rfl oQ) (jd (jt (i:=1) sc.nd rfl oQ (js zc (zpv 1) (zpv 2)))
   (ji (jU (jx Zh (zpv 1) jh (jJ _)) (ji (jq jh)) jE))))
   (ji (jq (zpv 1))))),?_⟩
 refine jO (σ':=[some (.ref a),none,none]) rfl ?_
 refine gQ ?_
 refine ⟨_,rfl,a,rfl,⟨_,SqL.of ha⟩,?_⟩
 refine yP (xs:=fs.map fun f=>V.int (f:Nat)) (fun i σ G=>∃ (u2:Option V) (ways:Nat),σ=[some (.ref a),some (.int (ways:Nat)),u2]∧G=H∧ways≤16∧yL (fs.drop i) ways=yL fs 1) ⟨none,1,rfl,rfl,by decide,rfl⟩ ?_ ?_ ?_
 ·rintro i σ G _ ⟨u2,ways,rfl,rfl,_⟩
  exact SqL.of ha
 ·rintro i x σ G hx ⟨u2,ways,rfl,rfl,hw,ho⟩
  have hi:i < fs.length:=by have:=(List.getElem?_eq_some_iff.mp hx).1;rw [List.length_map] at this;exact this
  rw [List.getElem?_map,List.getElem?_eq_getElem hi] at hx
  cases hx
  rw [List.drop_eq_getElem_cons hi,yL] at ho
  refine gQ ?_
  refine ⟨_,rfl,_,rfl,(ways:Int),(fs[i]:Int),rfl,rfl,.inl ⟨by omega,by omega⟩,?_⟩
  refine gQ ?_
  refine ⟨_,rfl,((ways:Int) * (fs[i]:Int)),16,rfl,rfl,_,rfl,jL (fun d=>?_) (fun d=>?_)⟩
  ·have d':(16:Int) < (ways:Int) * (fs[i]:Int):=of_decide_eq_true d
   have d2:16 < ways * fs[i]:=by exact_mod_cast d'
   rw [if_pos d2] at ho
   show Q (.int 17) G
   have:=q
   rw [← ho] at this
   exact this
  ·have d2:¬ 16 < ways * fs[i]:=fun z=>d (decide_eq_true (by exact_mod_cast z))
   rw [if_neg d2] at ho
   exact ⟨some (V.int (fs[i]:Nat)),ways * fs[i],by rw [Int.natCast_mul],rfl,by omega,ho⟩
 rintro σ G ⟨u2,ways,rfl,rfl,hw,ho⟩
 rw [List.length_map,List.drop_length] at ho
 have ho:ways=yL fs 1:=ho
 exact ⟨_,rfl,by rw [ho];exact q⟩
theorem jcJ {n:Nat} {CT CO CW' CN:Addr} {f:Addr} {fd:FuncData} (F:Fun K "_law_said" "_law_said" Yo f fd) (B:Free0 mg) (G1:mg "TooMany" = some (.ref CT)) (G2:mg "OutlineError" = some (.ref CO)) (G3:mg "TooWide" = some (.ref CW')) (G4:mg "NoSet" = some (.ref CN)) (X1:W.excIn K CT valB "ValueError.__new__" = true) (Z1:PySem.W.XCls K CT) (t2:W.kitOne K (.ref CT) (.ref CO)=some true) (t3:W.kitOne K (.ref CT) (.ref CW')=some false) (t4:W.kitOne K (.ref CT) (.ref CN)=some false) (F_duties:FnX P w K mg base (3 * n+9) "duties" ["program"] (zK CT n)):FnOk P w K mg base CX0 (3 * n+9+1) f fd ["_law_program"] (Ym CT n):=by
 have sc:FnScope ["_law_program","_law_found","e"] ["_law_program"] (jm Yo):=fQ
 refine F.ok sc (fun vs H Q E h=>?_) (fun cdv A outer s H vs Q E hr h=>?_)
 ·obtain ⟨v,rfl,_⟩:=h
  rfl
 obtain ⟨v,rfl,h⟩:=h
 refine ⟨_,QSs.h (jd (jt (i:=1) sc.nd rfl oQ jdu) (jd (jaY (iy:=1) (i:=2) F_duties rfl rfl hr (jc (zpv 0) jb) (fun e=>ji (jt (i:=1) sc.nd rfl oQ (JG (kP (ze (K:=K)) (by rfl) B.isinstance_ qI (jc (zpv 2) (jc (zg (v:=.ref CO) (by rfl) G2 rfl) jb))) (JG (jao (kP (ze (K:=K)) (by rfl) B.isinstance_ qI (jc (zpv 2) (jc (zg (v:=.ref CW') (by rfl) G3 rfl) jb)))) (jan (jao (kP (ze (K:=K)) (by rfl) B.isinstance_ qI (jc (zpv 2) (jc (zg (v:=.ref CN) (by rfl) G4 rfl) jb))))))))) sc.nd rfl oQ rfl rfl (by rfl) G1 X1 (by omega)) (ji (jq (zpv 1))))),?_⟩
 refine jO (σ':=[some v,none,none]) rfl ?_
 refine gQ ?_
 refine ⟨_,rfl,?_⟩
 unfold jdA
 refine Kp (fun v' H' q=>?_) (fun H' q=>⟨rfl,fun e he=>?_⟩) h
 ·exact ⟨_,rfl,q⟩
 ·have q:=q.2 e he
  refine jO (σ':=[some v,some V.non,some (.ref e)]) rfl ?_
  have e1:upd H' e (Ju (.ref CT) e) e=some (Ju (.ref CT) e):=ja
  generalize upd H' e (Ju (.ref CT) e)=H1 at *
  refine ⟨_,rfl,e,CT,CO,true,rfl,e1,Z1,t2,true,rfl,YE ⟨_,rfl,e,CT,CW',false,rfl,e1,Z1,t3,false,rfl,true,rfl,YE ⟨_,rfl,e,CT,CN,false,rfl,e1,Z1,t4,false,rfl,?_⟩⟩⟩
  exact ⟨_,rfl,q⟩
end
def Cnt {α:Type} (wk:List Int→List (List D)→α→Option Wk) (k:Nat) (s:α):Prop:=∀ path ways,ways.length≤16→(∃ w,wk path ways s=some ([],w)∧w.length=ways.length * k)∨(wk path ways s=none∧16 < ways.length * k)
def jH:List Nat→Nat
 | []=>1
 | k :: r=>k * jH r
theorem KP:∀ {ks:List Nat},(∀ k∈ks,1≤k)→1≤jH ks
 | [],_=>Nat.le_refl _
 | k :: r,h=>Nat.mul_le_mul (h k List.mem_cons_self) (KP fun x hx=>h x (List.mem_cons_of_mem _ hx))
inductive CntL {α:Type} (wk:List Int→List (List D)→α→Option Wk):List Nat→List α→Prop
 | nil:CntL wk [] []
 | cons {k:Nat} {s:α} {ks:List Nat} {l:List α} (h1:1≤k) (h:Cnt wk k s) (hr:CntL wk ks l):CntL wk (k :: ks) (s :: l)
theorem CntL.pos {α:Type} {wk:List Int→List (List D)→α→Option Wk} {ks:List Nat} {l:List α} (h:CntL wk ks l):1≤jH ks:=by
 induction h with
 | nil=>exact Nat.le_refl _
 | cons h1 _ _ ih=>exact Nat.mul_le_mul h1 ih
theorem YI {α:Type} {wk:List Int→List (List D)→α→Option Wk} {ks:List Nat} {l:List α} (h:CntL wk ks l):∀ (ar:List Int) (i:Nat) (ways:List (List D)),ways.length≤16→(∃ w,goO wk ar i ways l=some ([],w)∧w.length=ways.length * jH ks∧w.length≤16)∨(goO wk ar i ways l=none∧16 < ways.length * jH ks):=by
 induction h with
 | nil=>
  intro ar i ways h16
  exact .inl ⟨ways,rfl,by unfold jH;omega,h16⟩
 | @cons k s ks l h1 h hr ih=>
  intro ar i ways h16
  have hp:=hr.pos
  have em:ways.length * jH (k :: ks)=ways.length * k * jH ks:=by show ways.length * (k * jH ks)=_;rw [Nat.mul_assoc]
  have hle:ways.length * k≤ways.length * k * jH ks:=Nat.le_mul_of_pos_right _ hp
  rcases h (ar++[(i:Int)]) ways h16 with ⟨w,e,hw⟩ | ⟨e,hw⟩
  ·by_cases h17:w.length≤16
   ·rcases ih ar (i+1) w h17 with ⟨w',e',hw',h16'⟩ | ⟨e',hw'⟩
    ·refine .inl ⟨w',?_,by rw [em,hw',hw],h16'⟩
     rw [goO,e]
     dsimp only
     rw [if_pos h17,e']
     rfl
    ·refine .inr ⟨?_,by rw [em,← hw];exact hw'⟩
     rw [goO,e]
     dsimp only
     rw [if_pos h17,e']
   ·refine .inr ⟨?_,by rw [em];omega⟩
    rw [goO,e]
    dsimp only
    rw [if_neg h17]
  ·refine .inr ⟨?_,by rw [em];omega⟩
   rw [goO,e]
theorem YD {f:Str} {pr:Str→Pc} {n:Nat} {a b:Tm} {c:Int} {x y:List (StN n)} {kx ky:List Nat} (hx:CntL (jM f pr n) kx x) (hy:CntL (jM f pr n) ky y):Cnt (jM f pr (n+1)) (jH kx+jH ky) (show StN (n+1) from Fo.ite a b c x y):=by
 intro path ways h16
 have hm:∀ d:D,(ways.map (·++[d])).length=ways.length:=fun d=>List.length_map _
 have hx1:=YI hx (path++[0]) 0 (ways.map (·++[jD (.least a b c)])) (by rw [hm];exact h16)
 have hy1:=YI hy (path++[1]) 0 (ways.map (·++[jD (.least b a (1 - c))])) (by rw [hm];exact h16)
 rw [hm] at hx1 hy1
 have ed:ways.length * (jH kx+jH ky)=ways.length * jH kx+ways.length * jH ky:=Nat.mul_add _ _ _
 rw [ed]
 rcases hx1 with ⟨w1,e1,l1,_⟩ | ⟨e1,l1⟩
 ·rcases hy1 with ⟨w2,e2,l2,_⟩ | ⟨e2,l2⟩
  ·exact .inl ⟨w1++w2,Y1 e1 e2,by rw [List.length_append,l1,l2]⟩
  ·exact .inr ⟨Kz e1 e2,by omega⟩
 ·exact .inr ⟨KA e1,by omega⟩
def Sm.quiet:Sm→Prop
 | .claim _=>False
 | .call _ _ _ _=>False
 | _=>True
theorem yM {f:Str} {pr:Str→Pc} {n:Nat} {S:Sm} (h:S.quiet):Cnt (jM f pr (n+1)) 1 (show StN (n+1) from Fo.leaf S):=by
 intro path ways h16
 refine .inl ⟨ways.map (·++[S.toD]),?_,by rw [List.length_map,Nat.mul_one]⟩
 show some (S.walk f pr path ways)=_
 cases S <;> first | rfl | exact h.elim
structure ItOk (n k:Nat) (S:StN (n+1)):Prop where
 pos:1≤k
 ok:∀ gs pr,okN gs pr (n+1) S
 cost:kF (n+1) S=0
 len:qp (n+1) S≤6
 cnt:(za S :: (kf S).flatMap (jT n)).length≤6
 nds:∀ N∈za S :: (kf S).flatMap (jT n),N.few∧N.ns.length≤4∧∀ x∈N.ns,x∈(["x","y","z",""]:List Str)
 wk:∀ f pr,Cnt (jM f pr (n+1)) k S
structure ItIf (n m:Nat) (S:StN (n+2)):Prop where
 ok:∀ gs pr,okN gs pr (n+2) S
 cost:kF (n+2) S=0
 len:qp (n+2) S≤2 * m+2
 cnt:(za S :: (kf S).flatMap (jT (n+1))).length≤2 * m+2
 nds:∀ N∈za S :: (kf S).flatMap (jT (n+1)),N.few∧N.ns.length≤4∧∀ x∈N.ns,x∈(["x","y","z",""]:List Str)
 wk:∀ f pr,Cnt (jM f pr (n+2)) (m+2) S
def qj:Sm:=.set "y" (.is "x") 1
theorem J2:∀ x∈qj.ns,x∈(["x","y","z",""]:List Str):=by decide +kernel
theorem jbW {c:Int}:∀ x∈(Cl.least (.is "x") (.is "y") c).ns,x∈(["x","y","z",""]:List Str):=fun x hx=>by
 have:(Cl.least (.is "x") (.is "y") c).ns=(["x","y"]:List Str):=rfl
 rw [this] at hx
 simp at hx ⊢
 rcases hx with h | h <;> simp [h]
theorem JQ {n:Nat} (s:StN (n+1)):jT (n+1) [s]=za s :: (kf s).flatMap (jT n):=List.append_nil _
theorem ifS {m:Nat} {d:D} (h:IfD m d):∀ L,m≤L→∃ S:StN (L+2),stD (L+2) S=d∧ItIf L m S:=by
 have lf:∀ n,∃ s:StN (n+1),s=(show StN (n+1) from Fo.leaf qj):=fun n=>⟨_,rfl⟩
 induction h with
 | base k=>
  intro L _
  refine ⟨(show StN (L+2) from Fo.ite (.is "x") (.is "y") k [show StN (L+1) from Fo.leaf qj] []),rfl,⟨fun gs pr=>?_,rfl,?_,?_,fun N hN=>?_,fun f pr=>?_⟩⟩
  ·exact ⟨(by decide:1≤100),Nat.zero_le _,fun s hs=>by rw [List.mem_singleton.mp hs];exact ⟨trivial,trivial⟩,fun s hs=>by cases hs⟩
  ·show 1+1+0≤2
   decide
  ·show 2≤2
   decide
  ·have hN:N∈[Nd.ite (.is "x") (.is "y") k [qj.toD] [],Nd.leaf qj]:=hN
   simp only [List.mem_cons,List.not_mem_nil,or_false] at hN
   rcases hN with rfl | rfl
   ·exact ⟨trivial,(by decide:2≤4),jbW (c:=k)⟩
   ·exact ⟨trivial,(by decide:2≤4),J2⟩
  ·exact YD (kx:=[1]) (ky:=[]) (.cons (Nat.le_refl _) (yM trivial) .nil) .nil
 | @first m d k h ih=>
  intro L hL
  obtain ⟨L,rfl⟩:∃ l,L=l+1:=⟨L - 1,by omega⟩
  obtain ⟨S,eS,I⟩:=ih L (by omega)
  refine ⟨(show StN (L+3) from Fo.ite (.is "x") (.is "y") k [S] [show StN (L+2) from Fo.leaf qj]),?_,⟨fun gs pr=>?_,?_,?_,?_,fun N hN=>?_,fun f pr=>?_⟩⟩
  ·show ifD k [stD (L+2) S] [qk]=_
   rw [eS]
  ·exact ⟨(by decide:1≤100),(by decide:1≤100),fun s hs=>by rw [List.mem_singleton.mp hs];exact I.ok gs pr,fun s hs=>by rw [List.mem_singleton.mp hs];exact ⟨trivial,trivial⟩⟩
  ·show kF (L+2) S+0+(0+0)=0
   rw [I.cost]
  ·show 1+(qp (L+2) S+0)+(1+0)≤2 * (m+1)+2
   have:=I.len
   omega
  ·have:(jT (L+2) [S]).length≤2 * m+2:=by rw [JQ];exact I.cnt
   show (za _ :: (jT (L+2) [S]++(jT (L+2) [show StN (L+2) from Fo.leaf qj]++[]))).length≤2 * (m+1)+2
   rw [List.length_cons,List.length_append]
   show _+1+1≤_
   omega
  ·have hN:N∈Nd.ite (.is "x") (.is "y") k [stD (L+2) S] [qj.toD] :: (jT (L+2) [S]++[Nd.leaf qj]):=hN
   rcases List.mem_cons.mp hN with rfl | hN
   ·exact ⟨trivial,(by decide:2≤4),jbW (c:=k)⟩
   ·rcases List.mem_append.mp hN with hN | hN
    ·rw [JQ] at hN
     exact I.nds N hN
    ·rw [List.mem_singleton.mp hN]
     exact ⟨trivial,(by decide:2≤4),J2⟩
  ·have:=YD (a:=.is "x") (b:=.is "y") (c:=k) (f:=f) (pr:=pr) (kx:=[m+2]) (ky:=[1]) (.cons (by omega) (I.wk f pr) .nil) (.cons (Nat.le_refl _) (yM (S:=qj) trivial) .nil)
   rw [show jH [m+2]+jH [1]=m+1+2 by unfold jH;unfold jH;omega] at this
   exact this
 | @other m d k h ih=>
  intro L hL
  obtain ⟨L,rfl⟩:∃ l,L=l+1:=⟨L - 1,by omega⟩
  obtain ⟨S,eS,I⟩:=ih L (by omega)
  refine ⟨(show StN (L+3) from Fo.ite (.is "x") (.is "y") k [] [show StN (L+2) from Fo.leaf qj,S]),?_,⟨fun gs pr=>?_,?_,?_,?_,fun N hN=>?_,fun f pr=>?_⟩⟩
  ·show ifD k [] [qk,stD (L+2) S]=_
   rw [eS]
  ·refine ⟨Nat.zero_le _,(by decide:2≤100),(fun s hs=>by cases hs),fun s hs=>?_⟩
   rcases List.mem_cons.mp hs with rfl | hs
   ·exact ⟨trivial,trivial⟩
   ·rw [List.mem_singleton.mp hs];exact I.ok gs pr
  ·show 0+(0+(kF (L+2) S+0))=0
   rw [I.cost]
  ·show 1+0+(1+(qp (L+2) S+0))≤2 * (m+1)+2
   have:=I.len
   omega
  ·have:(jT (L+2) [S]).length≤2 * m+2:=by rw [JQ];exact I.cnt
   show (za _ :: ([]++((Nd.leaf qj :: jT (L+2) [S])++[]))).length≤2 * (m+1)+2
   rw [List.length_cons,List.nil_append,List.append_nil,List.length_cons]
   omega
  ·have hN:N∈Nd.ite (.is "x") (.is "y") k [] [qj.toD,stD (L+2) S] :: ([]++((Nd.leaf qj :: jT (L+2) [S])++[])):=hN
   rw [List.nil_append,List.append_nil] at hN
   rcases List.mem_cons.mp hN with rfl | hN
   ·exact ⟨trivial,(by decide:2≤4),jbW (c:=k)⟩
   ·rcases List.mem_cons.mp hN with rfl | hN
    ·exact ⟨trivial,(by decide:2≤4),J2⟩
    ·rw [JQ] at hN
     exact I.nds N hN
  ·have:=YD (a:=.is "x") (b:=.is "y") (c:=k) (f:=f) (pr:=pr) (kx:=[]) (ky:=[1,m+2]) .nil (.cons (Nat.le_refl _) (yM (S:=qj) trivial) (.cons (by omega) (I.wk f pr) .nil))
   rw [show jH []+jH [1,m+2]=m+1+2 by unfold jH;unfold jH;unfold jH;omega] at this
   exact this
def ItD (k:Nat) (d:D):Prop:=(∃ m c,m≤2∧k=m+2∧d=zF m c)∨(k=1∧d=(Sm.any "z").toD)
theorem itS {k:Nat} {d:D} (h:ItD k d) (L:Nat) (hL:2≤L):∃ S:StN (L+2),stD (L+2) S=d∧ItOk (L+1) k S:=by
 rcases h with ⟨m,c,hm,rfl,rfl⟩ | ⟨rfl,rfl⟩
 ·obtain ⟨S,e,I⟩:=ifS (YB m c) L (by omega)
  exact ⟨S,e,⟨by omega,I.ok,I.cost,Nat.le_trans I.len (by omega),Nat.le_trans I.cnt (by omega),I.nds,I.wk⟩⟩
 ·refine ⟨(show StN (L+2) from Fo.leaf (.any "z")),rfl,⟨Nat.le_refl _,fun gs pr=>⟨trivial,trivial⟩,rfl,(by decide:1≤6),(by decide:1≤6),fun N hN=>?_,fun f pr=>yM trivial⟩⟩
  have hN:N∈[Nd.leaf (.any "z")]:=hN
  rw [List.mem_singleton.mp hN]
  exact ⟨trivial,(by decide:1≤4),by decide +kernel⟩
inductive ItsD:List Nat→List D→Prop
 | nil:ItsD [] []
 | cons {k:Nat} {d:D} {ks:List Nat} {ds:List D} (h:ItD k d) (hr:ItsD ks ds):ItsD (k :: ks) (d :: ds)
theorem jgk {ks:List Nat} {ds:List D} (h:ItsD ks ds) (L:Nat) (hL:2≤L):∃ Ss:List (StN (L+2)),Ss.map (stD (L+2))=ds∧(∀ S∈Ss,∃ k,ItOk (L+1) k S)∧∀ f pr,CntL (jM f pr (L+2)) ks Ss:=by
 induction h with
 | nil=>exact ⟨[],rfl,(fun _ h=>by cases h),fun _ _=>.nil⟩
 | cons h _ ih=>
  obtain ⟨S,e,I⟩:=itS h L hL
  obtain ⟨Ss,es,Is,Cs⟩:=ih
  refine ⟨S :: Ss,by rw [List.map_cons,e,es],fun T hT=>?_,fun f pr=>.cons I.pos (I.wk f pr) (Cs f pr)⟩
  rcases List.mem_cons.mp hT with rfl | hT
  ·exact ⟨_,I⟩
  ·exact Is T hT
def qz:Cl:=.least (.is "x") (.is "x") 0
def zS:Cl:=.least (.is "y") (.is "") 0
def jI (n:Nat):StN (n+1):=show StN (n+1) from Fo.leaf (.claim qz)
def kZ (n:Nat) (x:List (StN n)):StN (n+1):=show StN (n+1) from Fo.whl (.is "z") (.is "") 1 [zS] x
def kn (S1:List (StN 5)) (S2:List (StN 4)):Pc:=⟨"f",["x"],[],[],[],5,S1++[jI 4,kZ 4 (S2++[jI 3])]⟩
theorem JO {α:Type} {wk:List Int→List (List D)→α→Option Wk} {ar:List Int} (r:List α):∀ (l:List α) (k:Nat) (ways:List (List D)),goO wk ar k ways (l++r)=(match goO wk ar k ways l with
  | none=>none
  | some r1=>match goO wk ar (k+l.length) r1.2 r with
   | none=>none
   | some r2=>some (r1.1++r2.1,r2.2))
 | [],k,ways=>by
  rw [List.nil_append,List.length_nil,Nat.add_zero]
  show _=(match goO wk ar k ways r with
   | none=>none
   | some r2=>some ([]++r2.1,r2.2))
  cases goO wk ar k ways r with
  | none=>rfl
  | some _=>rfl
 | t :: l,k,ways=>by
  rw [List.cons_append,goO,goO]
  cases wk (ar++[(k:Int)]) ways t with
  | none=>rfl
  | some r1=>
   dsimp only
   by_cases h:r1.2.length≤16
   ·rw [if_pos h,if_pos h,JO r l (k+1) r1.2,List.length_cons,show k+1+l.length=k+(l.length+1) by omega]
    cases goO wk ar (k+1) r1.2 l with
    | none=>rfl
    | some r2=>
     dsimp only
     cases goO wk ar (k+(l.length+1)) r2.2 r with
     | none=>rfl
     | some r3=>simp
   ·rw [if_neg h,if_neg h]
theorem Zp {f:Str} {pr:Str→Pc} {n:Nat} {ar:List Int} {k:Nat} {ways:List (List D)} (h:ways.length≤16):∃ path,goO (jM f pr (n+1)) ar k ways [jI n]=some (j7 f "claim" path ways [qz],ways):=by
 refine ⟨ar++[(k:Int)],?_⟩
 rw [goO,show jM f pr (n+1) (ar++[(k:Int)]) ways (jI n)=some (j7 f "claim" (ar++[(k:Int)]) ways [qz],ways) from rfl]
 dsimp only
 rw [if_pos h]
 show some (_++[],_)=_
 rw [List.append_nil]
def jW (ds:List Du):List Str:=ds.map Du.kind
theorem zR (f kind:Str) (path:List Int) (C:Cl):∀ ways:List (List D),jW (j7 f kind path ways [C])=List.replicate ways.length kind
 | []=>rfl
 | w :: ws=>by
  have:=zR f kind path C ws
  show jW (Jh f kind path w [C]++j7 f kind path ws [C])=_
  unfold jW at this ⊢
  rw [List.map_append,this]
  rfl
theorem jej {pr:Str→Pc} {ns:List Str} {S1:List (StN 5)} {S2:List (StN 4)} {k1 k2:List Nat} (h1:∀ f pr,CntL (jM f pr 5) k1 S1) (h2:∀ f pr,CntL (jM f pr 4) k2 S2) :
  (16 < jH k1∨16 < jH k2→(kn S1 S2).dus pr ns=none)∧(jH k1≤16→jH k2≤16→∃ ds,(kn S1 S2).dus pr ns=some ds∧jW ds=List.replicate (jH k1) ("claim" : Str)++(List.replicate (jH k1) ("enter" : Str)++(List.replicate (jH k2) ("claim" : Str)++List.replicate (jH k2) ("keep" : Str)))):=by
 have hg:∀ r,goN "f" pr 5 [] [(kn S1 S2).wayD ns] (kn S1 S2).bd=r→(kn S1 S2).dus pr ns=(match r with
   | none=>none
   | some r=>some (r.1++j7 "f" "give" [] r.2 [])):=fun r e=>by
  unfold Pc.dus
  rw [show goN (kn S1 S2).f pr (kn S1 S2).lv [] [(kn S1 S2).wayD ns] (kn S1 S2).bd=r from e]
  rfl
 have g1:=YI (h1 "f" pr) [] 0 [(kn S1 S2).wayD ns] (show 1≤16 by decide)
 have ea:goN "f" pr 5 [] [(kn S1 S2).wayD ns] (kn S1 S2).bd=_:=JO (wk:=jM "f" pr 5) (ar:=[]) [jI 4,kZ 4 (S2++[jI 3])] S1 0 [(kn S1 S2).wayD ns]
 rw [show [(kn S1 S2).wayD ns].length * jH k1=jH k1 from Nat.one_mul _] at g1
 rcases g1 with ⟨w1,e1,l1,l16⟩ | ⟨e1,l1⟩
 ·rw [e1] at ea
  dsimp only at ea
  obtain ⟨p1,c1⟩:=Zp (f:="f") (pr:=pr) (n:=4) (ar:=[]) (k:=0+S1.length) l16
  have eb:=JO (wk:=jM "f" pr 5) (ar:=[]) [kZ 4 (S2++[jI 3])] [jI 4] (0+S1.length) w1
  rw [c1] at eb
  dsimp only at eb
  rw [show ([jI 4]++[kZ 4 (S2++[jI 3])]:List (StN 5))=[jI 4,kZ 4 (S2++[jI 3])] from rfl] at eb
  rw [eb] at ea
  have el:∀ path ways,goO (jM "f" pr 4) (path++[0]) 0 [[zS].map jD++[jD (.least (.is "z") (.is "") 1)]] (S2++[jI 3])=none→jM "f" pr 5 path ways (kZ 4 (S2++[jI 3]))=none:=fun path ways e=>Ky e
  have g2:=fun path=>YI (h2 "f" pr) path 0 [[zS].map jD++[jD (.least (.is "z") (.is "") 1)]] (show 1≤16 by decide)
  rw [show [[zS].map jD++[jD (.least (.is "z") (.is "") 1)]].length * jH k2=jH k2 from Nat.one_mul _] at g2
  generalize hpath:([]++[((0+S1.length+[jI 4].length:Nat):Int)]:List Int)=path at *
  have ec:goO (jM "f" pr 5) [] (0+S1.length+[jI 4].length) w1 [kZ 4 (S2++[jI 3])]=(match jM "f" pr 5 path w1 (kZ 4 (S2++[jI 3])) with
    | none=>none
    | some r1=>if r1.2.length≤16 then some (r1.1++[],r1.2) else none):=by
   rw [goO,hpath]
   cases jM "f" pr 5 path w1 (kZ 4 (S2++[jI 3])) with
   | none=>rfl
   | some r=>rfl
  rcases g2 (path++[0]) with ⟨w2,e2,l2,l216⟩ | ⟨e2,l2⟩
  ·obtain ⟨p2,c2⟩:=Zp (f:="f") (pr:=pr) (n:=3) (ar:=path++[0]) (k:=0+S2.length) l216
   have ed:=JO (wk:=jM "f" pr 4) (ar:=path++[0]) [jI 3] S2 0 [[zS].map jD++[jD (.least (.is "z") (.is "") 1)]]
   rw [e2] at ed
   dsimp only at ed
   rw [c2] at ed
   dsimp only at ed
   have ew:=YZ (f:="f") (pr:=pr) (n:=4) (path:=path) (ways:=w1) (a:=.is "z") (b:=.is "") (c:=1) (ks:=[zS]) ed
   rw [show jM "f" pr 5 path w1 (kZ 4 (S2++[jI 3]))=_ from ew] at ec
   dsimp only at ec
   have hone:([[zS].map jD++[jD (.least (.is "") (.is "z") (1 - 1))]]:List (List D)).length≤16:=(show 1≤16 by decide)
   rw [if_pos hone] at ec
   rw [ec] at ea
   dsimp only at ea
   refine ⟨fun h=>by omega,fun _ _=>⟨_,hg _ ea,?_⟩⟩
   unfold jW
   simp only [List.map_append]
   rw [show (j7 "f" "claim" p1 w1 [qz]).map Du.kind=_ from zR _ _ _ _ _,show (j7 "f" "enter" path w1 [zS]).map Du.kind=_ from zR _ _ _ _ _,show (j7 "f" "claim" p2 w2 [qz]).map Du.kind=_ from zR _ _ _ _ _,show (j7 "f" "keep" path w2 [zS]).map Du.kind=_ from zR _ _ _ _ _,l1,l2]
   simp [j7,Jh]
  ·have ed:=Ke (wk:=jM "f" pr 4) (ar:=path++[0]) S2 [jI 3] 0 _ e2
   rw [el path w1 ed] at ec
   dsimp only at ec
   rw [ec] at ea
   exact ⟨fun _=>hg _ ea,fun _ h=>by omega⟩
 ·rw [e1] at ea
  exact ⟨fun _=>hg _ ea,fun h _=>by omega⟩
abbrev xyz:List Str:=["x","y","z",""]
def jdo (N:Nd):Prop:=N.few∧N.ns.length≤4∧∀ x∈N.ns,x∈xyz
theorem zT {n:Nat}:∀ {Ss:List (StN (n+1))},(∀ S∈Ss,∃ k,ItOk n k S)→(jT (n+1) Ss).length≤6 * Ss.length∧(∀ N∈jT (n+1) Ss,jdo N)∧(Ss.map (kF (n+1))).sum=0∧(Ss.map (qp (n+1))).sum≤6 * Ss.length
 | [],_=>⟨Nat.zero_le _,(fun _ h=>by cases h),rfl,Nat.zero_le _⟩
 | S :: Ss,h=>by
  obtain ⟨k,I⟩:=h S List.mem_cons_self
  obtain ⟨a,b,c,d⟩:=zT (Ss:=Ss) fun T hT=>h T (List.mem_cons_of_mem _ hT)
  rw [qR]
  refine ⟨?_,fun N hN=>?_,?_,?_⟩
  ·rw [List.length_append,List.length_cons (as:=Ss)]
   have:=I.cnt
   omega
  ·rcases List.mem_append.mp hN with hN | hN
   ·exact I.nds N hN
   ·exact b N hN
  ·rw [List.map_cons,List.sum_cons,I.cost,c]
  ·rw [List.map_cons,List.sum_cons,List.length_cons]
   have:=I.len
   omega
theorem Zt:∀ {l:List Nd},(∀ N∈l,jdo N)→(l.flatMap Nd.ns).length≤4 * l.length
 | [],_=>Nat.zero_le _
 | N :: l,h=>by
  have h1:=(h N List.mem_cons_self).2.1
  have h2:=Zt (l:=l) fun M hM=>h M (List.mem_cons_of_mem _ hM)
  rw [List.flatMap_cons,List.length_append,List.length_cons]
  omega
section
variable {S1:List (StN 5)} {S2:List (StN 4)}
theorem Jj:jT 5 (kn S1 S2).bd=jT 5 S1++(Nd.leaf (.claim qz) :: (za (kZ 4 (S2++[jI 3])) :: (jT 4 S2++[Nd.leaf (.claim qz)]))):=by
 show jT 5 (S1++[jI 4,kZ 4 (S2++[jI 3])])=_
 rw [yZ,qR,qR]
 show _++([Nd.leaf (.claim qz)]++((za (kZ 4 (S2++[jI 3])) :: (jT 4 (S2++[jI 3])++[]))++[]))=_
 rw [List.append_nil,List.append_nil,yZ]
 rfl
theorem jaJ:jdo (.leaf (.claim qz)):=⟨trivial,(by decide:2≤4),by decide +kernel⟩
theorem Yz {x:List (StN 4)}:(za (kZ 4 x)).ns=(["z","","y",""]:List Str):=rfl
theorem jeg {x:List (StN 4)}:jdo (za (kZ 4 x)):=⟨(by decide:1≤20),by rw [Yz];decide,by rw [Yz];decide +kernel⟩
theorem YA (h1:∀ S∈S1,∃ k,ItOk 4 k S) (h2:∀ S∈S2,∃ k,ItOk 3 k S):∀ N∈jT 5 (kn S1 S2).bd,jdo N:=fun N hN=>by
 rw [Jj] at hN
 rcases List.mem_append.mp hN with hN | hN
 ·exact (zT h1).2.1 N hN
 ·rcases List.mem_cons.mp hN with rfl | hN
  ·exact jaJ
  ·rcases List.mem_cons.mp hN with rfl | hN
   ·exact jeg
   ·rcases List.mem_append.mp hN with hN | hN
    ·exact (zT h2).2.1 N hN
    ·rw [List.mem_singleton.mp hN];exact jaJ
theorem Jk:(kn S1 S2).named=(jT 5 (kn S1 S2).bd).flatMap Nd.ns:=rfl
theorem Ka (h1:∀ S∈S1,∃ k,ItOk 4 k S) (h2:∀ S∈S2,∃ k,ItOk 3 k S):∀ x∈(kn S1 S2).others,x∈(["x","y","z"]:List Str):=fun x hx=>by
 unfold Pc.others at hx
 obtain ⟨hx,hk⟩:=List.mem_filter.mp hx
 rw [Jk] at hx
 obtain ⟨N,hN,hx⟩:=List.mem_flatMap.mp hx
 have:=(YA h1 h2 N hN).2.2 x hx
 unfold qN at hk
 rw [Bool.and_eq_true] at hk
 have hne:x≠("" : Str):=fun z=>by have:=hk.1;rw [z] at this;simp at this
 simp only [xyz,List.mem_cons,List.not_mem_nil,or_false] at this ⊢
 rcases this with h | h | h | h
 ·exact .inl h
 ·exact .inr (.inl h)
 ·exact .inr (.inr h)
 ·exact absurd h hne
theorem jeP:("y" : Str)∈(kn S1 S2).others∧("z" : Str)∈(kn S1 S2).others:=by
 have hm:∀ x∈(["z","","y",""]:List Str),x∈(kn S1 S2).named:=fun x hx=>by
  rw [Jk,Jj]
  exact List.mem_flatMap.mpr ⟨za (kZ 4 (S2++[jI 3])),List.mem_append_right _ (List.mem_cons_of_mem _ List.mem_cons_self),by rw [Yz];exact hx⟩
 exact ⟨List.mem_filter.mpr ⟨hm _ (by decide +kernel),(show qN [] ("y" : Str)=true by decide +kernel)⟩,List.mem_filter.mpr ⟨hm _ (by decide +kernel),(show qN [] ("z" : Str)=true by decide +kernel)⟩⟩
def Kb:List Str:=["out","x","y","z"]
theorem jc1 (h1:∀ S∈S1,∃ k,ItOk 4 k S) (h2:∀ S∈S2,∃ k,ItOk 3 k S):NumsOf (kn S1 S2) Kb:=by
 refine ⟨by decide +kernel,by decide,fun x=>⟨fun h=>?_,fun h=>?_⟩⟩
 ·simp only [Kb,List.mem_cons,List.not_mem_nil,or_false] at h
  rcases h with rfl | rfl | rfl | rfl
  ·exact .inr (.inr rfl)
  ·exact .inr (.inl List.mem_cons_self)
  ·exact .inl jeP.1
  ·exact .inl jeP.2
 ·rcases h with h | h | h
  ·have:=Ka h1 h2 x h
   unfold Kb
   exact List.mem_cons_of_mem _ this
  ·rw [List.mem_singleton.mp h];decide +kernel
  ·rw [h];decide +kernel
theorem jei (h1:∀ S∈S1,∃ k,ItOk 4 k S) (h2:∀ S∈S2,∃ k,ItOk 3 k S) (hl:S1.length+S2.length≤10) (gs:List Str) (pr:Str→Pc):PcFit gs pr (kn S1 S2)∧(kn S1 S2).most≤900:=by
 obtain ⟨a1,b1,c1,d1⟩:=zT h1
 obtain ⟨a2,b2,c2,d2⟩:=zT h2
 have a1:(jT 5 S1).length≤6 * S1.length:=a1
 have a2:(jT 4 S2).length≤6 * S2.length:=a2
 have c1:(S1.map (kF 5)).sum=0:=c1
 have c2:(S2.map (kF 4)).sum=0:=c2
 have d1:(S1.map (qp 5)).sum≤6 * S1.length:=d1
 have d2:(S2.map (qp 4)).sum≤6 * S2.length:=d2
 have hn:(jT 5 (kn S1 S2).bd).length≤63:=by
  rw [Jj,List.length_append,List.length_cons,List.length_cons,List.length_append]
  show _+(_+1+1+1)≤63
  omega
 have hcost:((kn S1 S2).bd.map (kF 5)).sum=16+(32+16):=by
  show ((S1++[jI 4,kZ 4 (S2++[jI 3])]).map (kF 5)).sum=_
  rw [List.map_append,List.sum_append,c1]
  show 0+(16+(32 * 1+((S2++[jI 3]).map (kF 4)).sum+0))=_
  rw [List.map_append,List.sum_append,c2]
  rfl
 have hlen:((kn S1 S2).bd.map (qp 5)).sum≤130:=by
  show ((S1++[jI 4,kZ 4 (S2++[jI 3])]).map (qp 5)).sum≤_
  rw [List.map_append,List.sum_append]
  show _+(0+(1+1+((S2++[jI 3]).map (qp 4)).sum+0))≤_
  rw [List.map_append,List.sum_append]
  show _+(0+(1+1+(_+(0+0))+0))≤_
  omega
 have hd:(dedupS (kn S1 S2).others).length≤3:=by
  obtain ⟨n1,_,m1⟩:=zm (kn S1 S2).others
  exact Yy (m:=(["x","y","z"]:List Str)) n1 fun x hx=>Ka h1 h2 x ((m1 x).mp hx)
 have hnm:=Zt (YA h1 h2)
 refine ⟨⟨⟨Nat.zero_le _,Nat.zero_le _,?_,?_,?_,(by decide:1≤100),fun N hN=>(YA h1 h2 N hN).1⟩,fun S hS=>?_,?_,?_,?_,(show ("f" : Str).length≤100 by decide +kernel),(by decide:5≤40)⟩,?_⟩
 ·exact Nat.le_trans hn (by decide)
 ·rw [Jk]
  exact Nat.le_trans hnm (by omega)
 ·show (dedupS (kn S1 S2).others).length+(dedupS (["x"]:List Str)).length≤14
  have:(dedupS (["x"]:List Str)).length≤1:=by decide +kernel
  omega
 ·rcases List.mem_append.mp (show S∈S1++[jI 4,kZ 4 (S2++[jI 3])] from hS) with hS | hS
  ·obtain ⟨k,I⟩:=h1 S hS
   exact I.ok gs pr
  ·rcases List.mem_cons.mp hS with rfl | hS
   ·exact ⟨trivial,trivial⟩
   ·rw [List.mem_singleton.mp hS]
    refine ⟨(by decide:1≤20),by rw [List.length_append];show S2.length+1≤100;omega,fun T hT=>?_⟩
    rcases List.mem_append.mp hT with hT | hT
    ·obtain ⟨k,I⟩:=h2 T hT
     exact I.ok gs pr
    ·rw [List.mem_singleton.mp hT]
     exact ⟨trivial,trivial⟩
 ·show (S1++[jI 4,kZ 4 (S2++[jI 3])]).length≤100
  rw [List.length_append]
  show S1.length+2≤100
  omega
 ·show ((kn S1 S2).bd.map (kF 5)).sum+0≤800
  rw [hcost];decide
 ·show ((kn S1 S2).bd.map (qp 5)).sum≤700
  omega
 ·show ((kn S1 S2).bd.map (kF 5)).sum+0≤900
  rw [hcost];decide
end
abbrev J1:Stmt:=top 41
def jaw (K:W.Frag):Sp:=fun vs H Q _=>∃ (a:Addr) (ns:List Int),vs=[.ref a]∧SqL K H a (ns.map V.int)∧ns.length≤63∧∀ H',Q (.bl true) H'
theorem jev (l:List V) (x:V):atI (l++[x]) (-1)=some x:=jdn l x
theorem ItsD.len {ks:List Nat} {ds:List D} (h:ItsD ks ds):ks.length=ds.length:=by
 induction h with
 | nil=>rfl
 | cons _ _ ih=>rw [List.length_cons,List.length_cons,ih]
theorem ItsD.snoc {ks:List Nat} {ds:List D} {k:Nat} {d:D} (h:ItsD ks ds) (h1:ItD k d):ItsD (ks++[k]) (ds++[d]):=by
 induction h with
 | nil=>exact .cons h1 .nil
 | cons h _ ih=>exact .cons h ih
theorem ZF (xs:List V) (i:Nat) (h:i≤xs.length):j8 xs (some (i:Int)) none=xs.drop i:=by
 unfold j8
 rw [HT.sIx_nat,HT.sIx_none,Nat.min_eq_left (by omega),List.take_of_length_le (by rw [List.length_drop];omega)]
theorem Kh (xs:List V) (i:Nat) (h:i≤xs.length):j8 xs none (some (i:Int))=xs.take i:=by
 unfold j8
 rw [HT.sIx_nat,HT.sIx_none,Nat.min_eq_left (by omega),Nat.sub_zero,List.drop_zero]
theorem Kd {H:Hp}:∀ {ds:List D} {vs:List V},HeldL H ds vs→∀ i,HeldL H (ds.drop i) (vs.drop i)
 | _,_,h,0=>h
 | [],_,h,i+1=>by cases jz h;exact jp
 | _ :: _,_,h,i+1=>by
  obtain ⟨v,r,rfl,_,h2⟩:=jf h
  exact Kd h2 i
theorem yu {H:Hp}:∀ {ds:List D} {vs:List V},HeldL H ds vs→∀ i,HeldL H (ds.take i) (vs.take i)
 | _,_,h,0=>jp
 | [],_,h,i+1=>by cases jz h;exact jp
 | _ :: _,_,h,i+1=>by
  obtain ⟨v,r,rfl,h1,h2⟩:=jf h
  exact jj h1 (yu h2 i)
theorem ItsD.drop {ks:List Nat} {ds:List D} (h:ItsD ks ds):∀ i,ItsD (ks.drop i) (ds.drop i):=by
 induction h with
 | nil=>intro i;cases i <;> exact .nil
 | cons h hr ih=>
  intro i
  cases i with
  | zero=>exact .cons h hr
  | succ i=>exact ih i
theorem ItsD.take {ks:List Nat} {ds:List D} (h:ItsD ks ds):∀ i,ItsD (ks.take i) (ds.take i):=by
 induction h with
 | nil=>intro i;cases i <;> exact .nil
 | cons h hr ih=>
  intro i
  cases i with
  | zero=>exact .nil
  | succ i=>exact .cons h (ih i)
def Zl (ds:List D):D:=(Nd.whl (.is "z") (.is "") 1 [zS] (ds++[(Sm.claim qz).toD])).toD
def jcr (d1 d2:List D):D:=.tup [.str "proc",.str "f",.tup [.str "x"],.tup [],.tup [],.tup [],.tup (d1++[(Sm.claim qz).toD,Zl d2])]
def jgq (p1 p2:Nat) (vf:V) (H:Hp):Prop:=(vf=.bl true∧(16 < p1∨16 < p2))∨(p1≤16∧p2≤16∧∃ ml ms wls ds,vf=.ref ml∧H ml=some (.lst ms)∧DutsAt H ds ms wls∧jW ds=List.replicate p1 ("claim" : Str)++(List.replicate p1 ("enter" : Str)++(List.replicate p2 ("claim" : Str)++List.replicate p2 ("keep" : Str))))
theorem jcg {CT:Addr} {v:V} {H:Hp} {Q:VK} {E:XK} {k1 k2:List Nat} {d1 d2:List D} (i1:ItsD k1 d1) (i2:ItsD k2 d2) (hl:k1.length+k2.length≤10) (hv:Held H (.tup [jcr d1 d2]) v) (q:∀ vf H',Same H H'→jgq (jH k1) (jH k2) vf H'→Q vf H'):Ym CT 5 [v] H Q E:=by
 obtain ⟨a,us,rfl,ha,hus⟩:=jo hv
 obtain ⟨S1,es1,I1,C1⟩:=jgk i1 3 (by decide)
 obtain ⟨S2,es2,I2,C2⟩:=jgk i2 2 (by decide)
 have es1:S1.map (stD 5)=d1:=es1
 have es2:S2.map (stD 4)=d2:=es2
 have ll1:S1.length=k1.length:=by rw [← List.length_map (f:=stD 5),es1,i1.len]
 have ll2:S2.length=k2.length:=by rw [← List.length_map (f:=stD 4),es2,i2.len]
 have eP:(kn S1 S2).toD=jcr d1 d2:=by
  have e2:(S2++[jI 3]).map (stD 4)=d2++[(Sm.claim qz).toD]:=by rw [List.map_append,es2];rfl
  have e1:(S1++[jI 4,kZ 4 (S2++[jI 3])]).map (stD 5)=d1++[(Sm.claim qz).toD,Zl d2]:=by
   rw [List.map_append,es1]
   show d1++[(Sm.claim qz).toD,(Nd.whl (.is "z") (.is "") 1 [zS] ((S2++[jI 3]).map (stD 4))).toD]=_
   rw [e2]
   rfl
  show D.tup [.str "proc",.str "f",.tup [.str "x"],.tup [],.tup [],.tup [],.tup ((S1++[jI 4,kZ 4 (S2++[jI 3])]).map (stD 5))]=_
  rw [e1]
  rfl
 obtain ⟨hfit,hmost⟩:=jei (S1:=S1) (S2:=S2) I1 I2 (by omega) ["f"] (fun _=>kn S1 S2)
 obtain ⟨dn,dsm⟩:=jej (pr:=fun _=>kn S1 S2) (ns:=Kb) C1 C2
 have eL:∀ r,(kn S1 S2).dus (fun _=>kn S1 S2) Kb=r→zd (fun _=>kn S1 S2) (fun _=>Kb) [kn S1 S2]=r:=fun r e=>by
  rw [zd,e]
  cases r with
  | none=>rfl
  | some d=>
   show some (d++[])=_
   rw [List.append_nil]
 refine ⟨.ref a,rfl,a,us,[kn S1 S2],fun _=>kn S1 S2,fun _=>Kb,rfl,ha,?_,(by decide:1≤20),?_,fun p hp=>?_,?_,fun ml ms wls ds H' e1 s1 n1 e2 hD nd hnew nml=>?_,fun e H' s1=>⟨rfl,fun x hx=>?_⟩⟩
 ·show HeldL H [(kn S1 S2).toD] us
  rw [eP]
  exact hus
 ·show List.Nodup (["f"]:List Str)
  decide +kernel
 ·rw [List.mem_singleton.mp hp]
  exact ⟨rfl,rfl,hfit,jc1 I1 I2⟩
 ·show (kn S1 S2).most+0≤900
  omega
 ·by_cases h1:16 < jH k1∨16 < jH k2
  ·rw [eL _ (dn h1)] at e1
   cases e1
  ·obtain ⟨ds',e',hk⟩:=dsm (by omega) (by omega)
   rw [eL _ e'] at e1
   cases e1
   exact q _ H' s1 (.inr ⟨by omega,by omega,ml,ms,wls,_,rfl,e2,hD,hk⟩)
 ·by_cases h1:16 < jH k1∨16 < jH k2
  ·exact q _ _ (fun b o e=>by rw [jl (jk e (s1.free hx))];exact s1 _ _ e) (.inl ⟨rfl,h1⟩)
  ·obtain ⟨ds',e',hk⟩:=dsm (by omega) (by omega)
   rw [eL _ e'] at e
   cases e
theorem jby {k:Nat} {d:D} {H:Hp} {v:V} (h:ItD k d) (hv:Held H d v):∃ t r,v=.ref t∧H t=some (.tup (.str (if k=1 then "any" else "if") :: r)):=by
 rcases h with ⟨m,c,_,rfl,rfl⟩ | ⟨rfl,rfl⟩
 ·have:∃ x y k,zF m c=ifD k x y:=by
   cases m with
   | zero=>exact ⟨_,_,_,rfl⟩
   | succ m=>
    unfold zF
    split
    ·exact ⟨_,_,_,rfl⟩
    ·exact ⟨_,_,_,rfl⟩
  obtain ⟨x,y,k,e⟩:=this
  rw [e] at hv
  obtain ⟨t,u,p,r,xs,ys,rfl,ht,_⟩:=yc hv
  exact ⟨t,_,rfl,by rw [if_neg (by omega)];exact ht⟩
 ·obtain ⟨t,rfl,ht⟩:=qT hv
  exact ⟨t,_,rfl,ht⟩
theorem ItsD.get {ks:List Nat} {ds:List D} (h:ItsD ks ds):∀ {i:Nat} {k:Nat} {d:D},ks[i]?=some k→ds[i]?=some d→ItD k d:=by
 induction h with
 | nil=>intro i k d h;simp at h
 | cons h _ ih=>
  intro i k d h1 h2
  cases i with
  | zero=>simp at h1 h2;subst h1 h2;exact h
  | succ i=>exact ih (by simpa using h1) (by simpa using h2)
def ifs (ks:List Nat):List Nat:=ks.filter (·≠1)
theorem jc4 {ks:List Nat} {i:Nat} (hi:i < ks.length):(ifs (ks.take (i+1))).length=(ifs (ks.take i)).length+(if ks[i]=1 then 0 else 1):=by
 unfold ifs
 rw [List.take_succ,List.getElem?_eq_getElem hi,List.filter_append,List.length_append]
 show _+(List.filter _ [ks[i]]).length=_
 by_cases h:ks[i]=1
 ·rw [if_pos h,List.filter_cons,if_neg (by simp [h])]
  rfl
 ·rw [if_neg h,List.filter_cons,if_pos (by simp [h])]
  rfl
theorem Zc:∀ ks:List Nat,jH (ifs ks)=jH ks
 | []=>rfl
 | k :: ks=>by
  have ih:=Zc ks
  unfold ifs at ih ⊢
  rw [List.filter_cons]
  by_cases h:k=1
  ·rw [if_neg (by simp [h]),ih,h]
   show _=1 * jH ks
   omega
  ·rw [if_pos (by simp [h])]
   show k * jH (ks.filter _)=k * jH ks
   rw [ih]
theorem Yq:∀ {fs:List Nat} {w:Nat},(∀ f∈fs,1≤f)→w≤16→yL fs w=if 16 < w * jH fs then 17 else w * jH fs
 | [],w,_,hw=>by
  unfold yL jH
  rw [Nat.mul_one,if_neg (by omega)]
 | f :: r,w,h,hw=>by
  have hr:∀ x∈r,1≤x:=fun x hx=>h x (List.mem_cons_of_mem _ hx)
  have hp:=KP hr
  have em:w * jH (f :: r)=w * f * jH r:=by show w * (f * jH r)=_;rw [Nat.mul_assoc]
  have hle:w * f≤w * f * jH r:=Nat.le_mul_of_pos_right _ hp
  rw [yL,em]
  by_cases h1:16 < w * f
  ·rw [if_pos h1,if_pos (by omega)]
  ·rw [if_neg h1,Yq hr (by omega)]
theorem jaL {ks:List Nat} {ds:List D} (h:ItsD ks ds):∀ k∈ks,1≤k:=by
 induction h with
 | nil=>intro k hk;cases hk
 | cons h _ ih=>
  intro k hk
  rcases List.mem_cons.mp hk with rfl | hk
  ·rcases h with ⟨m,c,_,rfl,_⟩ | ⟨rfl,_⟩ <;> omega
  ·exact ih k hk
theorem JM (ks:List Nat) (c:Nat):ifs ks=ifs (ks.take c)++ifs (ks.drop c):=by
 unfold ifs
 rw [← List.filter_append,List.take_append_drop]
abbrev Jg (k:Nat):V:=V.int (k:Nat)
theorem yK {p:Nat} (h:p≤16):(if 16 < p then 17 else p)=p:=if_neg (by omega)
theorem DutsAt.get {G:Hp}:∀ {ds:List Du} {vs:List V} {wls:List Addr} {i:Nat} {x:V},DutsAt G ds vs wls→vs[i]?=some x→∃ d wl,ds[i]?=some d∧DuAt G d x wl
 | [],[],[],i,x,_,h=>by simp at h
 | d :: ds,v :: vs,wl :: wls,0,x,hd,h=>by
  simp at h
  subst h
  exact ⟨d,wl,rfl,hd.1⟩
 | d :: ds,v :: vs,wl :: wls,i+1,x,hd,h=>by
  obtain ⟨d',wl',e,h'⟩:=DutsAt.get (i:=i) hd.2 (by simpa using h)
  exact ⟨d',wl',by simpa using e,h'⟩
def yy (k:Str) (l:List Str):Nat:=(l.filter (fun x=>decide (x=k))).length
theorem Jr (k:Str) {l:List Str} {i:Nat} {x:Str} (h:l[i]?=some x):yy k (l.take (i+1))=yy k (l.take i)+(if x=k then 1 else 0):=by
 unfold yy
 rw [List.take_succ,h,List.filter_append,List.length_append]
 show _+(List.filter _ [x]).length=_
 by_cases hx:x=k
 ·rw [if_pos hx,List.filter_cons,if_pos (decide_eq_true hx)]
  rfl
 ·rw [if_neg hx,List.filter_cons,if_neg (by simp [hx])]
  rfl
theorem kN (k k':Str) (n:Nat):yy k (List.replicate n k')=if k'=k then n else 0:=by
 unfold yy
 rw [List.filter_replicate]
 by_cases h:k'=k
 ·rw [if_pos (decide_eq_true h),if_pos h,List.length_replicate]
 ·rw [if_neg (by simp [h]),if_neg h]
  rfl
theorem qB (k:Str) (a b:List Str):yy k (a++b)=yy k a+yy k b:=by
 unfold yy
 rw [List.filter_append,List.length_append]
section
variable {P:Program} {w:World} {K:W.Frag} {mg:Str→Option Value} {base:Heap}
theorem jfs {CT:Addr} {f:Addr} {fd:FuncData} (F:Fun K "law" "law" J1 f fd) (B:Free0 mg) (F_cell:Fn P w K mg base 1 "_law_cell" ["_law_script","_law_k"] (jcf K)) (F_if:Fn P w K mg base 3 "_law_if" ["_law_cell_here","_law_many"] (jax 2)) (F_over:Fn P w K mg base 1 "_law_over" ["_law_factors"] jce) (F_said:Fn P w K mg base 25 "_law_said" ["_law_program"] (Ym CT 5)):FnOk P w K mg base CX0 26 f fd ["_law_script"] (jaw K):=by
 have sc:FnScope ["_law_script","_law_factors","_law_body","_law_k","_law_cell_here","_law_last","_law_form","_law_cut","_law_inner","_law_loop","_law_whole","_law_found","_law_first","_law_ways","_law_told","_law_enter","_law_keep"] ["_law_script"] (jm J1):=fQ
 refine F.okZ sc (fun vs H Q E h=>?_) (fun cdv A outer s H vs Q E hr h=>?_)
 ·obtain ⟨a,ns,rfl,_⟩:=h
  rfl
 obtain ⟨a,ns,rfl,hS,hln,q⟩:=h
 refine ⟨_,(jd (jt (i:=1) sc.nd rfl oQ (jN jb))
   (jd (jt (i:=2) sc.nd rfl oQ (jN jb))
   (jd (kr PassesOwn.never rfl (ZN (by rfl) B.range_ (jc (js qy (jP F_cell hr (jc (zpv 0) (jc jh jb))) jh) jb)) (jn (i:=3) sc.nd rfl oQ) (jd (jt (i:=4) sc.nd rfl oQ (jP F_cell hr (jc (zpv 0) (jc (js yt jh (zpv 3)) jb))))
   (jd (j6 (qC PySem.F.plainAttrs_list PySem.F.slot_list_append PySem.F.type_list_append kO (zpv 1) (jc (js yt jh (js zc (js qy (zpv 4) jh) (js qy (js zi (zpv 4) jh) jh))) jb)))
   (jd (j6 (qC PySem.F.plainAttrs_list PySem.F.slot_list_append PySem.F.type_list_append kO (zpv 2) (jc (jP F_if hr (jc (js zi (zpv 4) jh) (jc (jw q8 (zpv 1) (jeW jeZ jh) (fun _ _=>rfl)) jb))) jb)))
   (ji (jU (jx km (js qy (zpv 4) jh) jh (jJ _)) (ji (j6 (qC PySem.F.plainAttrs_list PySem.F.slot_list_append PySem.F.type_list_append kO (zpv 2) (jc (zpd (jC (jg jB (jg jB jv)))) jb)))) jE))))))
   (jd (jt (i:=5) sc.nd rfl oQ (zpd (jC (jg jB (jg (jC (jg jB (jg (jC (jg jB (jg jB jv))) (jg (jC (jg jB (jg jB jv))) (jg Jf jv))))) jv)))))
   (jd (jt (i:=6) sc.nd rfl oQ (js qy (jP F_cell hr (jc (zpv 0) (jc jh jb))) jh))
   (jd (jt (i:=7) sc.nd rfl oQ (js qy (js zi (jP F_cell hr (jc (zpv 0) (jc jh jb))) jh) (js yt (kP jZ (by rfl) B.len_ qX (jc (zpv 2) jb)) jh)))
   (jd (JS (jU (jx jeM (zpv 6) jh (jJ _)) (ji (jt (i:=7) sc.nd rfl oQ (jw q8 (jN (jc jh (jc (kP jZ (by rfl) B.len_ qX (jc (zpv 2) jb)) jb))) (zpv 6) (fun _ _=>rfl)))) jE))
   (jd (jt (i:=8) sc.nd rfl oQ (js qc (yo yn (by rfl) B.tuple_ ZK (jc (jQ yG (zpv 2) (jR (zpv 7)) ki) jb)) (zpd (jC (jg (kD 5) jv)))))
   (jd (jt (i:=9) sc.nd rfl oQ (zpd (jC (jg jB (jg (jC (jg jB (jg (jC (jg jB (jg jB jv))) (jg (jC (jg jB (jg jB jv))) (jg Jf jv))))) (jg (jC (jg (jC (jg jB (jg (jC (jg jB (jg jB jv))) (jg (jC (jg jB (jg jB jv))) (jg Jf jv))))) jv)) (jg (kD 8) jv)))))))
   (jd (jt (i:=10) sc.nd rfl oQ (js qc (yo yn (by rfl) B.tuple_ ZK (jc (jQ yG (zpv 2) ki (jR (zpv 7))) jb)) (zpd (jC (jg (kD 5) (jg (kD 9) jv))))))
   (jd (jt (i:=11) sc.nd rfl oQ (jP F_said hr (jc (zpd (jC (jg (jC (jg jB (jg jB (jg (jC (jg jB jv)) (jg (jC jv) (jg (jC jv) (jg (jC jv) (jg (kD 10) jv)))))))) jv))) jb)))
   (jd (jt (i:=12) sc.nd rfl oQ (kP jZ (by rfl) B.len_ qX (jc (qJ ["_law_one"] [] rfl (kY (sc:=jm J1) (N:=["_law_script","_law_factors","_law_body","_law_k","_law_cell_here","_law_last","_law_form","_law_cut","_law_inner","_law_loop","_law_whole","_law_found","_law_first","_law_ways","_law_told","_law_enter","_law_keep"]) rfl rfl (by decide +kernel)) (kJ (jQ yG (zpv 2) ki (jR (zpv 7)))) (fun s H ex=>⟨(jn (i:=0) (show List.Nodup (["_law_one"]:List Str) by decide +kernel) rfl oQ),(zf (jx km (jw (yN (K:=K)) (zpv 0) jh (fun _ _=>rfl)) jy (jJ _))),(zpv 0)⟩)) jb)))
   (jd (jt (i:=13) sc.nd rfl oQ (jN (jc (jP F_over hr (jc (jQ yG (zpv 1) ki (jR (zpv 12))) jb)) (jc (jP F_over hr (jc (jQ yG (zpv 1) (jR (zpv 12)) ki) jb)) jb))))
   (jd (jU (jx Zh (kP (jbM rfl) (by rfl) B.max_ jfF (jc (zpv 13) jb)) jh (jJ _)) (ji (jq (yA jfq (zpv 11) jbU (jJ _)))) jE)
   (jd (jU (jds (jdr (kP ZI (by rfl) B.isinstance_ qI (jc (zpv 11) (jc (jbT (v:=.ty "list") (by rfl) B.list_ JP (by rfl)) jb))))) (ji (jq jbU)) jE)
   (jd (qY (i:=14) sc.nd rfl oQ ["_law_duty"] [] rfl (kY (sc:=jm J1) (N:=["_law_script","_law_factors","_law_body","_law_k","_law_cell_here","_law_last","_law_form","_law_cut","_law_inner","_law_loop","_law_whole","_law_found","_law_first","_law_ways","_law_told","_law_enter","_law_keep"]) rfl rfl (by decide +kernel)) (kJ (zpv 11)) (fun s H ex=>⟨(jn (i:=0) (show List.Nodup (["_law_duty"]:List Str) by decide +kernel) rfl oQ),(zf (jx km (jw (yN (K:=K)) (zpv 0) jh (fun _ _=>rfl)) jy (jJ _))),(zpv 0)⟩))
   (jd (qY (i:=15) sc.nd rfl oQ ["_law_duty"] [] rfl (kY (sc:=jm J1) (N:=["_law_script","_law_factors","_law_body","_law_k","_law_cell_here","_law_last","_law_form","_law_cut","_law_inner","_law_loop","_law_whole","_law_found","_law_first","_law_ways","_law_told","_law_enter","_law_keep"]) rfl rfl (by decide +kernel)) (kJ (zpv 11)) (fun s H ex=>⟨(jn (i:=0) (show List.Nodup (["_law_duty"]:List Str) by decide +kernel) rfl oQ),(zf (jx km (jw (yN (K:=K)) (zpv 0) jh (fun _ _=>rfl)) jy (jJ _))),(zpv 0)⟩))
   (jd (qY (i:=16) sc.nd rfl oQ ["_law_duty"] [] rfl (kY (sc:=jm J1) (N:=["_law_script","_law_factors","_law_body","_law_k","_law_cell_here","_law_last","_law_form","_law_cut","_law_inner","_law_loop","_law_whole","_law_found","_law_first","_law_ways","_law_told","_law_enter","_law_keep"]) rfl rfl (by decide +kernel)) (kJ (zpv 11)) (fun s H ex=>⟨(jn (i:=0) (show List.Nodup (["_law_duty"]:List Str) by decide +kernel) rfl oQ),(zf (jx km (jw (yN (K:=K)) (zpv 0) jh (fun _ _=>rfl)) jy (jJ _))),(zpv 0)⟩))
   (ji (jq (JG (yA km (kP jZ (by rfl) B.len_ qX (jc (zpv 14) jb)) (js yt (jw q8 (zpv 13) jh (fun _ _=>rfl)) (jw q8 (zpv 13) jh (fun _ _=>rfl))) (jJ _)) (JG (yA km (kP jZ (by rfl) B.len_ qX (jc (zpv 15) jb)) (jw q8 (zpv 13) jh (fun _ _=>rfl)) (jJ _)) (jan (yA km (kP jZ (by rfl) B.len_ qX (jc (zpv 16) jb)) (jw q8 (zpv 13) jh (fun _ _=>rfl)) (jJ _))))))))))))))))))))))))),?_⟩
 refine jO (σ':=[some (.ref a),none,none,none,none,none,none,none,none,none,none,none,none,none,none,none,none]) rfl ?_
 have hSQ:∀ H',Same H H'→SqL K H' a (ns.map V.int):=fun H' s'=>s'.seq hS
 refine ⟨sm rfl,fun lf hlf=>?_⟩
 have s1:=je hlf (.lst [])
 have e1:upd H lf (.lst []) lf=some (.lst []):=ja
 generalize upd H lf (.lst [])=H1 at *
 refine gQ ?_
 refine ⟨sm rfl,fun lb hlb=>?_⟩
 have s2:=je hlb (.lst [])
 have e2:upd H1 lb (.lst []) lb=some (.lst []):=ja
 generalize upd H1 lb (.lst [])=H2 at *
 refine gQ ?_
 have s12:=s1.trans s2
 have hlb0:=s1.free hlb
 have nfb:lb≠lf:=fun z=>by rw [z,e1] at hlb;cases hlb
 refine ⟨_,rfl,a,ns,0,rfl,hSQ _ s12,by decide,by decide,fun c0=>⟨c0,6,rfl,rfl,(by show (0:Int) < 6;decide),?_⟩⟩
 have h05:=Int.emod_nonneg c0 (by decide:(6:Int)≠0)
 have h06:=Int.emod_lt_of_pos c0 (by decide:(0:Int) < 6)
 refine ⟨c0 % 6,rfl,by omega,by omega,?_⟩
 refine jbE (n:=(c0 % 6).toNat) (fun i σ G=>∃ (u3 u4:Option V) (us:List V) (ks:List Nat) (ds:List D),σ=[some (.ref a),some (.ref lf),some (.ref lb),u3,u4,none,none,none,none,none,none,none,none,none,none,none,none]∧Same H G∧G lf=some (.lst ((ks.filter (·≠1)).map fun k=>V.int (k:Nat)))∧G lb=some (.lst us)∧HeldL G ds us∧ItsD ks ds∧ks.length≤2 * i) ⟨none,none,[],[],[],rfl,s12,s2 _ _ e1,e2,jp,.nil,Nat.zero_le _⟩ ?_ ?_
 ·rintro i σ G hi ⟨u3,u4,us,ks,ds,rfl,sG,hGf,hGb,hus,hits,hkl⟩
  have hi5:i < 5∨i=5:=by omega
  refine gQ ?_
  refine ⟨_,rfl,_,rfl,_,_,rfl,rfl,a,ns,2+(0+(i:Int)),rfl,hSQ _ sG,by omega,by omega,fun c=>?_⟩
  refine gQ ?_
  have m0:=Int.emod_nonneg c (by decide:(3:Int)≠0)
  have m1:=Int.emod_lt_of_pos c (by decide:(0:Int) < 3)
  have m2:=Int.emod_nonneg (c / 4) (by decide:(2:Int)≠0)
  have m3:=Int.emod_lt_of_pos (c / 4) (by decide:(0:Int) < 2)
  obtain ⟨m,hm2,hm⟩:∃ m:Nat,m≤2∧2+c % 3 * (c / 4 % 2)=(m:Int)+2:=by
   rcases (show c / 4 % 2=0∨c / 4 % 2=1 by omega) with h | h
   ·exact ⟨0,by decide,by rw [h];omega⟩
   ·exact ⟨(c % 3).toNat,by omega,by rw [h];omega⟩
  refine ⟨_,rfl,.inl ⟨rfl,_,SqL.of hGf⟩,_,rfl,c,3,rfl,rfl,(by show (0:Int) < 3;decide),_,rfl,c,4,rfl,rfl,⟨by decide,by decide⟩,c / 4,2,rfl,rfl,(by show (0:Int) < 2;decide),c % 3,c / 4 % 2,rfl,rfl,.inl ⟨by omega,by omega⟩,2,_,rfl,rfl,lf,_,_,rfl,rfl,hGf,jA (by rw [List.length_map];have:=List.length_filter_le (fun k:Nat=>decide (k≠1)) ks;omega),?_⟩
  dsimp only
  have k3:∀ b o,b≠lf→G b=some o→upd G lf (.lst (((ks.filter (·≠1)).map fun k=>V.int (k:Nat))++[V.int (2+c % 3 * (c / 4 % 2))])) b=some o:=fun b o hb e=>by rw [jl hb];exact e
  have e3:upd G lf (.lst (((ks.filter (·≠1)).map fun k=>V.int (k:Nat))++[V.int (2+c % 3 * (c / 4 % 2))])) lf=some (.lst (((ks++[m+2]).filter (·≠1)).map fun k=>V.int (k:Nat))):=by
   rw [ja,hm,List.filter_append,List.map_append]
   have:([m+2].filter (·≠1))=[m+2]:=by
    rw [List.filter_cons,if_pos (by simp)]
    rfl
   rw [this]
   rfl
  generalize upd G lf (.lst (((ks.filter (·≠1)).map fun k=>V.int (k:Nat))++[V.int (2+c % 3 * (c / 4 % 2))]))=G1 at *
  have s3:Same H G1:=fun b o e=>k3 b o (jk e hlf) (sG _ _ e)
  have hGb1:=k3 _ _ nfb hGb
  have tk3:TK G G1:=ku k3 hGf
  have lfk:((ks++[m+2]).filter (·≠1)).map (fun k=>V.int (k:Nat))=(ks.filter (·≠1)).map (fun k=>V.int (k:Nat))++[V.int ((m:Int)+2)]:=by
   rw [List.filter_append,List.map_append]
   have:([m+2].filter (·≠1))=[m+2]:=by
    rw [List.filter_cons,if_pos (by simp)]
    rfl
   rw [this]
   rfl
  have hat:atI (((ks++[m+2]).filter (·≠1)).map fun k=>V.int (k:Nat)) (-1)=some (V.int ((m:Int)+2)):=by rw [lfk];exact jev _ _
  refine ⟨_,rfl,.inl ⟨rfl,_,SqL.of hGb1⟩,_,rfl,c,8,rfl,rfl,⟨by decide,by decide⟩,_,rfl,1,rfl,lf,_,_,_,rfl,rfl,SqL.of e3,hat,c / 8,m,rfl,hm2,fun v G2 s4 hv=>?_⟩
  have hGb2:=s4 _ _ hGb1
  have hGf2:=s4 _ _ e3
  have lus:=hus.length
  have lds:=hits.len
  refine ⟨lb,us,v,rfl,rfl,hGb2,jA (by omega),?_⟩
  have k5:∀ b o,b≠lb→G2 b=some o→upd G2 lb (.lst (us++[v])) b=some o:=fun b o hb e=>by rw [jl hb];exact e
  have e5:upd G2 lb (.lst (us++[v])) lb=some (.lst (us++[v])):=ja
  generalize upd G2 lb (.lst (us++[v]))=G3 at *
  have tk5:=ku k5 hGb2
  have sH3:Same H G3:=fun b o e=>k5 b o (jk e hlb0) (s4 _ _ (s3 _ _ e))
  have hGf3:=k5 _ _ (Ne.symm nfb) hGf2
  have hus3:HeldL G3 (ds++[zF m (c / 8)]) (us++[v]):=jK (tk5.heldL ((tk3.heldL hus).mono s4)) (jj (tk5.held hv) jp)
  have hits3:ItsD (ks++[m+2]) (ds++[zF m (c / 8)]):=hits.snoc (.inl ⟨m,c / 8,hm2,rfl,rfl⟩)
  refine ⟨_,rfl,c,3,rfl,rfl,(by show (0:Int) < 3;decide),rfl,_,rfl,jL (fun d=>?_) (fun d=>?_)⟩
  ·refine ⟨_,rfl,.inl ⟨rfl,_,SqL.of e5⟩,(Sm.any "z").toD,⟨_,rfl,Nat.le_of_ble_eq_true rfl,_,_,rfl,rfl,_,_,rfl,rfl,rfl⟩,fun v2 G4 s6 hv2=>?_⟩
   have e6:=s6 _ _ e5
   refine ⟨lb,us++[v],v2,rfl,rfl,e6,jA (by rw [List.length_append];show us.length+1≤1000;omega),?_⟩
   have k7:∀ b o,b≠lb→G4 b=some o→upd G4 lb (.lst (us++[v]++[v2])) b=some o:=fun b o hb e=>by rw [jl hb];exact e
   have tk7:=ku k7 e6
   exact ⟨_,_,us++[v]++[v2],ks++[m+2]++[1],ds++[zF m (c / 8)]++[(Sm.any "z").toD],rfl,fun b o e=>k7 b o (jk e hlb0) (s6 _ _ (sH3 _ _ e)),by rw [List.filter_append,show ([1].filter (·≠1):List Nat)=[] from rfl,List.append_nil];exact k7 _ _ (Ne.symm nfb) (s6 _ _ hGf3),ja,jK (tk7.heldL (hus3.mono s6)) (jj (tk7.held hv2) jp),hits3.snoc (.inr ⟨rfl,rfl⟩),by rw [List.length_append,List.length_append];show ks.length+1+1≤_;omega⟩
  ·exact ⟨_,_,us++[v],ks++[m+2],ds++[zF m (c / 8)],rfl,sH3,hGf3,e5,hus3,hits3,by rw [List.length_append];show ks.length+1≤_;omega⟩
 rintro σ G ⟨u3,u4,us,ks,ds,rfl,sG,hGf,hGb,hus,hits,hkl⟩
 have lus:=hus.length
 have lds:=hits.len
 have hl10:us.length≤10:=by omega
 refine ⟨(Sm.claim qz).toD,⟨_,rfl,Nat.le_of_ble_eq_true rfl,_,_,rfl,rfl,_,_,rfl,⟨_,rfl,Nat.le_of_ble_eq_true rfl,_,_,rfl,rfl,_,_,rfl,⟨_,rfl,Nat.le_of_ble_eq_true rfl,_,_,rfl,rfl,_,_,rfl,rfl,rfl⟩,_,_,rfl,⟨_,rfl,Nat.le_of_ble_eq_true rfl,_,_,rfl,rfl,_,_,rfl,rfl,rfl⟩,_,_,rfl,rfl,rfl⟩,rfl⟩,fun vl G1 s1 hvl=>?_⟩
 refine gQ ?_
 refine ⟨_,rfl,a,ns,1,rfl,hSQ _ (sG.trans s1),by decide,by decide,fun c1=>⟨c1,3,rfl,rfl,(by show (0:Int) < 3;decide),?_⟩⟩
 refine gQ ?_
 have n0:=Int.emod_nonneg c1 (by decide:(3:Int)≠0)
 have n1:=Int.emod_lt_of_pos c1 (by decide:(0:Int) < 3)
 refine ⟨_,rfl,a,ns,1,rfl,hSQ _ (sG.trans s1),by decide,by decide,fun c2=>⟨c2,3,rfl,rfl,⟨by decide,by decide⟩,_,rfl,lb,us,rfl,.inl (SqL.of (s1 _ _ hGb)),(us.length:Int),1,rfl,rfl,c2 / 3,(us.length:Int)+1,rfl,rfl,(by show (0:Int) < (us.length:Int)+1;omega),?_⟩⟩
 refine gQ ?_
 have n2:=Int.emod_nonneg (c2 / 3) (show (us.length:Int)+1≠0 by omega)
 have n3:=Int.emod_lt_of_pos (c2 / 3) (show (0:Int) < (us.length:Int)+1 by omega)
 refine ⟨fun σ G'=>∃ cut:Nat,cut≤us.length∧Same G1 G'∧σ=[some (.ref a),some (.ref lf),some (.ref lb),u3,u4,some vl,some (.int (c1 % 3)),some (.int (cut:Nat)),none,none,none,none,none,none,none,none,none],?_,?_⟩
 ·refine ⟨_,rfl,c1 % 3,2,rfl,rfl,_,rfl,jL (fun d=>?_) (fun d=>?_)⟩
  ·have d':c1 % 3 < 2:=of_decide_eq_true d
   refine ⟨_,rfl,lb,us,rfl,.inl (SqL.of (s1 _ _ hGb)),sm rfl,fun l hl=>?_⟩
   rcases (show c1 % 3=0∨c1 % 3=1 by omega) with h | h
   ·refine ⟨_,rfl,l,_,c1 % 3,V.int 0,rfl,rfl,SqL.of ja,by rw [h];rfl,0,Nat.zero_le _,je hl _,rfl⟩
   ·refine ⟨_,rfl,l,_,c1 % 3,V.int (us.length:Nat),rfl,rfl,SqL.of ja,by rw [h];rfl,us.length,Nat.le_refl _,je hl _,rfl⟩
  ·exact ⟨(c2 / 3 % ((us.length:Int)+1)).toNat,by omega,(fun _ _ e=>e),by rw [Int.toNat_of_nonneg n2]⟩
 rintro σ G2 ⟨cut,hcut,s2,rfl⟩
 have sG2:Same H G2:=sG.trans (s1.trans s2)
 have hGb2:=s2 _ _ (s1 _ _ hGb)
 have hGf2:=s2 _ _ (s1 _ _ hGf)
 have hus2:=hus.mono (s1.trans s2)
 have hvl2:=hvl.mono s2
 refine ⟨_,rfl,_,rfl,_,rfl,lb,us,rfl,SqL.of hGb2,fun l1 hl1=>?_⟩
 have s3:=je hl1 (.lst (j8 us (some (cut:Int)) none))
 have e3:upd G2 l1 (.lst (j8 us (some (cut:Int)) none)) l1=some (.lst (us.drop cut)):=by rw [ja,ZF us cut hcut]
 generalize upd G2 l1 (.lst (j8 us (some (cut:Int)) none))=G3 at *
 refine ⟨l1,_,rfl,.inl ⟨SqL.of e3,fun t1 ht1=>?_⟩⟩
 have s4:=je ht1 (.tup (us.drop cut))
 have e4:upd G3 t1 (.tup (us.drop cut)) t1=some (.tup (us.drop cut)):=ja
 generalize upd G3 t1 (.tup (us.drop cut))=G4 at *
 refine ⟨.tup [(Sm.claim qz).toD],⟨_,rfl,Nat.le_of_ble_eq_true rfl,_,_,rfl,⟨_,rfl,(hvl2.mono (s3.trans s4))⟩,rfl⟩,fun v5 G5 s5 hv5=>?_⟩
 obtain ⟨t2,xs2,rfl,et2,hx2⟩:=jo hv5
 have lx2:=hx2.length
 have lx2:1=xs2.length:=lx2
 refine ⟨t1,t2,_,_,rfl,rfl,s5 _ _ e4,et2,j4 (by rw [List.length_drop];omega),fun tin G6 s6 ein=>?_⟩
 have s26:=s3.trans (s4.trans (s5.trans s6))
 have hin:Held G6 (.tup (ds.drop cut++[(Sm.claim qz).toD])) (.ref tin):=qW ein (jK ((Kd hus2 cut).mono s26) (hx2.mono s6))
 refine gQ ?_
 refine ⟨Zl (ds.drop cut),⟨_,rfl,Nat.le_of_ble_eq_true rfl,_,_,rfl,rfl,_,_,rfl,⟨_,rfl,Nat.le_of_ble_eq_true rfl,_,_,rfl,rfl,_,_,rfl,⟨_,rfl,Nat.le_of_ble_eq_true rfl,_,_,rfl,rfl,_,_,rfl,rfl,rfl⟩,_,_,rfl,⟨_,rfl,Nat.le_of_ble_eq_true rfl,_,_,rfl,rfl,_,_,rfl,rfl,rfl⟩,_,_,rfl,rfl,rfl⟩,_,_,rfl,⟨_,rfl,Nat.le_of_ble_eq_true rfl,_,_,rfl,⟨_,rfl,Nat.le_of_ble_eq_true rfl,_,_,rfl,rfl,_,_,rfl,⟨_,rfl,Nat.le_of_ble_eq_true rfl,_,_,rfl,rfl,_,_,rfl,rfl,rfl⟩,_,_,rfl,⟨_,rfl,Nat.le_of_ble_eq_true rfl,_,_,rfl,rfl,_,_,rfl,rfl,rfl⟩,_,_,rfl,rfl,rfl⟩,rfl⟩,_,_,rfl,⟨_,rfl,hin⟩,rfl⟩,fun vlo G7 s7 hlo=>?_⟩
 refine gQ ?_
 have s27:=s26.trans s7
 have hGb7:=s27 _ _ hGb2
 refine ⟨_,rfl,_,rfl,_,rfl,lb,us,rfl,SqL.of hGb7,fun l2 hl2=>?_⟩
 have s8:=je hl2 (.lst (j8 us none (some (cut:Int))))
 have e8:upd G7 l2 (.lst (j8 us none (some (cut:Int)))) l2=some (.lst (us.take cut)):=by rw [ja,Kh us cut hcut]
 generalize upd G7 l2 (.lst (j8 us none (some (cut:Int))))=G8 at *
 refine ⟨l2,_,rfl,.inl ⟨SqL.of e8,fun t3 ht3=>?_⟩⟩
 have s9:=je ht3 (.tup (us.take cut))
 have e9:upd G8 t3 (.tup (us.take cut)) t3=some (.tup (us.take cut)):=ja
 generalize upd G8 t3 (.tup (us.take cut))=G9 at *
 refine ⟨.tup [(Sm.claim qz).toD,Zl (ds.drop cut)],⟨_,rfl,Nat.le_of_ble_eq_true rfl,_,_,rfl,⟨_,rfl,(hvl2.mono (s27.trans (s8.trans s9)))⟩,_,_,rfl,⟨_,rfl,(hlo.mono (s8.trans s9))⟩,rfl⟩,fun v10 G10 s10 hv10=>?_⟩
 obtain ⟨t4,xs4,rfl,et4,hx4⟩:=jo hv10
 have lx4:=hx4.length
 have lx4:2=xs4.length:=lx4
 refine ⟨t3,t4,_,_,rfl,rfl,s10 _ _ e9,et4,j4 (by rw [List.length_take];omega),fun twh G11 s11 ewh=>?_⟩
 have s211:=s27.trans (s8.trans (s9.trans (s10.trans s11)))
 have hwh:Held G11 (.tup (ds.take cut++[(Sm.claim qz).toD,Zl (ds.drop cut)])) (.ref twh):=qW ewh (jK ((yu hus2 cut).mono s211) (hx4.mono s11))
 refine gQ ?_
 refine ⟨.tup [jcr (ds.take cut) (ds.drop cut)],⟨_,rfl,Nat.le_of_ble_eq_true rfl,_,_,rfl,⟨_,rfl,Nat.le_of_ble_eq_true rfl,_,_,rfl,rfl,_,_,rfl,rfl,_,_,rfl,⟨_,rfl,Nat.le_of_ble_eq_true rfl,_,_,rfl,rfl,rfl⟩,_,_,rfl,⟨_,rfl,Nat.le_of_ble_eq_true rfl,rfl⟩,_,_,rfl,⟨_,rfl,Nat.le_of_ble_eq_true rfl,rfl⟩,_,_,rfl,⟨_,rfl,Nat.le_of_ble_eq_true rfl,rfl⟩,_,_,rfl,⟨_,rfl,hwh⟩,rfl⟩,rfl⟩,fun vp G12 s12' hvp=>?_⟩
 have s212:=s211.trans s12'
 unfold jdA
 refine jcg (k1:=ks.take cut) (k2:=ks.drop cut) (hits.take cut) (hits.drop cut) (by rw [List.length_take,List.length_drop];omega) hvp fun vf G13 s13 hF=>?_
 have s213:=s212.trans s13
 have hGb13:=s213 _ _ hGb2
 have hGf13:=s213 _ _ hGf2
 refine gQ ?_
 refine ⟨_,rfl,_,rfl,_,rfl,lb,us,rfl,SqL.of hGb13,fun l3 hl3=>?_⟩
 have s14:=je hl3 (.lst (j8 us none (some (cut:Int))))
 have e14:upd G13 l3 (.lst (j8 us none (some (cut:Int)))) l3=some (.lst (us.take cut)):=by rw [ja,Kh us cut hcut]
 generalize upd G13 l3 (.lst (j8 us none (some (cut:Int))))=G14 at *
 refine ⟨l3,rfl,⟨_,SqL.of e14⟩,fun pp hpp=>?_⟩
 have s15:=je hpp (.lst [])
 refine ql (xs:=us.take cut) (fun i σ' G'=>∃ u ws,σ'=[u]∧Same G14 G'∧G' pp=some (.lst ws)∧ws.length=(ifs ((ks.take cut).take i)).length) ⟨none,[],rfl,s15,ja,by rw [List.take_zero];rfl⟩ ?_ ?_ ?_
 ·rintro i σ' G' _ ⟨u,ws,rfl,sG',_⟩
  exact SqL.of (sG' _ _ e14)
 ·rintro i x σ' G' hx ⟨u,ws,rfl,sG',hws,lws⟩
  have hi:i < (us.take cut).length:=(List.getElem?_eq_some_iff.mp hx).1
  have hik:i < (ks.take cut).length:=by rw [List.length_take] at hi ⊢;omega
  have hid:i < (ds.take cut).length:=by rw [List.length_take] at hi ⊢;omega
  obtain ⟨x',hx',hxH⟩:=(yu (hus2.mono (s213.trans (s14.trans sG'))) cut).get (List.getElem?_eq_getElem hid)
  rw [hx] at hx'
  cases hx'
  obtain ⟨t,r,rfl,ht⟩:=jby ((hits.take cut).get (List.getElem?_eq_getElem hik) (List.getElem?_eq_getElem hid)) hxH
  have hit:=jc4 hik
  have hle:(ifs ((ks.take cut).take i)).length≤((ks.take cut).take i).length:=List.length_filter_le _ _
  rw [List.length_take,List.length_take] at hle
  unfold qe
  refine ⟨_,rfl,t,_,_,V.str (if (ks.take cut)[i]=1 then "any" else "if"),rfl,rfl,SqT.of ht,yY (j:=0) rfl,rfl,_,rfl,jL (fun d=>?_) (fun d=>?_)⟩
  ·have d1:¬ (ks.take cut)[i]=1:=fun z=>by
    have d':=of_decide_eq_true d
    rw [if_pos z] at d'
    exact absurd d' (by decide)
   rw [if_neg d1] at hit
   refine ⟨_,rfl,ws,hws,jA (by omega),_,_,rfl,fun b o e=>?_,ja,by rw [List.length_append,hit,lws];rfl⟩
   rw [jl (jk e hpp)]
   exact sG' _ _ e
  ·have d1:(ks.take cut)[i]=1:=by
    by_cases z:(ks.take cut)[i]=1
    ·exact z
    ·exact absurd (decide_eq_true (congrArg V.str (if_neg z))) d
   rw [if_pos d1] at hit
   exact ⟨_,ws,rfl,sG',hws,by rw [hit,lws,Nat.add_zero]⟩
 rintro σ' G15 ⟨u,ws,rfl,sG15,hws,lws⟩
 rw [show (us.take cut).length=(ks.take cut).length by rw [List.length_take,List.length_take];omega,List.take_length] at lws
 have s215:=s213.trans (s14.trans sG15)
 refine ⟨pp,ws,rfl,.inl (SqL.of hws),?_⟩
 refine gQ ?_
 have hGf15:G15 lf=some (.lst ((ifs ks).map Jg)):=s215 _ _ hGf2
 have hfl:(ifs ks).length≤ks.length:=List.length_filter_le _ _
 have hf1:(ifs (ks.take cut)).length≤(ifs ks).length:=by rw [JM ks cut,List.length_append];omega
 have hp1:∀ f∈ifs (ks.take cut),1≤f:=fun f hf=>jaL (hits.take cut) f (List.mem_filter.mp hf).1
 have hp2:∀ f∈ifs (ks.drop cut),1≤f:=fun f hf=>jaL (hits.drop cut) f (List.mem_filter.mp hf).1
 have o1:=Yq (w:=1) hp1 (by decide)
 have o2:=Yq (w:=1) hp2 (by decide)
 rw [Nat.one_mul,Zc] at o1 o2
 refine ⟨_,rfl,_,rfl,_,rfl,lf,_,rfl,SqL.of hGf15,fun l4 hl4=>?_⟩
 have ec1:j8 ((ifs ks).map Jg) none (some (ws.length:Int))=(ifs (ks.take cut)).map Jg:=by
  rw [Kh _ _ (by rw [List.length_map,lws];exact hf1),lws,← List.map_take,JM ks cut,List.take_left' rfl]
 have ec2:j8 ((ifs ks).map Jg) (some (ws.length:Int)) none=(ifs (ks.drop cut)).map Jg:=by
  rw [ZF _ _ (by rw [List.length_map,lws];exact hf1),lws,← List.map_drop,JM ks cut,List.drop_left' rfl]
 rw [ec1]
 have s16:=je hl4 (.lst ((ifs (ks.take cut)).map Jg))
 have e16:upd G15 l4 (.lst ((ifs (ks.take cut)).map Jg)) l4=some (.lst ((ifs (ks.take cut)).map Jg)):=ja
 generalize upd G15 l4 (.lst ((ifs (ks.take cut)).map Jg))=G16 at *
 refine ⟨l4,ifs (ks.take cut),rfl,e16,by omega,?_⟩
 refine ⟨_,rfl,_,rfl,_,rfl,lf,_,rfl,SqL.of (s16 _ _ hGf15),fun l5 hl5=>?_⟩
 rw [ec2]
 have s17:=je hl5 (.lst ((ifs (ks.drop cut)).map Jg))
 have e17:upd G16 l5 (.lst ((ifs (ks.drop cut)).map Jg)) l5=some (.lst ((ifs (ks.drop cut)).map Jg)):=ja
 generalize upd G16 l5 (.lst ((ifs (ks.drop cut)).map Jg))=G17 at *
 refine ⟨l5,ifs (ks.drop cut),rfl,e17,(by have:(ifs (ks.drop cut)).length≤(ifs ks).length:=(by rw [JM ks cut,List.length_append];omega);omega),?_⟩
 rw [o1,o2]
 refine ⟨sm rfl,fun lw hlw=>?_⟩
 generalize ho1:(if 16 < jH (ks.take cut) then 17 else jH (ks.take cut))=w1 at *
 generalize ho2:(if 16 < jH (ks.drop cut) then 17 else jH (ks.drop cut))=w2 at *
 have s18:=je hlw (.lst [V.int (w1:Nat),V.int (w2:Nat)])
 have e18:upd G17 lw (.lst [V.int (w1:Nat),V.int (w2:Nat)]) lw=some (.lst [V.int (w1:Nat),V.int (w2:Nat)]):=ja
 generalize upd G17 lw (.lst [V.int (w1:Nat),V.int (w2:Nat)])=G18 at *
 refine gQ ?_
 have s1318:=s14.trans (sG15.trans (s16.trans (s17.trans s18)))
 refine ⟨_,rfl,lw,[(w1:Int),(w2:Int)],rfl,SqL.of e18,by simp,fun mx hmx hle=>?_⟩
 have hb1:=hle (w1:Int) List.mem_cons_self
 have hb2:=hle (w2:Int) (List.mem_cons_of_mem _ List.mem_cons_self)
 have hmx':mx=(w1:Int)∨mx=(w2:Int):=by simpa using hmx
 refine ⟨mx,16,rfl,rfl,_,rfl,jL (fun d=>?_) (fun d=>?_)⟩
 ·have d':(16:Int) < mx:=of_decide_eq_true d
  rcases hF with ⟨rfl,_⟩ | ⟨h1,h2,_⟩
  ·exact ⟨_,rfl,true,true,rfl,rfl,q _⟩
  ·rw [yK h1] at ho1
   rw [yK h2] at ho2
   exfalso
   omega
 ·have d':¬ (16:Int) < mx:=fun z=>d (decide_eq_true z)
  rcases hF with ⟨_,h⟩ | ⟨h1,h2,ml,ms,wls,dus,rfl,hml,hD,hk⟩
  ·exfalso
   rcases h with h | h
   ·rw [if_pos h] at ho1;omega
   ·rw [if_pos h] at ho2;omega
  ·rw [yK h1] at ho1
   rw [yK h2] at ho2
   have hml18:=s1318 _ _ hml
   have hD18:=hD.mono s1318
   refine ⟨_,rfl,.ref ml,.type "list","list",true,rfl,.lst hml18,rfl,?_⟩
   refine ⟨true,rfl,jfB ?_⟩
   have hG18:=hml18
   have DG18:=hD18
   have ldu:=hD.len
   have hkl2:(jW dus).length=ms.length:=by unfold jW;rw [List.length_map,ldu]
   have lK:(jW dus).length≤64:=by rw [hk];simp;omega
   refine ⟨_,rfl,ml,rfl,⟨_,SqL.of hG18⟩,fun pA hpA=>?_⟩
   have spA:=je hpA (.lst [])
   refine ql (xs:=ms) (fun i σ' G'=>∃ u ws,σ'=[u]∧Same G18 G'∧G' pA=some (.lst ws)∧ws.length=yy "claim" ((jW dus).take i)) ⟨none,[],rfl,spA,ja,by rw [List.take_zero];rfl⟩ ?_ ?_ ?_
   ·rintro i σ' G' _ ⟨u,ws,rfl,sG',_⟩
    exact SqL.of (sG' _ _ hG18)
   ·rintro i x σ' G' hx ⟨u,ws,rfl,sG',hws',lws'⟩
    obtain ⟨du,wl,hdu,t,pt,us',gv,rfl,ht,_⟩:=(DG18.mono sG').get hx
    have hki:(jW dus)[i]?=some du.kind:=by unfold jW;rw [List.getElem?_map,hdu];rfl
    have hct:=Jr "claim" hki
    have hle:yy "claim" ((jW dus).take i)≤((jW dus).take i).length:=List.length_filter_le _ _
    rw [List.length_take] at hle
    unfold qe
    refine ⟨_,rfl,t,_,_,V.str du.kind,rfl,rfl,SqT.of ht,rfl,rfl,_,rfl,jL (fun d=>?_) (fun d=>?_)⟩
    ·have d1:du.kind = "claim":=by have d':=of_decide_eq_true d;injection d'
     rw [if_pos d1] at hct
     refine ⟨_,rfl,ws,hws',jA (by omega),_,_,rfl,fun b o e=>?_,ja,by rw [List.length_append,hct,lws'];rfl⟩
     rw [jl (jk e hpA)]
     exact sG' _ _ e
    ·have d1:¬ du.kind = "claim":=fun z=>d (decide_eq_true (congrArg V.str z))
     rw [if_neg d1] at hct
     exact ⟨_,ws,rfl,sG',hws',by rw [hct,lws',Nat.add_zero]⟩
   rintro σ' G19 ⟨uA,wtA,rfl,sA,ewA,lwA⟩
   rw [← hkl2,List.take_length] at lwA
   have hG19:=sA _ _ hG18
   have DG19:=DG18.mono sA
   refine gQ ?_
   refine ⟨_,rfl,ml,rfl,⟨_,SqL.of hG19⟩,fun pB hpB=>?_⟩
   have spB:=je hpB (.lst [])
   refine ql (xs:=ms) (fun i σ' G'=>∃ u ws,σ'=[u]∧Same G19 G'∧G' pB=some (.lst ws)∧ws.length=yy "enter" ((jW dus).take i)) ⟨none,[],rfl,spB,ja,by rw [List.take_zero];rfl⟩ ?_ ?_ ?_
   ·rintro i σ' G' _ ⟨u,ws,rfl,sG',_⟩
    exact SqL.of (sG' _ _ hG19)
   ·rintro i x σ' G' hx ⟨u,ws,rfl,sG',hws',lws'⟩
    obtain ⟨du,wl,hdu,t,pt,us',gv,rfl,ht,_⟩:=(DG19.mono sG').get hx
    have hki:(jW dus)[i]?=some du.kind:=by unfold jW;rw [List.getElem?_map,hdu];rfl
    have hct:=Jr "enter" hki
    have hle:yy "enter" ((jW dus).take i)≤((jW dus).take i).length:=List.length_filter_le _ _
    rw [List.length_take] at hle
    unfold qe
    refine ⟨_,rfl,t,_,_,V.str du.kind,rfl,rfl,SqT.of ht,rfl,rfl,_,rfl,jL (fun d=>?_) (fun d=>?_)⟩
    ·have d1:du.kind = "enter":=by have d':=of_decide_eq_true d;injection d'
     rw [if_pos d1] at hct
     refine ⟨_,rfl,ws,hws',jA (by omega),_,_,rfl,fun b o e=>?_,ja,by rw [List.length_append,hct,lws'];rfl⟩
     rw [jl (jk e hpB)]
     exact sG' _ _ e
    ·have d1:¬ du.kind = "enter":=fun z=>d (decide_eq_true (congrArg V.str z))
     rw [if_neg d1] at hct
     exact ⟨_,ws,rfl,sG',hws',by rw [hct,lws',Nat.add_zero]⟩
   rintro σ' G20 ⟨uB,wtB,rfl,sB,ewB,lwB⟩
   rw [← hkl2,List.take_length] at lwB
   have hG20:=sB _ _ hG19
   have DG20:=DG19.mono sB
   refine gQ ?_
   refine ⟨_,rfl,ml,rfl,⟨_,SqL.of hG20⟩,fun pC hpC=>?_⟩
   have spC:=je hpC (.lst [])
   refine ql (xs:=ms) (fun i σ' G'=>∃ u ws,σ'=[u]∧Same G20 G'∧G' pC=some (.lst ws)∧ws.length=yy "keep" ((jW dus).take i)) ⟨none,[],rfl,spC,ja,by rw [List.take_zero];rfl⟩ ?_ ?_ ?_
   ·rintro i σ' G' _ ⟨u,ws,rfl,sG',_⟩
    exact SqL.of (sG' _ _ hG20)
   ·rintro i x σ' G' hx ⟨u,ws,rfl,sG',hws',lws'⟩
    obtain ⟨du,wl,hdu,t,pt,us',gv,rfl,ht,_⟩:=(DG20.mono sG').get hx
    have hki:(jW dus)[i]?=some du.kind:=by unfold jW;rw [List.getElem?_map,hdu];rfl
    have hct:=Jr "keep" hki
    have hle:yy "keep" ((jW dus).take i)≤((jW dus).take i).length:=List.length_filter_le _ _
    rw [List.length_take] at hle
    unfold qe
    refine ⟨_,rfl,t,_,_,V.str du.kind,rfl,rfl,SqT.of ht,rfl,rfl,_,rfl,jL (fun d=>?_) (fun d=>?_)⟩
    ·have d1:du.kind = "keep":=by have d':=of_decide_eq_true d;injection d'
     rw [if_pos d1] at hct
     refine ⟨_,rfl,ws,hws',jA (by omega),_,_,rfl,fun b o e=>?_,ja,by rw [List.length_append,hct,lws'];rfl⟩
     rw [jl (jk e hpC)]
     exact sG' _ _ e
    ·have d1:¬ du.kind = "keep":=fun z=>d (decide_eq_true (congrArg V.str z))
     rw [if_neg d1] at hct
     exact ⟨_,ws,rfl,sG',hws',by rw [hct,lws',Nat.add_zero]⟩
   rintro σ' G21 ⟨uC,wtC,rfl,sC,ewC,lwC⟩
   rw [← hkl2,List.take_length] at lwC
   have hG21:=sC _ _ hG20
   have DG21:=DG20.mono sC
   refine gQ ?_
   have nA:wtA.length=w1+w2:=by
    rw [lwA,hk,qB,qB,qB,kN,kN,kN,kN,if_pos rfl,if_neg (by decide),if_pos rfl,if_neg (by decide)]
    omega
   have nB:wtB.length=w1:=by
    rw [lwB,hk,qB,qB,qB,kN,kN,kN,kN,if_neg (by decide),if_pos rfl,if_neg (by decide),if_neg (by decide)]
    omega
   have nC:wtC.length=w2:=by
    rw [lwC,hk,qB,qB,qB,kN,kN,kN,kN,if_neg (by decide),if_neg (by decide),if_neg (by decide),if_pos rfl]
    omega
   have e21:=sC _ _ (sB _ _ (sA _ _ e18))
   have eA21:=sC _ _ (sB _ _ ewA)
   have eB21:=sC _ _ ewB
   refine ⟨_,rfl,pA,wtA,rfl,.inl (SqL.of eA21),_,rfl,lw,_,_,_,rfl,rfl,SqL.of e21,rfl,_,rfl,lw,_,_,_,rfl,rfl,SqL.of e21,rfl,(w1:Int),(w2:Int),rfl,rfl,rfl,_,rfl,jL (fun _=>?_) (fun d=>absurd (decide_eq_true (by rw [nA];rfl)) d)⟩
   refine ⟨_,rfl,pB,wtB,rfl,.inl (SqL.of eB21),_,rfl,lw,_,_,_,rfl,rfl,SqL.of e21,rfl,rfl,_,rfl,jL (fun _=>?_) (fun d=>absurd (decide_eq_true (by rw [nB])) d)⟩
   refine ⟨_,rfl,pC,wtC,rfl,.inl (SqL.of ewC),_,rfl,lw,_,_,_,rfl,rfl,SqL.of e21,rfl,rfl,?_⟩
   rw [decide_eq_true (show V.int (wtC.length:Nat)=V.int (w2:Nat) by rw [nC])]
   exact q _
end
abbrev LkF (K:W.Frag) (f:Addr) (x n:Str) (st:Stmt) (oc:Value) (od:Option Addr) (kV dc pm:Value) (an:Option Addr) (cd ct:Value) (sl:Array (Option Value)):Prop:=K.lookup f=some ⟨oc,od,.func (W.fnOf x n (yf st) (qH st) (jm st) .none kV dc pm an cd ct),sl⟩
set_option autoImplicit true in
theorem all_mk {l:PySem.W.OpenLaw} {w:World} {K:W.Frag} {h:Heap} {mg:Str→Option Value} {fa:Addr} (X:K.In h) (G:h.Ns mainGlobals mg) (hfa:mg "law" = some (.ref fa))
  (a0:W.nsIn K mainGlobals "term_numbers" = some (some (.ref f0)))
  (l0:LkF K f0 "term_numbers" "term_numbers" qG oc0 od0 kV0 dc0 pm0 an0 cd0 ct0 sl0) (c0:W.codeIn K cd0 "term_numbers" = true) (k0:W.keepIn K (.ref f0)=true)
  (a1:W.nsIn K mainGlobals "claim_numbers" = some (some (.ref f1)))
  (l1:LkF K f1 "claim_numbers" "claim_numbers" qv oc1 od1 kV1 dc1 pm1 an1 cd1 ct1 sl1) (c1:W.codeIn K cd1 "claim_numbers" = true) (k1:W.keepIn K (.ref f1)=true)
  (a2:W.nsIn K mainGlobals "claims_numbers" = some (some (.ref f2)))
  (l2:LkF K f2 "claims_numbers" "claims_numbers" qf oc2 od2 kV2 dc2 pm2 an2 cd2 ct2 sl2) (c2:W.codeIn K cd2 "claims_numbers" = true) (k2:W.keepIn K (.ref f2)=true)
  (a3:W.nsIn K mainGlobals "own_claims" = some (some (.ref f3)))
  (l3:LkF K f3 "own_claims" "own_claims" q5 oc3 od3 kV3 dc3 pm3 an3 cd3 ct3 sl3) (c3:W.codeIn K cd3 "own_claims" = true) (k3:W.keepIn K (.ref f3)=true)
  (a4:W.nsIn K mainGlobals "numbers_named" = some (some (.ref f4)))
  (l4:LkF K f4 "numbers_named" "numbers_named" qu oc4 od4 kV4 dc4 pm4 an4 cd4 ct4 sl4) (c4:W.codeIn K cd4 "numbers_named" = true) (k4:W.keepIn K (.ref f4)=true)
  (a5:W.nsIn K mainGlobals "bodies_of" = some (some (.ref f5)))
  (l5:LkF K f5 "bodies_of" "bodies_of" zw oc5 od5 kV5 dc5 pm5 an5 cd5 ct5 sl5) (c5:W.codeIn K cd5 "bodies_of" = true) (k5:W.keepIn K (.ref f5)=true)
  (a6:W.nsIn K mainGlobals "all_statements" = some (some (.ref f6)))
  (l6:LkF K f6 "all_statements" "all_statements" ke oc6 od6 kV6 dc6 pm6 an6 cd6 ct6 sl6) (c6:W.codeIn K cd6 "all_statements" = true) (k6:W.keepIn K (.ref f6)=true)
  (a7:W.nsIn K mainGlobals "numbers_of" = some (some (.ref f7)))
  (l7:LkF K f7 "numbers_of" "numbers_of" qM oc7 od7 kV7 dc7 pm7 an7 cd7 ct7 sl7) (c7:W.codeIn K cd7 "numbers_of" = true) (k7:W.keepIn K (.ref f7)=true)
  (a8:W.nsIn K mainGlobals "set_to_nought" = some (some (.ref f8)))
  (l8:LkF K f8 "set_to_nought" "set_to_nought" qt oc8 od8 kV8 dc8 pm8 an8 cd8 ct8 sl8) (c8:W.codeIn K cd8 "set_to_nought" = true) (k8:W.keepIn K (.ref f8)=true)
  (a9:W.nsIn K mainGlobals "known" = some (some (.ref f9)))
  (l9:LkF K f9 "known" "known" zN oc9 od9 kV9 dc9 pm9 an9 cd9 ct9 sl9) (c9:W.codeIn K cd9 "known" = true) (k9:W.keepIn K (.ref f9)=true)
  (a10:W.nsIn K mainGlobals "first_way" = some (some (.ref f10)))
  (l10:LkF K f10 "first_way" "first_way" qU oc10 od10 kV10 dc10 pm10 an10 cd10 ct10 sl10) (c10:W.codeIn K cd10 "first_way" = true) (k10:W.keepIn K (.ref f10)=true)
  (a11:W.nsIn K mainGlobals "meet" = some (some (.ref f11)))
  (l11:LkF K f11 "meet" "meet" KN oc11 od11 kV11 dc11 pm11 an11 cd11 ct11 sl11) (c11:W.codeIn K cd11 "meet" = true) (k11:W.keepIn K (.ref f11)=true)
  (a12:W.nsIn K mainGlobals "behind_each" = some (some (.ref f12)))
  (l12:LkF K f12 "behind_each" "behind_each" qw oc12 od12 kV12 dc12 pm12 an12 cd12 ct12 sl12) (c12:W.codeIn K cd12 "behind_each" = true) (k12:W.keepIn K (.ref f12)=true)
  (a13:W.nsIn K mainGlobals "name_said" = some (some (.ref f13)))
  (l13:LkF K f13 "name_said" "name_said" zu oc13 od13 kV13 dc13 pm13 an13 cd13 ct13 sl13) (c13:W.codeIn K cd13 "name_said" = true) (k13:W.keepIn K (.ref f13)=true)
  (a14:W.nsIn K mainGlobals "place_said" = some (some (.ref f14)))
  (l14:LkF K f14 "place_said" "place_said" q4 oc14 od14 kV14 dc14 pm14 an14 cd14 ct14 sl14) (c14:W.codeIn K cd14 "place_said" = true) (k14:W.keepIn K (.ref f14)=true)
  (a15:W.nsIn K mainGlobals "term_said" = some (some (.ref f15)))
  (l15:LkF K f15 "term_said" "term_said" zt oc15 od15 kV15 dc15 pm15 an15 cd15 ct15 sl15) (c15:W.codeIn K cd15 "term_said" = true) (k15:W.keepIn K (.ref f15)=true)
  (a16:W.nsIn K mainGlobals "said" = some (some (.ref f16)))
  (l16:LkF K f16 "said" "said" jaA oc16 od16 kV16 dc16 pm16 an16 cd16 ct16 sl16) (c16:W.codeIn K cd16 "said" = true) (k16:W.keepIn K (.ref f16)=true)
  (a17:W.nsIn K mainGlobals "walk_call" = some (some (.ref f17)))
  (l17:LkF K f17 "walk_call" "walk_call" qg oc17 od17 kV17 dc17 pm17 an17 cd17 ct17 sl17) (c17:W.codeIn K cd17 "walk_call" = true) (k17:W.keepIn K (.ref f17)=true)
  (a18:W.nsIn K mainGlobals "turned" = some (some (.ref f18)))
  (l18:LkF K f18 "turned" "turned" JI oc18 od18 kV18 dc18 pm18 an18 cd18 ct18 sl18) (c18:W.codeIn K cd18 "turned" = true) (k18:W.keepIn K (.ref f18)=true)
  (a19:W.nsIn K mainGlobals "walk_if" = some (some (.ref f19)))
  (l19:LkF K f19 "walk_if" "walk_if" zM oc19 od19 kV19 dc19 pm19 an19 cd19 ct19 sl19) (c19:W.codeIn K cd19 "walk_if" = true) (k19:W.keepIn K (.ref f19)=true)
  (a20:W.nsIn K mainGlobals "walk_while" = some (some (.ref f20)))
  (l20:LkF K f20 "walk_while" "walk_while" qL oc20 od20 kV20 dc20 pm20 an20 cd20 ct20 sl20) (c20:W.codeIn K cd20 "walk_while" = true) (k20:W.keepIn K (.ref f20)=true)
  (a21:W.nsIn K mainGlobals "walk_statement" = some (some (.ref f21)))
  (l21:LkF K f21 "walk_statement" "walk_statement" kM oc21 od21 kV21 dc21 pm21 an21 cd21 ct21 sl21) (c21:W.codeIn K cd21 "walk_statement" = true) (k21:W.keepIn K (.ref f21)=true)
  (a22:W.nsIn K mainGlobals "walk_body" = some (some (.ref f22)))
  (l22:LkF K f22 "walk_body" "walk_body" qh oc22 od22 kV22 dc22 pm22 an22 cd22 ct22 sl22) (c22:W.codeIn K cd22 "walk_body" = true) (k22:W.keepIn K (.ref f22)=true)
  (a23:W.nsIn K mainGlobals "duties_of" = some (some (.ref f23)))
  (l23:LkF K f23 "duties_of" "duties_of" zv oc23 od23 kV23 dc23 pm23 an23 cd23 ct23 sl23) (c23:W.codeIn K cd23 "duties_of" = true) (k23:W.keepIn K (.ref f23)=true)
  (a24:W.nsIn K mainGlobals "procs_by_name" = some (some (.ref f24)))
  (l24:LkF K f24 "procs_by_name" "procs_by_name" kS oc24 od24 kV24 dc24 pm24 an24 cd24 ct24 sl24) (c24:W.codeIn K cd24 "procs_by_name" = true) (k24:W.keepIn K (.ref f24)=true)
  (a25:W.nsIn K mainGlobals "duties" = some (some (.ref f25)))
  (l25:LkF K f25 "duties" "duties" JJ oc25 od25 kV25 dc25 pm25 an25 cd25 ct25 sl25) (c25:W.codeIn K cd25 "duties" = true) (k25:W.keepIn K (.ref f25)=true)
  (a26:W.nsIn K mainGlobals "_law_cell" = some (some (.ref f26)))
  (l26:LkF K f26 "_law_cell" "_law_cell" jaC oc26 od26 kV26 dc26 pm26 an26 cd26 ct26 sl26) (c26:W.codeIn K cd26 "_law_cell" = true) (k26:W.keepIn K (.ref f26)=true)
  (a27:W.nsIn K mainGlobals "_law_if" = some (some (.ref f27)))
  (l27:LkF K f27 "_law_if" "_law_if" jbe oc27 od27 kV27 dc27 pm27 an27 cd27 ct27 sl27) (c27:W.codeIn K cd27 "_law_if" = true) (k27:W.keepIn K (.ref f27)=true)
  (a28:W.nsIn K mainGlobals "_law_said" = some (some (.ref f28)))
  (l28:LkF K f28 "_law_said" "_law_said" Yo oc28 od28 kV28 dc28 pm28 an28 cd28 ct28 sl28) (c28:W.codeIn K cd28 "_law_said" = true) (k28:W.keepIn K (.ref f28)=true)
  (a29:W.nsIn K mainGlobals "_law_over" = some (some (.ref f29)))
  (l29:LkF K f29 "_law_over" "_law_over" jaB oc29 od29 kV29 dc29 pm29 an29 cd29 ct29 sl29) (c29:W.codeIn K cd29 "_law_over" = true) (k29:W.keepIn K (.ref f29)=true)
  (a30:W.nsIn K mainGlobals "law" = some (some (.ref f30)))
  (l30:LkF K f30 "law" "law" J1 oc30 od30 kV30 dc30 pm30 an30 cd30 ct30 sl30) (c30:W.codeIn K cd30 "law" = true) (k30:W.keepIn K (.ref f30)=true)
  (aC0:W.nsIn K mainGlobals "Walk" = some (some (.ref C0))) (a31:W.findIn K (.ref C0) "__init__" = some (some (.ref f31))) (i31:W.isFn K (.ref f31)=true)
  (l31:LkF K f31 "__init__" "Walk.__init__" qF oc31 od31 kV31 dc31 pm31 an31 cd31 ct31 sl31) (c31:W.codeIn K cd31 "Walk.__init__" = true) (k31:W.keepIn K (.ref f31)=true)
  (pg0:W.plainGet K C0 Str.empty=true) (hd0:W.hasDictIn K C0=true) (po0:W.plainOver K C0=true) (sa0:W.findIn K (.ref C0) "__setattr__" = some (some (.builtin "object.__setattr__"))) (mk0:W.makesIn K C0=true) (kc0:W.keepIn K (.ref C0)=true)
  (n0_0:W.findIn K (.ref C0) "f" = some none)
  (n0_1:W.findIn K (.ref C0) "procs" = some none)
  (n0_2:W.findIn K (.ref C0) "met" = some none)
  {tkd:Tok} {CT CO CX CN:Addr} (dag:W.nsIn K mainGlobals "MOST_WAYS" = some (some (.int 16 tkd))) (dTM:W.nsIn K mainGlobals "TooMany" = some (some (.ref CT))) (dOE:W.nsIn K mainGlobals "OutlineError" = some (some (.ref CO))) (dTW:W.nsIn K mainGlobals "TooWide" = some (some (.ref CX))) (dNS:W.nsIn K mainGlobals "NoSet" = some (some (.ref CN))) (xTM:W.excIn K CT valB "ValueError.__new__" = true) (y1:W.isClsIn K CT=true) (y2:W.findIn K (.ref CT) "__getattribute__" = some (some (.builtin "BaseException.__getattribute__"))) (y3:W.findIn K (.ref CT) "__getattr__" = some none) (y4:W.findIn K (.ref CT) "__class__" = some (some (.builtin "object.__class__"))) (y5:W.mroIn K CT (.type "object")=some true) (y6:W.mroIn K CT (.type "BaseException")=some true) (t2:W.kitOne K (.ref CT) (.ref CO)=some true) (t3:W.kitOne K (.ref CT) (.ref CX)=some false) (t4:W.kitOne K (.ref CT) (.ref CN)=some false)
  (z0:W.nsIn K mainGlobals "len" = some none) (z1:W.nsIn K mainGlobals "max" = some none) (z2:W.nsIn K mainGlobals "min" = some none) (z3:W.nsIn K mainGlobals "all" = some none) (z4:W.nsIn K mainGlobals "isinstance" = some none) (z5:W.nsIn K mainGlobals "abs" = some none) (z6:W.nsIn K mainGlobals "sorted" = some none) (z7:W.nsIn K mainGlobals "int" = some none) (z8:W.nsIn K mainGlobals "str" = some none) (z9:W.nsIn K mainGlobals "bool" = some none) (z10:W.nsIn K mainGlobals "tuple" = some none) (z11:W.nsIn K mainGlobals "list" = some none) (z12:W.nsIn K mainGlobals "dict" = some none) (z13:W.nsIn K mainGlobals "range" = some none) (z14:W.nsIn K mainGlobals "set" = some none) (z15:W.nsIn K mainGlobals "enumerate" = some none) (z16:W.nsIn K mainGlobals "zip" = some none) :
  ∃ fd:FuncData,(∀ (s:Shared) (v:Value),BindsTo s fd ⟨[v],[]⟩ [("_law_script",v)])∧∀ base:Heap,K.In base→base.Ns mainGlobals mg→FnOk l.prog w K mg base CX0 26 fa fd ["_law_script"] (jaw K):=by
 have e:=hfa.symm.trans (W.mg_of X G a30)
 cases e
 have B:Free0 mg:=⟨W.mg_none_of X G z0,W.mg_none_of X G z1,W.mg_none_of X G z2,W.mg_none_of X G z3,W.mg_none_of X G z4,W.mg_none_of X G z5,W.mg_none_of X G z6,W.mg_none_of X G z7,W.mg_none_of X G z8,W.mg_none_of X G z9,W.mg_none_of X G z10,W.mg_none_of X G z11,W.mg_none_of X G z12,W.mg_none_of X G z13,W.mg_none_of X G z14⟩
 have Z_enumerate:mg "enumerate" = none:=W.mg_none_of X G z15
 have Z_zip:mg "zip" = none:=W.mg_none_of X G z16
 have G_ways:mg "MOST_WAYS" = some (.int 16 tkd):=W.mg_of X G dag
 have G_TooMany:mg "TooMany" = some (.ref CT):=W.mg_of X G dTM
 have G_OE:mg "OutlineError" = some (.ref CO):=W.mg_of X G dOE
 have G_TW:mg "TooWide" = some (.ref CX):=W.mg_of X G dTW
 have G_NS:mg "NoSet" = some (.ref CN):=W.mg_of X G dNS
 have U0:=jS (st:=qG) l0 c0 k0
 have b0:=U0.binds (ps:=["term"]) fun _ _ _ _ _ _ us hl=>match us,hl with | [_],_=>rfl
 have U1:=jS (st:=qv) l1 c1 k1
 have b1:=U1.binds (ps:=["claim"]) fun _ _ _ _ _ _ us hl=>match us,hl with | [_],_=>rfl
 have U2:=jS (st:=qf) l2 c2 k2
 have b2:=U2.binds (ps:=["claims"]) fun _ _ _ _ _ _ us hl=>match us,hl with | [_],_=>rfl
 have U3:=jS (st:=q5) l3 c3 k3
 have b3:=U3.binds (ps:=["statement"]) fun _ _ _ _ _ _ us hl=>match us,hl with | [_],_=>rfl
 have U4:=jS (st:=qu) l4 c4 k4
 have b4:=U4.binds (ps:=["statement"]) fun _ _ _ _ _ _ us hl=>match us,hl with | [_],_=>rfl
 have U5:=jS (st:=zw) l5 c5 k5
 have b5:=U5.binds (ps:=["statement"]) fun _ _ _ _ _ _ us hl=>match us,hl with | [_],_=>rfl
 have U6:=jS (st:=ke) l6 c6 k6
 have b6:=U6.binds (ps:=["body"]) fun _ _ _ _ _ _ us hl=>match us,hl with | [_],_=>rfl
 have U7:=jS (st:=qM) l7 c7 k7
 have b7:=U7.binds (ps:=["proc"]) fun _ _ _ _ _ _ us hl=>match us,hl with | [_],_=>rfl
 have U8:=jS (st:=qt) l8 c8 k8
 have b8:=U8.binds (ps:=["x"]) fun _ _ _ _ _ _ us hl=>match us,hl with | [_],_=>rfl
 have U9:=jS (st:=zN) l9 c9 k9
 have b9:=U9.binds (ps:=["claims"]) fun _ _ _ _ _ _ us hl=>match us,hl with | [_],_=>rfl
 have U10:=jS (st:=qU) l10 c10 k10
 have b10:=U10.binds (ps:=["proc"]) fun _ _ _ _ _ _ us hl=>match us,hl with | [_],_=>rfl
 have U11:=jS (st:=KN) l11 c11 k11
 have b11:=U11.binds (ps:=["walk","kind","path","ways","claims"]) fun _ _ _ _ _ _ us hl=>match us,hl with | [_,_,_,_,_],_=>rfl
 have U12:=jS (st:=qw) l12 c12 k12
 have b12:=U12.binds (ps:=["ways","rows"]) fun _ _ _ _ _ _ us hl=>match us,hl with | [_,_],_=>rfl
 have U13:=jS (st:=zu) l13 c13 k13
 have b13:=U13.binds (ps:=["name","names"]) fun _ _ _ _ _ _ us hl=>match us,hl with | [_,_],_=>rfl
 have U14:=jS (st:=q4) l14 c14 k14
 have b14:=U14.binds (ps:=["place","names"]) fun _ _ _ _ _ _ us hl=>match us,hl with | [_,_],_=>rfl
 have U15:=jS (st:=zt) l15 c15 k15
 have b15:=U15.binds (ps:=["term","names"]) fun _ _ _ _ _ _ us hl=>match us,hl with | [_,_],_=>rfl
 have U16:=jS (st:=jaA) l16 c16 k16
 have b16:=U16.binds (ps:=["claim","names"]) fun _ _ _ _ _ _ us hl=>match us,hl with | [_,_],_=>rfl
 have U17:=jS (st:=qg) l17 c17 k17
 have b17:=U17.binds (ps:=["walk","statement","ways","path"]) fun _ _ _ _ _ _ us hl=>match us,hl with | [_,_,_,_],_=>rfl
 have U18:=jS (st:=JI) l18 c18 k18
 have b18:=U18.binds (ps:=["least"]) fun _ _ _ _ _ _ us hl=>match us,hl with | [_],_=>rfl
 have U19:=jS (st:=zM) l19 c19 k19
 have b19:=U19.binds (ps:=["walk","statement","ways","path"]) fun _ _ _ _ _ _ us hl=>match us,hl with | [_,_,_,_],_=>rfl
 have U20:=jS (st:=qL) l20 c20 k20
 have b20:=U20.binds (ps:=["walk","statement","ways","path"]) fun _ _ _ _ _ _ us hl=>match us,hl with | [_,_,_,_],_=>rfl
 have U21:=jS (st:=kM) l21 c21 k21
 have b21:=U21.binds (ps:=["walk","statement","ways","path"]) fun _ _ _ _ _ _ us hl=>match us,hl with | [_,_,_,_],_=>rfl
 have U22:=jS (st:=qh) l22 c22 k22
 have b22:=U22.binds (ps:=["walk","body","ways","around"]) fun _ _ _ _ _ _ us hl=>match us,hl with | [_,_,_,_],_=>rfl
 have U23:=jS (st:=zv) l23 c23 k23
 have b23:=U23.binds (ps:=["proc","procs"]) fun _ _ _ _ _ _ us hl=>match us,hl with | [_,_],_=>rfl
 have U24:=jS (st:=kS) l24 c24 k24
 have b24:=U24.binds (ps:=["program"]) fun _ _ _ _ _ _ us hl=>match us,hl with | [_],_=>rfl
 have U25:=jS (st:=JJ) l25 c25 k25
 have b25:=U25.binds (ps:=["program"]) fun _ _ _ _ _ _ us hl=>match us,hl with | [_],_=>rfl
 have U26:=jS (st:=jaC) l26 c26 k26
 have b26:=U26.binds (ps:=["_law_script","_law_k"]) fun _ _ _ _ _ _ us hl=>match us,hl with | [_,_],_=>rfl
 have U27:=jS (st:=jbe) l27 c27 k27
 have b27:=U27.binds (ps:=["_law_cell_here","_law_many"]) fun _ _ _ _ _ _ us hl=>match us,hl with | [_,_],_=>rfl
 have U28:=jS (st:=Yo) l28 c28 k28
 have b28:=U28.binds (ps:=["_law_program"]) fun _ _ _ _ _ _ us hl=>match us,hl with | [_],_=>rfl
 have U29:=jS (st:=jaB) l29 c29 k29
 have b29:=U29.binds (ps:=["_law_factors"]) fun _ _ _ _ _ _ us hl=>match us,hl with | [_],_=>rfl
 have U30:=jS (st:=J1) l30 c30 k30
 have U31:=jS (st:=qF) l31 c31 k31
 have b31:=U31.binds (ps:=["self","f","procs"]) fun _ _ _ _ _ _ us hl=>match us,hl with | [_,_,_],_=>rfl
 have T_Walk:ClsW K C0:=⟨⟨pg0,hd0,po0,sa0⟩,n0_0,n0_1,n0_2⟩
 refine ⟨W.fnOf "law" "law" (yf J1) (qH J1) (jm J1) .none kV30 dc30 pm30 an30 cd30 ct30,fun s v=>.of_eq rfl,fun base _ _=>?_⟩
 have F_term_numbers:=Fn.mk' U0 b0 (W.mg_of X G a0) (jcI (P:=l.prog) (w:=w) (base:=base) U0)
 have F_claim_numbers:=Fn.mk' U1 b1 (W.mg_of X G a1) (jbn (P:=l.prog) (w:=w) (base:=base) U1 F_term_numbers)
 have F_claims_numbers:=Fn.mk' U2 b2 (W.mg_of X G a2) (ZZ (P:=l.prog) (w:=w) (base:=base) U2 F_claim_numbers)
 have F_own_claims:=Fn.mk' U3 b3 (W.mg_of X G a3) (jfr (P:=l.prog) (w:=w) (base:=base) U3)
 have F_numbers_named:=Fn.mk' U4 b4 (W.mg_of X G a4) (jcL (P:=l.prog) (w:=w) (base:=base) U4 B F_term_numbers F_claims_numbers F_own_claims)
 have F_bodies_of:=Fn.mk' U5 b5 (W.mg_of X G a5) (jbo (P:=l.prog) (w:=w) (base:=base) U5)
 have F_all_statements:=Ye (P:=l.prog) (w:=w) (base:=base) U6 b6 (W.mg_of X G a6) F_bodies_of 5
 have F_numbers_of:=Fn.mk' U7 b7 (W.mg_of X G a7) (Yv (P:=l.prog) (w:=w) (base:=base) (n:=5) U7 B F_claims_numbers F_all_statements F_numbers_named)
 have F_set_to_nought:=Fn.mk' U8 b8 (W.mg_of X G a8) (jbl (P:=l.prog) (w:=w) (base:=base) U8)
 have F_known:=Fn.mk' U9 b9 (W.mg_of X G a9) (jcO (P:=l.prog) (w:=w) (base:=base) U9)
 have F_first_way:=Fn.mk' U10 b10 (W.mg_of X G a10) (jcQ (P:=l.prog) (w:=w) (base:=base) (n:=5) U10 F_numbers_of F_set_to_nought F_known)
 have F_meet:=Fn.mk' U11 b11 (W.mg_of X G a11) (jcM (P:=l.prog) (w:=w) (base:=base) T_Walk U11 B Z_enumerate)
 have F_behind_each:=Fn.mk' U12 b12 (W.mg_of X G a12) (jbp (P:=l.prog) (w:=w) (base:=base) U12)
 have F_name_said:=Fn.mk' U13 b13 (W.mg_of X G a13) (Yw (P:=l.prog) (w:=w) (base:=base) U13)
 have F_place_said:=Fn.mk' U14 b14 (W.mg_of X G a14) (Ks (P:=l.prog) (w:=w) (base:=base) U14 F_name_said)
 have F_term_said:=Fn.mk' U15 b15 (W.mg_of X G a15) (Yu (P:=l.prog) (w:=w) (base:=base) U15 F_name_said F_place_said)
 have F_said:=Fn.mk' U16 b16 (W.mg_of X G a16) (jd8 (P:=l.prog) (w:=w) (base:=base) U16 F_name_said F_place_said F_term_said)
 have F_walk_call:=Fn.mk' U17 b17 (W.mg_of X G a17) (jcH (P:=l.prog) (w:=w) (base:=base) T_Walk U17 B Z_zip (Fn.mk' U11 b11 (W.mg_of X G a11) (jcN (P:=l.prog) (w:=w) (base:=base) T_Walk U11 B Z_enumerate)) F_behind_each F_said (Fn.mk' U9 b9 (W.mg_of X G a9) (KR (P:=l.prog) (w:=w) (base:=base) U9)))
 have F_turned:=Fn.mk' U18 b18 (W.mg_of X G a18) (jbk (P:=l.prog) (w:=w) (base:=base) U18)
 have F_walk_body:=JU (P:=l.prog) (w:=w) (base:=base) U22 b22 (W.mg_of X G a22) U21 b21 (W.mg_of X G a21) U19 b19 (W.mg_of X G a19) U20 b20 (W.mg_of X G a20) T_Walk B Z_enumerate G_ways G_TooMany xTM F_meet F_behind_each F_walk_call F_known (Fn.mk' U9 b9 (W.mg_of X G a9) (KR (P:=l.prog) (w:=w) (base:=base) U9)) F_turned 5
 have M_Walk:MkFn l.prog w K mg base _ "Walk" C0 _ _:=⟨f31,_,⟨mk0,a31,i31,kc0⟩,jd6 (P:=l.prog) (w:=w) (base:=base) T_Walk U31,b31,W.mg_of X G aC0⟩
 have F_duties_of:=FnX.mk' U23 b23 (W.mg_of X G a23) (Zi (n:=5) (P:=l.prog) (w:=w) (base:=base) T_Walk U23 M_Walk F_first_way F_walk_body F_meet)
 have F_procs_by_name:=Fn.mk' U24 b24 (W.mg_of X G a24) (jcK (P:=l.prog) (w:=w) (base:=base) U24)
 have F_duties:=FnX.mk' U25 b25 (W.mg_of X G a25) (jbm (n:=5) (P:=l.prog) (w:=w) (base:=base) U25 F_procs_by_name F_duties_of)
 have F_cell:=Fn.mk' U26 b26 (W.mg_of X G a26) (jeb (P:=l.prog) (w:=w) (base:=base) U26 B)
 have F_if:=Fn.mk' U27 b27 (W.mg_of X G a27) (jcP (P:=l.prog) (w:=w) (base:=base) U27 (Fn.mk' U27 b27 (W.mg_of X G a27) (jcP (P:=l.prog) (w:=w) (base:=base) U27 (Fn.mk' U27 b27 (W.mg_of X G a27) (jea (P:=l.prog) (w:=w) (base:=base) U27)))))
 have F_said:=Fn.mk' U28 b28 (W.mg_of X G a28) (jcJ (P:=l.prog) (w:=w) (base:=base) (n:=5) U28 B G_TooMany G_OE G_TW G_NS xTM ⟨y1,y2,y3,y4,y5,y6⟩ t2 t3 t4 F_duties)
 have F_over:=Fn.mk' U29 b29 (W.mg_of X G a29) (jd9 (P:=l.prog) (w:=w) (base:=base) U29)
 exact jfs U30 B F_cell F_if F_over F_said
theorem walk {l:PySem.W.OpenLaw} {q:Program} {loose:List Str} {XP:(Str→Option Value)→Heap→Prop} {YP:World→Heap→Prop} {d:DefRec} {K:Params→W.Frag} (hn:l.most=some 63) (hdf:d.params.defaults=[])
  (hY:∀ (w:World) (h:Heap),YP w h→(K w.params).In h)
  (F:∀ (w:World) (mg:Str→Option Value) (fa:Addr) (h:Heap),(K w.params).In h→h.Ns mainGlobals mg→mg d.name=some (.ref fa)→
   ∃ fd:FuncData,(∀ (s:Shared) (u:Value),BindsTo s fd ⟨[u],[]⟩ [("_law_script",u)])∧∀ base:Heap,(K w.params).In base→base.Ns mainGlobals mg→FnOk l.prog w (K w.params) mg base CX0 26 fa fd ["_law_script"] (jaw (K w.params))) :
  PySem.W.WalkO q loose XP YP l.row.toRowW d [] (fun f vs=>PySem.call f vs):=
 L2.walk_of (n:=63) (k:=26) (x:="_law_script") (CX:=fun _=>CX0) (sp:=fun w=>jaw (K w.params)) hn (by decide) hdf ⟨rfl,by decide,by decide⟩ hY F (fun _ _ a ns hl _ hS=>⟨a,ns,rfl,hS,hl,fun _=>rfl⟩) fun _ _ _ _ _ z=>z
end LW
namespace PySem.W.Fast
def tw10420734225372912436:=()
def tw10479685327495659710:=()
def tw10852493557071168765:=()
def tw11224373399290760211:=()
def tw11393070515222033516:=()
def tw11752268752259791210:=()
def tw11815779281128292935:=()
def tw11876842107221790936:=()
def tw11935089688246359602:=()
def tw12052959168661374805:=()
def tw12162804350692673436:=()
def tw12312610380584777441:=()
def tw12704057818665814853:=()
def tw12755251380442473456:=()
def tw13048165310567273452:=()
def tw13097557883068128373:=()
def tw13290851717324159579:=()
def tw13595152162792873907:=()
def tw142287236807096156:=()
def tw14299461359447318635:=()
def tw14404866534692065798:=()
def tw14464388382556168102:=()
def tw14487812016371716913:=()
def tw14584098327312507720:=()
def tw14643876230485303760:=()
def tw14827420152638506046:=()
def tw14901239826710028061:=()
def tw15091138100147110180:=()
def tw1518710007166990295:=()
def tw15854346699715507227:=()
def tw1594355005729506327:=()
def tw15992405851801253775:=()
def tw16050045761986852512:=()
def tw16186428624273340340:=()
def tw16452354861452169205:=()
def tw16512423644793986408:=()
def tw16618898605490347825:=()
def tw16846410516420416662:=()
def tw17308104293442916381:=()
def tw17325517092764380240:=()
def tw17509087230419540534:=()
def tw17665279752886206711:=()
def tw17694223554394482712:=()
def tw17861231616307587360:=()
def tw17878586645940788760:=()
def tw17932347439283873836:=()
def tw17999928786115453301:=()
def tw18026659772672185032:=()
def tw1812755155206591373:=()
def tw18191764802524812469:=()
def tw184643865057949303:=()
def tw1944171615953931217:=()
def tw1965850740460892124:=()
def tw2099650995841785690:=()
def tw2353327650840024148:=()
def tw2356766772509946579:=()
def tw266651651237464243:=()
def tw2979913596026480581:=()
def tw3114687391759235168:=()
def tw3136144167464830760:=()
def tw3371696158387107223:=()
def tw3499760921086159490:=()
def tw3515053454501191213:=()
def tw3884428320004455465:=()
def tw3945997304559586475:=()
def tw4285836664639071619:=()
def tw4303480511174622470:=()
def tw4314955692612438352:=()
def tw4854361398695409024:=()
def tw5056028662146229125:=()
def tw5120037135328592836:=()
def tw5194259432325269764:=()
def tw5292604305031502645:=()
def tw5335442700121187471:=()
def tw5596614493224838292:=()
def tw5597050912960253791:=()
def tw5687376406898590097:=()
def tw5699272029845615672:=()
def tw5728469228157782679:=()
def tw5853118799020257289:=()
def tw5984606914130816109:=()
def tw6001467553959592551:=()
def tw6169761434611430409:=()
def tw6176235497675469096:=()
def tw6252383076852566610:=()
def tw6395014731803450167:=()
def tw6491313914182014087:=()
def tw6788821398569656508:=()
def tw6996307975287766480:=()
def tw7147177416647238674:=()
def tw7310016819207975464:=()
def tw7473702602878019110:=()
def tw7715843634828954441:=()
def tw7810722837501326125:=()
def tw7894084926951185970:=()
def tw7894586026731226693:=()
def tw8092775287843828320:=()
def tw820075401029594203:=()
def tw8597088338658386461:=()
def tw8882988486462306945:=()
def tw8904139371375375598:=()
def tw8974134139176999625:=()
def tw9050037016500375147:=()
def tw90509798382453440:=()
def tw9143849674698364399:=()
def tw9165646826049960946:=()
def tw9309589943377447127:=()
def tw9518192140421619852:=()
def tw9725554593898849201:=()
def tw9977163906677689320:=()
end PySem.W.Fast
open PySem PySem.W PyProof.Rows
set_option maxRecDepth 100000 in
set_option maxHeartbeats 0 in
theorem PySem.Challenge.cw_outlineward_k65_too_many_ways_holds : PySem.Challenge.rw_outlineward_k65_too_many_ways.Holds := by
 w_on;o_law;k_head;(case hw=>w_witness2)
 k_fill
 refine LW.walk (l:=PySem.Challenge.rw_outlineward_k65_too_many_ways) rfl rfl (fun w h Y=>W.kIn_of Y) ?F
 case F=>
  intro w mg fa h KX G hmg
  refine' LW.all_mk KX G hmg ?_ ?_ ?_ ?_ ?_ ?_ ?_ ?_ ?_ ?_ ?_ ?_ ?_ ?_ ?_ ?_ ?_ ?_ ?_ ?_ ?_ ?_ ?_ ?_ ?_ ?_ ?_ ?_ ?_ ?_ ?_ ?_ ?_ ?_ ?_ ?_ ?_ ?_ ?_ ?_ ?_ ?_ ?_ ?_ ?_ ?_ ?_ ?_ ?_ ?_ ?_ ?_ ?_ ?_ ?_ ?_ ?_ ?_ ?_ ?_ ?_ ?_ ?_ ?_ ?_ ?_ ?_ ?_ ?_ ?_ ?_ ?_ ?_ ?_ ?_ ?_ ?_ ?_ ?_ ?_ ?_ ?_ ?_ ?_ ?_ ?_ ?_ ?_ ?_ ?_ ?_ ?_ ?_ ?_ ?_ ?_ ?_ ?_ ?_ ?_ ?_ ?_ ?_ ?_ ?_ ?_ ?_ ?_ ?_ ?_ ?_ ?_ ?_ ?_ ?_ ?_ ?_ ?_ ?_ ?_ ?_ ?_ ?_ ?_ ?_ ?_ ?_ ?_ ?_ ?_ ?_ ?_ ?_ ?_ ?_ ?_ ?_ ?_ ?_ ?_ ?_ ?_ ?_ ?_ ?_ ?_ ?_ ?_ ?_ ?_ ?_ ?_ ?_ ?_ ?_ ?_ ?_ ?_ ?_ ?_ ?_ ?_ ?_ ?_ ?_ ?_ ?_ ?_ ?_ ?_ ?_
  all_goals try ((try unfold LW.LkF);first | k_is | kit_is | (unfold L2.valB;k_exc) | rfl | decide +kernel)
