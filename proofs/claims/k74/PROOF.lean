import PyProof.Rows.All
import Wide.All
import OpenK.AllK
import Wide.FinOn
import Lean
import PyProof.EqAt
import PyProof.EqKinds
import PyProof.TupleCall
import PyProof.NeKinds
import KE.KEqDict
import KE.KDictSum
import PyProof.Rows.StrMul
import PyProof.Rows.SortStr
import PyProof.Rows.SortWalk
import KE.KSortTup
import PyProof.IsiH_list
import KE.KDictOf
import KE.KItemsList
import PyProof.SetKind
import PyProof.Rows.SetFrom
import PyProof.IsRules
import PyProof.EnumStmt
import PyProof.EnumFor
import PyProof.EnumMake
import PyProof.Rows.StrJoin2
import KE.KDictList
import PyProof.StrLawsJoin
import PyProof.ZipIter
import PyProof.DictCompW
import PyProof.DictUpdate
import PyProof.Rows.SortShellK
import PyProof.TupleKey
import PySem.Challenge.RW_outlineward_k74_calls_within_calls
set_option Elab.async false
set_option linter.all false
set_option maxRecDepth 100000
set_option maxHeartbeats 4000000
namespace L2
open PySem PySem.Spec PyProof.Rows
abbrev Key:=Sum Int Str
def Yz:Key→Value→Bool
 | .inl k,v=>Value.isInt k v
 | .inr x,v=>Value.isStrOf x v
def jhG (w:World):Key→Int
 | .inl k=>hashInt k
 | .inr x=>hashStr w x
theorem kI:∀ {k:Key} {v:Value},Yz k v=true→(∃ i t,k=Sum.inl i∧v=Value.int i t)∨(∃ x t,k=Sum.inr x∧v=Value.str x t)
 | .inl i,v,h=>by
  obtain ⟨t,e⟩:=Value.isInt_shape (k:=i) (v:=v) h
  exact .inl ⟨i,t,rfl,e⟩
 | .inr x,v,h=>by
  obtain ⟨t,e⟩:=Value.isStrOf_shape (x:=x) (v:=v) h
  exact .inr ⟨x,t,rfl,e⟩
theorem jcE (i:Int) (t:Tok):Yz (.inl i) (.int i t)=true:=by simp [Yz,Value.isInt]
theorem jcD (x:Str) (t:Tok):Yz (.inr x) (.str x t)=true:=by simp [Yz,Value.isStrOf]
theorem jgs (a b:Int):decide ((Sum.inl a:Key)=Sum.inl b)=(a == b):=by
 by_cases e:a=b
 ·subst e;simp
 ·have h:¬ (Sum.inl a:Key)=Sum.inl b:=fun q=>e (Sum.inl.inj q)
  rw [decide_eq_false h]
  exact (beq_eq_false_iff_ne.mpr e).symm
theorem jgp (a b:Str):decide ((Sum.inr a:Key)=Sum.inr b)=decide (a=b):=by
 by_cases e:a=b
 ·subst e;simp
 ·have h:¬ (Sum.inr a:Key)=Sum.inr b:=fun q=>e (Sum.inr.inj q)
  rw [decide_eq_false h,decide_eq_false e]
theorem jgr (a:Int) (b:Str):decide ((Sum.inl a:Key)=Sum.inr b)=false:=decide_eq_false (fun q=>nomatch q)
theorem jgq (a:Str) (b:Int):decide ((Sum.inr a:Key)=Sum.inl b)=false:=decide_eq_false (fun q=>nomatch q)
def kj (prog:Program) (w:World):PySem.KeyKind prog w Key where
 is:=Yz
 hash:=jhG w
 inj:=fun v a b ha hb=>by
  rcases kI ha with ⟨i,t,rfl,rfl⟩ | ⟨x,t,rfl,rfl⟩
  ·rcases kI hb with ⟨j,u,rfl,e⟩ | ⟨y,u,rfl,e⟩
   ·injection e with e1 _;rw [e1]
   ·exact nomatch e
  ·rcases kI hb with ⟨j,u,rfl,e⟩ | ⟨y,u,rfl,e⟩
   ·exact nomatch e
   ·injection e with e1 _;rw [e1]
 byValue:=fun k v h=>by
  rcases kI h with ⟨i,t,rfl,rfl⟩ | ⟨x,t,rfl,rfl⟩ <;> rfl
 pyHash:=fun hv h=>by
  rcases kI hv with ⟨i,t,rfl,rfl⟩ | ⟨x,t,rfl,rfl⟩
  ·exact wpAny_pyHash_int h
  ·exact wpAny_pyHash_str h
 eqBool:=fun hu hv h=>by
  rcases kI hu with ⟨i,t,rfl,rfl⟩ | ⟨x,t,rfl,rfl⟩
  ·rcases kI hv with ⟨j,u,rfl,rfl⟩ | ⟨y,u,rfl,rfl⟩
   ·rw [jgs] at h;exact wpAny_eqBool_int h
   ·rw [jgr] at h;exact SeqAt.EqAt.int_str i t y u _ _ _ _ h
  ·rcases kI hv with ⟨j,u,rfl,rfl⟩ | ⟨y,u,rfl,rfl⟩
   ·rw [jgq] at h;exact SeqAt.EqAt.str_int x t j u _ _ _ _ h
   ·rw [jgp] at h;exact wpAny_eqBool_str h
 «strs»:=fun k x t v h=>by
  rcases kI h with ⟨i,u,rfl,e⟩ | ⟨y,u,rfl,e⟩
  ·exact nomatch e
  ·injection e with e1 _
   subst e1
   cases v <;> rfl
theorem Z4 (prog:Program) (w:World) (i:Int) (t:Tok):(kj prog w).is (.inl i) (.int i t)=true:=jcE i t
theorem Z3 (prog:Program) (w:World) (x:Str) (t:Tok):(kj prog w).is (.inr x) (.str x t)=true:=jcD x t
open PySem PySem.Spec PyProof.Rows
inductive V where
 | non | bl (b:Bool) | int (i:Int) | str (x:Str) | byt (b:Array UInt8) | flt (b:UInt64) | ref (a:Addr) | ty (n:String)
 deriving DecidableEq
def RelV:V→Value→Prop
 | .non,u=>u=Value.none
 | .bl b,u=>u=Value.bool b
 | .int i,u=>∃ t,u=Value.int i t
 | .str x,u=>∃ t,u=Value.str x t
 | .byt b,u=>∃ t,u=Value.bytes b t
 | .flt b,u=>∃ t,u=Value.float b t
 | .ref a,u=>u=Value.ref a
 | .ty n,u=>u=Value.type n
abbrev Vals:List V→List Value→Prop:=Paired RelV
theorem Vals.length {xs:List V} {us:List Value} (r:Vals xs us):xs.length=us.length:=Paired.length r
theorem Vals.get:∀ {xs:List V} {us:List Value} {i:Nat} {x:V},Vals xs us→xs[i]?=some x→∃ u,us[i]?=some u∧RelV x u
 | _,_,_,_,.nil,e=>by simp at e
 | _,_,0,_,.cons r _,e=>by simp at e;subst e;exact ⟨_,rfl,r⟩
 | _,_,i+1,x,.cons _ t,e=>by
  obtain ⟨u,h1,h2⟩:=Vals.get (i:=i) (x:=x) t (by simpa using e)
  exact ⟨u,by simpa using h1,h2⟩
theorem Vals.set {x:V} {u:Value} (r:RelV x u):∀ {xs:List V} {us:List Value} (i:Nat),Vals xs us→Vals (xs.set i x) (us.set i u)
 | _,_,_,.nil=>.nil
 | _,_,0,.cons _ t=>.cons r t
 | _,_,i+1,.cons q t=>.cons q (Vals.set r i t)
theorem Vals.append:∀ {xs ys:List V} {us ws:List Value},Vals xs us→Vals ys ws→Vals (xs++ys) (us++ws)
 | _,_,_,_,.nil,s=>s
 | _,_,_,_,.cons r t,s=>.cons r (Vals.append t s)
theorem Vals.take:∀ {xs:List V} {us:List Value} (n:Nat),Vals xs us→Vals (xs.take n) (us.take n)
 | _,_,0,_=>.nil
 | _,_,_+1,.nil=>.nil
 | _,_,n+1,.cons r t=>.cons r (Vals.take n t)
theorem Vals.drop:∀ {xs:List V} {us:List Value} (n:Nat),Vals xs us→Vals (xs.drop n) (us.drop n)
 | _,_,0,r=>r
 | _,_,_+1,.nil=>.nil
 | _,_,n+1,.cons _ t=>Vals.drop n t
def RelO:Option V→Option Value→Prop
 | some v,some u=>RelV v u
 | none,none=>True
 | _,_=>False
def KV {κ:Type}:List (κ×V)→List (κ×Value)→Prop:=Paired fun (p:κ×V) (q:κ×Value)=>p.1=q.1∧RelV p.2 q.2
def kV:Key→V
 | .inl i=>.int i
 | .inr x=>.str x
inductive HO where
 | lst (xs:List V)
 | tup (xs:List V)
 | dK (kvs:List (Key×V)) | dT (kvs:List (List Key×V))
 | set (S:Int→Bool) (n:Nat)
 | ins (C dx:Addr) (fs:List (Str×V))
 | own (x:Addr)
 | xd (fs:List (Str×V))
 | met (f x:Addr)
 | rng (lo hi:Int)
 | frz (o:Obj) (u:HO)
 | tbl (ps:Array Value)
 | ext (φ:Heap→Prop)
abbrev Hp:=Addr→Option HO
def upd (H:Hp) (a:Addr) (o:HO):Hp:=fun b=>if b=a then some o else H b
theorem ja {H:Hp} {a:Addr} {o:HO}:upd H a o a=some o:=by unfold upd;rw [if_pos rfl]
theorem jg {H:Hp} {a b:Addr} {o:HO} (h:b≠a):upd H a o b=H b:=by unfold upd;rw [if_neg h]
theorem j4 {H:Hp} {a b:Addr} {o u:HO} (h:H a=some o) (h':H b=some u) (d:o≠u):a≠b:=by
 intro e;subst e;rw [h] at h';exact d (Option.some.inj h')
theorem jl {H:Hp} {a b:Addr} {o:HO} (h:H a=some o) (h':H b=none):a≠b:=by
 intro e;subst e;rw [h] at h';cases h'
section
variable (P:Program) (w:World)
def ObjOk (H:Hp) (h:Heap) (a:Addr):HO→Prop
 | .lst xs=>xs.length≤sizeLine∧∃ (its:List Value) (n:Nat),Vals xs its∧h.get? a=some { cls:=.type "list",data:=.seq its.toArray n }
 | .tup xs=>xs.length≤sizeLine∧∃ its:List Value,Vals xs its∧IsTup h a its.toArray
 | .dK kvs=>kvs.length≤sizeLine∧(a == sysModules)=false∧∃ vs,KV kvs vs∧h.DictOf (kj P w) a vs
 | .dT kvs=>kvs.length≤sizeLine∧(a == sysModules)=false∧∃ xs:List (List Key×Addr×Value),
   Paired (fun (p:List Key×V) (q:List Key×Addr×Value)=>p.1=q.1∧H q.2.1=some (.tup (p.1.map kV))∧RelV p.2 q.2.2) kvs xs∧
   ∃ o es ep,h.get? a=some o∧o.ExactDict∧o.data=.dict es ep∧es.toList=xs.map (entryOfKey (tupleKind (kj P w)))∧(xs.map (·.1)).Nodup
 | .set S n=>h.SetOf (intKind P w) a S n
 | .ins C dx fs=>H dx=some (.own a)∧fs.length≤1000∧dx≠a∧h.get? a=some (PySem.W.instObj C dx)∧
   ∃ mA,h.Ns1 dx mA∧(∀ f,RelO (fs.lookup f) (mA f))∧PySem.Within mA (fs.map (·.1))
 | .own _=>∃ o,h.get? a=some o
 | .xd fs=>∃ mA,h.Ns1 a mA∧∀ f,RelO (fs.lookup f) (mA f)
 | .rng lo hi=>∃ t u v,h.get? a=some { cls:=.type "range",data:=.fields #[.int lo t,.int hi u,.int 1 v] }
 | .frz o u=>h.get? a=some o∧ObjOk H h a u
 | .tbl ps=>h.get? a=some { cls:=.none,data:=.fields ps }
 | .met f x=>h.get? a=some (PySem.W.methodObj (.ref f) (.ref x))
 | .ext φ=>φ h∧(∃ o,h.get? a=some o)∧∀ h1 h2:Heap,φ h1→(∀ o,h1.get? a=some o→h2.get? a=some o)→φ h2
def HOk (H:Hp) (h:Heap):Prop:=∀ a o,H a=some o→ObjOk P w H h a o
end
section
variable {P:Program} {w:World} {H H':Hp} {h h':Heap} {a:Addr} {o:HO}
theorem ObjOk.lt (x:ObjOk P w H h a o):a < h.objs.size:=by
 cases o with
 | lst xs=>obtain ⟨_,_,_,_,e⟩:=x;exact Heap.lt_size e
 | tup xs=>obtain ⟨_,_,_,p⟩:=x;exact p.lt
 | dK kvs=>obtain ⟨_,_,_,_,o,_,_,e,_⟩:=x;exact Heap.lt_size e
 | dT kvs=>obtain ⟨_,_,_,_,o,_,_,e,_⟩:=x;exact Heap.lt_size e
 | set S n=>obtain ⟨o,_,_,_,e,_⟩:=x;exact Heap.lt_size e
 | ins C dx fs=>obtain ⟨_,_,_,e,_⟩:=x;exact Heap.lt_size e
 | own y=>obtain ⟨_,e⟩:=x;exact Heap.lt_size e
 | xd fs=>obtain ⟨_,⟨_,_,_,e,_⟩,_⟩:=x;exact Heap.lt_size e
 | rng lo hi=>obtain ⟨_,_,_,e⟩:=x;exact Heap.lt_size e
 | frz ob u=>obtain ⟨e,_⟩:=x;exact Heap.lt_size e
 | tbl ps=>exact Heap.lt_size (show h.get? a=some _ from x)
 | met f y=>exact Heap.lt_size (show h.get? a=some _ from x)
 | ext φ=>obtain ⟨_,⟨_,e⟩,_⟩:=x;exact Heap.lt_size e
theorem Paired.mapP {α β:Type} {F G:α→β→Prop}:∀ {l₁:List α} {l₂:List β},Paired F l₁ l₂→(∀ a b,F a b→G a b)→Paired G l₁ l₂
 | _,_,.nil,_=>.nil
 | _,_,.cons r t,f=>.cons (f _ _ r) (Paired.mapP t f)
theorem ObjOk.stay (x:ObjOk P w H h a o) (k:∀ b u,(b=a∨H b=some (.own a))→h.get? b=some u→h'.get? b=some u)
  (ho:∀ b,H b=some (.own a)→H' b=some (.own a)) (ht:∀ b xs,H b=some (.tup xs)→H' b=some (.tup xs)):ObjOk P w H' h' a o:=by
 induction o with
 | lst xs=>obtain ⟨z,its,n,r,e⟩:=x;exact ⟨z,its,n,r,k _ _ (.inl rfl) e⟩
 | tup xs=>obtain ⟨z,its,r,ob,e,c⟩:=x;exact ⟨z,its,r,ob,k _ _ (.inl rfl) e,c⟩
 | dK kvs=>obtain ⟨z,y,vs,r,ob,es,ep,e,c⟩:=x;exact ⟨z,y,vs,r,ob,es,ep,k _ _ (.inl rfl) e,c⟩
 | dT kvs=>
  obtain ⟨z,y,xs,r,ob,es,ep,e,c⟩:=x
  exact ⟨z,y,xs,Paired.mapP r fun p q z=>⟨z.1,ht _ _ z.2.1,z.2.2⟩,ob,es,ep,k _ _ (.inl rfl) e,c⟩
 | set S n=>obtain ⟨ob,es,ep,t,e,c⟩:=x;exact ⟨ob,es,ep,t,k _ _ (.inl rfl) e,c⟩
 | ins C dx fs=>
  obtain ⟨d,z,ne,e,mA,⟨od,es,ep,e2,c⟩,r⟩:=x
  exact ⟨ho _ d,z,ne,k _ _ (.inl rfl) e,mA,⟨od,es,ep,k _ _ (.inr d) e2,c⟩,r⟩
 | own y=>obtain ⟨ob,e⟩:=x;exact ⟨ob,k _ _ (.inl rfl) e⟩
 | xd fs=>obtain ⟨mA,⟨od,es,ep,e,c⟩,r⟩:=x;exact ⟨mA,⟨od,es,ep,k _ _ (.inl rfl) e,c⟩,r⟩
 | rng lo hi=>obtain ⟨t,u,v,e⟩:=x;exact ⟨t,u,v,k _ _ (.inl rfl) e⟩
 | frz ob u ih=>obtain ⟨e,q⟩:=x;exact ⟨k _ _ (.inl rfl) e,ih q⟩
 | tbl ps=>
  have e:h.get? a=some { cls:=.none,data:=.fields ps }:=x
  show h'.get? a=some { cls:=.none,data:=.fields ps }
  exact k a _ (.inl rfl) e
 | met f y=>
  have e:h.get? a=some (PySem.W.methodObj (.ref f) (.ref y)):=x
  show h'.get? a=some (PySem.W.methodObj (.ref f) (.ref y))
  exact k a _ (.inl rfl) e
 | ext φ=>obtain ⟨p,⟨o,e⟩,st⟩:=x;exact ⟨st _ _ p fun o q=>k _ _ (.inl rfl) q,⟨o,k _ _ (.inl rfl) e⟩,st⟩
theorem HOk.lt (x:HOk P w H h) (e:H a=some o):a < h.objs.size:=(x a o e).lt
theorem HOk.fresh (x:HOk P w H h) (e:h.objs.size≤a):H a=none:=by
 cases q:H a with
 | none=>rfl
 | some u=>exact absurd (Nat.lt_of_lt_of_le (x.lt q) e) (Nat.lt_irrefl _)
theorem HOk.kept (x:HOk P w H h) (k:∀ b u,h.get? b=some u→h'.get? b=some u):HOk P w H h':=fun a o e=>
 (x a o e).stay (fun b u _ q=>k b u q) (fun _ q=>q) fun _ _ q=>q
theorem HOk.laid (x:HOk P w H h) (k:∀ b u,h.get? b=some u→h'.get? b=some u) (hp:h.objs.size≤a) (new:ObjOk P w (upd H a o) h' a o):HOk P w (upd H a o) h':=fun b u e=>by
 have hn:=x.fresh hp
 by_cases hb:b=a
 ·subst hb;rw [ja] at e;cases e;exact new
 ·rw [jg hb] at e
  exact (x b u e).stay (fun c v _ q=>k c v q) (fun c q=>by rw [jg (jl q hn)];exact q) fun c xs q=>by rw [jg (jl q hn)];exact q
end
def Rd (H:Hp) (a:Addr) (u:HO):Prop:=H a=some u∨∃ o,H a=some (.frz o u)
theorem Rd.ok {P:Program} {w:World} {H:Hp} {h:Heap} {a:Addr} {u:HO} (r:Rd H a u) (x:HOk P w H h):ObjOk P w H h a u:=by
 rcases r with r | ⟨o,r⟩
 ·exact x a u r
 ·obtain ⟨_,q⟩:=x a _ r
  exact q
def Mut:Option HO→Prop
 | some (.lst _)=>True
 | some (.dK _)=>True
 | some (.dT _)=>True
 | some (.set _ _)=>True
 | some (.ins _ _ _)=>True
 | some (.ext _)=>True
 | _=>False
section
variable {P:Program} {w:World} {H:Hp} {h h':Heap} {x e:Addr} {o':HO}
theorem HOk.write (ok:HOk P w H h) (mu:Mut (H x)) (he:e=x∨H e=some (.own x)) (k:∀ b u,b≠e→h.get? b=some u→h'.get? b=some u) (heo:∃ u,h'.get? e=some u)
  (new:ObjOk P w (upd H x o') h' x o'):HOk P w (upd H x o') h':=fun b u q=>by
 have nown:∀ c y,H c=some (.own y)→c≠x:=fun c y r z=>by subst z;rw [r] at mu;exact mu
 have ntup:∀ c xs,H c=some (.tup xs)→c≠x:=fun c xs r z=>by subst z;rw [r] at mu;exact mu
 by_cases hb:b=x
 ·subst hb;rw [ja] at q;cases q;exact new
 ·rw [jg hb] at q
  by_cases hbe:b=e
  ·have q':H b=some (.own x):=by
    rcases he with z | z
    ·exact absurd (hbe.trans z) hb
    ·rw [hbe];exact z
   rw [q] at q';cases q'
   obtain ⟨v,hv⟩:=heo
   exact ⟨v,by rw [hbe];exact hv⟩
  ·refine (ok b u q).stay (fun c v hc r=>k c v ?_ r) (fun c r=>by rw [jg (nown c b r)];exact r) fun c xs r=>by rw [jg (ntup c xs r)];exact r
   rcases hc with rfl | hc
   ·exact hbe
   ·rintro rfl
    rcases he with z | z
    ·exact nown c b hc z
    ·rw [hc] at z;cases z;exact hb rfl
end
structure Un (fs ex:List Addr) (H H':Hp) (h h':Heap):Prop where
 keep:∀ b o,h.get? b=some o→H b=none→b ∉ fs→b ∉ ex→h'.get? b=some o
 slot:∀ b o,h.get? b=some o→H b=none→b∈fs→b ∉ ex→∃ sl,h'.get? b=some { o with slots:=sl }
 free:∀ b o,h.get? b=some o→H b=none→b ∉ ex→H' b=none
 there:∀ b o,h.get? b=some o→b ∉ ex→∃ o',h'.get? b=some o'
 tups:∀ b xs,H b=some (.tup xs)→H' b=some (.tup xs)
 frzs:∀ b o u,H b=some (.frz o u)→H' b=some (.frz o u)
 tbls:∀ b ps,H b=some (.tbl ps)→∃ more,H' b=some (.tbl (ps++more))
section
variable {fs fs' ex ex':List Addr} {H H1 H2:Hp} {h h1 h2 h':Heap} {a x e:Addr} {o:HO}
theorem Un.any (u:Un fs ex H H1 h h1) {b:Addr} {ob:Obj} (q:h.get? b=some ob) (n:H b=none) (hx:b ∉ ex):∃ sl,h1.get? b=some { ob with slots:=sl }:=by
 by_cases hb:b∈fs
 ·exact u.slot b ob q n hb hx
 ·exact ⟨ob.slots,u.keep b ob q n hb hx⟩
theorem Un.kept (k:∀ b u,h.get? b=some u→h'.get? b=some u):Un fs ex H H h h':=
 ⟨fun b ob q _ _ _=>k b ob q,fun b ob q _ _ _=>⟨ob.slots,k b ob q⟩,fun _ _ _ n _=>n,fun b ob q _=>⟨ob,k b ob q⟩,fun _ _ q=>q,fun _ _ _ q=>q,fun _ ps q=>⟨#[],by rw [q];simp⟩⟩
theorem Un.refl:Un fs ex H H h h:=Un.kept fun _ _ q=>q
theorem Un.laid (k:∀ b u,h.get? b=some u→h'.get? b=some u) (hp:h.objs.size≤a) (hn:H a=none):Un fs ex H (upd H a o) h h' where
 keep:=fun b u q _ _ _=>k b u q
 slot:=fun b u q _ _ _=>⟨u.slots,k b u q⟩
 free:=fun b u q n _=>by rw [jg (Nat.ne_of_lt (Nat.lt_of_lt_of_le (Heap.lt_size q) hp))];exact n
 there:=fun b u q _=>⟨u,k b u q⟩
 tups:=fun b xs q=>by rw [jg (jl q hn)];exact q
 frzs:=fun b u xs q=>by rw [jg (jl q hn)];exact q
 tbls:=fun b ps q=>⟨#[],by rw [jg (jl q hn),q];simp⟩
theorem Un.write (mu:Mut (H x)) (he:e=x∨H e=some (.own x)) (k:∀ b u,b≠e→h.get? b=some u→h'.get? b=some u) (heo:∃ u,h'.get? e=some u):Un fs ex H (upd H x o) h h':=by
 have hx:∀ b,H b=none→b≠x:=fun b n z=>by subst z;rw [n] at mu;exact mu
 have hb:∀ b,H b=none→b≠e:=fun b n z=>by
  subst z
  rcases he with r | r
  ·exact hx b n r
  ·rw [n] at r;cases r
 have hm:∀ b u,H b=some u→¬ Mut (some u)→b≠x:=fun b u q nm z=>by subst z;rw [q] at mu;exact nm mu
 refine ⟨fun b u q n _ _=>k b u (hb b n) q,fun b u q n _ _=>⟨u.slots,k b u (hb b n) q⟩,fun b u q n _=>by rw [jg (hx b n)];exact n,fun b u q _=>?_,
  fun b xs q=>by rw [jg (hm b _ q fun z=>z)];exact q,fun b u xs q=>by rw [jg (hm b _ q fun z=>z)];exact q,fun b ps q=>⟨#[],by rw [jg (hm b _ q fun z=>z),q];simp⟩⟩
 by_cases hbe:b=e
 ·subst hbe;exact heo
 ·exact ⟨u,k b u hbe q⟩
end
def trk (h:Heap) (H:Hp):List Addr:=(List.range h.objs.size).filter fun a=>(H a).isSome
def Zj (h:Heap) (H:Hp):Heap:=PySem.W.hideAll h (trk h H)
theorem jcJ (h:Heap) (H:Hp):(Zj h H).objs.size=h.objs.size:=PySem.W.hideAll_size _ _
theorem jd1 {h:Heap} {H:Hp} {b:Addr} {o:Obj} (e:h.get? b=some o) (n:H b=none):(Zj h H).get? b=some o:=
 PySem.W.hideAll_get _ e fun hm=>by
  have q:(H b).isSome=true:=(List.mem_filter.mp hm).2
  rw [n] at q;simp at q
theorem je5 {h:Heap} {H:Hp} {b:Addr} {o:Obj} (e:(Zj h H).get? b=some o):h.get? b=some o∧H b=none:=by
 have e':h.get? b=some o:=PySem.W.of_hideAll (trk h H) e
 refine ⟨e',?_⟩
 cases q:H b with
 | none=>rfl
 | some x=>
  have hm:b∈trk h H:=List.mem_filter.mpr ⟨List.mem_range.mpr (Heap.lt_size e'),by simp [q]⟩
  have z:(Zj h H).get? b=none:=PySem.W.hideAll_none (trk h H) hm
  rw [z] at e;cases e
def jfq (g h:Heap) (L:Addr):List (Addr×Obj):=(List.range h.objs.size).filterMap fun a=>if a=L∨(g.get? a).isSome=true then none else (h.get? a).map fun o=>(a,o)
def jv (g h:Heap) (L d:Addr):List (Addr×Obj):=(jfq g h L).filter fun p=>decide (p.1≠d)
open PySem PySem.Spec PyProof.Rows
structure Mod (K:PySem.W.Frag) (mg:Str→Option Value) (base:Heap):Prop where
 kin:K.In base
 glob:base.Ns mainGlobals mg
 blt:∃ mb,base.Ns builtinsNs mb∧∀ x:Str,x≠"__name__"→mb x=bootBuiltins x
 nolimit:base.NoLimit
structure Cx where
 prog:Program
 w:World
 K:PySem.W.Frag
 mg:Str→Option Value
 base:Heap
 A:Around
 N:List Str
 s₀:Shared
 H₀:Hp
 env:Env
 outer:List Env
 stack:List Env
 ex:List Addr
 fn:Str→Bool
 calm:Bool
 pn:List (Addr×Obj)
 xe:Value→Shared→Prop
def frs (l:List Env):List Addr:=l.filterMap (·.frame)
abbrev Cx.fs (X:Cx):List Addr:=frs X.outer
def Vis (sc:Scope) (x:Str):Prop:=sc.names.lookup x=some .local∨sc.names.lookup x=some .cell∨sc.names.lookup x=some .free
def Loc (sc:Scope) (x:Str):Prop:=sc.names.lookup x=some .local∨sc.names.lookup x=some .cell
def jhK (env:Env) (h:Heap) (m:Str→Option Value) (x:Str) (u:Value):Prop:=
 (env.kindOf x=some .local∧m x=some u)∨((env.kindOf x=some .cell∨env.kindOf x=some .free)∧∃ c,env.cells.lookup x=some c∧h.IsCell c (some u))
structure Cx.Ok (X:Cx):Prop where
 mod:Mod X.K X.mg X.base
 kind:X.env.scope.kind=.function
 glob:X.env.globals=mainGlobals
 blt:X.env.builtins=builtinsNs
 above:X.s₀.heap.objs.size≤X.env.locals
 inj:∀ x y c,X.env.cells.lookup x=some c→X.env.cells.lookup y=some c→x=y
 has:∀ x,(X.env.kindOf x=some .cell∨X.env.kindOf x=some .free)→∃ c,X.env.cells.lookup x=some c
 cab:∀ x c,X.fn x=true→X.env.cells.lookup x=some c→X.s₀.heap.objs.size≤c
 hd:X.calm=true→X.A.handled=none
 frames:X.A.frames=some X.stack
 stk:X.stack=X.outer∨(X.stack=X.env :: X.outer∧X.env.frame=some X.env.locals)
 exf:∀ b∈X.ex,b≠X.env.locals∧∀ x c,X.env.cells.lookup x=some c→c≠b
 bs:∀ b o,X.base.get? b=some o→X.s₀.heap.get? b=some o∧X.H₀ b=none
 bsz:X.base.objs.size≤X.s₀.heap.objs.size
 noex:∀ b o,X.base.get? b=some o→b ∉ X.ex
 exfs:∀ b∈X.ex,b ∉ X.fs
 funs:X.s₀.heap.FunFrames X.base X.outer
 frf:∀ b∈X.fs,X.H₀ b=none
structure Inv (X:Cx) (pins:List (Addr×Obj)) (σ:List (Option V)) (H:Hp) (s:Shared):Prop where
 ok:X.Ok
 os:s.os=X.s₀.os
 bare:AllBare s.gens
 base:Un X.fs X.ex X.H₀ H X.s₀.heap s.heap
 loc:∃ m,s.heap.Ns X.env.locals m∧∀ (i:Nat) (x:Str) (v:V),X.N[i]?=some x→σ[i]?=some (some v)→Vis X.env.scope x→∃ u,RelV v u∧jhK X.env s.heap m x u
 cell:∀ x c,X.env.cells.lookup x=some c→∃ v,s.heap.IsCell c v
 free:H X.env.locals=none
 freeC:∀ x c,X.env.cells.lookup x=some c→H c=none
 pin:∀ p∈X.pn++pins,s.heap.get? p.1=some p.2∧H p.1=none∧p.1≠X.env.locals∧p.1 ∉ X.fs∧∀ v,p.2.data≠.cell v
 hok:HOk X.prog X.w H s.heap
 len:σ.length=X.N.length
section
variable {X:Cx} {pins:List (Addr×Obj)} {σ:List (Option V)} {H H':Hp} {s:Shared} {h':Heap}
theorem Cx.Ok.nofr (ok:X.Ok) {b:Addr} {o:Obj} (e:X.base.get? b=some o):b ∉ X.fs:=fun hb=>by
 have:=(ok.funs.mem hb).1
 rw [e] at this;cases this
theorem Inv.bs (I:Inv X pins σ H s):∀ b o,X.base.get? b=some o→s.heap.get? b=some o∧H b=none:=fun b o e=>
 ⟨I.base.keep b o (I.ok.bs b o e).1 (I.ok.bs b o e).2 (I.ok.nofr e) (I.ok.noex b o e),I.base.free b o (I.ok.bs b o e).1 (I.ok.bs b o e).2 (I.ok.noex b o e)⟩
theorem Inv.bk (I:Inv X pins σ H s):∀ b o,X.base.get? b=some o→s.heap.get? b=some o:=fun b o e=>(I.bs b o e).1
theorem Inv.mod (I:Inv X pins σ H s):Mod X.K X.mg X.base:=I.ok.mod
theorem Inv.kIn (I:Inv X pins σ H s):X.K.In s.heap:=I.ok.mod.kin.keeps I.bk
theorem Inv.nolimit (I:Inv X pins σ H s):s.heap.NoLimit:=I.ok.mod.nolimit.keeps I.bk
theorem Inv.fr (I:Inv X pins σ H s):∃ m,Fr X.base X.env.locals s.heap m:=
 let ⟨m,hn,_⟩:=I.loc
 ⟨m,hn,I.bk,Nat.le_trans I.ok.bsz I.ok.above⟩
theorem Inv.lt (I:Inv X pins σ H s):X.env.locals < s.heap.objs.size:=let ⟨_,hn,_⟩:=I.loc;hn.lt
theorem Inv.sz (I:Inv X pins σ H s):X.s₀.heap.objs.size≤s.heap.objs.size:=Nat.le_trans I.ok.above (Nat.le_of_lt I.lt)
theorem Inv.nofs (I:Inv X pins σ H s) {a:Addr} (h:s.heap.objs.size≤a):a ∉ X.fs:=fun hb=>by
 obtain ⟨_,o,ho,_⟩:=I.ok.funs.mem hb
 exact absurd (Nat.lt_of_lt_of_le (Heap.lt_size ho) (Nat.le_trans I.sz h)) (Nat.lt_irrefl _)
theorem Inv.cne (I:Inv X pins σ H s):∀ x c,X.env.cells.lookup x=some c→c≠X.env.locals:=fun x c e z=>by
 obtain ⟨v,o,ho,hd⟩:=I.cell x c e
 obtain ⟨m,⟨o',es,ep,ho',hd',_⟩,_⟩:=I.loc
 rw [z,ho'] at ho;cases ho;rw [hd'] at hd;cases hd
theorem Inv.funs (I:Inv X pins σ H s):s.heap.FunFrames X.base X.outer:=by
 have all:∀ (l:List Env),(∀ b∈frs l,b∈X.fs)→X.s₀.heap.FunFrames X.base l→s.heap.FunFrames X.base l:=by
  intro l
  induction l with
  | nil=>intro _ _;trivial
  | cons env r ih=>
   intro hs hl
   obtain ⟨hk,⟨L,o,hf,hn,ho,hd⟩,hr⟩:=hl
   have hL:L∈X.fs:=hs L (by unfold frs;rw [List.filterMap_cons,hf];exact List.mem_cons_self)
   obtain ⟨sl,e⟩:=I.base.slot L o ho (I.ok.frf L hL) hL fun z=>I.ok.exfs L z hL
   exact ⟨hk,⟨L,_,hf,hn,e,hd⟩,ih (fun b hb=>hs b (by unfold frs;rw [List.filterMap_cons,hf];exact List.mem_cons_of_mem _ hb)) hr⟩
 exact all X.outer (fun _ hb=>hb) I.ok.funs
theorem Inv.stack (I:Inv X pins σ H s):s.heap.FunFrames X.base X.stack:=by
 rcases I.ok.stk with e | ⟨e,hf⟩
 ·rw [e];exact I.funs
 ·rw [e]
  obtain ⟨m,hn,_⟩:=I.loc
  refine .cons (by rw [I.ok.kind];decide) hf hn ?_ I.funs
  exact Heap.get?_none_of_le (Nat.le_trans I.ok.bsz I.ok.above)
theorem Inv.stkSub (I:Inv X pins σ H s):∀ b∈frs X.stack,b∈X.env.locals :: X.fs:=fun b hb=>by
 rcases I.ok.stk with e | ⟨e,hf⟩
 ·rw [e] at hb;exact List.mem_cons_of_mem _ hb
 ·rw [e] at hb
  unfold frs at hb
  rw [List.filterMap_cons,hf] at hb
  exact hb
theorem Inv.stkFree (I:Inv X pins σ H s):∀ b∈frs X.stack,H b=none:=fun b hb=>by
 rcases List.mem_cons.mp (I.stkSub b hb) with e | hb
 ·rw [e];exact I.free
 ·obtain ⟨_,o,ho,_⟩:=I.ok.funs.mem hb
  exact I.base.free b o ho (I.ok.frf b hb) fun z=>I.ok.exfs b z hb
theorem Inv.step {g':Array GenState} {t':Nat} {d':Drawn} {ch:List Addr} (I:Inv X pins σ H s)
  (hch:∀ b∈ch,(b∈X.ex∨X.s₀.heap.objs.size≤b)∧b≠X.env.locals∧(∀ x c,X.env.cells.lookup x=some c→c≠b)∧∀ p∈X.pn++pins,p.1≠b)
  (keep:∀ b o,b≠X.env.locals→b ∉ X.fs→b ∉ ch→s.heap.get? b=some o→H b=none→h'.get? b=some o)
  (slot:∀ b o,b≠X.env.locals→b∈X.fs→b ∉ ch→s.heap.get? b=some o→H b=none→∃ sl,h'.get? b=some { o with slots:=sl }) (free:∀ b o,b ∉ ch→s.heap.get? b=some o→H b=none→H' b=none)
  (there:∀ b o,b ∉ ch→s.heap.get? b=some o→∃ o',h'.get? b=some o')
  (tups:∀ b xs,H b=some (.tup xs)→H' b=some (.tup xs)) (frzs:∀ b o u,H b=some (.frz o u)→H' b=some (.frz o u)) (tbls:∀ b ps,H b=some (.tbl ps)→∃ more,H' b=some (.tbl (ps++more)))
  (ns:∀ m,s.heap.Ns X.env.locals m→h'.Ns X.env.locals m) (hok:HOk X.prog X.w H' h') (hg:AllBare g') :
  Inv X pins σ H' { s with heap:=h',gens:=g',drawn:=d',toks:=t' }:=by
 have neL:∀ b o,X.s₀.heap.get? b=some o→b≠X.env.locals:=fun b o e=>Nat.ne_of_lt (Nat.lt_of_lt_of_le (Heap.lt_size e) I.ok.above)
 have neC:∀ b o,X.s₀.heap.get? b=some o→b ∉ X.ex→b ∉ ch:=fun b o e hx hb=>by
  rcases (hch b hb).1 with z | z
  ·exact hx z
  ·exact absurd (Nat.lt_of_lt_of_le (Heap.lt_size e) z) (Nat.lt_irrefl _)
 have cellK:∀ x c,X.env.cells.lookup x=some c→∀ v,s.heap.IsCell c v→h'.IsCell c v:=fun x c e v ⟨o,ho,hd⟩=>by
  have nch:c ∉ ch:=fun z=>(hch c z).2.2.1 x c e rfl
  by_cases hc:c∈X.fs
  ·obtain ⟨sl,q⟩:=slot c o (I.cne x c e) hc nch ho (I.freeC x c e)
   exact ⟨_,q,hd⟩
  ·exact ⟨o,keep c o (I.cne x c e) hc nch ho (I.freeC x c e),hd⟩
 refine ⟨I.ok,I.os,hg,⟨fun b o e n hb hx=>?_,fun b o e n hb hx=>?_,fun b o e n hx=>?_,fun b o e hx=>?_,fun b xs e=>tups b xs (I.base.tups b xs e),fun b o xs e=>frzs b o xs (I.base.frzs b o xs e),fun b ps e=>?_⟩,?_,fun x c e=>?_,?_,fun x c e=>?_,fun p hp=>?_,hok,I.len⟩
 ·exact keep b o (neL b o e) hb (neC b o e hx) (I.base.keep b o e n hb hx) (I.base.free b o e n hx)
 ·obtain ⟨sl,e1⟩:=I.base.slot b o e n hb hx
  obtain ⟨sl',e2⟩:=slot b _ (neL b o e) hb (neC b o e hx) e1 (I.base.free b o e n hx)
  exact ⟨sl',e2⟩
 ·obtain ⟨o',e1⟩:=I.base.there b o e hx
  exact free b o' (neC b o e hx) e1 (I.base.free b o e n hx)
 ·obtain ⟨o',e1⟩:=I.base.there b o e hx
  exact there b o' (neC b o e hx) e1
 ·obtain ⟨m1,e1⟩:=I.base.tbls b ps e
  obtain ⟨m2,e2⟩:=tbls b _ e1
  exact ⟨m1++m2,by rw [e2,Array.append_assoc]⟩
 ·obtain ⟨m,hn,hl⟩:=I.loc
  refine ⟨m,ns m hn,fun i x v e1 e2 e3=>?_⟩
  obtain ⟨u,r,l⟩:=hl i x v e1 e2 e3
  refine ⟨u,r,?_⟩
  rcases l with l | ⟨k,c,e,z⟩
  ·exact .inl l
  ·exact .inr ⟨k,c,e,cellK x c e _ z⟩
 ·obtain ⟨v,z⟩:=I.cell x c e
  exact ⟨v,cellK x c e v z⟩
 ·obtain ⟨m,⟨o,_,_,ho,_⟩,_⟩:=I.loc
  exact free _ o (fun z=>(hch _ z).2.1 rfl) ho I.free
 ·obtain ⟨v,o,ho,hd⟩:=I.cell x c e
  exact free c o (fun z=>(hch c z).2.2.1 x c e rfl) ho (I.freeC x c e)
 ·obtain ⟨e,n,ne,nf,d⟩:=I.pin p hp
  have nch:p.1 ∉ ch:=fun z=>(hch p.1 z).2.2.2 p hp rfl
  exact ⟨keep p.1 p.2 ne nf nch e n,free p.1 p.2 nch e n,ne,nf,d⟩
theorem Inv.un {t':Nat} (I:Inv X pins σ H s) (u:Un X.fs [] H H' s.heap h') (hok:HOk X.prog X.w H' h'):Inv X pins σ H' { s with heap:=h',toks:=t' }:=by
 obtain ⟨m,⟨o,es,ep,ho,r⟩,_⟩:=id I.loc
 obtain ⟨sl,hL⟩:=u.any ho I.free (by simp)
 exact I.step (g':=s.gens) (d':=s.drawn) (ch:=[]) (fun _ z=>nomatch z) (fun b o _ hb _ e n=>u.keep b o e n hb (by simp)) (fun b o _ hb _ e n=>u.slot b o e n hb (by simp)) (fun b o _ e n=>u.free b o e n (by simp)) (fun b o _ e=>u.there b o e (by simp)) u.tups u.frzs u.tbls (fun m' hm=>by
  obtain ⟨o',es',ep',ho',r'⟩:=hm
  rw [ho] at ho';cases ho'
  exact ⟨_,es',ep',hL,r'⟩) hok I.bare
theorem Inv.call {g':Array GenState} {t':Nat} {d':Drawn} {ch:List Addr} (I:Inv X pins σ H s) (u:Un (frs X.stack) ch H H' s.heap h') (hok:HOk X.prog X.w H' h') (hg:AllBare g')
  (hch:∀ b∈ch,(b∈X.ex∨X.s₀.heap.objs.size≤b)∧b≠X.env.locals∧(∀ x c,X.env.cells.lookup x=some c→c≠b)∧∀ p∈X.pn++pins,p.1≠b) :
  Inv X pins σ H' { s with heap:=h',gens:=g',drawn:=d',toks:=t' }:=by
 obtain ⟨m,⟨o,es,ep,ho,r⟩,_⟩:=id I.loc
 obtain ⟨sl,hL⟩:=u.any ho I.free fun z=>(hch _ z).2.1 rfl
 exact I.step (ch:=ch) hch (fun b o hL hb hc e n=>u.keep b o e n (fun z=>(List.mem_cons.mp (I.stkSub b z)).elim hL hb) hc) (fun b o _ _ hc e n=>u.any e n hc) (fun b o hc e n=>u.free b o e n hc) (fun b o hc e=>u.there b o e hc) u.tups u.frzs u.tbls (fun m' hm=>by
  obtain ⟨o',es',ep',ho',r'⟩:=hm
  rw [ho] at ho';cases ho'
  exact ⟨_,es',ep',hL,r'⟩) hok hg
theorem Inv.turned {t':Nat} {it:Addr} (I:Inv X pins σ H s) (k:∀ b o,b≠it→s.heap.get? b=some o→h'.get? b=some o) (hn:H it=none) (hL:it≠X.env.locals)
  (h1:it∈X.ex∨X.s₀.heap.objs.size≤it) (h2:∀ x c,X.env.cells.lookup x=some c→c≠it) (h3:∀ p∈X.pn++pins,p.1≠it):Inv X pins σ H { s with heap:=h',toks:=t' }:=by
 have nit:∀ b u,H b=some u→b≠it:=fun b u e z=>by rw [z,hn] at e;cases e
 refine I.step (g':=s.gens) (d':=s.drawn) (ch:=[it]) (fun b hb=>?_) (fun b o _ _ hc e _=>k b o (fun z=>hc (by simp [z])) e) (fun b o _ _ hc e _=>⟨o.slots,k b o (fun z=>hc (by simp [z])) e⟩) (fun _ _ _ _ n=>n)
  (fun b o hc e=>⟨o,k b o (fun z=>hc (by simp [z])) e⟩) (fun _ _ e=>e) (fun _ _ _ e=>e) (fun b ps e=>⟨#[],by rw [e];simp⟩) (fun m hm=>?_) (fun b u e=>?_) I.bare
 ·have e:b=it:=by simpa using hb
  subst e
  exact ⟨h1,hL,h2,h3⟩
 ·obtain ⟨o,es,ep,ho,r⟩:=hm
  exact ⟨o,es,ep,k _ o (Ne.symm hL) ho,r⟩
 ·refine (I.hok b u e).stay (fun c v hc q=>k c v ?_ q) (fun _ q=>q) fun _ _ q=>q
  rcases hc with z | z
  ·rw [z];exact nit b u e
  ·exact nit c _ z
theorem Inv.tok (I:Inv X pins σ H s) (t:Nat):Inv X pins σ H { s with toks:=t }:=I.un (h':=s.heap) (t':=t) Un.refl I.hok
theorem Inv.kept {t':Nat} (I:Inv X pins σ H s) (k:∀ b u,s.heap.get? b=some u→h'.get? b=some u):Inv X pins σ H { s with heap:=h',toks:=t' }:=I.un (Un.kept k) (I.hok.kept k)
theorem Inv.laid {a:Addr} {o:HO} {t':Nat} (I:Inv X pins σ H s) (k:∀ b u,s.heap.get? b=some u→h'.get? b=some u) (hp:s.heap.objs.size≤a) (new:ObjOk X.prog X.w (upd H a o) h' a o) :
  Inv X pins σ (upd H a o) { s with heap:=h',toks:=t' }:=I.un (Un.laid k hp (I.hok.fresh hp)) (I.hok.laid k hp new)
theorem Inv.write {x e:Addr} {o:HO} {t':Nat} (I:Inv X pins σ H s) (mu:Mut (H x)) (he:e=x∨H e=some (.own x)) (k:∀ b u,b≠e→s.heap.get? b=some u→h'.get? b=some u) (heo:∃ u,h'.get? e=some u)
  (new:ObjOk X.prog X.w (upd H x o) h' x o):Inv X pins σ (upd H x o) { s with heap:=h',toks:=t' }:=I.un (Un.write mu he k heo) (I.hok.write mu he k heo new)
theorem Inv.pins_of {pins':List (Addr×Obj)} (I:Inv X pins σ H s) (h:∀ p∈pins',s.heap.get? p.1=some p.2∧H p.1=none∧p.1≠X.env.locals∧p.1 ∉ X.fs∧∀ v,p.2.data≠.cell v):Inv X pins' σ H s:=
 ⟨I.ok,I.os,I.bare,I.base,I.loc,I.cell,I.free,I.freeC,fun p hp=>(List.mem_append.mp hp).elim (fun z=>I.pin p (List.mem_append_left _ z)) (h p),I.hok,I.len⟩
theorem ZZ {N:List Str} (hN:N.Nodup) {i j:Nat} {x:Str} (a:N[i]?=some x) (b:N[j]?=some x):i=j:=by
 obtain ⟨h1,e1⟩:=List.getElem?_eq_some_iff.mp a
 obtain ⟨h2,e2⟩:=List.getElem?_eq_some_iff.mp b
 exact (List.getElem_inj hN).mp (e1.trans e2.symm)
theorem Yj {M:Model} {A:Around} {E:Value→Shared→Prop} {i:Nat} {x:Str} {v:V} {u:Value} {Q:Unit→Shared→Prop} (I:Inv X pins σ H s) (hN:X.N.Nodup) (hi:X.N[i]?=some x) (hx:Loc X.env.scope x) (r:RelV v u)
  (h:∀ s',Inv X pins (σ.set i (some v)) H s'→(∃ a,Heap.SameBut a s.heap s'.heap∧(a=X.env.locals∨X.env.cells.lookup x=some a))→Q () s') (hf:X.fn x=true∨X.env.scope.names.lookup x=some .local:=by first | exact .inl rfl | exact .inr rfl | assumption):wpAny M A (storeName X.env x u) Q E s:=by
 obtain ⟨m,hn,hl⟩:=id I.loc
 have hcls:(X.env.scope.kind == .class || (X.env.scope.kind == .module && X.env.locals != X.env.globals))=false:=by rw [I.ok.kind];rfl
 have hiσ:i < σ.length:=by rw [I.len];exact (List.getElem?_eq_some_iff.mp hi).1
 have cne:=I.cne
 have tracked:∀ {a:Addr} {h':Heap},(∃ o,s.heap.get? a=some o∧H a=none)→Heap.SameBut a s.heap h'→HOk X.prog X.w H h':=fun {a h'} ha hs b ob e=>by
  obtain ⟨_,_,hfree⟩:=ha
  refine (I.hok b ob e).stay (fun c w' hc q=>(hs.2 c ?_).trans q) (fun _ q=>q) fun _ _ q=>q
  rintro rfl
  rcases hc with rfl | hc
  ·rw [hfree] at e;cases e
  ·rw [hfree] at hc;cases hc
 rcases hx with hk | hk
 ·refine wpAny_storeName_local hk hn (fun h' hn' hs=>?_) hcls
  obtain ⟨oL,_,_,hoL,_⟩:=id hn
  refine h _ ⟨I.ok,I.os,I.bare,⟨fun b o e n hb hx=>?_,fun b o e n hb hx=>?_,I.base.free,fun b o e hx=>?_,I.base.tups,I.base.frzs,I.base.tbls⟩,⟨_,hn',fun j y v' e1 e2 e3=>?_⟩,fun y c e=>?_,I.free,I.freeC,fun p hp=>?_,tracked ⟨oL,hoL,I.free⟩ hs,by simpa using I.len⟩ ⟨_,hs,.inl rfl⟩
  ·exact (hs.2 b (Nat.ne_of_lt (Nat.lt_of_lt_of_le (Heap.lt_size e) I.ok.above))).trans (I.base.keep b o e n hb hx)
  ·obtain ⟨sl,e1⟩:=I.base.slot b o e n hb hx
   exact ⟨sl,(hs.2 b (Nat.ne_of_lt (Nat.lt_of_lt_of_le (Heap.lt_size e) I.ok.above))).trans e1⟩
  ·obtain ⟨o',e1⟩:=I.base.there b o e hx
   exact ⟨o',(hs.2 b (Nat.ne_of_lt (Nat.lt_of_lt_of_le (Heap.lt_size e) I.ok.above))).trans e1⟩
  ·by_cases hj:j=i
   ·subst hj
    rw [hi] at e1;cases e1
    rw [List.getElem?_set_self hiσ] at e2
    cases e2
    exact ⟨u,r,.inl ⟨hk,by simp⟩⟩
   ·rw [List.getElem?_set_ne (Ne.symm hj)] at e2
    obtain ⟨u',r',q⟩:=hl j y v' e1 e2 e3
    refine ⟨u',r',?_⟩
    rcases q with ⟨k,e⟩ | ⟨k,c,e,z⟩
    ·refine .inl ⟨k,?_⟩
     have:y≠x:=fun e=>hj (ZZ hN e1 (e ▸ hi))
     simp [this,e]
    ·exact .inr ⟨k,c,e,z.sameBut hs (cne y c e)⟩
  ·obtain ⟨w',z⟩:=I.cell y c e
   exact ⟨w',z.sameBut hs (cne y c e)⟩
  ·obtain ⟨e,n,ne,nf,d⟩:=I.pin p hp
   exact ⟨(hs.2 p.1 ne).trans e,n,ne,nf,d⟩
 ·have hfn:X.fn x=true:=by
   rcases hf with z | z
   ·exact z
   ·rw [z] at hk;cases hk
  obtain ⟨c,hc⟩:=I.ok.has x (.inl hk)
  obtain ⟨w',z⟩:=I.cell x c hc
  refine wpAny_storeName_cell I.ok.kind hk hc z (fun h' hc' hs=>?_)
  obtain ⟨oc,hoc,hocd⟩:=id z
  refine h { s with heap:=h' } ⟨I.ok,I.os,I.bare,⟨fun b o e n hb hx=>?_,fun b o e n hb hx=>?_,I.base.free,fun b o e hx=>?_,I.base.tups,I.base.frzs,I.base.tbls⟩,⟨m,hn.sameBut hs (Ne.symm (cne x c hc)),fun j y v' e1 e2 e3=>?_⟩,fun y c' e=>?_,I.free,I.freeC,fun p hp=>?_,tracked ⟨oc,hoc,I.freeC x c hc⟩ hs,by simpa using I.len⟩ ⟨c,hs,.inr hc⟩
  ·exact (hs.2 b (Nat.ne_of_lt (Nat.lt_of_lt_of_le (Heap.lt_size e) (I.ok.cab x c hfn hc)))).trans (I.base.keep b o e n hb hx)
  ·obtain ⟨sl,e1⟩:=I.base.slot b o e n hb hx
   exact ⟨sl,(hs.2 b (Nat.ne_of_lt (Nat.lt_of_lt_of_le (Heap.lt_size e) (I.ok.cab x c hfn hc)))).trans e1⟩
  ·obtain ⟨o',e1⟩:=I.base.there b o e hx
   exact ⟨o',(hs.2 b (Nat.ne_of_lt (Nat.lt_of_lt_of_le (Heap.lt_size e) (I.ok.cab x c hfn hc)))).trans e1⟩
  ·by_cases hj:j=i
   ·subst hj
    rw [hi] at e1;cases e1
    rw [List.getElem?_set_self hiσ] at e2
    cases e2
    exact ⟨u,r,.inr ⟨.inl hk,c,hc,hc'⟩⟩
   ·rw [List.getElem?_set_ne (Ne.symm hj)] at e2
    obtain ⟨u',r',q⟩:=hl j y v' e1 e2 e3
    refine ⟨u',r',?_⟩
    rcases q with q | ⟨k,c',e,z'⟩
    ·exact .inl q
    ·refine .inr ⟨k,c',e,z'.sameBut hs ?_⟩
     rintro rfl
     exact hj (ZZ hN e1 (I.ok.inj _ _ _ e hc ▸ hi))
  ·by_cases hcc:c'=c
   ·subst hcc;exact ⟨_,hc'⟩
   ·obtain ⟨w2,z2⟩:=I.cell y c' e
    exact ⟨w2,z2.sameBut hs hcc⟩
  ·obtain ⟨e,n,ne,nf,d⟩:=I.pin p hp
   refine ⟨(hs.2 p.1 ?_).trans e,n,ne,nf,d⟩
   intro q
   rw [q,hoc] at e
   have q':oc=p.2:=Option.some.inj e
   exact d w' (by rw [← q'];exact hocd)
theorem ym {M:Model} {A:Around} {E:Value→Shared→Prop} {i:Nat} {x:Str} {v:V} {u:Value} {Q:Unit→Shared→Prop} (I:Inv X pins σ H s) (hN:X.N.Nodup) (hi:X.N[i]?=some x) (hx:Loc X.env.scope x) (r:RelV v u)
  (h:∀ s',Inv X pins (σ.set i (some v)) H s'→Q () s') (hf:X.fn x=true∨X.env.scope.names.lookup x=some .local:=by first | exact .inl rfl | exact .inr rfl | assumption):wpAny M A (storeName X.env x u) Q E s:=
 Yj I hN hi hx r (fun s' I' _=>h s' I') hf
theorem Inv.call' {s':Shared} {ch:List Addr} (I:Inv X pins σ H s) (ho:s'.os=s.os) (u:Un (frs X.stack) ch H H' s.heap s'.heap) (hok:HOk X.prog X.w H' s'.heap) (hg:AllBare s'.gens)
  (hch:∀ b∈ch,(b∈X.ex∨X.s₀.heap.objs.size≤b)∧b≠X.env.locals∧(∀ x c,X.env.cells.lookup x=some c→c≠b)∧∀ p∈X.pn++pins,p.1≠b):Inv X pins σ H' s':=by
 obtain ⟨h',g',d',t',o'⟩:=s'
 have e:o'=s.os:=ho
 subst e
 exact I.call (g':=g') (t':=t') (d':=d') u hok hg hch
end
abbrev XK:=Value→Option Addr→Hp→Prop
abbrev St:=List (Option V)
abbrev VK:=V→Hp→Prop
abbrev TE:=St→Hp→VK→Prop
abbrev TT:=St→Hp→(Bool→Hp→Prop)→Prop
abbrev TA:=St→Hp→(List V→Hp→Prop)→Prop
structure Ends where
 nx:St→Hp→Prop
 rt:VK
 bk:St→Hp→Prop:=fun _ _=>False
 ct:St→Hp→Prop:=fun _ _=>False
abbrev TS:=Ends→St→Hp→Prop
def EP (X:Cx) (pins:List (Addr×Obj)) (σ:St) (Q:VK) (u:Value) (s':Shared):Prop:=∃ v H',Inv X pins σ H' s'∧RelV v u∧Q v H'
def TP (X:Cx) (pins:List (Addr×Obj)) (σ:St) (Q:Bool→Hp→Prop) (b:Bool) (s':Shared):Prop:=∃ H',Inv X pins σ H' s'∧Q b H'
def AP (X:Cx) (pins:List (Addr×Obj)) (σ:St) (Q:List V→Hp→Prop) (us:List Value) (s':Shared):Prop:=∃ vs H',Inv X pins σ H' s'∧Vals vs us∧Q vs H'
def SP (X:Cx) (pins:List (Addr×Obj)) (D:Ends) (f:Flow) (s':Shared):Prop:=
 match f with
 | .next=>∃ σ' H',Inv X pins σ' H' s'∧D.nx σ' H'
 | .brk=>∃ σ' H',Inv X pins σ' H' s'∧D.bk σ' H'
 | .cont=>∃ σ' H',Inv X pins σ' H' s'∧D.ct σ' H'
 | .ret u=>∃ v σ' H',Inv X pins σ' H' s'∧RelV v u∧D.rt v H'
def PE (X:Cx) (e:Expr) (t:TE):Prop:=
 ∀ (pins:List (Addr×Obj)) (s:Shared) (σ:St) (H:Hp) (Q:VK),Inv X pins σ H s→t σ H Q→wpAny (model X.prog X.w) X.A (eval e X.env) (EP X pins σ Q) X.xe s
def PT (X:Cx) (e:Expr) (t:TT):Prop:=
 ∀ (pins:List (Addr×Obj)) (s:Shared) (σ:St) (H:Hp) (Q:Bool→Hp→Prop),Inv X pins σ H s→t σ H Q→wpAny (model X.prog X.w) X.A (isTrue e X.env (eval e X.env)) (TP X pins σ Q) X.xe s
def PW (X:Cx) (e:Expr) (t:TT):Prop:=
 ∀ (whole:Sem Value) (pins:List (Addr×Obj)) (s:Shared) (σ:St) (H:Hp) (Q:Bool→Hp→Prop),Inv X pins σ H s→t σ H Q→wpAny (model X.prog X.w) X.A (isTrue e X.env whole) (TP X pins σ Q) X.xe s
theorem PW.pt {X:Cx} {e:Expr} {t:TT} (h:PW X e t):PT X e t:=h _
def PA (X:Cx) (es:List Expr) (t:TA):Prop:=
 ∀ (pos:Pos) (pins:List (Addr×Obj)) (s:Shared) (σ:St) (H:Hp) (Q:List V→Hp→Prop),Inv X pins σ H s→t σ H Q→wpAny (model X.prog X.w) X.A (spliced (backTo pos (starEach es X.env))) (AP X pins σ Q) X.xe s
def PS (X:Cx) (st:Stmt) (t:TS):Prop:=
 ∀ (pins:List (Addr×Obj)) (s:Shared) (σ:St) (H:Hp) (D:Ends),Inv X pins σ H s→t D σ H→wpAny (model X.prog X.w) X.A (exec st X.env) (SP X pins D) X.xe s
def PSs (X:Cx) (st:List Stmt) (t:TS):Prop:=
 ∀ (pins:List (Addr×Obj)) (s:Shared) (σ:St) (H:Hp) (D:Ends),Inv X pins σ H s→t D σ H→wpAny (model X.prog X.w) X.A (execs st X.env) (SP X pins D) X.xe s
theorem thn {α:Type} {t:Sem α} {Q Q':α→Shared→Prop} {M:Model} {A:Around} {E:Value→Shared→Prop} {s:Shared} (h:wpAny M A t Q E s) (hQ:∀ a s,Q a s→Q' a s):wpAny M A t Q' E s:=wpAny_mono h hQ fun _ _ x=>x
open PySem PySem.Spec PyProof.Rows
section
variable {X:Cx}
theorem bin {a b:Expr} {ta tb:TE} (ha:PE X a ta) (hb:PE X b tb) {pins:List (Addr×Obj)} {s:Shared} {σ:St} {H:Hp} {R:V→V→Hp→Prop} (I:Inv X pins σ H s) (h:ta σ H fun x H1=>tb σ H1 fun y H2=>R x y H2)
  {α:Type} {Q:α→Shared→Prop} {f:Value→Value→Sem α}
  (hf:∀ v u s2 x y H2,Inv X pins σ H2 s2→RelV x v→RelV y u→R x y H2→wpAny (model X.prog X.w) X.A (f v u) Q X.xe s2) :
  wpAny (model X.prog X.w) X.A (eval a X.env) (fun v s₁=>wpAny (model X.prog X.w) X.A (eval b X.env) (fun u s₂=>wpAny (model X.prog X.w) X.A (f v u) Q X.xe s₂) X.xe s₁) X.xe s:=by
 refine thn (ha pins s σ H _ I h) fun v s1 ⟨x,H1,I1,r1,q1⟩=>?_
 refine thn (hb pins s1 σ H1 _ I1 q1) fun u s2 ⟨y,H2,I2,r2,q2⟩=>?_
 exact hf v u s2 x y H2 I2 r1 r2 q2
def jfS (i:Nat):TE:=fun σ H Q=>∃ v,σ[i]?=some (some v)∧Q v H
def tC (v:V):TE:=fun _ H Q=>Q v H
theorem jdw {i:Nat} {x:Str} {pos:Pos} (hN:X.N[i]?=some x) (hv:Vis X.env.scope x) (hd:(x == ("__debug__" : Str))=false:=by decide) (hcd:(x == ("__classdict__" : Str))=false:=by decide):PE X (.Name x pos) (jfS i):=by
 intro pins s σ H Q I h
 obtain ⟨v,e,h⟩:=h
 obtain ⟨m,hn,hl⟩:=I.loc
 obtain ⟨u,r,l⟩:=hl i x v hN e hv
 have fin:EP X pins σ Q u s:=⟨v,H,I,r,h⟩
 rcases l with ⟨hk,hm⟩ | ⟨hk,c,hc,hcell⟩
 ·exact wpAny_Name (wpAny_loadName_local I.ok.kind hk hn hm fin) hd
 ·rcases hk with hk | hk
  ·exact wpAny_Name (wpAny_loadName_cell I.ok.kind hk hc hcell fin) hd
  ·exact wpAny_Name (wpAny_loadName_free I.ok.kind hk hc hcell fin hcd) hd
theorem jm {i j pos}:PE X (.Constant (.int i) j pos) (tC (.int i)):=fun _ _ _ H _ I h=>wpAny_Constant_int ⟨.int i,H,I.tok _,⟨_,rfl⟩,h⟩
theorem jg7 {b j pos}:PE X (.Constant (.bool b) j pos) (tC (.bl b)):=fun _ _ _ H _ I h=>Constant_bool ⟨.bl b,H,I,rfl,h⟩
theorem jdx {j pos}:PE X (.Constant .none j pos) (tC .non):=fun _ _ _ H _ I h=>Constant_none ⟨.non,H,I,rfl,h⟩
theorem kJ {x j pos}:PE X (.Constant (.str x) j pos) (tC (.str x)):=fun _ _ _ H _ I h=>Calls.Constant_str ⟨.str x,H,I.tok _,⟨_,rfl⟩,h⟩
def Gl (X:Cx) (x:Str):Prop:=X.env.kindOf x=some .globalImplicit
theorem Zc {E:Value→Shared→Prop} {pins:List (Addr×Obj)} {s:Shared} {σ:St} {H:Hp} {x:Str} {u:Value} {pos:Pos} {Q:Value→Shared→Prop} (I:Inv X pins σ H s) (hg:Gl X x) (hm:X.mg x=some u) (h:Q u s)
  (hd:(x == ("__debug__" : Str))=false:=by decide):wpAny (model X.prog X.w) X.A (eval (.Name x pos) X.env) Q E s:=
 Calls.Name_function_global I.ok.kind hg (Calls.loadGlobal_global (by rw [I.ok.glob];exact I.mod.glob.keeps I.bk) hm h) hd
theorem yw {E:Value→Shared→Prop} {pins:List (Addr×Obj)} {s:Shared} {σ:St} {H:Hp} {x:Str} {u:Value} {pos:Pos} {Q:Value→Shared→Prop} (I:Inv X pins σ H s) (hg:Gl X x) (hm:X.mg x=none) (hv:bootBuiltins x=some u) (h:Q u s)
  (hn:x≠"__name__":=by decide) (hd:(x == ("__debug__" : Str))=false:=by decide):wpAny (model X.prog X.w) X.A (eval (.Name x pos) X.env) Q E s:=by
 obtain ⟨mb,h1,h2⟩:=I.mod.blt
 exact Calls.Name_function_global I.ok.kind hg (Calls.loadGlobal_builtin (by rw [I.ok.glob];exact I.mod.glob.keeps I.bk) hm (by rw [I.ok.blt];exact h1.keeps I.bk) ((h2 x hn).trans hv) h) hd
theorem jby {x:Str} {v:V} {u:Value} {pos:Pos} (hg:Gl X x) (hm:X.mg x=some u) (r:RelV v u) (hd:(x == ("__debug__" : Str))=false:=by decide):PE X (.Name x pos) (tC v):=
 fun _ _ _ H _ I h=>Zc I hg hm ⟨v,H,I,r,h⟩ hd
theorem jeT {x:Str} {v:V} {u:Value} {pos:Pos} (hg:Gl X x) (hm:X.mg x=none) (hv:bootBuiltins x=some u) (r:RelV v u) (hn:x≠"__name__":=by decide) (hd:(x == ("__debug__" : Str))=false:=by decide):PE X (.Name x pos) (tC v):=
 fun _ _ _ H _ I h=>yw I hg hm hv ⟨v,H,I,r,h⟩ hn hd
variable {a b:Expr} {ta tb:TE} {pos:Pos}
def PC (X:Cx) (op:CmpOp) (a b:Expr) (t:TE):Prop:=
 ∀ (pins:List (Addr×Obj)) (s:Shared) (σ:St) (H:Hp) (Q:VK),Inv X pins σ H s→t σ H Q→
  wpAny (model X.prog X.w) X.A (eval a X.env) (fun v s₁=>wpAny (model X.prog X.w) X.A (eval b X.env) (fun u s₂=>wpAny (model X.prog X.w) X.A (compareOp op v u) (EP X pins σ Q) X.xe s₂) X.xe s₁) X.xe s
theorem jdK (b:Expr) {op:CmpOp} (h:op≠.In) (h2:op≠.NotIn):behindInMarks op b=false:=by
 have e1:(op == CmpOp.In)=false:=by cases op <;> first | rfl | exact absurd rfl h
 have e2:(op == CmpOp.NotIn)=false:=by cases op <;> first | rfl | exact absurd rfl h2
 cases b <;> simp [behindInMarks,e1,e2]
def tB (t:TE):TT:=fun σ H Q=>t σ H fun x H1=>∃ c,x=.bl c∧Q c H1
theorem jhD {op:CmpOp} {t:TE} (h:PC X op a b t) (h1:behindInMarks op b=false:=by first | exact jdK _ (by decide) (by decide) | rfl):PT X (.Compare a [op] [b] pos) (tB t):=by
 intro pins s σ H Q I hw
 refine wpAny_isTrue_Compare1 (thn (h pins s σ H _ I hw) fun v s1 h1=>thn h1 fun u s2 h2=>thn h2 fun c s3 ⟨x,H1,I1,r1,q1⟩=>?_) h1
 obtain ⟨d,rfl,q⟩:=q1
 cases r1
 exact wpAny_truthy_bool ⟨H1,I1,q⟩
theorem jf4 {e:Expr} {t:TE} (h:PE X e t) (he:∀ whole,isTrue e X.env whole=(do let v ← whole;standAt e.pos;holding [v] (truthy v)):=by intro _;rfl):PT X e (tB t):=by
 intro pins s σ H Q I hw
 refine isTrue_plain (thn (h pins s σ H _ I hw) fun v s1 ⟨x,H1,I1,r1,q1⟩=>?_) (he _)
 obtain ⟨d,rfl,q⟩:=q1
 cases r1
 exact wpAny_truthy_bool ⟨H1,I1,q⟩
variable {tA tB':TT} {jv:List Expr}
def jgT (t u:TT):TT:=fun σ H Q=>t σ H fun c H1=>if c=true then u σ H1 Q else Q false H1
def jgP (t:TT):TT:=fun σ H Q=>t σ H fun c H1=>Q (!c) H1
theorem jeI (ha:PT X a tA):PW X (.BoolOp .And [a] pos) tA:=by
 intro wh pins s σ H Q I h
 refine isTrue_and (thn (ha pins s σ H Q I h) fun c s1 e=>?_)
 cases c with
 | true=>exact isTrue_and_nil e
 | false=>exact e
theorem jf3 (ha:PT X a tA) (hb:PW X (.BoolOp .And (b :: jv) pos) tB'):PW X (.BoolOp .And (a :: b :: jv) pos) (jgT tA tB'):=by
 intro wh pins s σ H Q I h
 refine isTrue_and (thn (ha pins s σ H _ I h) fun c s1 ⟨H1,I1,q1⟩=>?_)
 cases c with
 | true=>exact hb wh pins s1 σ H1 Q I1 q1
 | false=>exact ⟨H1,I1,q1⟩
theorem jf5 (ha:PT X a tA):PT X (.UnaryOp .Not a pos) (jgP tA):=by
 intro pins s σ H Q I h
 exact isTrue_not (ha pins s σ H (fun c H1=>Q (!c) H1) I h)
def jfA (ta tb:TE):TE:=fun σ H Q=>ta σ H fun x H1=>∃ c,x=.bl c∧if c=true then tb σ H1 Q else Q (.bl false) H1
def jfv (ta:TE):TE:=fun σ H Q=>ta σ H fun x H1=>∃ c,x=.bl c∧Q (.bl (!c)) H1
theorem jf8 {op} {t:TE} (h:PE X a t):PE X (.BoolOp op [a] pos) t:=fun pins s σ H Q I hw=>BoolOp_one (h pins s σ H Q I hw)
theorem jgb (ha:PE X a ta) (hb:PE X (.BoolOp .And (b :: jv) pos) tb):PE X (.BoolOp .And (a :: b :: jv) pos) (jfA ta tb):=by
 intro pins s σ H Q I h
 refine BoolOp_and (thn (ha pins s σ H _ I h) fun v s1 ⟨x,H1,I1,r1,q1⟩=>?_)
 obtain ⟨c,rfl,q1⟩:=q1
 cases r1
 refine wpAny_truthy_bool ?_
 cases c with
 | true=>exact hb pins s1 σ H1 Q I1 q1
 | false=>exact ⟨.bl false,H1,I1,rfl,q1⟩
theorem jf9 (ha:PE X a ta):PE X (.UnaryOp .Not a pos) (jfv ta):=by
 intro pins s σ H Q I h
 refine UnaryOp_ (thn (ha pins s σ H _ I h) fun v s1 ⟨x,H1,I1,r1,q1⟩=>?_)
 obtain ⟨c,rfl,q1⟩:=q1
 cases r1
 exact not_of (wpAny_truthy_bool ⟨.bl (!c),H1,I1,rfl,q1⟩)
end
open PySem PySem.Spec PyProof.Rows
def SqL (K:PySem.W.Frag) (H:Hp) (a:Addr) (xs:List V):Prop:=
 Rd H a (.lst xs)∨
  ∃ (o:Obj) (its:Array Value) (n:Nat),K.lookup a=some o∧o.cls=.type "list"∧o.dict=none∧o.data=.seq its n∧its.size≤sizeLine∧Vals xs its.toList
def SqT (K:PySem.W.Frag) (H:Hp) (a:Addr) (xs:List V):Prop:=
 Rd H a (.tup xs)∨
  ∃ (o:Obj) (its:Array Value) (n:Nat),K.lookup a=some o∧o.cls=.type "tuple"∧o.data=.seq its n∧its.size≤sizeLine∧Vals xs its.toList
def jhJ:Value→Option V
 | .none=>some .non
 | .bool b=>some (.bl b)
 | .int i _=>some (.int i)
 | .str x _=>some (.str x)
 | .bytes b _=>some (.byt b)
 | .float b _=>some (.flt b)
 | .ref a=>some (.ref a)
 | .type n=>some (.ty n)
 | _=>none
theorem RelV.abs {x:V} {u:Value} (r:RelV x u):jhJ u=some x:=by
 cases x with
 | non=>cases r;rfl
 | bl _=>cases r;rfl
 | int _=>obtain ⟨t,rfl⟩:=r;rfl
 | str _=>obtain ⟨t,rfl⟩:=r;rfl
 | byt _=>obtain ⟨t,rfl⟩:=r;rfl
 | flt _=>obtain ⟨t,rfl⟩:=r;rfl
 | ref _=>cases r;rfl
 | ty _=>cases r;rfl
theorem RelV.inj {x y:V} {u:Value} (r:RelV x u) (q:RelV y u):x=y:=Option.some.inj (r.abs.symm.trans q.abs)
theorem Vals.inj:∀ {xs ys:List V} {us:List Value},Vals xs us→Vals ys us→xs=ys
 | _,_,_,.nil,.nil=>rfl
 | _,_,_,.cons r t,.cons r' t'=>by rw [r.inj r',Vals.inj t t']
section
variable {X:Cx} {pins:List (Addr×Obj)} {σ:St} {H:Hp} {s:Shared} {a:Addr} {xs ys:List V}
theorem SqL.of {K:PySem.W.Frag} (h:H a=some (.lst xs)):SqL K H a xs:=.inl (.inl h)
theorem SqT.of {K:PySem.W.Frag} (h:H a=some (.tup xs)):SqT K H a xs:=.inl (.inl h)
theorem Inv.list (I:Inv X pins σ H s) (h:SqL X.K H a xs):∃ its:List Value,Vals xs its∧PlainL s.heap a its.toArray∧xs.length≤sizeLine:=by
 rcases h with h | ⟨o,its,n,hk,hc,hd,hs,hz,r⟩
 ·obtain ⟨z,its,n,r,e⟩:=h.ok I.hok
  exact ⟨its,r,⟨_,n,e,rfl,rfl,rfl⟩,z⟩
 ·refine ⟨its.toList,r,⟨o,n,I.kIn a o hk,hc,hd,by simpa using hs⟩,?_⟩
  have e:=r.length
  simp only [Array.length_toList] at e
  omega
theorem Inv.tuple (I:Inv X pins σ H s) (h:SqT X.K H a xs):∃ its:List Value,Vals xs its∧IsTup s.heap a its.toArray∧xs.length≤sizeLine:=by
 rcases h with h | ⟨o,its,n,hk,hc,hs,hz,r⟩
 ·obtain ⟨z,its,r,p⟩:=h.ok I.hok
  exact ⟨its,r,p,z⟩
 ·refine ⟨its.toList,r,⟨o,I.kIn a o hk,hc,n,by simpa using hs⟩,?_⟩
  have e:=r.length
  simp only [Array.length_toList] at e
  omega
theorem Inv.list_inj (I:Inv X pins σ H s) (h:SqL X.K H a xs) (h':SqL X.K H a ys):xs=ys:=by
 obtain ⟨its,r,⟨o,n,e,_,_,d⟩,_⟩:=I.list h
 obtain ⟨its',r',⟨o',n',e',_,_,d'⟩,_⟩:=I.list h'
 rw [e] at e';cases e'
 rw [d] at d'
 injection d' with d1 _
 have:its=its':=by simpa using congrArg Array.toList d1
 subst this
 exact r.inj r'
theorem Inv.tuple_inj (I:Inv X pins σ H s) (h:SqT X.K H a xs) (h':SqT X.K H a ys):xs=ys:=by
 obtain ⟨its,r,⟨o,e,_,n,d⟩,_⟩:=I.tuple h
 obtain ⟨its',r',⟨o',e',_,n',d'⟩,_⟩:=I.tuple h'
 rw [e] at e';cases e'
 rw [d] at d'
 injection d' with d1 _
 have:its=its':=by simpa using congrArg Array.toList d1
 subst this
 exact r.inj r'
end
abbrev Cx.wish (X:Cx) (E:Value→Shared→Prop):Cx:={ X with xe:=E }
abbrev Cx.nox (X:Cx):Cx:=X.wish fun _ _=>False
theorem Cx.Ok.wish {X:Cx} (ok:X.Ok) (E:Value→Shared→Prop):(X.wish E).Ok:=
 ⟨ok.mod,ok.kind,ok.glob,ok.blt,ok.above,ok.inj,ok.has,ok.cab,ok.hd,ok.frames,ok.stk,ok.exf,ok.bs,ok.bsz,ok.noex,ok.exfs,ok.funs,ok.frf⟩
theorem Cx.Ok.unwish {X:Cx} {E:Value→Shared→Prop} (ok:(X.wish E).Ok):X.Ok:=
 ⟨ok.mod,ok.kind,ok.glob,ok.blt,ok.above,ok.inj,ok.has,ok.cab,ok.hd,ok.frames,ok.stk,ok.exf,ok.bs,ok.bsz,ok.noex,ok.exfs,ok.funs,ok.frf⟩
section
variable {X:Cx} {pins:List (Addr×Obj)} {σ:St} {H:Hp} {s:Shared} {E:Value→Shared→Prop}
theorem Inv.wish (I:Inv X pins σ H s) (E:Value→Shared→Prop):Inv (X.wish E) pins σ H s:=⟨I.ok.wish E,I.os,I.bare,I.base,I.loc,I.cell,I.free,I.freeC,I.pin,I.hok,I.len⟩
theorem Inv.unwish (I:Inv (X.wish E) pins σ H s):Inv X pins σ H s:=⟨I.ok.unwish,I.os,I.bare,I.base,I.loc,I.cell,I.free,I.freeC,I.pin,I.hok,I.len⟩
theorem SP.unwish {D:Ends} {f:Flow} {s':Shared} (h:SP (X.wish E) pins D f s'):SP X pins D f s':=by
 cases f with
 | next=>obtain ⟨σ',H',I,q⟩:=h;exact ⟨σ',H',I.unwish,q⟩
 | brk=>obtain ⟨σ',H',I,q⟩:=h;exact ⟨σ',H',I.unwish,q⟩
 | cont=>obtain ⟨σ',H',I,q⟩:=h;exact ⟨σ',H',I.unwish,q⟩
 | ret u=>obtain ⟨v,σ',H',I,r,q⟩:=h;exact ⟨v,σ',H',I.unwish,r,q⟩
theorem PSs.nox {st:List Stmt} {t:TS} (h:PSs X.nox st t):PSs X st t:=fun pins s σ H D I hw=>
 wpAny_mono (h pins s σ H D (I.wish _) hw) (fun _ _ q=>q.unwish) fun _ _ z=>False.elim z
end
section
variable {X:Cx} {st:Stmt} {jv:List Stmt} {t u:TS} {e:Expr} {te:TE} {pos:Pos}
def jfw:TS:=fun D σ H=>D.nx σ H
def jfT (t u:TS):TS:=fun D σ H=>t { D with nx:=u D } σ H
theorem qf:PSs X [] jfw:=fun _ _ σ H _ I h=>wpAny_execs_nil ⟨σ,H,I,h⟩
theorem jn (h1:PS X st t) (h2:PSs X jv u):PSs X (st :: jv) (jfT t u):=by
 intro pins s σ H D I h
 refine wpAny_execs_cons (thn (h1 pins s σ H { D with nx:=u D } I h) fun f s1 q=>?_)
 cases f with
 | next=>
  obtain ⟨σ',H',I',q⟩:=q
  exact h2 pins s1 σ' H' D I' q
 | ret v=>exact q
 | brk=>exact q
 | cont=>exact q
theorem jB (h1:PS X st t):PSs X [st] t:=by
 intro pins s σ H D I h
 refine wpAny_execs_cons (thn (h1 pins s σ H D I h) fun f s1 q=>?_)
 cases f with
 | next=>exact wpAny_execs_nil q
 | ret v=>exact q
 | brk=>exact q
 | cont=>exact q
theorem Inv.quiet {pins:List (Addr×Obj)} {σ:St} {H:Hp} {s:Shared} (I:Inv X pins σ H s):interactive X.env=false:=by simp [interactive,I.ok.kind]
def jfy (te:TE):TS:=fun D σ H=>te σ H fun _ H1=>D.nx σ H1
theorem kS (he:PE X e te) (hs:swapsWith e none pos.line X.env=pure false:=by rfl):PS X (.Expr e pos) (jfy te):=by
 intro pins s σ H D I h
 exact wpAny_Expr_any (thn (he pins s σ H _ I h) fun v s1 ⟨x,H1,I1,r1,q1⟩=>⟨σ,H1,I1,q1⟩) I.quiet hs
def jgO (te:TE):TS:=fun D σ H=>te σ H D.rt
theorem kh (he:PE X e te):PS X (.Return (some e) pos) (jgO te):=by
 intro pins s σ H D I h
 exact wpAny_Return_some (thn (he pins s σ H _ I h) fun v s1 ⟨x,H1,I1,r1,q1⟩=>⟨x,σ,H1,I1,r1,q1⟩)
def jgQ (c:TT) (t u:TS):TS:=fun D σ H=>c σ H fun b H1=>if b=true then t D σ H1 else u D σ H1
theorem qX {c:Expr} {a b:List Stmt} {tc:TT} (hc:PT X c tc) (ha:PSs X a t) (hb:PSs X b u):PS X (.If c a b pos) (jgQ tc t u):=by
 intro pins s σ H D I h
 refine wpAny_If (thn (hc pins s σ H _ I h) fun d s1 ⟨H1,I1,q1⟩=>?_)
 cases d with
 | true=>exact ha pins s1 σ H1 D I1 q1
 | false=>exact hb pins s1 σ H1 D I1 q1
end
abbrev TG:=V→St→Hp→(St→Hp→Prop)→Prop
abbrev TGs:=List V→St→Hp→(St→Hp→Prop)→Prop
def PG (X:Cx) (target:Expr) (t:TG):Prop:=
 ∀ (pins:List (Addr×Obj)) (s:Shared) (σ:St) (H:Hp) (v:V) (u:Value) (Q:St→Hp→Prop),Inv X pins σ H s→RelV v u→t v σ H Q→
  wpAny (model X.prog X.w) X.A (assign target X.env u) (fun _ s'=>∃ σ' H',Inv X pins σ' H' s'∧Q σ' H') X.xe s
def PGs (X:Cx) (ts:List Expr) (t:TGs):Prop:=
 ∀ (pins:List (Addr×Obj)) (s:Shared) (σ:St) (H:Hp) (vs:List V) (us:List Value) (Q:St→Hp→Prop),Inv X pins σ H s→Vals vs us→t vs σ H Q→
  wpAny (model X.prog X.w) X.A (assignInOrder ((assignEach ts X.env).map (·.2)) us) (fun _ s'=>∃ σ' H',Inv X pins σ' H' s'∧Q σ' H') X.xe s
abbrev jfr:=V→V→V→Hp→(Hp→Prop)→Prop
def jgE (X:Cx) (t:jfr):Prop:=
 ∀ (pins:List (Addr×Obj)) (s:Shared) (σ:St) (H:Hp) (o i v:V) (ov iv u:Value) (Q:Hp→Prop),Inv X pins σ H s→RelV o ov→RelV i iv→RelV v u→t o i v H Q→
  wpAny (model X.prog X.w) X.A (setItem ov iv u) (fun _ s'=>∃ H',Inv X pins σ H' s'∧Q H') X.xe s
section
variable {X:Cx} {pos:Pos}
def qg (i:Nat):TG:=fun v σ H Q=>Q (σ.set i (some v)) H
theorem jO {i:Nat} {x:Str} (hN:X.N.Nodup) (hi:X.N[i]?=some x) (hx:Loc X.env.scope x) (hf:X.fn x=true∨X.env.scope.names.lookup x=some .local:=by first | exact .inl rfl | exact .inr rfl | assumption):PG X (.Name x pos) (qg i):=by
 intro pins s σ H v u Q I r h
 exact wpAny_assign_Name (ym I hN hi hx r (fun s' I'=>⟨_,H,I',h⟩) hf)
def jhk:TGs:=fun vs σ H Q=>vs=[]∧Q σ H
def jfK (t:TG) (u:TGs):TGs:=fun vs σ H Q=>∃ v r,vs=v :: r∧t v σ H fun σ' H'=>u r σ' H' Q
theorem qo:PGs X [] jhk:=by
 intro pins s σ H vs us Q I r h
 obtain ⟨e,h⟩:=h
 subst e
 cases r
 exact assignInOrder_nil ⟨σ,H,I,h⟩
theorem jR {e:Expr} {es:List Expr} {t:TG} {u:TGs} (h1:PG X e t) (h2:PGs X es u)
  (hs:(assignEach (e :: es) X.env).map (·.2)=assign e X.env :: (assignEach es X.env).map (·.2):=by rfl):PGs X (e :: es) (jfK t u):=by
 intro pins s σ H vs us Q I r h
 obtain ⟨v,vr,e1,h⟩:=h
 subst e1
 cases r with
 | cons r rr=>
  rw [hs]
  refine assignInOrder_cons (thn (h1 pins s σ H _ _ _ I r h) fun _ s1 ⟨σ1,H1,I1,q1⟩=>?_)
  exact h2 pins s1 σ1 H1 _ _ Q I1 rr q1
def jgv (K:PySem.W.Frag) (n:Nat) (t:TGs):TG:=fun v σ H Q=>∃ a xs,v=.ref a∧SqT K H a xs∧xs.length=n∧t xs σ H Q
theorem qS {es:List Expr} {k:Nat} {t:TGs} {n:Nat} (hc:X.calm=true) (h:PGs X es t)
  (hn:(assignEach es X.env).length=n:=by rfl) (hst:(assignEach es X.env).findIdx? (·.1)=none:=by rfl):PG X (.Tuple es k pos) (jgv X.K n t):=by
 intro pins s σ H v u Q I r hw
 obtain ⟨a,xs,e1,hq,hl,hw⟩:=hw
 subst e1
 cases r
 obtain ⟨its,rv,ht,hz⟩:=I.tuple hq
 refine assign_Tuple_tuple (I.ok.hd hc) ht (by simp [hn,← hl,rv.length]) hst fun h' hx=>?_
 have I1:Inv X pins σ H { s with heap:=h' }:=I.kept (t':=s.toks) fun b o e=>hx b o (Nat.ne_of_lt (Heap.lt_size e)) e
 exact h pins _ σ H xs _ Q I1 (by simpa using rv) hw
def jhj (to ti:TE) (t:jfr):TG:=fun v σ H Q=>to σ H fun o H1=>ti σ H1 fun i H2=>t o i v H2 fun H3=>Q σ H3
theorem Kq {o i:Expr} {to ti:TE} {t:jfr} (ho:PE X o to) (hi:PE X i ti) (hs:jgE X t)
  (ha:∀ v,assign (.Subscript o i pos) X.env v=(do
   let ov ← holding [v] (eval o X.env)
   let iv ← holding [v,ov] (eval i X.env)
   standAt pos
   holding [v,ov,iv] (setItem ov iv v)
   release [v,ov,iv] []):=by intro _;rfl):PG X (.Subscript o i pos) (jhj to ti t):=by
 intro pins s σ H v u Q I r h
 rw [ha]
 refine wpAny_bind (wpAny_holding (thn (ho pins s σ H _ I h) fun ov s1 ⟨x,H1,I1,r1,q1⟩=>?_))
 refine wpAny_bind (wpAny_holding (thn (hi pins s1 σ H1 _ I1 q1) fun iv s2 ⟨y,H2,I2,r2,q2⟩=>?_))
 refine wpAny_bind (wpAny_standAt (wpAny_bind (wpAny_holding (thn (hs pins s2 σ H2 x y v ov iv u _ I2 r1 r2 r q2) fun _ s3 ⟨H3,I3,q3⟩=>?_))))
 exact wpAny_release ⟨σ,H3,I3,q3⟩
def jaE (te:TE) (g:TG):TS:=fun D σ H=>te σ H fun x H1=>g x σ H1 D.nx
theorem zq {tg e:Expr} {te:TE} {g:TG} (he:PE X e te) (hg:PG X tg g) (hs:swapsWithSole [tg] e pos.line X.env=pure false:=by rfl) (hw:swappedStores [tg] e X.env=pure none:=by rfl)
  (h1:(assignEach [tg] X.env).map (·.2)=[assign tg X.env]:=by rfl):PS X (.Assign [tg] e pos) (jaE te g):=by
 intro pins s σ H D I h
 refine wpAny_Assign_stores (thn (he pins s σ H _ I h) fun v s1 ⟨x,H1,I1,r1,q1⟩=>?_) hs hw
 rw [h1]
 exact thn (hg pins s1 σ H1 x v _ I1 r1 q1) fun _ s2 q=>q
theorem jT {i:Nat} {x:Str} {e:Expr} {te:TE} {pos':Pos} (hN:X.N.Nodup) (hi:X.N[i]?=some x) (hx:Loc X.env.scope x) (he:PE X e te) (hs:swapsWith e (some (.Name x pos')) pos.line X.env=pure false:=by rfl) (hf:X.fn x=true∨X.env.scope.names.lookup x=some .local:=by first | exact .inl rfl | exact .inr rfl | assumption) :
  PS X (.Assign [.Name x pos'] e pos) (jaE te (qg i)):=by
 intro pins s σ H D I h
 refine wpAny_Assign_Name (thn (he pins s σ H _ I h) fun v s1 ⟨y,H1,I1,r1,q1⟩=>?_) hs
 exact ym I1 hN hi hx r1 (fun s2 I2=>⟨_,H1,I2,q1⟩) hf
def jaC (c:TT) (tb:TS):TS:=fun D σ H=>∃ W:Nat→St→Hp→Prop,(∃ m,W m σ H)∧∀ m σ H,W m σ H→
 c σ H fun b H1=>if b=true then ∃ N:St→Hp→Prop,(∀ σ' H',N σ' H'→∃ m',m' < m∧W m' σ' H')∧tb { D with nx:=N,ct:=N,bk:=D.nx } σ H1 else D.nx σ H1
theorem ZR {c:Expr} {body:List Stmt} {tc:TT} {tb:TS} (hp:PassesOwn (model X.prog X.w) X.A X.env X.xe) (hc:PT X c tc) (hb:PSs X body tb):PS X (.While c body [] pos) (jaC tc tb):=by
 intro pins s σ H D I h
 obtain ⟨W,⟨m0,w0⟩,turn⟩:=h
 refine wpAny_While (codeAny_whileLoop (fun n s'=>∃ σ' H',Inv X pins σ' H' s'∧W n σ' H') ?_ m0 ⟨σ,H,I,w0⟩)
 rintro n s1 ⟨σ1,H1,I1,w1⟩
 refine wpAny_passesOwn hp (thn (hc pins s1 σ1 H1 _ I1 (turn n σ1 H1 w1)) fun b s2 ⟨H2,I2,q2⟩=>?_)
 cases b with
 | true=>
  obtain ⟨N,hN,q2⟩:=q2
  rw [if_pos rfl]
  refine wpAny_passesOwn hp (thn (hb pins s2 σ1 H2 _ I2 q2) fun f s3 q3=>?_)
  cases f with
  | next=>
   obtain ⟨σ3,H3,I3,n3⟩:=q3
   obtain ⟨m',hm,w3⟩:=hN σ3 H3 n3
   exact ⟨m',hm,σ3,H3,I3,w3⟩
  | cont=>
   obtain ⟨σ3,H3,I3,n3⟩:=q3
   obtain ⟨m',hm,w3⟩:=hN σ3 H3 n3
   exact ⟨m',hm,σ3,H3,I3,w3⟩
  | brk=>exact q3
  | ret v=>exact q3
 | false=>
  rw [if_neg Bool.false_ne_true]
  exact wpAny_execs_nil ⟨σ1,H2,I2,q2⟩
end
structure It where
 go:Nat→Hp→Prop
 yld:Nat→Hp→V→Hp→Prop
 stop:Nat→Hp→Prop
def Jn (X:Cx) (pins:List (Addr×Obj)) (H:Hp) (b:Addr):Prop:=
 H b=none∧b≠X.env.locals∧b ∉ X.fs∧(b∈X.ex∨X.s₀.heap.objs.size≤b)∧(∀ x c,X.env.cells.lookup x=some c→c≠b)∧∀ p∈X.pn++pins,p.1≠b
theorem Inv.fpOk {X:Cx} {pins:List (Addr×Obj)} {σ:St} {H H':Hp} {s:Shared} {b:Addr} (I:Inv X pins σ H s) (hb:s.heap.objs.size≤b) (hn:H' b=none):Jn X pins H' b:=by
 refine ⟨hn,Nat.ne_of_gt (Nat.lt_of_lt_of_le I.lt hb),I.nofs hb,.inr (Nat.le_trans I.sz hb),fun x c e z=>?_,fun p hp z=>?_⟩
 ·obtain ⟨v,q⟩:=I.cell x c e
  exact absurd (Nat.lt_of_lt_of_le q.lt (by rw [z];exact hb)) (Nat.lt_irrefl _)
 ·exact absurd (Nat.lt_of_lt_of_le (Heap.lt_size (I.pin p hp).1) (by rw [z];exact hb)) (Nat.lt_irrefl _)
structure Turn (P:Program) (w:World) (K:PySem.W.Frag) (tg:Expr) (J:It) (fp:List Addr) (it:Addr) (tn:Nat→Heap→Prop):Prop where
 mem:it∈fp
 obj:∀ i h,tn i h→∀ b∈fp,∃ o,h.get? b=some o∧∀ v,o.data≠.cell v
 keep:∀ i h h',tn i h→(∀ b∈fp,∀ o,h.get? b=some o→h'.get? b=some o)→tn i h'
 item:∀ (X:Cx),X.prog=P→X.w=w→X.K=K→X.calm=true→∀ (i:Nat) (pins:List (Addr×Obj)) (s:Shared) (σ:St) (H:Hp) (E:Value→Shared→Prop),Inv X pins σ H s→(∀ b∈fp,Jn X pins H b)→tn i s.heap→J.go i H→
  wpAny (model P w) X.A (pyNext (.ref it)) (fun r s1=>∃ u,r=some u∧
   wpAny (model P w) X.A (letOwnedTupleGo tg (.ref it) u) (fun _ s2=>∃ x H',Inv X pins σ H' s2∧RelV x u∧J.yld i H x H'∧tn (i+1) s2.heap∧∀ b∈fp,H' b=none) E s1) E s
 done:∀ (X:Cx),X.prog=P→X.w=w→X.K=K→X.calm=true→∀ (i:Nat) (pins:List (Addr×Obj)) (s:Shared) (σ:St) (H:Hp) (E:Value→Shared→Prop),Inv X pins σ H s→(∀ b∈fp,Jn X pins H b)→tn i s.heap→J.stop i H→
  wpAny (model P w) X.A (pyNext (.ref it)) (fun r s1=>r=none∧Inv X pins σ H s1) E s
 self:∀ (A:Around) (i:Nat) (s:Shared) (Q:Value→Shared→Prop) (E:Value→Shared→Prop),tn i s.heap→Q (.ref it) s→wpAny (model P w) A (pyIter (.ref it)) Q E s
abbrev TI:=St→Hp→(It→Hp→Prop)→Prop
def PIE (X:Cx) (pins:List (Addr×Obj)) (σ:St) (tg:Expr) (R:It→Hp→Prop) (itv:Value) (s2:Shared):Prop:=
 ∃ (it:Addr) (fp:List Addr) (tn:Nat→Heap→Prop) (J:It) (H':Hp),itv=.ref it∧Inv X pins σ H' s2∧Turn X.prog X.w X.K tg J fp it tn∧tn 0 s2.heap∧(∀ b∈fp,Jn X pins H' b)∧R J H'
def PI (X:Cx) (tg iter:Expr) (wi:TI):Prop:=
 ∀ (pins:List (Addr×Obj)) (s:Shared) (σ:St) (H:Hp) (R:It→Hp→Prop),Inv X pins σ H s→wi σ H R→
  wpAny (model X.prog X.w) X.A (eval iter X.env) (fun v s1=>wpAny (model X.prog X.w) X.A (pyIter v) (PIE X pins σ tg R) X.xe s1) X.xe s
theorem jd5 {M:Model} {A:Around} {E:Value→Shared→Prop} {s:Shared} {tg:Expr} {it:Addr} {u:Value} {o:Obj} {n:String} {vs:Array Value} {Q:Unit→Shared→Prop} (ho:s.heap.get? it=some o) (hc:o.cls=.type n) (hd:o.data=.fields vs)
  (hn:["enumerate","zip","dict_itemiterator","dict_reverseitemiterator","odict_iterator","itertools.zip_longest","itertools.pairwise"].contains n=false) (hQ:Q () s):wpAny M A (letOwnedTupleGo tg (.ref it) u) Q E s:=by
 unfold letOwnedTupleGo
 cases tg <;> first
  | exact wpAny_pure hQ
  | (cases u <;> first
    | exact wpAny_pure hQ
    | (refine wpAny_bind (wpAny_load ho ?_)
       rw [hc,hd]
       show wpAny M A (if (["enumerate","zip","dict_itemiterator","dict_reverseitemiterator","odict_iterator","itertools.zip_longest","itertools.pairwise"].contains n && vs[0]? == some (rawInt _))=true then _ else _) Q E s
       rw [if_neg (by intro h;rw [hn,Bool.false_and] at h;cases h)]
       exact wpAny_pure hQ))
def Itl (K:PySem.W.Frag) (a:Addr):It:=
 ⟨fun i H=>∃ xs x,SqL K H a xs∧xs[i]?=some x,fun i H x H'=>H'=H∧∀ xs,SqL K H a xs→xs[i]?=some x,fun i H=>∃ xs,SqL K H a xs∧xs.length≤i⟩
def Itt (K:PySem.W.Frag) (a:Addr):It:=
 ⟨fun i H=>∃ xs x,SqT K H a xs∧xs[i]?=some x,fun i H x H'=>H'=H∧∀ xs,SqT K H a xs→xs[i]?=some x,fun i H=>∃ xs,SqT K H a xs∧xs.length≤i⟩
def Itr (lo:Int) (n:Nat):It:=⟨fun i _=>i < n,fun i H x H'=>H'=H∧x=.int (lo+i),fun i _=>n≤i⟩
theorem jb7 {P:Program} {w:World} {K:PySem.W.Frag} {tg:Expr} (a it:Addr):Turn P w K tg (Itl K a) [it] it (fun i h=>h.IsListIter it a i) where
 mem:=by simp
 obj:=fun i h st b hb=>by
  have e:b=it:=by simpa using hb
  subst e
  obtain ⟨o,e,c,d⟩:=st
  exact ⟨o,e,fun v z=>by rw [d] at z;cases z⟩
 keep:=fun i h h' st k=>st.at fun o e=>k it (by simp) o e
 item:=by
  intro X hP hw hK hc i pins s σ H E I hf st hg
  subst hP hw hK
  obtain ⟨xs,x,hq,hx⟩:=hg
  obtain ⟨its,rv,p,hz⟩:=I.list hq
  obtain ⟨u,hu,ru⟩:=rv.get hx
  obtain ⟨f0,f1,f2,f3,f4,f5⟩:=hf it (by simp)
  refine wpAny_pyNext_list_item st p.isList (x:=u) (by simpa using hu) fun h' st' sb=>?_
  have I1:Inv X pins σ H { s with heap:=h' }:=I.turned (t':=s.toks) (fun b o hb e=>(sb.2 b hb).trans e) f0 f1 f3 f4 f5
  obtain ⟨o,e,c,d⟩:=id st'
  exact ⟨u,rfl,jd5 (s:={ s with heap:=h' }) e c d (by decide) ⟨x,H,I1,ru,⟨rfl,fun ys hy=>by rw [I.list_inj hy hq];exact hx⟩,st',fun b hb=>(hf b hb).1⟩⟩
 done:=by
  intro X hP hw hK hc i pins s σ H E I hf st hg
  subst hP hw hK
  obtain ⟨xs,hq,hx⟩:=hg
  obtain ⟨its,rv,p,hz⟩:=I.list hq
  obtain ⟨f0,f1,f2,f3,f4,f5⟩:=hf it (by simp)
  have hl:=rv.length
  exact wpAny_pyNext_list_end (I.ok.hd hc) st p.isList (by simp;omega) fun h' eb=>⟨rfl,I.turned (t':=s.toks) (fun b o hb e=>eb b o hb e) f0 f1 f3 f4 f5⟩
 self:=fun _ _ _ _ _ st h=>wpAny_pyIter_listiter st h
theorem jaz {P:Program} {w:World} {K:PySem.W.Frag} {tg:Expr} (a it:Addr):Turn P w K tg (Itt K a) [it] it (fun i h=>h.IsTupleIter it a i) where
 mem:=by simp
 obj:=fun i h st b hb=>by
  have e:b=it:=by simpa using hb
  subst e
  obtain ⟨o,e,c,d⟩:=st
  exact ⟨o,e,fun v z=>by rw [d] at z;cases z⟩
 keep:=fun i h h' st k=>st.at fun o e=>k it (by simp) o e
 item:=by
  intro X hP hw hK hc i pins s σ H E I hf st hg
  subst hP hw hK
  obtain ⟨xs,x,hq,hx⟩:=hg
  obtain ⟨its,rv,p,hz⟩:=I.tuple hq
  obtain ⟨u,hu,ru⟩:=rv.get hx
  obtain ⟨f0,f1,f2,f3,f4,f5⟩:=hf it (by simp)
  refine wpAny_pyNext_tuple_item st (show s.heap.IsTuple a its.toArray from p) (x:=u) (by simpa using hu) fun h' st' sb=>?_
  have I1:Inv X pins σ H { s with heap:=h' }:=I.turned (t':=s.toks) (fun b o hb e=>(sb.2 b hb).trans e) f0 f1 f3 f4 f5
  obtain ⟨o,e,c,d⟩:=id st'
  exact ⟨u,rfl,jd5 (s:={ s with heap:=h' }) e c d (by decide) ⟨x,H,I1,ru,⟨rfl,fun ys hy=>by rw [I.tuple_inj hy hq];exact hx⟩,st',fun b hb=>(hf b hb).1⟩⟩
 done:=by
  intro X hP hw hK hc i pins s σ H E I hf st hg
  subst hP hw hK
  obtain ⟨xs,hq,hx⟩:=hg
  obtain ⟨its,rv,p,hz⟩:=I.tuple hq
  obtain ⟨f0,f1,f2,f3,f4,f5⟩:=hf it (by simp)
  have hl:=rv.length
  exact wpAny_pyNext_tuple_end (I.ok.hd hc) st (show s.heap.IsTuple a its.toArray from p) (by simp;omega) fun h' eb=>⟨rfl,I.turned (t':=s.toks) (fun b o hb e=>eb b o hb e) f0 f1 f3 f4 f5⟩
 self:=fun _ _ _ _ _ st h=>wpAny_pyIter_tupleiter st h
theorem jaA {P:Program} {w:World} {K:PySem.W.Frag} {tg:Expr} (it:Addr) (lo:Int) (n:Nat):Turn P w K tg (Itr lo n) [it] it (fun i h=>IsRangeIter h it (lo+(i:Nat) * 1) ((n:Int) - (i:Nat)) 1) where
 mem:=by simp
 obj:=fun i h st b hb=>by
  have e:b=it:=by simpa using hb
  subst e
  exact ⟨_,st,fun v z=>by
   have z':Data.fields _=Data.cell v:=z
   cases z'⟩
 keep:=fun i h h' st k=>k it (by simp) _ st
 item:=by
  intro X hP hw hK hc i pins s σ H E I hf st hg
  subst hP hw hK
  obtain ⟨f0,f1,f2,f3,f4,f5⟩:=hf it (by simp)
  have W:=Walks.range (prog:=X.prog) (w:=X.w) (I.ok.hd hc) it lo 1 n
  refine W.item i s _ _ hg st fun v h' tk hv st' kk=>?_
  obtain ⟨t,rfl⟩:=hv
  have I1:Inv X pins σ H { s with heap:=h',toks:=tk }:=I.turned (fun b o hb e=>kk b o (by simpa using hb) e) f0 f1 f3 f4 f5
  refine ⟨_,rfl,jd5 (s:={ s with heap:=h',toks:=tk }) (n:="range_iterator") st' rfl rfl (by decide) ⟨.int (lo+i),H,I1,⟨t,?_⟩,⟨rfl,rfl⟩,st',fun b hb=>(hf b hb).1⟩⟩
  rw [Int.mul_one]
 done:=by
  intro X hP hw hK hc i pins s σ H E I hf st hg
  subst hP hw hK
  obtain ⟨f0,f1,f2,f3,f4,f5⟩:=hf it (by simp)
  exact wpAny_pyNext_range_end (I.ok.hd hc) st (by have:n≤i:=hg;omega) fun h' eb=>⟨rfl,I.turned (t':=s.toks) (fun b o hb e=>eb b o hb e) f0 f1 f3 f4 f5⟩
 self:=fun _ _ _ _ _ st h=>wpAny_pyIter_rangeiter st h
open PySem PySem.Spec PyProof.Rows
section
variable {X:Cx} {tg:Expr}
def jfI (K:PySem.W.Frag) (tl:TE):TI:=fun σ H R=>tl σ H fun x H1=>∃ a,x=.ref a∧(∃ xs,SqL K H1 a xs)∧R (Itl K a) H1
def jhh (K:PySem.W.Frag) (tl:TE):TI:=fun σ H R=>tl σ H fun x H1=>∃ a,x=.ref a∧(∃ xs,SqT K H1 a xs)∧R (Itt K a) H1
theorem J2 {l:Expr} {tl:TE} (hl:PE X l tl):PI X tg l (jfI X.K tl):=by
 intro pins s σ H R I h
 refine thn (hl pins s σ H _ I h) fun v s1 ⟨x,H1,I1,r1,q1⟩=>?_
 obtain ⟨a,e,⟨xs,hq⟩,q⟩:=q1
 subst e
 cases r1
 obtain ⟨its,rv,p,hz⟩:=I1.list hq
 refine wpAny_pyIter_list p.isList ?_
 refine ⟨s1.heap.objs.size,[s1.heap.objs.size],_,_,H1,rfl,I1.kept (t':=s1.toks) fun b o e=>Heap.get?_push_of_some _ e,jb7 a _,⟨_,Heap.get?_push_size _ rfl,rfl,rfl⟩,fun b hb=>?_,q⟩
 have e:b=s1.heap.objs.size:=by simpa using hb
 subst e
 exact I1.fpOk (Nat.le_refl _) (I1.hok.fresh (Nat.le_refl _))
theorem Kp {l:Expr} {tl:TE} (hl:PE X l tl):PI X tg l (jhh X.K tl):=by
 intro pins s σ H R I h
 refine thn (hl pins s σ H _ I h) fun v s1 ⟨x,H1,I1,r1,q1⟩=>?_
 obtain ⟨a,e,⟨xs,hq⟩,q⟩:=q1
 subst e
 cases r1
 obtain ⟨its,rv,p,hz⟩:=I1.tuple hq
 refine wpAny_pyIter_tuple (show s1.heap.IsTuple a its.toArray from p) ?_
 refine ⟨s1.heap.objs.size,[s1.heap.objs.size],_,_,H1,rfl,I1.kept (t':=s1.toks) fun b o e=>Heap.get?_push_of_some _ e,jaz a _,⟨_,Heap.get?_push_size _ rfl,rfl,rfl⟩,fun b hb=>?_,q⟩
 have e:b=s1.heap.objs.size:=by simpa using hb
 subst e
 exact I1.fpOk (Nat.le_refl _) (I1.hok.fresh (Nat.le_refl _))
theorem ZP {pins:List (Addr×Obj)} {σ:St} {H:Hp} {s:Shared} {R:It→Hp→Prop} {E:Value→Shared→Prop} {lo hi:Int} {t u v:Tok} {tk:Nat} (I:Inv X pins σ H s) (h1:-(2 ^ 62)≤lo) (h2:lo < 2 ^ 62) (h3:-(2 ^ 62)≤hi) (h4:hi < 2 ^ 62)
  (q:R (Itr lo (hi - lo).toNat) H):wpAny (model X.prog X.w) X.A (pyIter (.ref s.heap.objs.size)) (PIE X pins σ tg R) E { s with heap:=s.heap.push { cls:=.type "range",data:=.fields #[.int lo t,.int hi u,.int 1 v] },toks:=tk }:=by
 refine wpAny_pyIter_range (IsRange.new ..) (small_one h1 h2 h3 h4) ?_
 have I1:Inv X pins σ H { s with heap:=s.heap.push { cls:=.type "range",data:=.fields #[.int lo t,.int hi u,.int 1 v] },toks:=tk }:=I.kept fun b o e=>Heap.get?_push_of_some _ e
 refine ⟨(s.heap.push { cls:=.type "range",data:=.fields #[.int lo t,.int hi u,.int 1 v] }).objs.size,[(s.heap.push { cls:=.type "range",data:=.fields #[.int lo t,.int hi u,.int 1 v] }).objs.size],_,_,H,rfl,
  I1.kept (t':=tk) fun b o e=>Heap.get?_push_of_some _ e,jaA _ lo (hi - lo).toNat,?_,fun b hb=>?_,q⟩
 ·have e1:lo+((0:Nat):Int) * 1=lo:=by simp
  have e2:(((hi - lo).toNat:Nat):Int) - ((0:Nat):Int)=Builtin.Range.rangeSize lo hi 1:=by rw [rangeSize_one];split <;> omega
  show IsRangeIter _ _ (lo+((0:Nat):Int) * 1) ((((hi - lo).toNat:Nat):Int) - ((0:Nat):Int)) 1
  rw [e1,e2]
  exact Heap.get?_push_size _ rfl
 ·have e:b=(s.heap.push { cls:=.type "range",data:=.fields #[.int lo t,.int hi u,.int 1 v] }).objs.size:=by simpa using hb
  subst e
  exact I1.fpOk (Nat.le_refl _) (I1.hok.fresh (Nat.le_refl _))
def jfH (ta:TA):TI:=fun σ H R=>ta σ H fun vs H1=>∃ j:Int,vs=[.int j]∧-(2 ^ 62)≤j∧j < 2 ^ 62∧R (Itr 0 j.toNat) H1
def jfG (ta:TA):TI:=fun σ H R=>ta σ H fun vs H1=>∃ i j:Int,vs=[.int i,.int j]∧(-(2 ^ 62)≤i∧i < 2 ^ 62∧-(2 ^ 62)≤j∧j < 2 ^ 62)∧R (Itr i (j - i).toNat) H1
theorem ze {a:Expr} {ta:TA} {p pos:Pos} (hg:Gl X "range") (hm:X.mg "range" = none) (ha:PA X [a] ta) (hs:starEach [a] X.env=[(false,eval a X.env)]:=by rfl):PI X tg (.Call (.Name "range" p) [a] [] pos) (jfH ta):=by
 intro pins s σ H R I h
 refine Call_ (yw I hg hm boot_range (PyProof.Rows.callWith_type1 (thn (ha pos pins s σ H _ I h) fun us s1 ⟨vs,H1,I1,r1,q1⟩=>?_) hs rfl))
 obtain ⟨j,e,q1,q2,q⟩:=q1
 subst e
 cases r1 with
 | cons r rr=>
  cases rr
  obtain ⟨t,rfl⟩:=r
  exact call_range_1 (ZP I1 (by omega) (by omega) q1 q2 (by simpa using q))
theorem jck {a b:Expr} {ta:TA} {p pos:Pos} (hg:Gl X "range") (hm:X.mg "range" = none) (ha:PA X [a,b] ta) (hs:starEach [a,b] X.env=[(false,eval a X.env),(false,eval b X.env)]:=by rfl) (hs2:starEach [b] X.env=[(false,eval b X.env)]:=by rfl) :
  PI X tg (.Call (.Name "range" p) [a,b] [] pos) (jfG ta):=by
 intro pins s σ H R I h
 refine Call_ (yw I hg hm boot_range (PyProof.Rows.callWith_type1 (thn (ha pos pins s σ H _ I h) fun us s1 ⟨vs,H1,I1,r1,q1⟩=>?_) (by rw [hs,hs2]) (by rw [hs2];rfl)))
 obtain ⟨i,j,e,⟨q1,q2,q3,q4⟩,q⟩:=q1
 subst e
 cases r1 with
 | cons r rr=>
  cases rr with
  | cons r' rr=>
   cases rr
   obtain ⟨t,rfl⟩:=r
   obtain ⟨t',rfl⟩:=r'
   exact call_range_2 (ZP I1 q1 q2 q3 q4 q)
def jgR (wi:TI) (g:TG) (tb:TS):TS:=fun D σ H=>wi σ H fun J H1=>∃ W:Nat→Nat→St→Hp→Prop,(∃ m,W 0 m σ H1)∧∀ i m σ H,W i m σ H→
 (J.stop i H∧D.nx σ H)∨(J.go i H∧∃ N:St→Hp→Prop,(∀ σ' H',N σ' H'→∃ m',m' < m∧W (i+1) m' σ' H')∧∀ x H',J.yld i H x H'→g x σ H' fun σ2 H2=>tb { D with nx:=N,ct:=N,bk:=D.nx } σ2 H2)
def yb (fp:List Addr) (h:Heap):List (Addr×Obj):=fp.filterMap fun b=>(h.get? b).map fun o=>(b,o)
theorem qk {fp:List Addr} {h:Heap} {b:Addr} {o:Obj} (hb:b∈fp) (e:h.get? b=some o):(b,o)∈yb fp h:=List.mem_filterMap.mpr ⟨b,hb,by rw [e];rfl⟩
theorem jcu {fp:List Addr} {h:Heap} {p:Addr×Obj} (hp:p∈yb fp h):p.1∈fp∧h.get? p.1=some p.2:=by
 obtain ⟨b,hb,e⟩:=List.mem_filterMap.mp hp
 cases q:h.get? b with
 | none=>rw [q] at e;cases e
 | some o=>
  rw [q] at e
  have e':(b,o)=p:=Option.some.inj e
  subst e'
  exact ⟨hb,q⟩
theorem Inv.pinned {pins:List (Addr×Obj)} {σ:St} {H:Hp} {s:Shared} {fp:List Addr} (I:Inv X pins σ H s) (hf:∀ b∈fp,Jn X pins H b) (ho:∀ b∈fp,∃ o,s.heap.get? b=some o∧∀ v,o.data≠.cell v):Inv X (pins++yb fp s.heap) σ H s:=
 I.pins_of fun p hp=>(List.mem_append.mp hp).elim (fun z=>I.pin p (List.mem_append_right _ z)) fun z=>by
  obtain ⟨hb,e⟩:=jcu z
  obtain ⟨f0,f1,f2,_⟩:=hf p.1 hb
  obtain ⟨o,e',d⟩:=ho p.1 hb
  rw [e] at e';cases e'
  exact ⟨e,f0,f1,f2,d⟩
theorem Inv.unpinned {pins pl:List (Addr×Obj)} {σ:St} {H:Hp} {s:Shared} (I:Inv X (pins++pl) σ H s):Inv X pins σ H s:=I.pins_of fun p hp=>I.pin p (List.mem_append_right _ (List.mem_append_left _ hp))
theorem zZ {iter:Expr} {body:List Stmt} {wi:TI} {g:TG} {tb:TS} {pos:Pos} (hp:PassesOwn (model X.prog X.w) X.A X.env X.xe) (hc:X.calm=true) (hi:PI X tg iter wi) (hg:PG X tg g) (hb:PSs X body tb)
  (hs:∀ x,foldedSetIterable iter X.env x=pure x:=by intro _;rfl):PS X (.For tg iter body [] pos) (jgR wi g tb):=by
 intro pins s σ H D I h
 refine wpAny_For (thn (hi pins s σ H _ I h) fun v s1 h1=>thn h1 fun itv s2 h2=>?_) hs
 obtain ⟨it,fp,tn,J,H2,e,I2,T,st2,f2,W,⟨m0,w0⟩,turn⟩:=h2
 subst e
 have stat:∀ {H':Hp},(∀ b∈fp,H' b=none)→∀ b∈fp,Jn X pins H' b:=fun hn b hb=>⟨hn b hb,(f2 b hb).2⟩
 refine codeAny_forLoop_any (fun n s'=>∃ i σ' H',Inv X pins σ' H' s'∧tn i s'.heap∧(∀ b∈fp,H' b=none)∧W i n σ' H') ?_ m0 ⟨0,σ,H2,I2,st2,fun b hb=>(f2 b hb).1,w0⟩
 rintro n s3 ⟨i,σ3,H3,I3,st3,fr3,w3⟩
 rcases turn i n σ3 H3 w3 with ⟨stop,qn⟩ | ⟨go,N,hN,step⟩
 ·refine wpAny_passesOwn hp (thn (T.done X rfl rfl rfl hc i pins s3 σ3 H3 X.xe I3 (stat fr3) st3 stop) fun r s4 ⟨hr,I4⟩=>?_)
  subst hr
  exact wpAny_execs_nil ⟨σ3,H3,I4,qn⟩
 ·refine wpAny_passesOwn hp (thn (T.item X rfl rfl rfl hc i pins s3 σ3 H3 X.xe I3 (stat fr3) st3 go) fun r s4 ⟨u,hr,h4⟩=>?_)
  subst hr
  refine wpAny_passesOwn hp (thn h4 fun _ s5 ⟨x,H5,I5,r5,y5,st5,fr5⟩=>?_)
  have I5':=I5.pinned (stat fr5) (T.obj _ _ st5)
  refine wpAny_passesOwn hp (thn (hg _ s5 σ3 H5 x u _ I5' r5 (step x H5 y5)) fun _ s6 ⟨σ6,H6,I6,q6⟩=>?_)
  refine wpAny_passesOwn hp (thn (hb _ s6 σ6 H6 _ I6 q6) fun f s7 q7=>?_)
  have again:∀ {σ7:St} {H7:Hp},Inv X (pins++yb fp s5.heap) σ7 H7 s7→N σ7 H7→∃ m,m < n∧∃ i σ' H',Inv X pins σ' H' s7∧tn i s7.heap∧(∀ b∈fp,H' b=none)∧W i m σ' H':=fun {σ7 H7} I7 n7=>by
   obtain ⟨m',hm,w7⟩:=hN σ7 H7 n7
   refine ⟨m',hm,i+1,σ7,H7,I7.unpinned,T.keep _ _ _ st5 fun b hb o e=>(I7.pin (b,o) (List.mem_append_right _ (List.mem_append_right _ (qk hb e)))).1,fun b hb=>?_,w7⟩
   obtain ⟨o,e,d⟩:=T.obj _ _ st5 b hb
   exact (I7.pin (b,o) (List.mem_append_right _ (List.mem_append_right _ (qk hb e)))).2.1
  cases f with
  | next=>obtain ⟨σ7,H7,I7,n7⟩:=q7;exact again I7 n7
  | cont=>obtain ⟨σ7,H7,I7,n7⟩:=q7;exact again I7 n7
  | brk=>obtain ⟨σ7,H7,I7,q7⟩:=q7;exact ⟨σ7,H7,I7.unpinned,q7⟩
  | ret v=>obtain ⟨x7,σ7,H7,I7,r7,q7⟩:=q7;exact ⟨x7,σ7,H7,I7.unpinned,r7,q7⟩
end
theorem jac {K:PySem.W.Frag} {a:Addr} {xs:List V} {g:TG} {tb:TS} {D:Ends} {σ:St} {H:Hp} (Pv:Nat→St→Hp→Prop) (h0:Pv 0 σ H) (hl:∀ i σ H,i≤xs.length→Pv i σ H→SqL K H a xs)
  (hs:∀ i x σ H,xs[i]?=some x→Pv i σ H→g x σ H fun σ2 H2=>tb { D with nx:=Pv (i+1),ct:=Pv (i+1),bk:=D.nx } σ2 H2) (hd:∀ σ H,Pv xs.length σ H→D.nx σ H) :
  ∃ W:Nat→Nat→St→Hp→Prop,(∃ m,W 0 m σ H)∧∀ i m σ H,W i m σ H→
   ((Itl K a).stop i H∧D.nx σ H)∨((Itl K a).go i H∧∃ N:St→Hp→Prop,(∀ σ' H',N σ' H'→∃ m',m' < m∧W (i+1) m' σ' H')∧∀ x H',(Itl K a).yld i H x H'→g x σ H' fun σ2 H2=>tb { D with nx:=N,ct:=N,bk:=D.nx } σ2 H2):=by
 refine ⟨fun i m σ H=>m=xs.length - i∧i≤xs.length∧Pv i σ H,⟨xs.length,by simp,Nat.zero_le _,h0⟩,?_⟩
 rintro i m σ H ⟨rfl,hi,p⟩
 have q:=hl i σ H hi p
 by_cases hlt:i < xs.length
 ·refine .inr ⟨⟨xs,xs[i],q,by simp [hlt]⟩,Pv (i+1),fun σ' H' p'=>⟨xs.length - (i+1),by omega,rfl,hlt,p'⟩,fun x H' y=>?_⟩
  obtain ⟨e,y⟩:=y
  subst e
  exact hs i x σ _ (y xs q) p
 ·have e:i=xs.length:=by omega
  subst e
  exact .inl ⟨⟨xs,q,Nat.le_refl _⟩,hd σ H p⟩
theorem Zm {K:PySem.W.Frag} {a:Addr} {xs:List V} {g:TG} {tb:TS} {D:Ends} {σ:St} {H:Hp} (Pv:Nat→St→Hp→Prop) (h0:Pv 0 σ H) (hl:∀ i σ H,i≤xs.length→Pv i σ H→SqT K H a xs)
  (hs:∀ i x σ H,xs[i]?=some x→Pv i σ H→g x σ H fun σ2 H2=>tb { D with nx:=Pv (i+1),ct:=Pv (i+1),bk:=D.nx } σ2 H2) (hd:∀ σ H,Pv xs.length σ H→D.nx σ H) :
  ∃ W:Nat→Nat→St→Hp→Prop,(∃ m,W 0 m σ H)∧∀ i m σ H,W i m σ H→
   ((Itt K a).stop i H∧D.nx σ H)∨((Itt K a).go i H∧∃ N:St→Hp→Prop,(∀ σ' H',N σ' H'→∃ m',m' < m∧W (i+1) m' σ' H')∧∀ x H',(Itt K a).yld i H x H'→g x σ H' fun σ2 H2=>tb { D with nx:=N,ct:=N,bk:=D.nx } σ2 H2):=by
 refine ⟨fun i m σ H=>m=xs.length - i∧i≤xs.length∧Pv i σ H,⟨xs.length,by simp,Nat.zero_le _,h0⟩,?_⟩
 rintro i m σ H ⟨rfl,hi,p⟩
 have q:=hl i σ H hi p
 by_cases hlt:i < xs.length
 ·refine .inr ⟨⟨xs,xs[i],q,by simp [hlt]⟩,Pv (i+1),fun σ' H' p'=>⟨xs.length - (i+1),by omega,rfl,hlt,p'⟩,fun x H' y=>?_⟩
  obtain ⟨e,y⟩:=y
  subst e
  exact hs i x σ _ (y xs q) p
 ·have e:i=xs.length:=by omega
  subst e
  exact .inl ⟨⟨xs,q,Nat.le_refl _⟩,hd σ H p⟩
theorem yG {lo:Int} {n:Nat} {g:TG} {tb:TS} {D:Ends} {σ:St} {H:Hp} (Pv:Nat→St→Hp→Prop) (h0:Pv 0 σ H)
  (hs:∀ i σ H,i < n→Pv i σ H→g (.int (lo+i)) σ H fun σ2 H2=>tb { D with nx:=Pv (i+1),ct:=Pv (i+1),bk:=D.nx } σ2 H2) (hd:∀ σ H,Pv n σ H→D.nx σ H) :
  ∃ W:Nat→Nat→St→Hp→Prop,(∃ m,W 0 m σ H)∧∀ i m σ H,W i m σ H→
   ((Itr lo n).stop i H∧D.nx σ H)∨((Itr lo n).go i H∧∃ N:St→Hp→Prop,(∀ σ' H',N σ' H'→∃ m',m' < m∧W (i+1) m' σ' H')∧∀ x H',(Itr lo n).yld i H x H'→g x σ H' fun σ2 H2=>tb { D with nx:=N,ct:=N,bk:=D.nx } σ2 H2):=by
 refine ⟨fun i m σ H=>m=n - i∧i≤n∧Pv i σ H,⟨n,by simp,Nat.zero_le _,h0⟩,?_⟩
 rintro i m σ H ⟨rfl,hi,p⟩
 by_cases hlt:i < n
 ·refine .inr ⟨hlt,Pv (i+1),fun σ' H' p'=>⟨n - (i+1),by omega,rfl,hlt,p'⟩,fun x H' y=>?_⟩
  obtain ⟨e,y⟩:=y
  subst e y
  exact hs i σ _ hlt p
 ·have e:i=n:=by omega
  subst e
  exact .inl ⟨Nat.le_refl _,hd σ H p⟩
theorem jc5 {c:TT} {tb:TS} {D:Ends} {σ:St} {H:Hp} (Pv:St→Hp→Prop) (μ:St→Hp→Nat) (h0:Pv σ H)
  (hs:∀ σ H,Pv σ H→c σ H fun b H1=>if b=true then tb { D with nx:=fun σ' H'=>Pv σ' H'∧μ σ' H' < μ σ H,ct:=fun σ' H'=>Pv σ' H'∧μ σ' H' < μ σ H,bk:=D.nx } σ H1 else D.nx σ H1)
  (mono:∀ σ H Q Q',(∀ b H1,Q b H1→Q' b H1)→c σ H Q→c σ H Q'):jaC c tb D σ H:=by
 refine ⟨fun m σ H=>m=μ σ H∧Pv σ H,⟨_,rfl,h0⟩,?_⟩
 rintro m σ H ⟨rfl,p⟩
 refine mono σ H _ _ (fun b H1 q=>?_) (hs σ H p)
 cases b with
 | true=>exact ⟨_,fun σ' H' ⟨p',l⟩=>⟨_,l,rfl,p'⟩,q⟩
 | false=>exact q
open PySem PySem.Spec PyProof.Rows
abbrev R2:=V→V→Hp→VK→Prop
def OpR (X:Cx) (f:Value→Value→Sem Value) (r:R2):Prop:=
 ∀ (pins:List (Addr×Obj)) (s:Shared) (σ:St) (H:Hp) (x y:V) (v u:Value) (Q:VK),Inv X pins σ H s→RelV x v→RelV y u→r x y H Q→
  wpAny (model X.prog X.w) X.A (f v u) (EP X pins σ Q) X.xe s
def UnR (X:Cx) (f:Value→Sem Value) (r:V→Hp→VK→Prop):Prop:=
 ∀ (pins:List (Addr×Obj)) (s:Shared) (σ:St) (H:Hp) (x:V) (v:Value) (Q:VK),Inv X pins σ H s→RelV x v→r x H Q→
  wpAny (model X.prog X.w) X.A (f v) (EP X pins σ Q) X.xe s
def q5 (X:Cx) (f:Value) (r:List V→Hp→VK→Prop):Prop:=
 ∀ (pins:List (Addr×Obj)) (s:Shared) (σ:St) (H:Hp) (xs:List V) (us:List Value) (Q:VK),Inv X pins σ H s→Vals xs us→r xs H Q→
  wpAny (model X.prog X.w) X.A (call f us) (EP X pins σ Q) X.xe s
def tOp (r:R2) (ta tb:TE):TE:=fun σ H Q=>ta σ H fun x H1=>tb σ H1 fun y H2=>r x y H2 Q
def tUn (r:V→Hp→VK→Prop) (ta:TE):TE:=fun σ H Q=>ta σ H fun x H1=>r x H1 Q
def rI (C:Int→Int→Prop) (g:Int→Int→V):R2:=fun x y H Q=>∃ i j,x=.int i∧y=.int j∧C i j∧Q (g i j) H
def rI0 (g:Int→Int→V):R2:=fun x y H Q=>∃ i j,x=.int i∧y=.int j∧Q (g i j) H
def rU (g:Int→V):V→Hp→VK→Prop:=fun x H Q=>∃ i,x=.int i∧Q (g i) H
section
variable {X:Cx} {a b c:Expr} {ta tb tc:TE} {pos:Pos}
theorem jgB (ha:PE X a ta) (hb:PE X b tb) {pins:List (Addr×Obj)} {s:Shared} {σ:St} {H:Hp} {R:V→V→Hp→Prop} (I:Inv X pins σ H s)
  (h:ta σ H fun x H1=>tb σ H1 fun y H2=>R x y H2) {Q:Value→Shared→Prop} {f:Value→Value→Sem Value}
  (hf:∀ v u s2 x y H2,Inv X pins σ H2 s2→RelV x v→RelV y u→R x y H2→wpAny (model X.prog X.w) X.A (f v u) Q X.xe s2) :
  wpAny (model X.prog X.w) X.A (eval a X.env) (fun v s₁=>wpAny (model X.prog X.w) X.A (eval b X.env) (fun u s₂=>wpAny (model X.prog X.w) X.A (f v u) Q X.xe s₂) X.xe s₁) X.xe s:=by
 refine thn (ha pins s σ H _ I h) fun v s1 ⟨x,H1,I1,r1,q1⟩=>?_
 refine thn (hb pins s1 σ H1 _ I1 q1) fun u s2 ⟨y,H2,I2,r2,q2⟩=>?_
 exact hf v u s2 x y H2 I2 r1 r2 q2
theorem jx {op:Operator} {r:R2} (ho:OpR X (binaryOp op) r) (ha:PE X a ta) (hb:PE X b tb):PE X (.BinOp a op b pos) (tOp r ta tb):=by
 intro pins s σ H Q I h
 exact wpAny_BinOp (jgB ha hb I h fun v u s2 x y H2 I2 rx ry q=>ho pins s2 σ H2 x y v u Q I2 rx ry q)
theorem jg5 {op:UnaryOp} {r:V→Hp→VK→Prop} (ho:UnR X (unaryOp op) r) (ha:PE X a ta):PE X (.UnaryOp op a pos) (tUn r ta):=by
 intro pins s σ H Q I h
 exact UnaryOp_ (thn (ha pins s σ H _ I h) fun v s1 ⟨x,H1,I1,r1,q1⟩=>ho pins s1 σ H1 x v Q I1 r1 q1)
theorem opI {f:Value→Value→Sem Value} {C:Int→Int→Prop} {g:Int→Int→Int}
  (rule:∀ (i j:Int) (t u:Tok) (s:Shared) (Q:Value→Shared→Prop) (E:Value→Shared→Prop),C i j→Q (.int (g i j) s.toks) { s with toks:=s.toks+1 }→wpAny (model X.prog X.w) X.A (f (.int i t) (.int j u)) Q E s) :
  OpR X f (rI C fun i j=>.int (g i j)):=by
 intro pins s σ H x y v u Q I rx ry h
 obtain ⟨i,j,rfl,rfl,hc,q⟩:=h
 obtain ⟨t,rfl⟩:=rx
 obtain ⟨t',rfl⟩:=ry
 exact rule i j t t' s _ _ hc ⟨.int (g i j),H,I.tok _,⟨_,rfl⟩,q⟩
theorem jhc {f:Value→Value→Sem Value} {g:Int→Int→Int}
  (rule:∀ (i j:Int) (t u:Tok) (s:Shared) (Q:Value→Shared→Prop) (E:Value→Shared→Prop),Q (.int (g i j) s.toks) { s with toks:=s.toks+1 }→wpAny (model X.prog X.w) X.A (f (.int i t) (.int j u)) Q E s) :
  OpR X f (rI0 fun i j=>.int (g i j)):=by
 intro pins s σ H x y v u Q I rx ry h
 obtain ⟨i,j,rfl,rfl,q⟩:=h
 obtain ⟨t,rfl⟩:=rx
 obtain ⟨t',rfl⟩:=ry
 exact rule i j t t' s _ _ ⟨.int (g i j),H,I.tok _,⟨_,rfl⟩,q⟩
theorem jeY {f:Value→Value→Sem Value} {g:Int→Int→Bool}
  (rule:∀ (i j:Int) (t u:Tok) (s:Shared) (Q:Value→Shared→Prop) (E:Value→Shared→Prop),Q (.bool (g i j)) s→wpAny (model X.prog X.w) X.A (f (.int i t) (.int j u)) Q E s) :
  OpR X f (rI0 fun i j=>.bl (g i j)):=by
 intro pins s σ H x y v u Q I rx ry h
 obtain ⟨i,j,rfl,rfl,q⟩:=h
 obtain ⟨t,rfl⟩:=rx
 obtain ⟨t',rfl⟩:=ry
 exact rule i j t t' s _ _ ⟨.bl (g i j),H,I,rfl,q⟩
def jhL (i j:Int):Prop:=0≤j∧j≤1000000∧i.natAbs < 2 ^ 64
def CMul (i j:Int):Prop:=(-(2 ^ 64) < i∧i < 2 ^ 64)∨(-(2 ^ 64) < j∧j < 2 ^ 64)
theorem CMul.ok {i j:Int} (h:CMul i j):IntMulOk i j:=by
 rcases h with ⟨h1,h2⟩ | ⟨h1,h2⟩
 ·exact .of_left (intBits_le_64 h1 h2)
 ·exact .of_right (intBits_le_64 h1 h2)
theorem j6:OpR X (binaryOp .Add) (rI0 fun i j=>.int (i+j)):=jhc fun _ _ _ _ _ _ _ q=>add_int q
theorem qt:OpR X (binaryOp .Sub) (rI0 fun i j=>.int (i - j)):=jhc fun _ _ _ _ _ _ _ q=>sub_int q
theorem kC:OpR X (binaryOp .Mult) (rI CMul fun i j=>.int (i * j)):=opI fun _ _ _ _ _ _ _ hc q=>mul_int q hc.ok
theorem j5:OpR X (binaryOp .Mod) (rI (fun _ j=>0 < j) fun i j=>.int (i % j)):=opI fun i j _ _ _ _ _ hc q=>by
 have h1:(0:Int) < j:=hc
 exact mod_int' (by omega) (by rw [Int.fmod_eq_emod_of_nonneg i (by omega)];exact q)
theorem zF:OpR X (binaryOp .Pow) (rI jhL fun i j=>.int (i ^ j.toNat)):=opI fun _ _ _ _ _ _ _ hc q=>pow_int_small hc.1 hc.2.1 hc.2.2 q
theorem unI {f:Value→Sem Value} {g:Int→Int}
  (rule:∀ (i:Int) (t:Tok) (s:Shared) (Q:Value→Shared→Prop) (E:Value→Shared→Prop),Q (.int (g i) s.toks) { s with toks:=s.toks+1 }→wpAny (model X.prog X.w) X.A (f (.int i t)) Q E s) :
  UnR X f (rU fun i=>.int (g i)):=by
 intro pins s σ H x v Q I rx h
 obtain ⟨i,rfl,q⟩:=h
 obtain ⟨t,rfl⟩:=rx
 exact rule i t s _ _ ⟨.int (g i),H,I.tok _,⟨_,rfl⟩,q⟩
theorem Kh:UnR X (unaryOp .USub) (rU fun i=>.int (-i)):=unI fun _ _ _ _ _ q=>neg_int q
end
def jgW:V→V→Bool
 | .non,.non=>true | .non,.int _=>true | .int _,.non=>true | .non,.bl _=>true | .bl _,.non=>true | .non,.str _=>true | .str _,.non=>true
 | .int _,.int _=>true | .bl _,.bl _=>true | .str _,.str _=>true | .byt _,.byt _=>true
 | .int _,.str _=>true | .str _,.int _=>true | .bl _,.str _=>true | .str _,.bl _=>true
 | _,_=>false
def rEq:R2:=fun x y H Q=>jgW x y=true∧Q (.bl (decide (x=y))) H
def rNe:R2:=fun x y H Q=>jgW x y=true∧Q (.bl (!decide (x=y))) H
theorem jbS {i j:Int}:decide (V.int i=V.int j)=(i == j):=by
 rw [Bool.eq_iff_iff]
 simp
theorem jeb {i j:Bool}:decide (V.bl i=V.bl j)=(i == j):=by
 rw [Bool.eq_iff_iff]
 simp
theorem jbR {i j:Str}:decide (V.str i=V.str j)=(i == j):=by
 rw [Bool.eq_iff_iff]
 simp
theorem jbT {i j:Array UInt8}:decide (V.byt i=V.byt j)=(i.toList == j.toList):=by
 rw [Bool.eq_iff_iff]
 cases i
 cases j
 simp
section
variable {X:Cx} {a b c:Expr} {ta tb tc:TE} {pos:Pos}
theorem j8 {pins:List (Addr×Obj)} {σ:St} {H:Hp} {s:Shared} {Q:VK} {k k':Bool} (I:Inv X pins σ H s) (q:Q (.bl k) H) (e:k=k'):EP X pins σ Q (.bool k') s:=by
 subst e
 exact ⟨.bl k,H,I,rfl,q⟩
theorem kZ:OpR X (compareOp .Eq) rEq:=by
 intro pins s σ H x y v u Q I rx ry h
 obtain ⟨hs,q⟩:=h
 cases x with
 | non=>
  cases rx
  cases y with
  | non=>cases ry;exact PySem.EqNone.eq_none_none (j8 I q (by simp))
  | bl j=>cases ry;exact PySem.EqNone.eq_none_bool (j8 I q (by simp))
  | int j=>obtain ⟨t',rfl⟩:=ry;exact PySem.EqNone.eq_none_int (j8 I q (by simp))
  | str j=>obtain ⟨t',rfl⟩:=ry;exact PySem.EqNone.eq_none_str (j8 I q (by simp))
  | _=>exact absurd (show false=true from hs) Bool.false_ne_true
 | bl i=>
  cases rx
  cases y with
  | non=>cases ry;exact PySem.EqNone.eq_bool_none (j8 I q (by simp))
  | bl j=>cases ry;exact eq_bool (j8 I q jeb)
  | str j=>obtain ⟨t',rfl⟩:=ry;exact PySem.EqMixed.eq_bool_str (j8 I q (by simp))
  | _=>exact absurd (show false=true from hs) Bool.false_ne_true
 | int i=>
  obtain ⟨t,rfl⟩:=rx
  cases y with
  | non=>cases ry;exact PySem.EqNone.eq_int_none (j8 I q (by simp))
  | int j=>obtain ⟨t',rfl⟩:=ry;exact eq_int (j8 I q jbS)
  | str j=>obtain ⟨t',rfl⟩:=ry;exact PySem.EqMixed.eq_int_str (j8 I q (by simp))
  | _=>exact absurd (show false=true from hs) Bool.false_ne_true
 | str i=>
  obtain ⟨t,rfl⟩:=rx
  cases y with
  | non=>cases ry;exact PySem.EqNone.eq_str_none (j8 I q (by simp))
  | bl j=>cases ry;exact PySem.EqMixed.eq_str_bool (j8 I q (by simp))
  | int j=>obtain ⟨t',rfl⟩:=ry;exact PySem.EqMixed.eq_str_int (j8 I q (by simp))
  | str j=>obtain ⟨t',rfl⟩:=ry;exact eq_str (j8 I q jbR)
  | _=>exact absurd (show false=true from hs) Bool.false_ne_true
 | byt i=>
  obtain ⟨t,rfl⟩:=rx
  cases y with
  | byt j=>obtain ⟨t',rfl⟩:=ry;exact PySem.W.eq_bytes (j8 I q jbT)
  | _=>exact absurd (show false=true from hs) Bool.false_ne_true
 | _=>cases y <;> exact absurd (show false=true from hs) Bool.false_ne_true
theorem jfF:OpR X (compareOp .NotEq) rNe:=by
 intro pins s σ H x y v u Q I rx ry h
 obtain ⟨hs,q⟩:=h
 cases x with
 | non=>
  cases rx
  cases y with
  | non=>cases ry;exact PySem.EqNone.ne_none_none (j8 I q (by simp))
  | bl j=>cases ry;exact PySem.EqNone.ne_none_bool (j8 I q (by simp))
  | int j=>obtain ⟨t',rfl⟩:=ry;exact PySem.EqNone.ne_none_int (j8 I q (by simp))
  | str j=>obtain ⟨t',rfl⟩:=ry;exact PySem.EqNone.ne_none_str (j8 I q (by simp))
  | _=>exact absurd (show false=true from hs) Bool.false_ne_true
 | bl i=>
  cases rx
  cases y with
  | non=>cases ry;exact PySem.EqNone.ne_bool_none (j8 I q (by simp))
  | bl j=>cases ry;exact ne_bool (j8 I q (congrArg not jeb))
  | str j=>obtain ⟨t',rfl⟩:=ry;exact PySem.EqMixed.ne_bool_str (j8 I q (by simp))
  | _=>exact absurd (show false=true from hs) Bool.false_ne_true
 | int i=>
  obtain ⟨t,rfl⟩:=rx
  cases y with
  | non=>cases ry;exact PySem.EqNone.ne_int_none (j8 I q (by simp))
  | int j=>obtain ⟨t',rfl⟩:=ry;exact ne_int (j8 I q (congrArg not jbS))
  | str j=>obtain ⟨t',rfl⟩:=ry;exact PySem.EqMixed.ne_int_str (j8 I q (by simp))
  | _=>exact absurd (show false=true from hs) Bool.false_ne_true
 | str i=>
  obtain ⟨t,rfl⟩:=rx
  cases y with
  | non=>cases ry;exact PySem.EqNone.ne_str_none (j8 I q (by simp))
  | bl j=>cases ry;exact PySem.EqMixed.ne_str_bool (j8 I q (by simp))
  | int j=>obtain ⟨t',rfl⟩:=ry;exact PySem.EqMixed.ne_str_int (j8 I q (by simp))
  | str j=>obtain ⟨t',rfl⟩:=ry;exact ne_str (j8 I q (congrArg not jbR))
  | _=>exact absurd (show false=true from hs) Bool.false_ne_true
 | byt i=>
  obtain ⟨t,rfl⟩:=rx
  cases y with
  | byt j=>obtain ⟨t',rfl⟩:=ry;exact PySem.W.ne_bytes (j8 I q (congrArg not jbT))
  | _=>exact absurd (show false=true from hs) Bool.false_ne_true
 | _=>cases y <;> exact absurd (show false=true from hs) Bool.false_ne_true
theorem jbz:OpR X (compareOp .Lt) (rI0 fun i j=>.bl (decide (i < j))):=jeY fun _ _ _ _ _ _ _ q=>lt_int q
theorem jbA:OpR X (compareOp .LtE) (rI0 fun i j=>.bl (decide (i≤j))):=jeY fun _ _ _ _ _ _ _ q=>le_int q
theorem jbB:OpR X (compareOp .Gt) (rI0 fun i j=>.bl (decide (j < i))):=jeY fun _ _ _ _ _ _ _ q=>gt_int q
theorem jhb:OpR X (compareOp .GtE) (rI0 fun i j=>.bl (decide (j≤i))):=jeY fun _ _ _ _ _ _ _ q=>ge_int q
theorem jaQ:OpR X (compareOp .Is) (fun x y H Q=>y=.non∧Q (.bl (decide (x=.non))) H):=by
 intro pins s σ H x y v u Q I rx ry h
 obtain ⟨rfl,q⟩:=h
 cases ry
 refine is_none_gen (j8 I q ?_)
 cases x <;> first
  | (cases rx;rfl)
  | (obtain ⟨t,rfl⟩:=rx;rfl)
theorem J5:OpR X (compareOp .IsNot) (fun x y H Q=>y=.non∧Q (.bl (!decide (x=.non))) H):=by
 intro pins s σ H x y v u Q I rx ry h
 obtain ⟨rfl,q⟩:=h
 cases ry
 refine isnot_none_gen (j8 I q ?_)
 cases x <;> first
  | (cases rx;rfl)
  | (obtain ⟨t,rfl⟩:=rx;rfl)
theorem jJ (b:Expr) {op:CmpOp} (h:op≠.In:=by decide) (h2:op≠.NotIn:=by decide):behindInMarks op b=false:=by
 have e1:(op == CmpOp.In)=false:=by cases op <;> first | rfl | exact absurd rfl h
 have e2:(op == CmpOp.NotIn)=false:=by cases op <;> first | rfl | exact absurd rfl h2
 cases b <;> simp [behindInMarks,e1,e2]
theorem J4 {op:CmpOp} {r:R2} (ho:OpR X (compareOp op) r) (ha:PE X a ta) (hb:PE X b tb) (hm:behindInMarks op b=false):PE X (.Compare a [op] [b] pos) (tOp r ta tb):=by
 intro pins s σ H Q I h
 exact wpAny_Compare1 (jgB ha hb I h fun v u s2 x y H2 I2 rx ry q=>ho pins s2 σ H2 x y v u Q I2 rx ry q) hm
def jfs (t:TE):TT:=fun σ H Q=>t σ H fun x H'=>∃ k,x=.bl k∧Q k H'
theorem kB {op:CmpOp} {r:R2} (ho:OpR X (compareOp op) r) (ha:PE X a ta) (hb:PE X b tb) (hm:behindInMarks op b=false):PT X (.Compare a [op] [b] pos) (jfs (tOp r ta tb)):=by
 intro pins s σ H Q I h
 refine wpAny_isTrue_Compare1 (thn (ha pins s σ H _ I h) fun v s1 ⟨x,H1,I1,r1,q1⟩=>thn (hb pins s1 σ H1 _ I1 q1) fun u s2 ⟨y,H2,I2,r2,q2⟩=>
  thn (ho pins s2 σ H2 x y v u _ I2 r1 r2 q2) fun c s3 ⟨z,H3,I3,r3,k,e,q3⟩=>?_) hm
 subst e
 cases r3
 exact wpAny_truthy_bool ⟨H3,I3,q3⟩
theorem KA:(sizeLine:Nat) < 2 ^ 63:=by rw [sizeLine_eq];decide
theorem jaR:OpR X (binaryOp .Add) (fun x y H Q=>∃ i j,x=.str i∧y=.str j∧i.length+j.length≤sizeLine∧Q (.str (i++j)) H):=by
 intro pins s σ H x y v u Q I rx ry h
 obtain ⟨i,j,rfl,rfl,hz,q⟩:=h
 obtain ⟨t,rfl⟩:=rx
 obtain ⟨t',rfl⟩:=ry
 exact add_str (fun t' tk=>⟨.str (i++j),H,I.tok _,⟨_,rfl⟩,q⟩) hz
theorem yk {x:V} {us:List Value} (r:Vals [x] us):∃ u,us=[u]∧RelV x u:=by
 cases r with
 | cons r1 r2=>cases r2;exact ⟨_,rfl,r1⟩
theorem jbn {x y:V} {us:List Value} (r:Vals [x,y] us):∃ u w',us=[u,w']∧RelV x u∧RelV y w':=by
 cases r with
 | cons r1 r2=>
  cases r2 with
  | cons r3 r4=>cases r4;exact ⟨_,_,rfl,r1,r3⟩
theorem jcX (hc:X.calm=true):q5 X (.builtin "min") (fun xs H Q=>∃ i j,xs=[.int i,.int j]∧Q (.int (if j < i then j else i)) H):=by
 intro pins s σ H xs us Q I r h
 obtain ⟨i,j,rfl,q⟩:=h
 obtain ⟨u,w',rfl,⟨t,rfl⟩,⟨t',rfl⟩⟩:=jbn r
 refine min_two_ints (I.ok.hd hc) fun h' tk k=>⟨_,H,I.kept k,?_,q⟩
 by_cases hj:j < i
 ·rw [if_pos hj,if_pos hj];exact ⟨_,rfl⟩
 ·rw [if_neg hj,if_neg hj];exact ⟨_,rfl⟩
theorem zf:q5 X (.type "int") (fun xs H Q=>(∃ i,xs=[.int i]∧Q (.int i) H)∨∃ k,xs=[.bl k]∧Q (.int (if k then 1 else 0)) H):=by
 intro pins s σ H xs us Q I r h
 rcases h with ⟨i,rfl,q⟩ | ⟨k,rfl,q⟩
 ·obtain ⟨u,rfl,t,rfl⟩:=yk r
  exact call_int_int ⟨.int i,H,I,⟨_,rfl⟩,q⟩
 ·obtain ⟨u,rfl,r1⟩:=yk r
  cases r1
  exact call_int_bool ⟨.int (if k then 1 else 0),H,I.tok _,⟨_,rfl⟩,q⟩
end
open PySem PySem.Spec PyProof.Rows
structure ObjM (h:Heap) (x dx C:Addr) (mA:Str→Option Value):Prop where
 obj:h.get? x=some (PySem.W.instObj C dx)
 ns:h.Ns1 dx mA
 ne:dx≠x
theorem jcA {h:Heap} {dx:Addr} {mA:Str→Option Value} (n:h.Ns1 dx mA):∃ od,h.get? dx=some od∧∀ name,PySem.W.lookIn name od=some (mA name):=by
 obtain ⟨o,es,ep,ho,hd,hk,_,hm⟩:=n
 refine ⟨o,ho,fun name=>?_⟩
 have e:=hm name
 unfold nsFind findBy at e
 rw [← Array.find?_toList] at e
 unfold PySem.W.lookIn
 rw [hd]
 dsimp only
 split
 ·rename_i y q
  rw [q] at e
  exact congrArg some e
 ·rename_i q
  rw [q] at e
  have a:es.toList.any (·.refKey)=false:=by
   rw [List.any_eq_false]
   intro y hy
   obtain ⟨z,t,hkey⟩:=hk y (Array.mem_toList_iff.mp hy)
   simp [DictEntry.refKey,hkey]
  have a':¬ es.toList.any (·.refKey)=true:=by rw [a];exact Bool.false_ne_true
  rw [if_neg a']
  exact congrArg some e
theorem ObjM.look {h:Heap} {x dx C:Addr} {mA:Str→Option Value} (I:ObjM h x dx C mA):∃ od,PySem.W.InstAt h x (PySem.W.instObj C dx) C (some od)∧∀ name,PySem.W.lookIn name od=some (mA name):=
 let ⟨od,ho,hl⟩:=jcA I.ns
 ⟨od,⟨I.obj,rfl,rfl,ho⟩,hl⟩
section
variable {prog:Program} {w:World} {A:Around} {E:Value→Shared→Prop} {s:Shared} {K:PySem.W.Frag} {x dx C f:Addr} {mA:Str→Option Value} {name:Str} {v:Value}
theorem jff {expr:Bool} {Q:Value→Shared→Prop} (X:K.In s.heap) (I:ObjM s.heap x dx C mA) (hg:PySem.W.plainGet K C name=true) (hh:PySem.W.hasDictIn K C=true)
  (ha:PySem.W.findIn K (.ref C) name=some none) (hv:mA name=some v) (hv':PySem.W.handedIn v=true) (h:Q v { s with toks:=s.toks+1 }) :
  wpAny (model prog w) A (getAttr (.ref x) name expr) Q E s:=by
 obtain ⟨od,J,hl⟩:=I.look
 exact PySem.W.get_value X J (PySem.W.plainGet_of hg).1 (PySem.W.findObj_own hh ha rfl (by rw [hl,hv])) hv' h
theorem jez {ns:List Str} {Q:Unit→Shared→Prop} (X:K.In s.heap) (I:ObjM s.heap x dx C mA)
  (hs:PySem.W.findIn K (.ref C) "__setattr__" = some (some (.builtin "object.__setattr__"))) (hp:PySem.W.plainOver K C=true) (ht:PySem.W.takerIn K C name=some none) (hh:PySem.W.hasDictIn K C=true)
  (hw:PySem.Within mA ns) (hsz:ns.length≤sizeLine)
  (h:∀ h',ObjM h' x dx C (fun y=>if y=name then some v else mA y)→Heap.SameBut dx s.heap h'→Q () { s with heap:=h',toks:=s.toks+2 }) :
  wpAny (model prog w) A (setAttr (.ref x) name v) Q E s:=by
 obtain ⟨od,J,hl⟩:=I.look
 refine PySem.W.set_plain X J hs (PySem.W.osa_open (s:={ s with toks:=s.toks+1 }) (r:=none) X J hp ht fun b=>?_)
 obtain ⟨cd,hc,hd'⟩:=PySem.W.any_some hh
 have hx:s.heap.get? x=some ⟨.ref C,some dx,.plain,#[]⟩:=I.obj
 refine wpAny_bind (wpAny_pure (wpAny_bind (wpAny_bind (wpAny_loadPart hx (wpAny_bind (PySem.W.Looks.here (s:={ s with toks:=s.toks+1 }) (PySem.W.looks_clsIn X hc) ?_))))))
 rw [hd']
 refine wpAny_pure (a:=some dx) (wpAny_bind (wpAny_pure (wpAny_bind ?_)))
 refine wpAny_nsSet1 (s:={ s with toks:=s.toks+1 }) I.ns fun h' hn2 hs2=>?_
 obtain ⟨oD,esD,epD,hoD,hdD,hcD⟩:=hn2.count (PySem.Within.cons name v hw)
 refine wpAny_bind (wpAny_lookBehind hoD (by rw [hdD];exact pastItsLine_dict (Nat.le_trans hcD (by rw [List.length_cons];omega))) ?_)
 exact wpAny_pure (h _ ⟨(hs2.2 _ (Ne.symm I.ne)).trans I.obj,hn2,I.ne⟩ hs2)
theorem jdO {R:Result→Shared→Prop} {vs:List Value} {kw:List (Str×Value)} (X:K.In s.heap) (hm:PySem.W.makesIn K C=true)
  (hi:PySem.W.findIn K (.ref C) "__init__" = some (some (.ref f))) (hf:PySem.W.typeIn K (.ref f)=some (.type "function"))
  (h:codeAny (model prog w) (A.under (.builtin "type.__call__" ⟨.ref C :: vs,kw⟩)) (.call (.ref f) ⟨.ref (s.heap.objs.size+1) :: vs,kw⟩) (PySem.W.InitBack (s.heap.objs.size+1) R)
   { s with heap:=(s.heap.push PySem.W.emptyDict).push (PySem.W.instObj C s.heap.objs.size) }) :
  codeAny (model prog w) A (.call (.ref C) ⟨vs,kw⟩) R s:=by
 obtain ⟨hh,g,d,t,os⟩:=s
 exact PySem.W.make_core (PySem.W.makes_of X hm) (PySem.W.looks_findIn X hi) (fun self=>PySem.W.bind_fn X self hf) (.inl rfl) h
end
def jV (f:Str) (v:V):List (Str×V)→List (Str×V)
 | []=>[(f,v)]
 | (g,x) :: r=>if g=f then (g,v) :: r else (g,x) :: jV f v r
theorem JO (f g:Str) (v:V):∀ fs:List (Str×V),(jV f v fs).lookup g=if g=f then some v else fs.lookup g
 | []=>by
  show List.lookup g [(f,v)]=_
  by_cases h:g=f
  ·have hb:(g == f)=true:=beq_iff_eq.mpr h
   simp only [List.lookup,hb,if_pos h]
  ·have hb:(g == f)=false:=beq_eq_false_iff_ne.mpr h
   simp only [List.lookup,hb,if_neg h]
 | (k,x) :: r=>by
  have ih:=JO f g v r
  rw [show jV f v ((k,x) :: r)=(if k=f then (k,v) :: r else (k,x) :: jV f v r) from rfl]
  by_cases hk:k=f
  ·rw [if_pos hk]
   by_cases h:g=k
   ·have hb:(g == k)=true:=beq_iff_eq.mpr h
    simp only [List.lookup,hb,if_pos (h.trans hk)]
   ·have hb:(g == k)=false:=beq_eq_false_iff_ne.mpr h
    simp only [List.lookup,hb,if_neg (fun e:g=f=>h (e.trans hk.symm))]
  ·rw [if_neg hk]
   by_cases h:g=k
   ·have hb:(g == k)=true:=beq_iff_eq.mpr h
    simp only [List.lookup,hb,if_neg (fun e:g=f=>hk (h.symm.trans e))]
   ·have hb:(g == k)=false:=beq_eq_false_iff_ne.mpr h
    simp only [List.lookup,hb]
    exact ih
theorem JE (f:Str) (v:V):∀ fs:List (Str×V),f∈(jV f v fs).map (·.1)∧∀ g,g∈fs.map (·.1)→g∈(jV f v fs).map (·.1)
 | []=>⟨by simp [jV],fun g h=>by simp at h⟩
 | (k,x) :: r=>by
  obtain ⟨i1,i2⟩:=JE f v r
  rw [show jV f v ((k,x) :: r)=(if k=f then (k,v) :: r else (k,x) :: jV f v r) from rfl]
  by_cases hk:k=f
  ·rw [if_pos hk]
   subst hk
   exact ⟨by simp,fun g h=>by simpa using h⟩
  ·rw [if_neg hk]
   refine ⟨?_,fun g h=>?_⟩
   ·rw [List.map_cons]
    exact List.mem_cons_of_mem _ i1
   ·rw [List.map_cons] at h ⊢
    rcases List.mem_cons.mp h with e | e
    ·exact List.mem_cons.mpr (.inl e)
    ·exact List.mem_cons_of_mem _ (i2 g e)
theorem JP (f:Str) (v:V):∀ fs:List (Str×V),(jV f v fs).length≤fs.length+1
 | []=>by simp [jV]
 | (k,x) :: r=>by
  have ih:=JP f v r
  rw [show jV f v ((k,x) :: r)=(if k=f then (k,v) :: r else (k,x) :: jV f v r) from rfl]
  by_cases hk:k=f
  ·rw [if_pos hk,List.length_cons,List.length_cons];omega
  ·rw [if_neg hk,List.length_cons,List.length_cons];omega
theorem RelO.some_of {v:V} {o:Option Value} (r:RelO (some v) o):∃ u,o=some u∧RelV v u:=by
 cases o with
 | none=>exact (show False from r).elim
 | some u=>exact ⟨u,rfl,r⟩
theorem jcK {v:V} {u:Value} (r:RelV v u):PySem.W.handedIn u=true:=by
 cases v with
 | non=>cases (show u=Value.none from r);rfl
 | bl b=>cases (show u=Value.bool b from r);rfl
 | int i=>obtain ⟨t,e⟩:=(show ∃ t,u=Value.int i t from r);cases e;rfl
 | str x=>obtain ⟨t,e⟩:=(show ∃ t,u=Value.str x t from r);cases e;rfl
 | byt b=>obtain ⟨t,e⟩:=(show ∃ t,u=Value.bytes b t from r);cases e;rfl
 | flt b=>obtain ⟨t,e⟩:=(show ∃ t,u=Value.float b t from r);cases e;rfl
 | ref a=>cases (show u=Value.ref a from r);rfl
 | ty n=>cases (show u=Value.type n from r);rfl
section
variable {P:Program} {w:World} {H H':Hp} {h h':Heap} {a C dx:Addr} {fs fs':List (Str×V)}
theorem Zh (hok:HOk P w H h) (e:H a=some (.ins C dx fs)):∃ mA,ObjM h a dx C mA∧(∀ f,RelO (fs.lookup f) (mA f))∧PySem.Within mA (fs.map (·.1))∧fs.length≤1000∧H dx=some (.own a):=by
 obtain ⟨d,z,ne,ob,mA,n,r,q⟩:=(show ObjOk P w H h a (.ins C dx fs) from hok a _ e)
 exact ⟨mA,⟨ob,n,ne⟩,r,q,z,d⟩
end
structure Cls (K:PySem.W.Frag) (C:Addr):Prop where
 pg:PySem.W.plainGet K C Str.empty=true
 hd:PySem.W.hasDictIn K C=true
 po:PySem.W.plainOver K C=true
 sa:PySem.W.findIn K (.ref C) "__setattr__" = some (some (.builtin "object.__setattr__"))
theorem Cls.get {K:PySem.W.Frag} {C:Addr} (c:Cls K C) (f:Str):PySem.W.plainGet K C f=true:=c.pg
def NoAttr (K:PySem.W.Frag) (C:Addr) (f:Str):Prop:=PySem.W.findIn K (.ref C) f=some none
theorem NoAttr.taker {K:PySem.W.Frag} {C:Addr} {f:Str} (n:NoAttr K C f):PySem.W.takerIn K C f=some none:=by
 unfold PySem.W.takerIn
 rw [show PySem.W.findIn K (.ref C) f=some none from n]
 rfl
section
variable {X:Cx} {pins:List (Addr×Obj)} {σ:St} {H:Hp} {s:Shared} {a C dx:Addr} {fs:List (Str×V)} {f:Str} {v:V} {A:Around} {E:Value→Shared→Prop}
theorem KH {b:Bool} {Q:Value→Shared→Prop} (I:Inv X pins σ H s) (e:H a=some (.ins C dx fs)) (c:Cls X.K C) (n:NoAttr X.K C f) (l:fs.lookup f=some v)
  (h:∀ u s',Inv X pins σ H s'→RelV v u→Q u s'):wpAny (model X.prog X.w) A (getAttr (.ref a) f b) Q E s:=by
 obtain ⟨mA,O,r,_,_,_⟩:=Zh I.hok e
 obtain ⟨u,hu,ru⟩:=RelO.some_of (v:=v) (o:=mA f) (by rw [← l];exact r f)
 exact jff I.kIn O (c.get f) c.hd n hu (jcK ru) (h u _ (I.tok _) ru)
theorem Kl {y:V} {u:Value} {Q:Unit→Shared→Prop} (I:Inv X pins σ H s) (e:H a=some (.ins C dx fs)) (c:Cls X.K C) (n:NoAttr X.K C f) (hl:fs.length < 1000) (ry:RelV y u)
  (h:∀ s',Inv X pins σ (upd H a (.ins C dx (jV f y fs))) s'→Q () s'):wpAny (model X.prog X.w) A (setAttr (.ref a) f u) Q E s:=by
 obtain ⟨mA,O,r,wi,_,ho⟩:=Zh I.hok e
 have hz:(fs.map (·.1)).length≤sizeLine:=by rw [List.length_map,sizeLine_eq];omega
 refine jez I.kIn O c.sa c.po n.taker c.hd wi hz fun h' O' sb=>h _ ?_
 have hd:∃ o,h'.get? dx=some o:=let ⟨o,_,_,e',_⟩:=O'.ns;⟨o,e'⟩
 refine I.write (x:=a) (e:=dx) (by rw [e];exact True.intro) (.inr ho) (fun b q hb z=>(sb.2 b hb).trans z) hd ?_
 refine ⟨by rw [jg O.ne];exact ho,?_,O.ne,O'.obj,_,O'.ns,fun g=>?_,fun g hg=>?_⟩
 ·have:=JP f y fs;omega
 ·show RelO ((jV f y fs).lookup g) (if g=f then some u else mA g)
  rw [JO]
  by_cases q:g=f
  ·rw [if_pos q,if_pos q];exact ry
  ·rw [if_neg q,if_neg q];exact r g
 ·by_cases q:g=f
  ·rw [q];exact (JE f y fs).1
  ·refine (JE f y fs).2 g (wi g fun z=>hg ?_)
   show (if g=f then some u else mA g)=none
   rw [if_neg q];exact z
theorem Inv.made (I:Inv X pins σ H s):Inv X pins σ (upd (upd H s.heap.objs.size (.own (s.heap.objs.size+1))) (s.heap.objs.size+1) (.ins C s.heap.objs.size []))
  { s with heap:=(s.heap.push PySem.W.emptyDict).push (PySem.W.instObj C s.heap.objs.size) }:=by
 have e1:(s.heap.push PySem.W.emptyDict).get? s.heap.objs.size=some PySem.W.emptyDict:=Heap.get?_push_size s.heap rfl
 have e2:((s.heap.push PySem.W.emptyDict).push (PySem.W.instObj C s.heap.objs.size)).get? (s.heap.objs.size+1)=some (PySem.W.instObj C s.heap.objs.size):=by
  have:=Heap.get?_push_size (s.heap.push PySem.W.emptyDict) (o:=PySem.W.instObj C s.heap.objs.size) rfl
  rwa [Heap.size_push] at this
 have e3:(s.heap.push PySem.W.emptyDict).Ns s.heap.objs.size (fun _=>none):=⟨PySem.W.emptyDict,#[],_,e1,rfl,(fun e he=>absurd he (by simp)),fun _=>rfl⟩
 have I1:=I.laid (a:=s.heap.objs.size) (o:=.own (s.heap.objs.size+1)) (h':=s.heap.push PySem.W.emptyDict) (t':=s.toks) (fun b u q=>Heap.get?_push_of_some _ q) (Nat.le_refl _) ⟨_,e1⟩
 refine I1.laid (a:=s.heap.objs.size+1) (o:=.ins C s.heap.objs.size []) (t':=s.toks) (fun b u q=>Heap.get?_push_of_some _ q) (Nat.le_of_eq (Heap.size_push _ _)) ?_
 have ne:s.heap.objs.size≠s.heap.objs.size+1:=Nat.ne_of_lt (Nat.lt_succ_self _)
 refine ⟨by rw [jg ne,ja],Nat.zero_le _,ne,e2,fun _=>none,(Heap.Ns1.of_empty e3).at fun o q=>Heap.get?_push_of_some _ q,fun _=>True.intro,fun y hy=>absurd rfl hy⟩
theorem jfn {prog:Program} {w:World} {env:Env} {e:Expr} {f:Str} {pos:Pos} {s:Shared} {Q:Value→Shared→Prop} (hb:attributeBase e f env (eval e env)=eval e env)
  (h:wpAny (model prog w) A (eval e env) (fun o s₁=>wpAny (model prog w) A (getAttr o f true) Q E s₁) E s):wpAny (model prog w) A (eval (.Attribute e f pos) env) Q E s:=
 Attribute_any_ h (by rw [arm_eval_Attribute,hb])
end
def jev (K:PySem.W.Frag) (ta:TE) (f:Str):TE:=fun σ H Q=>ta σ H fun x H1=>∃ a C dx fs v,x=.ref a∧H1 a=some (.ins C dx fs)∧Cls K C∧NoAttr K C f∧fs.lookup f=some v∧Q v H1
def jgX (K:PySem.W.Frag) (ta tv:TE) (f:Str):TS:=fun D σ H=>tv σ H fun y H1=>ta σ H1 fun x H2=>∃ a C dx fs,x=.ref a∧H2 a=some (.ins C dx fs)∧Cls K C∧NoAttr K C f∧fs.length < 1000∧
 D.nx σ (upd H2 a (.ins C dx (jV f y fs)))
def jgH (X:Cx) (op:Operator) (rd:V→V→Hp→VK→Prop):Prop:=
 ∀ (pins:List (Addr×Obj)) (s:Shared) (σ:St) (H:Hp) (x y:V) (u v:Value) (Q:VK),Inv X pins σ H s→RelV x u→RelV y v→rd x y H Q→wpAny (model X.prog X.w) X.A (inplaceOp op u v) (EP X pins σ Q) X.xe s
def jbx (K:PySem.W.Frag) (ta tv:TE) (rd:V→V→Hp→VK→Prop) (f:Str):TS:=fun D σ H=>ta σ H fun x H1=>∃ a C dx fs v,x=.ref a∧H1 a=some (.ins C dx fs)∧Cls K C∧NoAttr K C f∧fs.lookup f=some v∧
 tv σ H1 fun y H2=>rd v y H2 fun z H3=>∃ dx' fs',H3 a=some (.ins C dx' fs')∧fs'.length < 1000∧D.nx σ (upd H3 a (.ins C dx' (jV f z fs')))
section
variable {X:Cx} {o e value:Expr} {f:Str} {pos pos' tpos:Pos} {ta tv:TE}
theorem jdy (he:PE X e ta) (hb:attributeBase e f X.env (eval e X.env)=eval e X.env):PE X (.Attribute e f pos) (jev X.K ta f):=by
 intro pins s σ H Q I h
 refine jfn hb (thn (he pins s σ H _ I h) fun u s1 ⟨x,H1,I1,rx,a,C,dx,fs,v,ex,ea,c,n,l,q⟩=>?_)
 subst ex
 obtain rfl:u=Value.ref a:=rx
 exact KH I1 ea c n l fun u' s2 I2 ru=>⟨v,H1,I2,ru,q⟩
theorem jf6 (ha:PE X o ta) (hv:PE X value tv) (hs:swapsWith value (some (.Attribute o f pos')) pos.line X.env=pure false):PS X (.Assign [.Attribute o f pos'] value pos) (jgX X.K ta tv f):=by
 intro pins s σ H D I h
 refine plainObj_wpAny_Assign_Attribute (thn (hv pins s σ H _ I h) fun u s1 ⟨y,H1,I1,ry,q⟩=>thn (ha pins s1 σ H1 _ I1 q) fun ov s2 ⟨x,H2,I2,rx,a,C,dx,fs,ex,ea,c,n,l,q2⟩=>?_) hs
 subst ex
 obtain rfl:ov=Value.ref a:=rx
 exact Kl I2 ea c n l ry fun s3 I3=>⟨σ,_,I3,q2⟩
theorem jcg {op:Operator} {rd:V→V→Hp→VK→Prop} (ha:PE X o ta) (hv:PE X value tv) (hop:jgH X op rd):PS X (.AugAssign (.Attribute o f tpos) op value pos) (jbx X.K ta tv rd f):=by
 intro pins s σ H D I h
 refine wpAny_AugAssign_AttributeAny (thn (ha pins s σ H _ I h) fun ov s1 ⟨x,H1,I1,rx,a,C,dx,fs,v,ex,ea,c,n,l,q⟩=>?_)
 subst ex
 obtain rfl:ov=Value.ref a:=rx
 refine KH I1 ea c n l fun u s2 I2 ru=>thn (hv pins s2 σ H1 _ I2 q) fun w3 s3 ⟨y,H2,I3,ry,q3⟩=>thn (hop pins s3 σ H2 v y u w3 _ I3 ru ry q3) fun w4 s4 ⟨z,H3,I4,rz,dx',fs',ea',l',q4⟩=>?_
 exact Kl I4 ea' c n l' rz fun s5 I5=>⟨σ,_,I5,q4⟩
def jhC:V→V→Hp→VK→Prop:=fun x y H Q=>∃ i j,x=.int i∧y=.int j∧Q (.int (i+j)) H
theorem ja5:jgH X .Add jhC:=by
 rintro pins s σ H x y u v Q I rx ry ⟨i,j,rfl,rfl,q⟩
 obtain ⟨t,rfl⟩:=(show ∃ t,u=Value.int i t from rx)
 obtain ⟨t',rfl⟩:=(show ∃ t',v=Value.int j t' from ry)
 exact PyProof.Rows.iadd_int ⟨.int (i+j),H,I.tok _,⟨_,rfl⟩,q⟩
end
section
variable {X:Cx} {pins:List (Addr×Obj)} {σ:St} {H:Hp} {s:Shared} {A:Around} {E:Value→Shared→Prop} {Q:Value→Shared→Prop} {c:Value} {b:Bool}
inductive TyOf (K:PySem.W.Frag) (H:Hp):V→Value→Prop where
 | non:TyOf K H .non (.type "NoneType")
 | bl (x:Bool):TyOf K H (.bl x) (.type "bool")
 | int (i:Int):TyOf K H (.int i) (.type "int")
 | str (x:Str):TyOf K H (.str x) (.type "str")
 | flt (x:UInt64):TyOf K H (.flt x) (.type "float")
 | lst {a:Addr} {xs:List V} (e:H a=some (.lst xs)):TyOf K H (.ref a) (.type "list")
 | frz {a:Addr} {o:Obj} {xs:List V} (e:H a=some (.frz o (.lst xs))):TyOf K H (.ref a) (.type "list")
 | tup {a:Addr} {xs:List V} (e:H a=some (.tup xs)):TyOf K H (.ref a) (.type "tuple")
 | dK {a:Addr} {kvs:List (Key×V)} (e:H a=some (.dK kvs)):TyOf K H (.ref a) (.type "dict")
 | dT {a:Addr} {kvs:List (List Key×V)} (e:H a=some (.dT kvs)):TyOf K H (.ref a) (.type "dict")
 | ins {a C dx:Addr} {fs:List (Str×V)} (e:H a=some (.ins C dx fs)) (cl:Cls K C) (ha:PySem.W.findIn K (.ref C) "__class__" = some (some (.builtin "object.__class__")))
   (hn:PySem.W.specialIn K (.builtin "object.__class__") "__get__" = some (some (.builtin "getset_descriptor.__get__"))) (htk:PySem.W.takesIn K (.builtin "object.__class__")=some true)
   (hm:PySem.W.mroIn K C (.type "object")=some true):TyOf K H (.ref a) (.ref C)
theorem jcG {x:V} {u t:Value} (I:Inv X pins σ H s) (rx:RelV x u) (ty:TyOf X.K H x t) (e:PySem.W.kitOne X.K t c=some b) (h:∀ tk,Q (.bool b) { s with toks:=tk }) :
  wpAny (model X.prog X.w) A (call (.builtin "isinstance") [u,c]) Q E s:=by
 cases ty with
 | non=>cases (show u=Value.none from rx);exact PySem.W.kia_one PySem.W.kitx_none I.kIn True.intro e (fun z=>nomatch z) h
 | bl y=>cases (show u=Value.bool y from rx);exact PySem.W.kia_one PySem.W.kitx_bool I.kIn True.intro e (fun z=>nomatch z) h
 | int i=>obtain ⟨t,q⟩:=(show ∃ t,u=Value.int i t from rx);cases q;exact PySem.W.kia_one PySem.W.kitx_int I.kIn True.intro e (fun z=>nomatch z) h
 | str y=>obtain ⟨t,q⟩:=(show ∃ t,u=Value.str y t from rx);cases q;exact PySem.W.kia_one PySem.W.kitx_str I.kIn True.intro e (fun z=>nomatch z) h
 | flt y=>obtain ⟨t,q⟩:=(show ∃ t,u=Value.float y t from rx);cases q;exact PySem.W.kia_one PySem.W.kitx_float I.kIn True.intro e (fun z=>nomatch z) h
 | @lst a xs ea=>
  cases (show u=Value.ref a from rx)
  obtain ⟨_,_,n,_,h1⟩:=(show ObjOk X.prog X.w H s.heap a (.lst xs) from I.hok a _ ea)
  exact PySem.W.kia_one PySem.W.kitx_list I.kIn ⟨_,h1,rfl⟩ e (fun z=>nomatch z) h
 | @frz a ob xs ea=>
  cases (show u=Value.ref a from rx)
  obtain ⟨_,_,_,n,_,h1⟩:=(show ObjOk X.prog X.w H s.heap a (.frz ob (.lst xs)) from I.hok a _ ea)
  exact PySem.W.kia_one PySem.W.kitx_list I.kIn ⟨_,h1,rfl⟩ e (fun z=>nomatch z) h
 | @tup a xs ea=>
  cases (show u=Value.ref a from rx)
  obtain ⟨_,_,_,p⟩:=(show ObjOk X.prog X.w H s.heap a (.tup xs) from I.hok a _ ea)
  obtain ⟨o,h1,h2,_⟩:=p
  exact PySem.W.kia_one PySem.W.kitx_tuple I.kIn ⟨o,h1,h2⟩ e (fun z=>nomatch z) h
 | @dK a kvs ea=>
  cases (show u=Value.ref a from rx)
  obtain ⟨_,_,vs,_,p⟩:=(show ObjOk X.prog X.w H s.heap a (.dK kvs) from I.hok a _ ea)
  obtain ⟨o,es,ep,h1,h2,_⟩:=p
  exact PySem.W.kia_one PySem.W.kitx_dict I.kIn ⟨o,h1,h2.1⟩ e (fun z=>nomatch z) h
 | @dT a kvs ea=>
  cases (show u=Value.ref a from rx)
  obtain ⟨_,_,xs,_,o,es,ep,h1,h2,_⟩:=(show ObjOk X.prog X.w H s.heap a (.dT kvs) from I.hok a _ ea)
  exact PySem.W.kia_one PySem.W.kitx_dict I.kIn ⟨o,h1,h2.1⟩ e (fun z=>nomatch z) h
 | @ins a C dx fs ea cl ha hn htk hm=>
  cases (show u=Value.ref a from rx)
  obtain ⟨mA,O,_⟩:=Zh I.hok ea
  obtain ⟨od,J,_⟩:=O.look
  exact PySem.W.kia_one (PySem.W.kitx_own (cl.get _) cl.hd ha hn htk hm) I.kIn J e (fun z=>nomatch z) h
end
open PySem PySem.Spec PyProof.Rows
structure Room (k:Nat) (A:Around):Prop where
 hd:A.handled=none
 dp:A.depth+3 * k+5 < recursionLimit
 un:A.units+16 * k+200 < cLine
theorem Room.mono {j k:Nat} {A:Around} (r:Room k A) (h:j≤k):Room j A:=⟨r.hd,by have:=r.dp;omega,by have:=r.un;omega⟩
theorem Room.deeper {k:Nat} {A:Around} (r:Room (k+1) A) (env:Env):Room k (A.deeper env):=
 ⟨r.hd,by have:=r.dp;show A.depth+1+3 * k+5 < _;omega,by have:=r.un;show A.units+3+16 * k+200 < _;omega⟩
theorem Room.in1 {k:Nat} {A:Around} (r:Room (k+1) A):Room k A.in1:=
 ⟨r.hd,by have:=r.dp;show A.depth+3 * k+5 < _;omega,by have:=r.un;show A.units+1+16 * k+200 < _;omega⟩
theorem ja2 {A:Around} {C:Addr} {us:List Value} {kw:List (Str×Value)}:(A.under (.builtin "type.__call__" ⟨.ref C :: us,kw⟩)).depth=A.depth+1:=by
 first | rfl | simp [Around.under,Code.weight,Code.isCreation,Code.isGuard,Code.isCaller,Code.frames,Code.isFrame,guardIds]
theorem ja1 {A:Around} {C:Addr} {us:List Value} {kw:List (Str×Value)}:(A.under (.builtin "type.__call__" ⟨.ref C :: us,kw⟩)).units=A.units+1:=by
 first | rfl | simp [Around.under,Code.cUnits,Code.frames,Code.isFrame]
theorem Room.make {k:Nat} {A:Around} (r:Room (k+1) A) (C:Addr) (us:List Value) (kw:List (Str×Value)):Room k (A.under (.builtin "type.__call__" ⟨.ref C :: us,kw⟩)):=
 ⟨r.hd,by have:=r.dp;rw [ja2];omega,by have:=r.un;rw [ja1];omega⟩
theorem Room.depth {k:Nat} {A:Around} (r:Room k A):A.depth < recursionLimit:=by have:=r.dp;omega
theorem Room.units {k:Nat} {A:Around} (r:Room k A):A.units+64 < cLine:=by have:=r.un;omega
def jet:TA:=fun _ H Q=>Q [] H
def jbq (ta:TE) (tr:TA):TA:=fun σ H Q=>ta σ H fun x H1=>tr σ H1 fun xs H2=>Q (x :: xs) H2
section
variable {X:Cx} {e:Expr} {es:List Expr} {te:TE} {t:TA} {pos:Pos}
theorem jp:PA X [] jet:=fun _ _ _ _ H Q I h=>Calls.spliced_nil ⟨[],H,I,.nil,h⟩
theorem jeU (ha:PE X e te) (hr:PA X es t) (hs:starEach (e :: es) X.env=(false,eval e X.env) :: starEach es X.env:=by rfl):PA X (e :: es) (jbq te t):=by
 intro pos pins s σ H Q I h
 rw [hs]
 show wpAny _ _ (spliced ((false,eval e X.env) :: backTo pos (starEach es X.env))) _ _ s
 refine Calls.spliced_cons (thn (ha pins s σ H _ I h) fun u s1 ⟨x,H1,I1,r1,q1⟩=>?_)
 exact thn (hr pos pins s1 σ H1 _ I1 q1) fun us s2 ⟨xs,H2,I2,r2,q2⟩=>⟨x :: xs,H2,I2,.cons r1 r2,q2⟩
def jgN (t:TA):TE:=fun σ H Q=>t σ H fun xs H1=>xs.length≤sizeLine∧∀ p,H1 p=none→Q (.ref p) (upd H1 p (.tup xs))
def jfU (t:TA):TE:=fun σ H Q=>t σ H fun xs H1=>xs.length≤sizeLine∧∀ p,H1 p=none→Q (.ref p) (upd H1 p (.lst xs))
theorem ku {x1} (h:PA X es t):PE X (.Tuple es x1 pos) (jgN t):=by
 intro pins s σ H Q I hq
 refine wpAny_Tuple_spliced (thn (h pos pins s σ H _ I hq) fun us s1 ⟨xs,H1,I1,r,z,q⟩=>⟨by rw [← r.length];exact z,?_⟩)
 have hf:H1 s1.heap.objs.size=none:=I1.hok.fresh (Nat.le_refl _)
 refine ⟨.ref s1.heap.objs.size,upd H1 s1.heap.objs.size (.tup xs),I1.laid (t':=s1.toks) (fun b u e=>Heap.get?_push_of_some _ e) (Nat.le_refl _) ?_,rfl,q _ hf⟩
 exact ⟨z,us,r,⟨_,Heap.get?_push_size _ rfl,rfl,_,rfl⟩⟩
theorem zr (h:PA X es t):PE X (.List es pos) (jfU t):=by
 intro pins s σ H Q I hq
 refine wpAny_List_spliced (thn (h pos pins s σ H _ I hq) fun us s1 ⟨xs,H1,I1,r,z,q⟩=>⟨by rw [← r.length];exact z,?_⟩)
 have hf:H1 s1.heap.objs.size=none:=I1.hok.fresh (Nat.le_refl _)
 refine ⟨.ref s1.heap.objs.size,upd H1 s1.heap.objs.size (.lst xs),I1.laid (t':=s1.toks) (fun b u e=>Heap.get?_push_of_some _ e) (Nat.le_refl _) ?_,rfl,q _ hf⟩
 exact ⟨z,us,0,r,Heap.get?_push_size _ rfl⟩
end
abbrev Sp:=List V→Hp→VK→XK→Prop
abbrev CXT:=List Env→Hp→Shared→XK→Value→Shared→Prop
structure Env0 (P:Program) (w:World) (K:PySem.W.Frag) (mg:Str→Option Value) (base:Heap) (A:Around) (outer:List Env) (s:Shared) (H:Hp):Prop where
 frames:A.frames=some outer
 mod:Mod K mg base
 bs:∀ b o,base.get? b=some o→s.heap.get? b=some o∧H b=none
 bsz:base.objs.size≤s.heap.objs.size
 funs:s.heap.FunFrames base outer
 frf:∀ b∈frs outer,H b=none
 hok:HOk P w H s.heap
 bare:AllBare s.gens
def CE (outer:List Env) (P:Program) (w:World) (H:Hp) (s:Shared) (Q:VK) (u:Value) (s':Shared):Prop:=
 ∃ v H',s'.os=s.os∧AllBare s'.gens∧Un (frs outer) [] H H' s.heap s'.heap∧HOk P w H' s'.heap∧RelV v u∧Q v H'
def CR (CX:CXT) (outer:List Env) (P:Program) (w:World) (H:Hp) (s:Shared) (Q:VK) (E:XK) (r:Result) (s':Shared):Prop:=
 match r with
 | .ok (.ret u)=>CE outer P w H s Q u s'
 | .ok _=>False
 | .error e=>CX outer H s E e s'
structure FnOk (P:Program) (w:World) (K:PySem.W.Frag) (mg:Str→Option Value) (base:Heap) (CX:CXT) (k:Nat) (f:Addr) (fd:FuncData) (ps:List Str) (sp:Sp):Prop where
 len:∀ vs H Q E,sp vs H Q E→vs.length=ps.length
 run:∀ (A:Around) (outer:List Env) (s:Shared) (H:Hp) (args:Args) (us:List Value) (vs:List V) (Q:VK) (E:XK),Room k A→Env0 P w K mg base A outer s H→BindsTo s fd args (ps.zip us)→Vals vs us→sp vs H Q E→
  codeAny (model P w) A (.call (.ref f) args) (CR CX outer P w H s Q E) s
theorem FnOk.imp {P:Program} {w:World} {K:PySem.W.Frag} {mg:Str→Option Value} {base:Heap} {CX:CXT} {k:Nat} {f:Addr} {fd:FuncData} {ps:List Str} {sp sp':Sp} (F:FnOk P w K mg base CX k f fd ps sp)
  (h:∀ vs H Q E,sp' vs H Q E→sp vs H Q E):FnOk P w K mg base CX k f fd ps sp':=
 ⟨fun vs H Q E q=>F.len vs H Q E (h _ _ _ _ q),fun A outer s H args us vs Q E hr he hb hv hs=>F.run A outer s H args us vs Q E hr he hb hv (h _ _ _ _ hs)⟩
theorem Env0.make {P:Program} {w:World} {K:PySem.W.Frag} {mg:Str→Option Value} {base:Heap} {A:Around} {outer:List Env} {s:Shared} {H:Hp} (e:Env0 P w K mg base A outer s H) (C:Addr) (us:List Value) (kw:List (Str×Value)) :
  Env0 P w K mg base (A.under (.builtin "type.__call__" ⟨.ref C :: us,kw⟩)) outer s H:=⟨by first | exact e.frames | (simpa [Around.under,Code.envs,Code.isFrame,pushEnvs] using e.frames),e.mod,e.bs,e.bsz,e.funs,e.frf,e.hok,e.bare⟩
theorem Env0.in1 {P:Program} {w:World} {K:PySem.W.Frag} {mg:Str→Option Value} {base:Heap} {A:Around} {outer:List Env} {s:Shared} {H:Hp} (e:Env0 P w K mg base A outer s H) :
  Env0 P w K mg base A.in1 outer s H:=⟨e.frames,e.mod,e.bs,e.bsz,e.funs,e.frf,e.hok,e.bare⟩
section
variable {X:Cx} {pins:List (Addr×Obj)} {σ:St} {H:Hp} {s s':Shared}
theorem Inv.env0 (I:Inv X pins σ H s):Env0 X.prog X.w X.K X.mg X.base X.A X.stack s H:=
 ⟨I.ok.frames,I.ok.mod,I.bs,Nat.le_trans I.ok.bsz I.sz,I.stack,I.stkFree,I.hok,I.bare⟩
theorem Inv.after {Q:VK} {u:Value} (I:Inv X pins σ H s) (h:CE X.stack X.prog X.w H s Q u s'):EP X pins σ Q u s':=by
 obtain ⟨v,H',os,bare,un,hok,r,q⟩:=h
 obtain ⟨hh,g,d,t,os'⟩:=s'
 obtain rfl:os'=s.os:=os
 exact ⟨v,H',I.call (h':=hh) (g':=g) (d':=d) (t':=t) (ch:=[]) un hok bare (fun b z=>absurd z (by simp)),r,q⟩
end
def jdc (sp:Sp) (dvs:List V) (E:XK) (t:TA):TE:=fun σ H Q=>t σ H fun vs H1=>sp (vs++dvs) H1 Q E
def jdb (C:Addr) (sp:Sp) (dvs:List V) (E:XK) (t:TA):TE:=fun σ H Q=>t σ H fun vs H1=>∀ x dx,H1 x=none→H1 dx=none→dx≠x→
 sp (.ref x :: (vs++dvs)) (upd (upd H1 dx (.own x)) x (.ins C dx [])) (fun v H2=>v=.non∧Q (.ref x) H2) E
def Binds (K:PySem.W.Frag) (fd:FuncData) (ps:List Str) (ds:List Value):Prop:=
 ∀ (s:Shared) (us:List Value),K.In s.heap→(us++ds).length=ps.length→BindsTo s fd ⟨us,[]⟩ (ps.zip (us++ds))
theorem Binds.all {K:PySem.W.Frag} {fd:FuncData} {ps:List Str} (h:∀ us:List Value,us.length=ps.length→bindArgs fd ⟨us,[]⟩=pure (ps.zip us)):Binds K fd ps []:=fun s us _ hl=>by
 rw [List.append_nil] at hl ⊢
 exact .of_eq (h us hl)
def K1 (CX:CXT) (X:Cx) (E:XK):Prop:=∀ (pins:List (Addr×Obj)) (σ:St) (H:Hp) (s:Shared) (e:Value) (s':Shared),Inv X pins σ H s→CX X.stack H s E e s'→X.xe e s'
section
variable {X:Cx} {CX:CXT} {k:Nat} {f C:Addr} {fd:FuncData} {ps:List Str} {sp:Sp} {dvs:List V} {ds:List Value} {E:XK} {x m:Str} {p pos apos:Pos} {e o:Expr} {es:List Expr} {ta:TE} {t:TA}
theorem jfZ {pins:List (Addr×Obj)} {σ:St} {H:Hp} {s:Shared} {Q:VK} {us:List Value} {vs:List V} (F:FnOk X.prog X.w X.K X.mg X.base CX k f fd ps sp) (hr:Room k X.A) (hb:Binds X.K fd ps ds) (hd:Vals dvs ds) (hx:K1 CX X E)
  (I:Inv X pins σ H s) (r:Vals vs us) (h:sp (vs++dvs) H Q E):wpAny (model X.prog X.w) X.A (call (.ref f) us) (EP X pins σ Q) X.xe s:=by
 have r2:Vals (vs++dvs) (us++ds):=r.append hd
 have hl:(us++ds).length=ps.length:=by rw [← r2.length];exact F.len _ _ _ _ h
 refine wpAny_call (codeAny_mono (F.run X.A X.stack s H ⟨us,[]⟩ (us++ds) (vs++dvs) Q E hr I.env0 (hb s us I.kIn hl) r2 h) fun r s' hq=>?_)
 cases r with
 | error e=>exact hx pins σ H s e s' I hq
 | ok fl=>
  cases fl with
  | ret u=>exact I.after hq
  | next=>exact False.elim hq
  | brk=>exact False.elim hq
  | cont=>exact False.elim hq
theorem jeS (F:FnOk X.prog X.w X.K X.mg X.base CX k f fd ps sp) (hr:Room k X.A) (hg:Gl X x) (hm:X.mg x=some (.ref f)) (hk:PySem.W.keepIn X.K (.ref f)=true) (hb:Binds X.K fd ps ds) (hd:Vals dvs ds) (hx:K1 CX X E)
  (ha:PA X (e :: es) t) (hdb:(x == ("__debug__" : Str))=false:=by decide) (he:starEach (e :: es) X.env=(false,eval e X.env) :: starEach es X.env:=by rfl) (hpl:(backTo pos (starEach es X.env)).any (·.1)=false:=by rfl) :
  PE X (.Call (.Name x p) (e :: es) [] pos) (jdc sp dvs E t):=by
 intro pins s σ H Q I h
 refine wpAny_Call_Name_kw (Zc I hg hm ?_ hdb)
 refine PySem.W.callWith_K (h₀:=X.base) I.ok.mod.kin hk (thn (ha pos pins s σ H _ I h) fun us s1 ⟨vs,H1,I1,r,q⟩=>⟨I1.kIn,?_⟩) he hpl
 exact jfZ F hr hb hd hx I1 r q
structure Mk (K:PySem.W.Frag) (C f:Addr):Prop where
 makes:PySem.W.makesIn K C=true
 init:PySem.W.findIn K (.ref C) "__init__" = some (some (.ref f))
 fn:PySem.W.isFn K (.ref f)=true
 kp:PySem.W.keepIn K (.ref C)=true
theorem jdp {pins:List (Addr×Obj)} {σ:St} {H:Hp} {s:Shared} {Q:VK} {us:List Value} {vs:List V} (M:Mk X.K C f) (F:FnOk X.prog X.w X.K X.mg X.base CX k f fd ps sp) (hr:Room (k+1) X.A) (hb:Binds X.K fd ps ds) (hd:Vals dvs ds)
  (hx:K1 CX X E) (I:Inv X pins σ H s) (r:Vals vs us)
  (h:∀ x dx,H x=none→H dx=none→dx≠x→sp (.ref x :: (vs++dvs)) (upd (upd H dx (.own x)) x (.ins C dx [])) (fun v H2=>v=.non∧Q (.ref x) H2) E) :
  wpAny (model X.prog X.w) X.A (call (.ref C) us) (EP X pins σ Q) X.xe s:=by
 have hq:=h (s.heap.objs.size+1) s.heap.objs.size (I.hok.fresh (Nat.le_succ _)) (I.hok.fresh (Nat.le_refl _)) (Nat.ne_of_lt (Nat.lt_succ_self _))
 have I2:=Inv.made (C:=C) I
 have r2:Vals (V.ref (s.heap.objs.size+1) :: (vs++dvs)) (Value.ref (s.heap.objs.size+1) :: (us++ds)):=.cons rfl (r.append hd)
 have hl:(Value.ref (s.heap.objs.size+1) :: us++ds).length=ps.length:=by
  have e:=r2.length
  rw [F.len _ _ _ _ hq] at e
  exact e.symm
 refine wpAny_call (jdO (f:=f) I.kIn M.makes M.init (beq_iff_eq.mp M.fn) (codeAny_mono (F.run _ X.stack _ _ ⟨Value.ref (s.heap.objs.size+1) :: us,[]⟩ (Value.ref (s.heap.objs.size+1) :: (us++ds)) _ _ E (hr.make C us [])
  (I2.env0.make C us []) (hb _ (Value.ref (s.heap.objs.size+1) :: us) I2.kIn hl) r2 hq) fun r s' hq'=>?_))
 cases r with
 | error e=>exact hx pins σ _ _ e s' I2 hq'
 | ok fl=>
  cases fl with
  | ret u=>
   obtain ⟨v,H',I3,rv,ev,q3⟩:=I2.after hq'
   subst ev
   exact ⟨rv,⟨V.ref (s.heap.objs.size+1),H',I3,rfl,q3⟩⟩
  | next=>exact False.elim hq'
  | brk=>exact False.elim hq'
  | cont=>exact False.elim hq'
theorem jeO (M:Mk X.K C f) (F:FnOk X.prog X.w X.K X.mg X.base CX k f fd ps sp) (hr:Room (k+1) X.A) (hg:Gl X x) (hm:X.mg x=some (.ref C)) (hb:Binds X.K fd ps ds) (hd:Vals dvs ds) (hx:K1 CX X E)
  (ha:PA X (e :: es) t) (hdb:(x == ("__debug__" : Str))=false:=by decide) (he:starEach (e :: es) X.env=(false,eval e X.env) :: starEach es X.env:=by rfl) (hpl:(backTo pos (starEach es X.env)).any (·.1)=false:=by rfl) :
  PE X (.Call (.Name x p) (e :: es) [] pos) (jdb C sp dvs E t):=by
 intro pins s σ H Q I h
 refine wpAny_Call_Name_kw (Zc I hg hm ?_ hdb)
 refine PySem.W.callWith_K (h₀:=X.base) I.ok.mod.kin M.kp (thn (ha pos pins s σ H _ I h) fun us s1 ⟨vs,H1,I1,r,q⟩=>⟨I1.kIn,?_⟩) he hpl
 exact jdp M F hr hb hd hx I1 r q
end
structure FnScope (N P:List Str) (sc:Scope):Prop where
 kind:sc.kind=.function
 co:sc.isCoroutine=false
 gen:sc.isGenerator=false
 nd:N.Nodup
 pre:N.take P.length=P
 par:∀ x∈P,sc.names.lookup x=some .local∨sc.names.lookup x=some .cell
 nofree:∀ y∈sc.names,y.2≠.free
theorem YL {kindOf:Str→Option NameKind} {x:Str}:∀ {binds:List (Str×Value)} {m:Str→Option Value},(∀ v,(x,v) ∉ binds)→bindL kindOf binds m x=m x
 | [],_,_=>rfl
 | (n,v) :: r,m,h=>by
  unfold bindL
  rw [YL fun w hw=>h w (List.mem_cons_of_mem _ hw)]
  split
  ·have:x≠n:=by rintro rfl;exact h v List.mem_cons_self
   simp [this]
  ·rfl
theorem YN {kindOf:Str→Option NameKind} {x:Str}:∀ {binds:List (Str×Value)} {m:Str→Option Value},(∀ v,(x,v) ∉ binds)→bindC kindOf binds m x=m x
 | [],_,_=>rfl
 | (n,v) :: r,m,h=>by
  unfold bindC
  rw [YN fun w hw=>h w (List.mem_cons_of_mem _ hw)]
  split
  ·rfl
  ·have:x≠n:=by rintro rfl;exact h v List.mem_cons_self
   simp [this]
theorem YM {kindOf:Str→Option NameKind} {x:Str} {v:Value}:∀ {P:List Str} {vs:List Value} {i:Nat} {m:Str→Option Value},P.Nodup→P[i]?=some x→vs[i]?=some v→kindOf x=some .local→
  bindL kindOf (P.zip vs) m x=some v
 | [],_,_,_,_,h,_,_=>by simp at h
 | _ :: _,[],_,_,_,_,h,_=>by simp at h
 | p :: P,w :: vs,0,m,nd,h1,h2,hk=>by
  simp at h1 h2;subst h1;subst h2
  show bindL kindOf ((p,w) :: P.zip vs) m p=_
  unfold bindL
  rw [YL fun v hv=>(List.nodup_cons.mp nd).1 (List.of_mem_zip hv).1,if_pos hk]
  simp
 | p :: P,w :: vs,i+1,m,nd,h1,h2,hk=>by
  show bindL kindOf ((p,w) :: P.zip vs) m x=_
  unfold bindL
  exact YM (i:=i) (List.nodup_cons.mp nd).2 (by simpa using h1) (by simpa using h2) hk
theorem YO {kindOf:Str→Option NameKind} {x:Str} {v:Value}:∀ {P:List Str} {vs:List Value} {i:Nat} {m:Str→Option Value},P.Nodup→P[i]?=some x→vs[i]?=some v→kindOf x≠some .local→
  bindC kindOf (P.zip vs) m x=some v
 | [],_,_,_,_,h,_,_=>by simp at h
 | _ :: _,[],_,_,_,_,h,_=>by simp at h
 | p :: P,w :: vs,0,m,nd,h1,h2,hk=>by
  simp at h1 h2;subst h1;subst h2
  show bindC kindOf ((p,w) :: P.zip vs) m p=_
  unfold bindC
  rw [YN fun v hv=>(List.nodup_cons.mp nd).1 (List.of_mem_zip hv).1,if_neg hk]
  simp
 | p :: P,w :: vs,i+1,m,nd,h1,h2,hk=>by
  show bindC kindOf ((p,w) :: P.zip vs) m x=_
  unfold bindC
  exact YO (i:=i) (List.nodup_cons.mp nd).2 (by simpa using h1) (by simpa using h2) hk
def Jc (N:List Str) (vs:List V):St:=vs.map some++List.replicate (N.length - vs.length) none
def jba (CX:CXT) (P:Program) (w:World) (K:PySem.W.Frag) (mg:Str→Option Value) (base:Heap) (N:List Str) (qual:Str) (scope:Scope) (f:Addr) (cd:Value) (A:Around) (outer:List Env) (s:Shared) (H:Hp) (E:XK):Cx where
 prog:=P
 w:=w
 K:=K
 mg:=mg
 base:=base
 A:=A.deeper (envOfC qual scope s.heap.objs.size f cd)
 N:=N
 s₀:=s
 H₀:=H
 env:=envOfC qual scope s.heap.objs.size f cd
 outer:=outer
 stack:=envOfC qual scope s.heap.objs.size f cd :: outer
 ex:=[]
 calm:=true
 fn:=fun _=>true
 pn:=[]
 xe:=fun e s'=>wpAny (model P w) (A.deeper (envOfC qual scope s.heap.objs.size f cd)) (leaving (envOfC qual scope s.heap.objs.size f cd) e) (fun _ s''=>CX outer H s E e s'') (fun e' s''=>CX outer H s E e' s'') s'
theorem jaq {sc:Scope} {n:Nat} {x:Str} (h:sc.names.lookup x=some .cell):∃ c,(cellsFrom n sc.names []).lookup x=some c:=by
 have q:=PySem.W.cellsFrom_some sc.names n [] (.inl h)
 exact Option.isSome_iff_exists.mp q
theorem jcH {CX:CXT} {P:Program} {w:World} {K:PySem.W.Frag} {mg:Str→Option Value} {base:Heap} {N ps:List Str} {qual:Str} {scope:Scope} {f:Addr} {cd:Value} {A:Around} {outer:List Env} {s s1:Shared} {H:Hp} {E:XK} {us:List Value} {vs:List V}
  (S:FnScope N ps scope) (hd:A.handled=none) (e0:Env0 P w K mg base A outer s H) (hl:vs.length=ps.length) (r:Vals vs us)
  (x:InCallC s s.heap.objs.size (bindL (envOfC qual scope s.heap.objs.size f cd).kindOf (ps.zip us) fun _=>none) (cellsFrom (s.heap.objs.size+1) scope.names []) (bindC (envOfC qual scope s.heap.objs.size f cd).kindOf (ps.zip us) fun _=>none) s1) :
  Inv (jba CX P w K mg base N qual scope f cd A outer s H E) [] (Jc N vs) H s1:=by
 have hpl:ps.length≤N.length:=by have:=congrArg List.length S.pre;rw [List.length_take] at this;omega
 obtain ⟨h1,tk,rfl,hk⟩:=x.done
 have noA:∀ b:Addr,b ∉ (jba CX P w K mg base N qual scope f cd A outer s H E).ex:=fun b z=>absurd (show b∈([]:List Addr) from z) (by simp)
 refine ⟨⟨e0.mod,S.kind,rfl,rfl,Nat.le_refl _,fun y z c h1 h2=>?_,fun y hy=>?_,fun y c _ h=>?_,fun _=>hd,Around.frames_deeper e0.frames,.inr ⟨rfl,rfl⟩,fun b z=>absurd z (noA b),e0.bs,e0.bsz,fun b _ _=>noA b,fun b z=>absurd z (noA b),e0.funs,e0.frf⟩,
  rfl,e0.bare,Un.kept hk,⟨_,x.toInCall.ns,fun i y v h1 h2 h3=>?_⟩,fun y c h=>⟨_,x.cell y c h⟩,e0.hok.fresh (Nat.le_refl _),fun y c h=>?_,fun p hp=>absurd (show p∈([]:List (Addr×Obj)) from hp) (by simp),e0.hok.kept hk,?_⟩
 ·exact name_of_addr x.apart (PySem.mem_of_lookup h1) (PySem.mem_of_lookup h2)
 ·have hy:scope.names.lookup y=some .cell∨scope.names.lookup y=some .free:=hy
  rcases hy with hy | hy
  ·exact jaq hy
  ·exact absurd rfl (S.nofree _ (PySem.mem_of_lookup hy))
 ·exact Nat.le_of_lt (x.above y c (PySem.mem_of_lookup h))
 ·have hi:i < vs.length:=by
   unfold Jc at h2
   by_cases hi:i < vs.length
   ·exact hi
   ·rw [List.getElem?_append_right (by simpa using hi)] at h2
    rw [List.getElem?_replicate] at h2
    split at h2 <;> cases h2
  have ha:vs[i]?=some v:=by
   unfold Jc at h2
   rw [List.getElem?_append_left (by simpa using hi),List.getElem?_map] at h2
   cases e:vs[i]? with
   | none=>rw [e] at h2;cases h2
   | some a=>rw [e] at h2;cases h2;rfl
  obtain ⟨u,hu,rv⟩:=r.get ha
  have hp:ps[i]?=some y:=by
   rw [← S.pre,List.getElem?_take_of_lt (by omega)];exact h1
  have ndP:ps.Nodup:=by rw [← S.pre];exact S.nd.sublist (List.take_sublist _ _)
  refine ⟨u,rv,?_⟩
  rcases S.par y (List.mem_of_getElem? hp) with k | k
  ·exact .inl ⟨k,YM ndP hp hu k⟩
  ·obtain ⟨c,e⟩:=jaq (n:=s.heap.objs.size+1) k
   refine .inr ⟨.inl k,c,e,?_⟩
   have q:=x.cell y c e
   rw [YO ndP hp hu (by show scope.names.lookup y≠_;rw [k];decide)] at q
   exact q
 ·exact e0.hok.fresh (Nat.le_of_lt (x.above y c (PySem.mem_of_lookup h)))
 ·unfold Jc
  show _=N.length
  rw [List.length_append,List.length_map,List.length_replicate]
  omega
theorem jhm {CX:CXT} {P:Program} {w:World} {K:PySem.W.Frag} {mg:Str→Option Value} {base:Heap} {k:Nat} {f:Addr} {name qual:Str} {params:Arguments} {body:List Stmt} {scope:Scope} {dV kV doc pm cdv ct oc:Value} {an od:Option Addr}
  {osl:Array (Option Value)} {N ps:List Str} {sp:Sp} (lk:K.lookup f=some ⟨oc,od,.func (PySem.W.fnOf name qual params body scope dV kV doc pm an cdv ct),osl⟩) (hcd:PySem.W.codeIn K cdv qual=true) (S:FnScope N ps scope)
  (len:∀ vs H Q E,sp vs H Q E→vs.length=ps.length)
  (hbody:∀ (A:Around) (outer:List Env) (s:Shared) (H:Hp) (vs:List V) (Q:VK) (E:XK),Room k (A.deeper (envOfC qual scope s.heap.objs.size f cdv))→sp vs H Q E→
   ∃ t,PSs (jba CX P w K mg base N qual scope f cdv A outer s H E) body t∧t { nx:=fun _ H'=>Q .non H',rt:=Q } (Jc N vs) H) :
  FnOk P w K mg base CX (k+1) f (PySem.W.fnOf name qual params body scope dV kV doc pm an cdv ct) ps sp:=by
 refine ⟨len,fun A outer s H args us vs Q E hr e0 hb r hsp=>?_⟩
 have hl:=len _ _ _ _ hsp
 have KX:K.In s.heap:=e0.mod.kin.keeps fun b o e=>(e0.bs b o e).1
 have lim:s.heap.NoLimit:=e0.mod.nolimit.keeps fun b o e=>(e0.bs b o e).1
 have hkind:∀ y∈ps.zip us,scope.names.lookup y.1=some .local∨(scope.names.lookup y.1=some .cell∧((cellsFrom (s.heap.objs.size+1) scope.names []).lookup y.1).isSome=true):=fun ⟨n,v⟩ hy=>by
  rcases S.par n (List.of_mem_zip hy).1 with q | q
  ·exact .inl q
  ·exact .inr ⟨q,PySem.W.cellsFrom_some _ _ _ (.inl q)⟩
 refine codeAny_call_function hr.depth (KX _ _ lk) rfl S.co S.gen rfl (PySem.W.codeRec_of KX hcd) (hb _ _ _ _ ?_)
 refine wpAny_newFunctionEnv_cells S.kind hkind fun env he s1 x=>?_
 subst he
 refine ⟨lim.keeps x.toInCall.keep,codeAny_func ?_⟩
 obtain ⟨t,ht,hq⟩:=hbody A outer s H vs Q E (hr.deeper _) hsp
 have I:Inv (jba CX P w K mg base N qual scope f cdv A outer s H E) [] (Jc N vs) H s1:=jcH S hr.hd e0 hl r x
 refine wpAny_mono (ht [] s1 (Jc N vs) H _ I hq) (fun fl s' hs=>?_) fun e s' hs=>hs
 have fin:∀ {σ':St} {H':Hp} {v:V} {u:Value},Inv (jba CX P w K mg base N qual scope f cdv A outer s H E) [] σ' H' s'→RelV v u→Q v H'→CE outer P w H s Q u s':=
  fun {σ' H' v u} J rv q=>⟨v,H',J.os,J.bare,J.base,J.hok,rv,q⟩
 cases fl with
 | ret u=>
  obtain ⟨v,σ',H',J,rv,q⟩:=hs
  exact fin J rv q
 | next=>
  obtain ⟨σ',H',J,q⟩:=hs
  exact fin (v:=V.non) (u:=Value.none) J rfl q
 | brk=>
  obtain ⟨_,_,_,q⟩:=hs
  exact False.elim q
 | cont=>
  obtain ⟨_,_,_,q⟩:=hs
  exact False.elim q
open PySem PySem.Spec PyProof.Rows
section
variable {X:Cx} {x:Str} {p pos:Pos} {e:Expr} {es:List Expr} {t:TA} {id T:String} {r:List V→Hp→VK→Prop}
def tCB (r:List V→Hp→VK→Prop) (t:TA):TE:=fun σ H Q=>t σ H fun vs H1=>r vs H1 Q
theorem jdA (hc:q5 X (.builtin id) r) (hg:Gl X x) (hm:X.mg x=none) (hv:bootBuiltins x=some (.builtin id)) (ha:PA X (e :: es) t) (hn:x≠"__name__":=by decide) (hdb:(x == ("__debug__" : Str))=false:=by decide)
  (he:starEach (e :: es) X.env=(false,eval e X.env) :: starEach es X.env:=by rfl) (hpl:(backTo pos (starEach es X.env)).any (·.1)=false:=by rfl):PE X (.Call (.Name x p) (e :: es) [] pos) (tCB r t):=by
 intro pins s σ H Q I h
 refine wpAny_Call_Name_kw (yw I hg hm hv ?_ hn hdb)
 exact PyProof.Rows.callWith_builtin1 (thn (ha pos pins s σ H _ I h) fun us s1 ⟨vs,H1,I1,r1,q1⟩=>hc pins s1 σ H1 vs us Q I1 r1 q1) he hpl
theorem jcl (hc:q5 X (.type T) r) (hg:Gl X x) (hm:X.mg x=none) (hv:bootBuiltins x=some (.type T)) (ha:PA X (e :: es) t) (hn:x≠"__name__":=by decide) (hdb:(x == ("__debug__" : Str))=false:=by decide)
  (he:starEach (e :: es) X.env=(false,eval e X.env) :: starEach es X.env:=by rfl) (hpl:(backTo pos (starEach es X.env)).any (·.1)=false:=by rfl):PE X (.Call (.Name x p) (e :: es) [] pos) (tCB r t):=by
 intro pins s σ H Q I h
 refine wpAny_Call_Name_kw (yw I hg hm hv ?_ hn hdb)
 exact PyProof.Rows.callWith_type1 (thn (ha pos pins s σ H _ I h) fun us s1 ⟨vs,H1,I1,r1,q1⟩=>hc pins s1 σ H1 vs us Q I1 r1 q1) he hpl
end
end L2
namespace HT
open PySem PyProof.Rows
section
variable {prog:Program} {w:World} {A:Around} {E:Value→Shared→Prop} {s:Shared}
theorem cat_tup {t b:Addr} {vs ws:List Value} {Q:Value→Shared→Prop} (ht:IsTup s.heap t vs.toArray) (hb:IsTup s.heap b ws.toArray) (hv:vs≠[])
  (h1:ws=[]→Q (.ref t) s) (h2:ws≠[]→Q (.ref s.heap.objs.size) { s with heap:=s.heap.push { cls:=.type "tuple",data:=.seq (vs++ws).toArray } })
  (hsz:vs.length+ws.length≤sizeLine):wpAny (model prog w) A (binaryOp .Add (.ref t) (.ref b)) Q E s:=by
 obtain ⟨⟨cls,dd,data,sl⟩,ho,hc,n,hd⟩:=id ht
 obtain ⟨⟨cls2,dd2,data2,sl2⟩,ho2,hc2,n2,hd2⟩:=id hb
 simp only at hc hd hc2 hd2
 subst hc hd hc2 hd2
 have e:vs.toArray++ws.toArray=(vs++ws).toArray:=by simp
 by_cases hw:ws=[]
 ·exact concat_meets ⟨_,ho,rfl⟩ ⟨_,ho2,rfl⟩ noFill_tuple_add seq_tuple_add PySem.F.slot_tuple_add PySem.F.entry_tuple_add (PySem.F.args_tuple_add_2 _ _)
   (tuple_addW1 t b vs.toArray ws.toArray n n2 dd dd2 sl sl2 (by simpa using hv) (by simp [hw])) ⟨ho,ho2,h1 hw⟩
 ·refine concat_meets ⟨_,ho,rfl⟩ ⟨_,ho2,rfl⟩ noFill_tuple_add seq_tuple_add PySem.F.slot_tuple_add PySem.F.entry_tuple_add (PySem.F.args_tuple_add_2 _ _)
   (tuple_addW2 t b vs.toArray ws.toArray n n2 dd dd2 sl sl2 (by simpa using hv) (by simpa using hw) (by rw [List.size_toArray,List.size_toArray];exact hsz)) ⟨ho,ho2,?_⟩
  rw [e]
  exact h2 hw
def sIx (n d:Nat):Option Int→Nat
 | none=>d
 | some v=>if v < 0 then (v+(n:Int)).toNat else min v.toNat n
theorem sIx_none (n d:Nat):sIx n d none=d:=rfl
theorem sIx_nat (n d k:Nat):sIx n d (some (k:Int))=min k n:=by
 show (if (k:Int) < 0 then ((k:Int)+(n:Int)).toNat else min (k:Int).toNat n)=min k n
 rw [if_neg (by omega),Int.toNat_natCast]
theorem jfY (n d:Nat) (hd:d≤n) (o:Option Int):sIx n d o≤n:=by
 cases o with
 | none=>exact hd
 | some v=>
  show (if v < 0 then (v+(n:Int)).toNat else min v.toNat n)≤n
  by_cases hv:v < 0
  ·rw [if_pos hv];omega
  ·rw [if_neg hv];exact Nat.min_le_right _ _
theorem jbX (v:Int) (n d:Nat):(if v < 0 then max (v+(n:Int)) 0 else min v (n:Int))=((sIx n d (some v):Nat):Int):=by
 show (if v < 0 then max (v+(n:Int)) 0 else min v (n:Int))=(((if v < 0 then (v+(n:Int)).toNat else min v.toNat n):Nat):Int)
 by_cases hv:v < 0
 ·simp only [if_pos hv];omega
 ·simp only [if_neg hv];omega
theorem jbi (lo hi:Option Int) (n:Nat):Builtin.Slice.sliceAdjust lo hi 1 (n:Int)=(((sIx n 0 lo:Nat):Int),((sIx n n hi:Nat):Int)):=by
 have h1:¬ ((1:Int) < 0):=by omega
 unfold Builtin.Slice.sliceAdjust
 simp only [h1,if_false]
 refine Prod.ext ?_ ?_
 ·cases lo with
  | none=>rfl
  | some v=>exact jbX v n 0
 ·cases hi with
  | none=>rfl
  | some v=>exact jbX v n n
theorem jaM (i j:Nat):Builtin.Slice.slicePlaces (i:Int) (j:Int) 1=j - i:=by
 unfold Builtin.Slice.slicePlaces
 have h1:(1:Int) > 0:=by omega
 simp only [h1,if_true,Int.ediv_one]
 split <;> omega
theorem Kk {v:Value} {o:Option Int} {Q:Option Int→Shared→Prop} (p:IsPart v o) (h:Q o s):wpAny (model prog w) A (Builtin.Slice.slicePartIndex v) Q E s:=by
 cases p with
 | none=>exact slicePart_none h
 | int i t=>exact slicePart_int h
theorem zK {sl:Addr} {vl vu:Value} {lo hi:Option Int} {n:Nat} {Q:Int×Int×Nat→Shared→Prop} (hs:s.heap.IsSliceOf sl vl vu .none) (pl:IsPart vl lo) (pu:IsPart vu hi)
  (h:Q (((sIx n 0 lo:Nat):Int),1,sIx n n hi - sIx n 0 lo) s):wpAny (model prog w) A (Builtin.Slice.sliceApplied (.ref sl) (pure (n:Int))) Q E s:=by
 obtain ⟨os,hos,hcs,hds⟩:=id hs
 unfold Builtin.Slice.sliceApplied Builtin.Slice.sliceFields
 refine wpAny_bind (wpAny_bind (wpAny_field hos hds (x:=vl) rfl (wpAny_bind (wpAny_field hos hds (x:=vu) rfl (wpAny_bind (wpAny_field hos hds (x:=.none) rfl (wpAny_pure ?_)))))))
 refine wpAny_bind (slicePart_none ?_)
 show wpAny _ _ (if ((1:Int) == 0)=true then _ else _) _ _ s
 rw [if_neg (by decide)]
 refine wpAny_bind (Kk pl (wpAny_bind (Kk pu (wpAny_bind (wpAny_pure ?_)))))
 show wpAny _ _ (match Builtin.Slice.sliceAdjust lo hi 1 (n:Int) with | (lo,hi)=>pure (lo,(1:Int),Builtin.Slice.slicePlaces lo hi 1)) _ _ s
 rw [jbi lo hi n]
 show wpAny _ _ (pure (((sIx n 0 lo:Nat):Int),(1:Int),Builtin.Slice.slicePlaces ((sIx n 0 lo:Nat):Int) ((sIx n n hi:Nat):Int) 1)) _ _ s
 rw [jaM]
 exact wpAny_pure h
theorem jdv (xs:Array Value) (i k:Nat):((List.range k).filterMap fun (m:Nat)=>xs[((i:Int)+(m:Int) * 1).toNat]?).toArray=((xs.toList.drop i).take k).toArray:=by
 have e:(fun (m:Nat)=>xs[((i:Int)+(m:Int) * 1).toNat]?)=fun m=>xs[i+m]?:=by
  funext m
  have:((i:Int)+(m:Int) * 1).toNat=i+m:=by omega
  rw [this]
 rw [e]
 have:=pick_run xs i k
 rw [List.filterMap_map] at this
 have e2:((fun x=>xs[x]?) ∘ fun x=>i+x)=fun m=>xs[i+m]?:=rfl
 rw [e2] at this
 rw [this]
theorem getItem_tuple_cut {t sl:Addr} {items:Array Value} {vl vu:Value} {lo hi:Option Int} {Q:Value→Shared→Prop} (ht:IsTup s.heap t items) (hs:s.heap.IsSliceOf sl vl vu .none) (pl:IsPart vl lo) (pu:IsPart vu hi)
  (hw:¬ (sIx items.size 0 lo=0∧sIx items.size items.size hi=items.size))
  (h:Q (.ref s.heap.objs.size) { s with heap:=s.heap.push { cls:=.type "tuple",data:=.seq ((items.toList.drop (sIx items.size 0 lo)).take (sIx items.size items.size hi - sIx items.size 0 lo)).toArray } })
  (hsz:items.size≤sizeLine):wpAny (model prog w) A (getItem (.ref t) (.ref sl)) Q E s:=by
 have htake:sizeOk (.seq ((items.toList.drop (sIx items.size 0 lo)).take (sIx items.size items.size hi - sIx items.size 0 lo)).toArray):=by
  show ((items.toList.drop (sIx items.size 0 lo)).take (sIx items.size items.size hi - sIx items.size 0 lo)).toArray.size≤sizeLine
  rw [List.size_toArray,List.length_take,List.length_drop,Array.length_toList]
  omega
 have hj:sIx items.size items.size hi≤items.size:=jfY _ _ (Nat.le_refl _) hi
 obtain ⟨os,hos,hcs,hds⟩:=id hs
 have hTs:s.TypeIs (.ref sl) "slice":=⟨os,hos,hcs⟩
 unfold getItem
 try with_reducible refine wpAny_holding ?_
 first | refine wpAny_bind (wpAny_pure ?_) | skip
 refine wpAny_bind (wpAny_sequenceKey ht.typeIs (by decide) ?_)
 refine wpAny_bind (wpAny_callSpecial?_slot (name:=Str.ofString "__getitem__") ht.typeIs PyProof.Rows.slot_tuple_getitem
  (wpAny_call_entry PyProof.Rows.slot_tuple_getitem ht.typeIs entry_tuple_getitem ?_ (args_tuple_getitem _ _)))
 show wpAny _ _ (Builtin.Tuple.tupleItemsOf (.ref t) >>= _) _ _ s
 refine wpAny_bind (tupleItemsOf_ ht ?_)
 refine wpAny_bind (wpAny_typeOf hTs ?_)
 rw [if_pos (by decide)]
 refine wpAny_bind (zK hs pl pu ?_)
 have hno:¬ ((((sIx items.size 0 lo:Nat):Int) == 0 && (1:Int) == 1 && (sIx items.size items.size hi - sIx items.size 0 lo) == items.size)=true):=by
  intro q
  rw [Bool.and_eq_true,Bool.and_eq_true] at q
  have q1:((sIx items.size 0 lo:Nat):Int)=0:=eq_of_beq q.1.1
  have q2:sIx items.size items.size hi - sIx items.size 0 lo=items.size:=eq_of_beq q.2
  exact hw ⟨by omega,by omega⟩
 show wpAny _ _ (if (((sIx items.size 0 lo:Nat):Int) == 0 && (1:Int) == 1 && (sIx items.size items.size hi - sIx items.size 0 lo) == items.size)=true then _ else _) _ _ s
 rw [if_neg hno,jdv]
 first
  | exact wpAny_bind (m:=Builtin.Tuple.tupleExact _) (wpAny_newObj_type (wpAny_pure ⟨_,rfl,wpAny_pure h⟩) htake)
  | exact wpAny_bind (m:=Builtin.Tuple.tupleExact _) (wpAny_newObj_type (wpAny_bind (wpAny_pure (wpAny_pure ⟨_,rfl,wpAny_pure h⟩))) htake)
  | exact wpAny_bind (wpAny_bind (m:=Builtin.Tuple.tupleExact _) (wpAny_newObj_type (wpAny_pure (wpAny_pure ⟨_,rfl,wpAny_pure h⟩)) htake))
  | exact wpAny_bind (wpAny_bind (m:=Builtin.Tuple.tupleExact _) (wpAny_newObj_type (wpAny_pure ⟨_,rfl,wpAny_pure h⟩) htake))
end
end HT
namespace L2
open PySem PySem.Spec PyProof.Rows
abbrev TO:=St→Hp→(Option Int→Hp→Prop)→Prop
def PO (X:Cx) (e:Option Expr) (t:TO):Prop:=
 ∀ (pins:List (Addr×Obj)) (s:Shared) (σ:St) (H:Hp) (Q:Option Int→Hp→Prop),Inv X pins σ H s→t σ H Q→
  wpAny (model X.prog X.w) X.A (evalPart e X.env) (fun u s'=>∃ o H',Inv X pins σ H' s'∧IsPart u o∧Q o H') X.xe s
def jbp:TO:=fun _ H Q=>Q none H
def jft (t:TE):TO:=fun σ H Q=>t σ H fun x H1=>∃ i,x=.int i∧Q (some i) H1
section
variable {X:Cx} {e:Expr} {te:TE} {lo hi:Option Expr} {tl th:TO} {pos p2:Pos}
theorem yE:PO X none jbp:=by
 intro pins s σ H Q I h
 rw [evalPart_none]
 exact wpAny_pure ⟨none,H,I,.none,h⟩
theorem yD (h:PE X e te):PO X (some e) (jft te):=by
 intro pins s σ H Q I hw
 rw [evalPart_some]
 refine thn (h pins s σ H _ I hw) fun u s1 ⟨x,H1,I1,r1,q1⟩=>?_
 obtain ⟨i,rfl,q⟩:=q1
 obtain ⟨t,rfl⟩:=r1
 exact ⟨some i,H1,I1,.int i t,q⟩
def SlR (X:Cx) (r:V→Option Int→Option Int→Hp→VK→Prop):Prop:=
 ∀ (pins:List (Addr×Obj)) (s:Shared) (σ:St) (H:Hp) (x:V) (v vl vu:Value) (lo hi:Option Int) (sl:Addr) (Q:VK),Inv X pins σ H s→RelV x v→s.heap.IsSliceOf sl vl vu .none→IsPart vl lo→IsPart vu hi→r x lo hi H Q→
  ∃ T id,typeLookup (.type T) "__getitem__" = pure (some (.builtin id))∧s.TypeIs v T∧wpAny (model X.prog X.w) X.A (getItem v (.ref sl)) (EP X pins σ Q) X.xe s
def tSl (r:V→Option Int→Option Int→Hp→VK→Prop) (te:TE) (tl th:TO):TE:=fun σ H Q=>te σ H fun x H1=>tl σ H1 fun l H2=>th σ H2 fun u H3=>r x l u H3 Q
theorem zS {r:V→Option Int→Option Int→Hp→VK→Prop} (hr:SlR X r) (he:PE X e te) (hl:PO X lo tl) (hu:PO X hi th):PE X (.Subscript e (.Slice lo hi none p2) pos) (tSl r te tl th):=by
 intro pins s σ H Q I h
 refine Subscript_ (thn (he pins s σ H _ I h) fun v s1 ⟨x,H1,I1,r1,q1⟩=>?_)
 refine wpAny_Slice (thn (hl pins s1 σ H1 _ I1 q1) fun vl s2 ⟨l,H2,I2,pl,q2⟩=>thn (hu pins s2 σ H2 _ I2 q2) fun vu s3 ⟨u,H3,I3,pu,q3⟩=>?_)
 rw [evalPart_none]
 refine wpAny_pure ?_
 have I4:Inv X pins σ H3 { s3 with heap:=s3.heap.push { cls:=.type "slice",data:=.fields #[vl,vu,.none] } }:=I3.kept (t':=s3.toks) fun b ob q=>Heap.get?_push_of_some _ q
 obtain ⟨T,id,hT,ht,hg⟩:=hr pins { s3 with heap:=s3.heap.push { cls:=.type "slice",data:=.fields #[vl,vu,.none] } } σ H3 x v vl vu l u s3.heap.objs.size Q I4 r1 (Heap.IsSliceOf.new ..) pl pu q3
 show wpAny (model X.prog X.w) X.A (subscriptTail e (.Slice lo hi none p2) v (.ref s3.heap.objs.size)) (EP X pins σ Q) X.xe { s3 with heap:=s3.heap.push { cls:=.type "slice",data:=.fields #[vl,vu,.none] } }
 exact tail_any (ops:=[.ref s3.heap.objs.size,v]) ht hT hg (by with_unfolding_all rfl)
def qZ (xs:List V) (lo hi:Option Int):List V:=(xs.drop (HT.sIx xs.length 0 lo)).take (HT.sIx xs.length xs.length hi - HT.sIx xs.length 0 lo)
theorem JS (xs:List V) (lo hi:Option Int):(qZ xs lo hi).length≤xs.length:=by
 unfold qZ
 rw [List.length_take,List.length_drop]
 omega
def jhx (K:PySem.W.Frag):V→Option Int→Option Int→Hp→VK→Prop:=fun x lo hi H Q=>∃ a xs,x=.ref a∧SqT K H a xs∧
 ¬ (HT.sIx xs.length 0 lo=0∧HT.sIx xs.length xs.length hi=xs.length)∧∀ p,H p=none→Q (.ref p) (upd H p (.tup (qZ xs lo hi)))
theorem zj:SlR X (jhx X.K):=by
 intro pins s σ H x v vl vu lo hi sl Q I rx hs pl pu h
 obtain ⟨a,xs,rfl,hx,hw,q⟩:=h
 cases rx
 obtain ⟨its,r,ht,hz⟩:=I.tuple hx
 have hlen:its.toArray.size=xs.length:=by rw [List.size_toArray];exact r.length.symm
 refine ⟨"tuple",_,PyProof.Rows.slot_tuple_getitem.lookup,ht.typeIs,?_⟩
 refine HT.getItem_tuple_cut ht hs pl pu (by rw [hlen];exact hw) ?_ (by rw [hlen];exact hz)
 rw [hlen]
 refine ⟨.ref s.heap.objs.size,_,I.laid (t':=s.toks) (o:=.tup (qZ xs lo hi)) (fun b ob q=>Heap.get?_push_of_some _ q) (Nat.le_refl _) ?_,rfl,q _ (I.hok.fresh (Nat.le_refl _))⟩
 exact ⟨Nat.le_trans (JS xs lo hi) hz,_,(r.drop (HT.sIx xs.length 0 lo)).take (HT.sIx xs.length xs.length hi - HT.sIx xs.length 0 lo),IsTup.new _ _⟩
def jg3 (K:PySem.W.Frag):R2:=fun x y H Q=>∃ a b xs ys,x=.ref a∧y=.ref b∧SqT K H a xs∧SqT K H b ys∧xs≠[]∧xs.length+ys.length≤sizeLine∧
 (ys=[]→Q (.ref a) H)∧(ys≠[]→∀ p,H p=none→Q (.ref p) (upd H p (.tup (xs++ys))))
theorem Vals.nil_iff {xs:List V} {us:List Value} (r:Vals xs us):us=[]↔xs=[]:=by
 cases r with
 | nil=>simp
 | cons _ _=>simp
theorem jeX:OpR X (binaryOp .Add) (jg3 X.K):=by
 intro pins s σ H x y v u Q I rx ry h
 obtain ⟨a,b,xs,ys,rfl,rfl,ha,hb,hx,hz,q1,q2⟩:=h
 cases rx
 cases ry
 obtain ⟨its,r1,p1,_⟩:=I.tuple ha
 obtain ⟨its2,r2,p2,_⟩:=I.tuple hb
 refine HT.cat_tup p1 p2 (fun z=>hx (r1.nil_iff.mp z)) (fun z=>⟨.ref a,H,I,rfl,q1 (r2.nil_iff.mp z)⟩) (fun z=>?_) (by rw [← r1.length,← r2.length];exact hz)
 refine ⟨.ref s.heap.objs.size,_,I.laid (t':=s.toks) (o:=.tup (xs++ys)) (fun b ob q=>Heap.get?_push_of_some _ q) (Nat.le_refl _) ?_,rfl,q2 (fun w=>z (r2.nil_iff.mpr w)) _ (I.hok.fresh (Nat.le_refl _))⟩
 exact ⟨by rw [List.length_append];exact hz,_,r1.append r2,IsTup.new _ _⟩
end
open PySem PySem.Spec PyProof.Rows
def ixN (n:Nat) (i:Int):Option Nat:=if 0≤i then (if i < n then some i.toNat else none) else if -(n:Int)≤i then some (i+n).toNat else none
def atI {α:Type} (xs:List α) (i:Int):Option α:=(ixN xs.length i).bind fun j=>xs[j]?
theorem jbJ {n:Nat} {i:Int} {j:Nat} (h:ixN n i=some j):seqIndex? i n=some j∧j < n∧-(n:Int)≤i∧i < n:=by
 unfold ixN at h
 by_cases h0:0≤i
 ·rw [if_pos h0] at h
  by_cases h1:i < n
  ·rw [if_pos h1] at h
   have e:i.toNat=j:=Option.some.inj h
   exact ⟨by rw [seqIndex_of h0 h1,e],by omega,by omega,h1⟩
  ·rw [if_neg h1] at h;cases h
 ·rw [if_neg h0] at h
  by_cases h1:-(n:Int)≤i
  ·rw [if_pos h1] at h
   have e:(i+n).toNat=j:=Option.some.inj h
   exact ⟨by rw [seqIndex_neg (by omega) h1,e],by omega,h1,by omega⟩
  ·rw [if_neg h1] at h;cases h
theorem Zw {α:Type} {xs:List α} {i:Int} {v:α} (h:atI xs i=some v):∃ j,seqIndex? i xs.length=some j∧xs[j]?=some v∧j < xs.length∧-(xs.length:Int)≤i∧i < xs.length:=by
 unfold atI at h
 cases e:ixN xs.length i with
 | none=>rw [e] at h;cases h
 | some j=>
  rw [e] at h
  obtain ⟨h1,h2,h3,h4⟩:=jbJ e
  exact ⟨j,h1,h,h2,h3,h4⟩
theorem zD {α:Type} {xs:List α} {j:Nat} {v:α} (h:xs[j]?=some v):atI xs (j:Int)=some v:=by
 have hj:j < xs.length:=(List.getElem?_eq_some_iff.mp h).1
 have e:ixN xs.length (j:Int)=some j:=by
  unfold ixN
  rw [if_pos (by omega),if_pos (by omega)];simp
 unfold atI;rw [e];exact h
theorem K0 {α:Type} (xs:List α) (v:α):atI (xs++[v]) (-1)=some v:=by
 have hl:(xs++[v]).length=xs.length+1:=by simp
 have e:ixN (xs++[v]).length (-1)=some xs.length:=by
  unfold ixN
  rw [hl,if_neg (by decide),if_pos (by omega)]
  congr 1
  omega
 unfold atI
 rw [e]
 show (xs++[v])[xs.length]?=some v
 simp
def jbZ (b:Expr):Prop:=∀ o i,subscripted b false o i=operate [o,i] (getItem o i)
def IxR (X:Cx) (r:R2):Prop:=
 ∀ (value slice:Expr) (pins:List (Addr×Obj)) (s:Shared) (σ:St) (H:Hp) (x y:V) (v u:Value) (Q:VK),Inv X pins σ H s→RelV x v→RelV y u→r x y H Q→
  subscripted slice false v u=operate [v,u] (getItem v u)→wpAny (model X.prog X.w) X.A (subscriptTail value slice v u) (EP X pins σ Q) X.xe s
def MtR (X:Cx) (id:String) (r:V→List V→Hp→VK→Prop):Prop:=
 ∀ (pins:List (Addr×Obj)) (s:Shared) (σ:St) (H:Hp) (x:V) (xs:List V) (v:Value) (us:List Value) (Q:VK),Inv X pins σ H s→RelV x v→Vals xs us→r x xs H Q→
  wpAny (model X.prog X.w) X.A (call (.builtin id) (v :: us)) (EP X pins σ Q) X.xe s
section
variable {X:Cx} {a b:Expr} {ta tb:TE} {pos:Pos}
theorem kF {r:R2} (hr:IxR X r) (ha:PE X a ta) (hb:PE X b tb) (hs:jbZ b):PE X (.Subscript a b pos) (tOp r ta tb):=by
 intro pins s σ H Q I h
 exact Subscript_ (jgB ha hb I h fun v u s2 x y H2 I2 rx ry q=>hr a b pins s2 σ H2 x y v u Q I2 rx ry q (hs _ _))
def jg2 (K:PySem.W.Frag):R2:=fun x y H Q=>∃ p xs i v,x=.ref p∧y=.int i∧SqL K H p xs∧atI xs i=some v∧Q v H
def jg1 (K:PySem.W.Frag):R2:=fun x y H Q=>∃ p xs i v,x=.ref p∧y=.int i∧SqT K H p xs∧atI xs i=some v∧Q v H
def jhA:R2:=fun x y H Q=>∃ z i c,x=.str z∧y=.int i∧z.length≤sizeLine∧atI z.cps.toList i=some c∧Q (.str ⟨#[c]⟩) H
theorem km:IxR X (jg2 X.K):=by
 intro value slice pins s σ H x y v u Q I rx ry h hs
 obtain ⟨p,xs,i,z,rfl,rfl,hq,he,q⟩:=h
 cases rx
 obtain ⟨t,rfl⟩:=ry
 obtain ⟨its,r,pl,hz⟩:=I.list hq
 obtain ⟨j,h1,h2,h3,h4,h5⟩:=Zw he
 obtain ⟨w,ew,rw'⟩:=r.get h2
 have hl:=r.length
 have hn:=KA
 have fin:EP X pins σ Q w s:=⟨z,H,I,rw',q⟩
 by_cases h0:0≤i
 ·have hj:i.toNat=j:=by
   rw [seqIndex_of h0 h5] at h1
   exact Option.some.inj h1
  exact item_listR pl.isList h0 (by omega) (by rw [hj];simpa using ew) fin hs
 ·have hj:(i+(its.toArray.size:Int)).toNat=j:=by
   rw [seqIndex_neg (by omega) h4] at h1
   rw [List.size_toArray,← hl]
   exact Option.some.inj h1
  exact subscriptTail_builtinR (x:=w) pl.isList.typeIs slot_list_getitem.lookup
   (wpAny_getItem_list_neg (Q:=fun r s'=>r=w∧EP X pins σ Q r s') pl.isList (by omega) (by rw [List.size_toArray] <;> omega) (by omega) (by rw [hj];simpa using ew) ⟨rfl,fin⟩) hs
theorem jS:IxR X (jg1 X.K):=by
 intro value slice pins s σ H x y v u Q I rx ry h hs
 obtain ⟨p,xs,i,z,rfl,rfl,hq,he,q⟩:=h
 cases rx
 obtain ⟨t,rfl⟩:=ry
 obtain ⟨its,r,pl,hz⟩:=I.tuple hq
 obtain ⟨j,h1,h2,h3,h4,h5⟩:=Zw he
 obtain ⟨w,ew,rw'⟩:=r.get h2
 have hl:=r.length
 have hn:=KA
 have fin:EP X pins σ Q w s:=⟨z,H,I,rw',q⟩
 exact subscriptTail_builtinR (x:=w) pl.typeIs slot_tuple_getitem.lookup
  (getItem_tuple (j:=j) (Q:=fun r s'=>r=w∧EP X pins σ Q r s') pl (by omega) (by omega) (by rw [List.size_toArray,← hl];exact h1) (by simpa using ew) ⟨rfl,fin⟩) hs
theorem ja4:IxR X jhA:=by
 intro value slice pins s σ H x y v u Q I rx ry h hs
 obtain ⟨z,i,c,rfl,rfl,hz,he,q⟩:=h
 obtain ⟨t,rfl⟩:=rx
 obtain ⟨t',rfl⟩:=ry
 obtain ⟨j,h1,h2,h3,h4,h5⟩:=Zw he
 have hl:z.cps.toList.length=z.length:=by simp [Str.length]
 rw [hl] at h1 h4 h5
 have hn:=KA
 exact tail_any (typeIs_str s z t) slot_str_getitem.lookup (getItem_str (c:=c) (by
  have e1:decide (i < -(2 ^ 63:Int))=false:=decide_eq_false (by omega)
  have e2:decide (i ≥ 2 ^ 63)=false:=decide_eq_false (by omega)
  rw [e1,e2,Bool.or_false]) (by rw [h1];simpa using h2) ⟨.str ⟨#[c]⟩,H,I.tok _,⟨_,rfl⟩,q⟩) hs
theorem ja0 (its:List Value) (n j:Nat) (u:Value):Obj.mapSeq (·.setIfInBounds j u) { cls:=.type "list",data:=.seq its.toArray n }={ cls:=.type "list",data:=.seq (its.set j u).toArray n }:=by
 simp [Obj.mapSeq]
theorem Inv.lst {pins:List (Addr×Obj)} {σ:St} {H:Hp} {s:Shared} {p:Addr} {xs:List V} (I:Inv X pins σ H s) (h:H p=some (.lst xs)) :
  ∃ (its:List Value) (n:Nat),Vals xs its∧s.heap.get? p=some { cls:=.type "list",data:=.seq its.toArray n }∧xs.length≤sizeLine:=by
 obtain ⟨z,its,n,r,e⟩:=I.hok p _ h
 exact ⟨its,n,r,e,z⟩
theorem Inv.lstUpd {pins:List (Addr×Obj)} {σ:St} {H:Hp} {s:Shared} {p:Addr} {xs ys:List V} {its its':List Value} {n n':Nat} {f:Obj→Obj} (I:Inv X pins σ H s) (h:H p=some (.lst xs))
  (ho:s.heap.get? p=some { cls:=.type "list",data:=.seq its.toArray n }) (hf:f { cls:=.type "list",data:=.seq its.toArray n }={ cls:=.type "list",data:=.seq its'.toArray n' }) (r:Vals ys its') (hz:ys.length≤sizeLine) (t:Nat) :
  Inv X pins σ (upd H p (.lst ys)) { s with heap:=s.heap.update p f,toks:=t }:=by
 have e:(s.heap.update p f).get? p=some { cls:=.type "list",data:=.seq its'.toArray n' }:=by
  rw [Heap.get?_update_self f ho (by rw [hf] <;> rfl),hf]
 refine I.write (x:=p) (e:=p) (by rw [h];trivial) (.inl rfl) (fun b u hb q=>(Heap.get?_update_other _ _ (Ne.symm hb)).trans q) ⟨_,e⟩ ?_
 exact ⟨hz,its',n',r,e⟩
def jg0:V→V→V→Hp→(Hp→Prop)→Prop:=fun o i v H Q=>∃ p xs k j,o=.ref p∧i=.int k∧H p=some (.lst xs)∧ixN xs.length k=some j∧Q (upd H p (.lst (xs.set j v)))
theorem zL:jgE X jg0:=by
 intro pins s σ H o i v ov iv u Q I ro ri rv h
 obtain ⟨p,xs,k,j,rfl,rfl,hp,hj,q⟩:=h
 cases ro
 obtain ⟨t,rfl⟩:=ri
 obtain ⟨its,n,r,ho,hz⟩:=I.lst hp
 obtain ⟨h1,h2,h3,h4⟩:=jbJ hj
 have hl:=r.length
 have hn:=KA
 have I':Inv X pins σ (upd H p (.lst (xs.set j v))) { s with heap:=s.heap.update p (Obj.mapSeq (·.setIfInBounds j u)) }:=
  I.lstUpd hp ho (ja0 its n j u) (r.set rv j) (by rw [List.length_set];exact hz) s.toks
 by_cases h0:0≤k
 ·have hk:k.toNat=j:=by
   rw [seqIndex_of h0 h4] at h1
   exact Option.some.inj h1
  exact PySem.W.ki_setAt ho h0 (by omega) (by rw [List.size_toArray,← hl];exact h4) (by rw [hk];exact ⟨_,I',q⟩)
 ·have hk:(k+(its.toArray.size:Int)).toNat=j:=by
   rw [seqIndex_neg (by omega) h3] at h1
   rw [List.size_toArray,← hl]
   exact Option.some.inj h1
  exact PySem.W.ki_setBack ho (by omega) (by rw [List.size_toArray,← hl];exact h3) (by omega) (by rw [hk];exact ⟨_,I',q⟩)
theorem Y2 (lo hi:Option Int) (n:Nat):(sliceBounds lo hi none n).1=((HT.sIx n 0 lo:Nat):Int)∧(sliceBounds lo hi none n).2.1=((HT.sIx n n hi:Nat):Int)∧(sliceBounds lo hi none n).2.2=1:=by
 refine ⟨?_,?_,rfl⟩
 ·cases lo with
  | none=>simp [sliceBounds,HT.sIx]
  | some i=>
   simp only [sliceBounds,HT.sIx,Option.getD_none,show (1:Int) > 0 by decide,if_true]
   by_cases h:i < 0
   ·simp only [h,if_true] <;> omega
   ·simp only [h,if_false] <;> omega
 ·cases hi with
  | none=>simp [sliceBounds,HT.sIx]
  | some i=>
   simp only [sliceBounds,HT.sIx,Option.getD_none,show (1:Int) > 0 by decide,if_true]
   by_cases h:i < 0
   ·simp only [h,if_true] <;> omega
   ·simp only [h,if_false] <;> omega
theorem K7 (its:List Value) (lo hi:Option Int):slicePick its.toArray lo hi none=((its.drop (HT.sIx its.length 0 lo)).take (HT.sIx its.length its.length hi - HT.sIx its.length 0 lo)).toArray:=by
 obtain ⟨h1,h2,h3⟩:=Y2 lo hi its.toArray.size
 unfold slicePick
 rw [h1,h2,h3]
 simp only [sliceRange_one,pick_run,List.size_toArray] <;> rfl
def jhy (K:PySem.W.Frag):V→Option Int→Option Int→Hp→VK→Prop:=fun x lo hi H Q=>∃ a xs,x=.ref a∧SqL K H a xs∧∀ p,H p=none→Q (.ref p) (upd H p (.lst (qZ xs lo hi)))
theorem jhu:SlR X (jhy X.K):=by
 intro pins s σ H x v vl vu lo hi sl Q I rx hs pl pu h
 obtain ⟨a,xs,rfl,hx,q⟩:=h
 cases rx
 obtain ⟨its,r,ht,hz⟩:=I.list hx
 have hlen:=r.length
 refine ⟨"list",_,slot_list_getitem.lookup,ht.isList.typeIs,?_⟩
 refine wpAny_getItem_list_slice ht.isList hs pl pu .none (by simp) ?_ (by rw [List.size_toArray] <;> omega)
 rw [K7,← hlen]
 refine ⟨.ref s.heap.objs.size,_,I.laid (t':=s.toks) (o:=.lst (qZ xs lo hi)) (fun b ob q=>Heap.get?_push_of_some _ q) (Nat.le_refl _) ?_,rfl,q _ (I.hok.fresh (Nat.le_refl _))⟩
 exact ⟨Nat.le_trans (JS xs lo hi) hz,_,0,(r.drop (HT.sIx xs.length 0 lo)).take (HT.sIx xs.length xs.length hi - HT.sIx xs.length 0 lo),Heap.get?_push_size _ rfl⟩
theorem kf:q5 X (.builtin "len") (fun xs H Q=>∃ p ys,xs=[.ref p]∧(SqL X.K H p ys∨SqT X.K H p ys)∧Q (.int ys.length) H):=by
 intro pins s σ H xs us Q I r h
 obtain ⟨p,ys,rfl,hq,q⟩:=h
 obtain ⟨u,rfl,rx⟩:=yk r
 cases rx
 have hn:=KA
 rcases hq with hq | hq
 ·obtain ⟨its,r',pl,hz⟩:=I.list hq
  have hlen:=r'.length
  exact Calls.call_len_list pl.isList (by simp only [List.size_toArray] <;> omega) ⟨.int ys.length,H,I.tok _,⟨s.toks+1,by rw [List.size_toArray,hlen]⟩,q⟩
 ·obtain ⟨its,r',pl,hz⟩:=I.tuple hq
  have hlen:=r'.length
  exact len_tuple pl (by simp only [List.size_toArray] <;> omega) ⟨.int ys.length,H,I.tok _,⟨s.toks+1,by rw [List.size_toArray,hlen]⟩,q⟩
theorem yf:q5 X (.type "list") (fun xs H Q=>∃ p ys,xs=[.ref p]∧(SqL X.K H p ys∨SqT X.K H p ys)∧∀ l,H l=none→Q (.ref l) (upd H l (.lst ys))):=by
 intro pins s σ H xs us Q I r h
 obtain ⟨p,ys,rfl,hq,q⟩:=h
 obtain ⟨u,rfl,rx⟩:=yk r
 cases rx
 have fin:∀ (its:List Value),Vals ys its→ys.length≤sizeLine→∀ (h':Heap) (c':Nat),(∀ b o',s.heap.get? b=some o'→h'.get? b=some o')→
   h'.get? s.heap.objs.size=some { cls:=.type "list",dict:=none,data:=.seq its.toArray c',slots:=#[] }→EP X pins σ Q (.ref s.heap.objs.size) { s with heap:=h' }:=fun its r' hz h' c' kp e=>
  ⟨.ref s.heap.objs.size,_,I.laid (t':=s.toks) kp (Nat.le_refl _) (show ObjOk X.prog X.w _ h' _ (.lst ys) from ⟨hz,its,c',r',e⟩),rfl,q _ (I.hok.fresh (Nat.le_refl _))⟩
 rcases hq with hq | hq
 ·obtain ⟨its,r',pl,hz⟩:=I.list hq
  have hlen:=r'.length
  obtain ⟨o,ho,hc,n,hd⟩:=pl.isList
  exact call_list_seq p (.inl rfl) ho hc hd (fun h' c' kp e=>fin its r' hz h' c' kp e) (by simp only [List.size_toArray] <;> omega)
 ·obtain ⟨its,r',pl,hz⟩:=I.tuple hq
  have hlen:=r'.length
  obtain ⟨o,ho,hc,n,hd⟩:=pl
  exact call_list_seq p (.inr rfl) ho hc hd (fun h' c' kp e=>fin its r' hz h' c' kp e) (by simp only [List.size_toArray] <;> omega)
theorem qy:q5 X (.type "tuple") (fun xs H Q=>∃ p ys,xs=[.ref p]∧((SqL X.K H p ys∧∀ l,H l=none→Q (.ref l) (upd H l (.tup ys)))∨(SqT X.K H p ys∧Q (.ref p) H))):=by
 intro pins s σ H xs us Q I r h
 obtain ⟨p,ys,rfl,h⟩:=h
 obtain ⟨u,rfl,rx⟩:=yk r
 cases rx
 rcases h with ⟨hq,q⟩ | ⟨hq,q⟩
 ·obtain ⟨its,r',pl,hz⟩:=I.list hq
  have hlen:=r'.length
  refine call_tuple_list pl.isList (fun h' kp=>?_) (by simp only [List.size_toArray] <;> omega)
  have I1:Inv X pins σ H { s with heap:=h' }:=I.kept (t':=s.toks) kp
  have I2:Inv X pins σ (upd H h'.objs.size (.tup ys)) { s with heap:=h'.push { cls:=.type "tuple",data:=.seq its.toArray } }:=
   I1.laid (t':=s.toks) (fun b o e=>Heap.get?_push_of_some _ e) (Nat.le_refl _) (show ObjOk X.prog X.w _ _ _ (.tup ys) from ⟨hz,its,r',IsTup.new _ _⟩)
  exact ⟨.ref h'.objs.size,_,I2,rfl,q _ (I1.hok.fresh (Nat.le_refl _))⟩
 ·obtain ⟨its,r',pl,hz⟩:=I.tuple hq
  exact call_tuple_same pl ⟨.ref p,H,I,rfl,q⟩
def tyV (K:PySem.W.Frag) (T:String) (x:V) (H:Hp):Prop:=match x with
 | .str _=>T = "str"
 | .int _=>T = "int"
 | .ref p=>(T = "list"∧∃ xs,SqL K H p xs)∨(T = "tuple"∧∃ o,K.lookup p=some o∧o.cls=.type "tuple"∧o.dict=none)∨
   (T = "dict"∧((∃ kvs,H p=some (.dK kvs))∨∃ kvs,H p=some (.dT kvs)))∨(T = "set"∧∃ S n,H p=some (.set S n))
 | _=>False
theorem jc8 {pins:List (Addr×Obj)} {σ:St} {H:Hp} {s:Shared} {T:String} {x:V} {v:Value} (I:Inv X pins σ H s) (r:RelV x v) (ty:tyV X.K T x H) :
  s.TypeIs v T∧∀ a,v=.ref a→∃ ob,s.heap.get? a=some ob∧ob.dict=none:=by
 cases x with
 | str z=>
  obtain ⟨t,rfl⟩:=r
  cases (show T = "str" from ty)
  exact ⟨typeIs_str s z t,fun _ e=>nomatch e⟩
 | int i=>
  obtain ⟨t,rfl⟩:=r
  cases (show T = "int" from ty)
  exact ⟨typeIs_int s i t,fun _ e=>nomatch e⟩
 | ref p=>
  cases r
  rcases ty with ⟨rfl,xs,hq⟩ | ⟨rfl,o,hk,hc,hd⟩ | ⟨rfl,hk⟩ | ⟨rfl,S,n,hk⟩
  ·obtain ⟨its,_,pl,_⟩:=I.list hq
   refine ⟨pl.isList.typeIs,fun a e=>?_⟩
   cases e
   obtain ⟨o,n,e,c,hd,_⟩:=pl
   exact ⟨o,e,hd⟩
  ·refine ⟨⟨o,I.kIn p o hk,hc⟩,fun a e=>?_⟩
   cases e
   exact ⟨o,I.kIn _ o hk,hd⟩
  ·have z:∃ o,s.heap.get? p=some o∧o.ExactDict:=by
    rcases hk with ⟨kvs,hk⟩ | ⟨kvs,hk⟩
    ·obtain ⟨_,_,_,_,o,_,_,e,ex,_⟩:=I.hok p _ hk
     exact ⟨o,e,ex⟩
    ·obtain ⟨_,_,_,_,o,_,_,e,ex,_⟩:=I.hok p _ hk
     exact ⟨o,e,ex⟩
   obtain ⟨o,e,ex⟩:=z
   refine ⟨⟨o,e,ex.1⟩,fun a e2=>?_⟩
   cases e2
   exact ⟨o,e,ex.2.1⟩
  ·obtain ⟨o,_,_,_,e,ex,_⟩:=I.hok p _ hk
   refine ⟨⟨o,e,ex.1⟩,fun a e2=>?_⟩
   cases e2
   exact ⟨o,e,ex.2.1⟩
 | _=>exact False.elim ty
def jgS (K:PySem.W.Frag) (T:String) (r:V→List V→Hp→VK→Prop) (to:TE):TE:=fun σ H Q=>to σ H fun x H1=>tyV K T x H1∧r x [] H1 Q
def tBM (K:PySem.W.Frag) (T:String) (r:V→List V→Hp→VK→Prop) (to:TE) (t:TA):TE:=fun σ H Q=>to σ H fun x H1=>tyV K T x H1∧t σ H1 fun xs H2=>r x xs H2 Q
variable {o e:Expr} {es:List Expr} {to:TE} {t:TA} {name:Str} {apos cpos:Pos} {T id:String} {r:V→List V→Hp→VK→Prop}
theorem jga (pa:PlainAttrs T) (slot:Slot T name id) (hty:typeOf (.builtin id)=pure (.type "method_descriptor")) (hm:MtR X id r) (ho:PE X o to)
  (hbase:attributeBase o name X.env (eval o X.env)=eval o X.env:=by rfl) (hline:(apos.endLine == cpos.line)=true:=by rfl):PE X (.Call (.Attribute o name apos) [] [] cpos) (jgS X.K T r to):=by
 intro pins s σ H Q I h
 refine wpAny_Call_method0_late hbase hline (thn (ho pins s σ H _ I h) fun v s1 ⟨x,H1,I1,r1,ty,q1⟩=>?_)
 obtain ⟨h1,h2⟩:=jc8 I1 r1 ty
 exact ⟨T,id,pa,slot,hty,h1,h2,Calls.callWith_builtin rfl (PySem.evalArgs_none (hm pins s1 σ H1 x [] v [] Q I1 r1 .nil q1))⟩
theorem yK (pa:PlainAttrs T) (slot:Slot T name id) (hty:typeOf (.builtin id)=pure (.type "method_descriptor")) (hm:MtR X id r) (ho:PE X o to) (ha:PA X (e :: es) t)
  (hbase:attributeBase o name X.env (eval o X.env)=eval o X.env:=by rfl)
  (hfew:((backTo cpos (starEach (e :: es) X.env)).all (fun x=>!x.1) && (backToKw cpos (keywordEach [] X.env)).all (fun x=>x.1.isSome)
   && decide ((e :: es).length+([]:List Keyword).length+(if ([]:List Keyword).isEmpty then 0 else 1) < 30))=true:=by rfl)
  (hline:(apos.endLine == cpos.line)=true:=by rfl) (hs:starEach (e :: es) X.env=(false,eval e X.env) :: starEach es X.env:=by rfl) (hplain:(backTo cpos (starEach es X.env)).any (·.1)=false:=by rfl) :
  PE X (.Call (.Attribute o name apos) (e :: es) [] cpos) (tBM X.K T r to t):=by
 intro pins s σ H Q I h
 refine wpAny_Call_method_late hbase hfew hline rfl (thn (ho pins s σ H _ I h) fun v s1 ⟨x,H1,I1,r1,ty,q1⟩=>?_)
 obtain ⟨h1,h2⟩:=jc8 I1 r1 ty
 refine ⟨T,id,pa,slot,hty,h1,h2,?_⟩
 have hA:=ha cpos pins s1 σ H1 _ I1 q1
 rw [hs] at hA ⊢
 refine Calls.callWith_builtin (by show (false || (backTo cpos (starEach es X.env)).any (·.1))=false;rw [hplain] <;> rfl) (Calls.evalArgs_plain ?_)
 exact thn hA fun us s2 ⟨vs,H2,I2,r2,q2⟩=>hm pins s2 σ H2 x vs v us Q I2 r1 r2 q2
end
open PySem PySem.Spec PyProof.Rows
def MtM (X:Cx) (id:String) (r:V→List V→Hp→VK→Prop):Prop:=
 ∀ (pins:List (Addr×Obj)) (s:Shared) (σ:St) (H:Hp) (x:V) (xs:List V) (v:Value) (us:List Value) (Q:VK),Inv X pins σ H s→RelV x v→Vals xs us→r x xs H Q→
  wpAny (model X.prog X.w) X.A (call (.builtin id) (v :: us)) (EP X pins σ Q) X.xe s
theorem Vals.one:∀ {x:V} {us:List Value},Vals [x] us→∃ u,us=[u]∧RelV x u
 | _,_,.cons r .nil=>⟨_,rfl,r⟩
theorem Vals.zero:∀ {us:List Value},Vals [] us→us=[]
 | _,.nil=>rfl
theorem Vals.dropLast {xs:List V} {us:List Value} (h:Vals xs us):Vals xs.dropLast us.dropLast:=by
 induction h with
 | nil=>exact .nil
 | cons r t ih=>
  cases t with
  | nil=>exact .nil
  | cons q t'=>exact .cons r ih
theorem Vals.eraseIdx:∀ {xs:List V} {us:List Value} (i:Nat),Vals xs us→Vals (xs.eraseIdx i) (us.eraseIdx i)
 | _,_,_,.nil=>.nil
 | _,_,0,.cons _ t=>t
 | _,_,i+1,.cons r t=>.cons r (Vals.eraseIdx i t)
theorem Vals.reverse {xs:List V} {us:List Value} (h:Vals xs us):Vals xs.reverse us.reverse:=by
 induction h with
 | nil=>exact .nil
 | cons r t ih=>rw [List.reverse_cons,List.reverse_cons];exact Vals.append ih (.cons r .nil)
theorem ja7 {α:Type} (l:List α):l.eraseIdx (l.length - 1)=l.dropLast:=by
 induction l with
 | nil=>rfl
 | cons a r ih=>
  cases r with
  | nil=>rfl
  | cons b r=>
   have e:(a :: b :: r).length - 1=((b :: r).length - 1)+1:=by
    have h1:(a :: b :: r).length=r.length+2:=rfl
    have h2:(b :: r).length=r.length+1:=rfl
    omega
   rw [e,List.eraseIdx_cons_succ,ih]
   all_goals rfl
section
variable {X:Cx} {pins:List (Addr×Obj)} {σ:St} {H:Hp} {s:Shared} {l b:Addr} {xs ys zs:List V}
theorem Inv.lset {its its':List Value} {n:Nat} {f:Array Value→Array Value} {t':Nat} (I:Inv X pins σ H s) (hH:H l=some (.lst xs))
  (e:s.heap.get? l=some { cls:=.type "list",data:=.seq its.toArray n }) (hf:f its.toArray=its'.toArray) (hv:Vals ys its') (hz:ys.length≤sizeLine) :
  Inv X pins σ (upd H l (.lst ys)) { s with heap:=s.heap.update l (Obj.mapSeq f),toks:=t' }:=by
 have q:=PySem.IsL.update e f
 rw [hf] at q
 refine I.write (x:=l) (e:=l) (by rw [hH];exact trivial) (.inl rfl) (fun b' u hb hu=>(Heap.get?_update_other s.heap (Obj.mapSeq f) (Ne.symm hb)).trans hu) ⟨_,q⟩ ?_
 exact ⟨hz,its',_,hv,q⟩
theorem Inv.lnew {its:List Value} {t':Nat} (I:Inv X pins σ H s) (hv:Vals ys its) (hz:ys.length≤sizeLine) :
  Inv X pins σ (upd H s.heap.objs.size (.lst ys)) { s with heap:=s.heap.push { cls:=.type "list",data:=.seq its.toArray },toks:=t' }:=
 I.laid (fun _ _ q=>Heap.get?_push_of_some _ q) (Nat.le_refl _) ⟨hz,its,0,hv,Heap.get?_push_size _ rfl⟩
theorem Inv.fresh (I:Inv X pins σ H s):H s.heap.objs.size=none:=I.hok.fresh (Nat.le_refl _)
theorem Inv.lstM (I:Inv X pins σ H s) (hH:H l=some (.lst xs)):xs.length≤sizeLine∧∃ (its:List Value) (n:Nat),Vals xs its∧xs.length=its.length∧s.heap.get? l=some { cls:=.type "list",data:=.seq its.toArray n }:=by
 obtain ⟨z,its,n,r,e⟩:=I.hok l _ hH
 exact ⟨z,its,n,r,r.length,e⟩
theorem jdJ {n:Nat} (h:n≤sizeLine):Builtin.List.listTooLong n=false:=by
 unfold Builtin.List.listTooLong
 exact decide_eq_false (by omega)
end
section
variable {X:Cx}
def jeG:V→List V→Hp→VK→Prop:=fun x vs H Q=>∃ l xs y,x=.ref l∧vs=[y]∧H l=some (.lst xs)∧xs.length < sizeLine∧Q .non (upd H l (.lst (xs++[y])))
theorem kN:MtM X "list.append" jeG:=by
 intro pins s σ H x vs v us Q I rx rv h
 obtain ⟨l,xs,y,rfl,rfl,hH,hz,q⟩:=h
 cases rx
 obtain ⟨u,rfl,ru⟩:=rv.one
 obtain ⟨z,its,n,r,hl,e⟩:=I.lstM hH
 refine call_meets F.slot_list_append ⟨_,e,rfl⟩ F.entry_list_append (F.args_list_append_2 _ _) (PySem.list_append l its.toArray n u (by rw [List.size_toArray];omega)) ⟨e,?_⟩
 refine ⟨.non,_,I.lset (its':=its++[u]) hH e (by simp) (r.append (.cons ru .nil)) ?_,rfl,q⟩
 rw [List.length_append,List.length_singleton]
 omega
def jeF:V→List V→Hp→VK→Prop:=fun x vs H Q=>∃ l b xs zs,x=.ref l∧vs=[.ref b]∧H l=some (.lst xs)∧H b=some (.lst zs)∧xs.length+zs.length≤sizeLine∧Q .non (upd H l (.lst (xs++zs)))
theorem jcy:MtM X "list.extend" jeF:=by
 intro pins s σ H x vs v us Q I rx rv h
 obtain ⟨l,b,xs,zs,rfl,rfl,hH,hB,hz,q⟩:=h
 cases rx
 obtain ⟨u,rfl,ru⟩:=rv.one
 cases ru
 obtain ⟨z,its,n,r,hl,e⟩:=I.lstM hH
 obtain ⟨z2,its2,n2,r2,hl2,e2⟩:=I.lstM hB
 have hsz:its.toArray.size+its2.toArray.size≤sizeLine:=by rw [List.size_toArray,List.size_toArray];omega
 have hlong:¬ (!its.toArray.isEmpty && Builtin.List.listTooLong (its.toArray.size+its2.toArray.size))=true:=by
  rw [jdJ hsz,Bool.and_false]
  exact Bool.false_ne_true
 refine call_meets F.slot_list_extend ⟨_,e,rfl⟩ F.entry_list_extend (F.args_list_extend_2 _ _)
  (AutoSeq1.list_extend_list_list_0 l its.toArray n b its2.toArray n2 hlong (by rw [List.size_toArray];omega) (by omega)) ⟨e,e2,?_⟩
 refine ⟨.non,_,I.lset (its':=its++its2) hH e (by simp) (r.append r2) ?_,rfl,q⟩
 rw [List.length_append]
 omega
def jhz:V→List V→Hp→VK→Prop:=fun x vs H Q=>∃ l xs y,x=.ref l∧vs=[]∧H l=some (.lst xs)∧xs[xs.length - 1]?=some y∧Q y (upd H l (.lst xs.dropLast))
theorem jgn:MtM X "list.pop" jhz:=by
 intro pins s σ H x vs v us Q I rx rv h
 obtain ⟨l,xs,y,rfl,rfl,hH,hy,q⟩:=h
 cases rx
 have hus:=rv.zero
 subst hus
 obtain ⟨z,its,n,r,hl,e⟩:=I.lstM hH
 obtain ⟨u,hu,ru⟩:=r.get hy
 have hy':its.toArray[its.toArray.size - 1]?=some u:=by
  show its.toArray[its.length - 1]?=some u
  rw [← Array.getElem?_toList,← hl]
  exact hu
 refine call_meets F.slot_list_pop ⟨_,e,rfl⟩ F.entry_list_pop (F.args_list_pop_1 _) (MeetsSeq.list_pop_last l its.toArray n u hy' (by rw [List.size_toArray];omega)) ⟨e,?_⟩
 refine ⟨y,_,I.lset (its':=its.dropLast) hH e ?_ r.dropLast ?_,ru,q⟩
 ·show its.toArray.eraseIdxIfInBounds (its.toArray.size - 1)=its.dropLast.toArray
  rw [List.size_toArray,List.eraseIdxIfInBounds_toArray,ja7]
 ·rw [List.length_dropLast]
  omega
def jhB:R2:=fun x y H Q=>∃ l b xs zs,x=.ref l∧y=.ref b∧H l=some (.lst xs)∧H b=some (.lst zs)∧xs.length+zs.length≤sizeLine∧∀ p,H p=none→Q (.ref p) (upd H p (.lst (xs++zs)))
theorem jge:OpR X (binaryOp .Add) jhB:=by
 intro pins s σ H x y v u Q I rx ry h
 obtain ⟨l,b,xs,zs,rfl,rfl,hH,hB,hz,q⟩:=h
 cases rx
 cases ry
 obtain ⟨z,its,n,r,hl,e⟩:=I.lstM hH
 obtain ⟨z2,its2,n2,r2,hl2,e2⟩:=I.lstM hB
 refine PySem.P.add_list e e2 ?_ (by rw [List.size_toArray,List.size_toArray];omega)
 have ea:its.toArray++its2.toArray=(its++its2).toArray:=by simp
 rw [ea]
 exact ⟨.ref _,_,I.lnew (t':=s.toks) (r.append r2) (by rw [List.length_append];omega),rfl,q _ I.fresh⟩
end
open PySem PySem.Spec PyProof.Rows
section
variable {κ:Type} [DecidableEq κ]
def qi (kvs:List (κ×V)) (k:κ):Option V:=(kvs.find? fun kv=>decide (kv.1=k)).map (·.2)
def qE (kvs:List (κ×V)) (k:κ) (v:V):List (κ×V):=
 if (kvs.any fun kv=>decide (kv.1=k))=true then kvs.map (fun kv=>if kv.1=k then (kv.1,v) else kv) else kvs++[(k,v)]
theorem kX {p:κ×V} {r:List (κ×V)} {k:κ} (e:p.1=k):qi (p :: r) k=some p.2:=by simp [qi,List.find?_cons,e]
theorem kY {p:κ×V} {r:List (κ×V)} {k:κ} (e:¬ p.1=k):qi (p :: r) k=qi r k:=by simp [qi,List.find?_cons,e]
theorem y7 (k:κ):∀ kvs:List (κ×V),(kvs.any fun kv=>decide (kv.1=k))=(qi kvs k).isSome
 | []=>rfl
 | p :: r=>by
  rw [List.any_cons]
  by_cases e:p.1=k
  ·simp only [kX e,decide_eq_true e,Bool.true_or,Option.isSome_some]
  ·rw [kY e,decide_eq_false e,Bool.false_or];exact y7 k r
theorem ZB (k j:κ) (y:V):∀ kvs:List (κ×V),qi (kvs.map fun kv=>if kv.1=k then (kv.1,y) else kv) j=(qi kvs j).map fun x=>if j=k then y else x
 | []=>rfl
 | p :: r=>by
  have ih:=ZB k j y r
  rw [List.map_cons]
  by_cases h:p.1=k
  ·rw [if_pos h]
   by_cases e:p.1=j
   ·rw [kX (p:=(p.1,y)) e,kX e,Option.map_some,if_pos (e.symm.trans h)]
   ·rw [kY (p:=(p.1,y)) e,kY e,ih]
  ·rw [if_neg h]
   by_cases e:p.1=j
   ·rw [kX (p:=p) e,kX e,Option.map_some,if_neg (fun z=>h (e.trans z))]
   ·rw [kY (p:=p) e,kY e,ih]
theorem Yh (k j:κ) (y:V):∀ kvs:List (κ×V),qi kvs k=none→qi (kvs++[(k,y)]) j=if j=k then some y else qi kvs j
 | [],_=>by
  by_cases e:k=j
  ·rw [if_pos e.symm];exact kX (p:=(k,y)) e
  ·rw [if_neg (fun z=>e z.symm)];exact kY (p:=(k,y)) e
 | p :: r,hn=>by
  rw [List.cons_append]
  have hk:¬ p.1=k:=fun z=>by rw [kX z] at hn;cases hn
  rw [kY hk] at hn
  have ih:=Yh k j y r hn
  by_cases e:p.1=j
  ·rw [kX e,kX e,if_neg (fun z=>hk (e.trans z))]
  ·rw [kY e,kY e,ih]
theorem ZA (kvs:List (κ×V)) (k j:κ) (y:V):qi (qE kvs k y) j=if j=k then some y else qi kvs j:=by
 unfold qE
 by_cases a:(kvs.any fun kv=>decide (kv.1=k))=true
 ·rw [if_pos a,ZB]
  rw [y7] at a
  by_cases e:j=k
  ·obtain ⟨x,hx⟩:=Option.isSome_iff_exists.mp a
   rw [if_pos e,e,hx,Option.map_some,if_pos rfl]
  ·rw [if_neg e]
   cases qi kvs j with
   | none=>rfl
   | some x=>rw [Option.map_some,if_neg e]
 ·rw [if_neg a]
  refine Yh k j y kvs ?_
  rw [y7] at a
  cases q:qi kvs k with
  | none=>rfl
  | some x=>rw [q] at a;exact (a rfl).elim
theorem yu (kvs:List (κ×V)) (k:κ) (v:V):(qE kvs k v).length≤kvs.length+1:=by
 unfold qE
 split
 ·rw [List.length_map];omega
 ·rw [List.length_append,List.length_cons,List.length_nil];omega
theorem RelO.isSome_eq {o:Option V} {u:Option Value} (r:RelO o u):o.isSome=u.isSome:=by
 cases o with
 | none=>cases u with
  | none=>rfl
  | some _=>exact (show False from r).elim
 | some _=>cases u with
  | none=>exact (show False from r).elim
  | some _=>rfl
theorem RelO.getD {o:Option V} {u:Option Value} {d:V} {d':Value} (r:RelO o u) (rd:RelV d d'):RelV (o.getD d) (u.getD d'):=by
 cases o with
 | none=>cases u with
  | none=>exact rd
  | some _=>exact (show False from r).elim
 | some _=>cases u with
  | none=>exact (show False from r).elim
  | some _=>exact r
theorem KV.val {kvs:List (κ×V)} {vs:List (κ×Value)} (r:KV kvs vs) (k:κ):RelO (qi kvs k) (valueAt vs k):=by
 unfold KV at r
 induction r with
 | nil=>exact True.intro
 | @cons p q ps qs h t ih=>
  obtain ⟨h1,h2⟩:=h
  by_cases e:p.1=k
  ·have e':q.1=k:=h1.symm.trans e
   have b:valueAt (q :: qs) k=some q.2:=by simp [valueAt,List.find?_cons,e']
   rw [kX e,b];exact h2
  ·have e':¬ q.1=k:=fun z=>e (h1.trans z)
   have b:valueAt (q :: qs) k=valueAt qs k:=by simp [valueAt,List.find?_cons,e']
   rw [kY e,b];exact ih
theorem KV.any {kvs:List (κ×V)} {vs:List (κ×Value)} (r:KV kvs vs) (k:κ):(kvs.any fun kv=>decide (kv.1=k))=vs.any fun kv=>decide (kv.1=k):=by
 unfold KV at r
 induction r with
 | nil=>rfl
 | cons h t ih=>rw [List.any_cons,List.any_cons,ih,h.1]
theorem KV.repl {kvs:List (κ×V)} {vs:List (κ×Value)} (r:KV kvs vs) (k:κ) {y:V} {u:Value} (ry:RelV y u) :
  KV (kvs.map fun kv=>if kv.1=k then (kv.1,y) else kv) (vs.map fun kv=>if kv.1=k then (kv.1,u) else kv):=by
 unfold KV at r ⊢
 induction r with
 | nil=>exact .nil
 | @cons p q ps qs h t ih=>
  rw [List.map_cons,List.map_cons]
  refine .cons ?_ ih
  obtain ⟨h1,h2⟩:=h
  by_cases e:p.1=k
  ·rw [if_pos e,if_pos (h1.symm.trans e)];exact ⟨h1,ry⟩
  ·rw [if_neg e,if_neg (fun z=>e (h1.trans z))];exact ⟨h1,h2⟩
theorem KV.put {kvs:List (κ×V)} {vs:List (κ×Value)} (r:KV kvs vs) (k:κ) {y:V} {u:Value} (ry:RelV y u):KV (qE kvs k y) (stored vs k u):=by
 unfold qE stored
 rw [r.any k]
 by_cases e:(vs.any fun kv=>decide (kv.1=k))=true
 ·rw [if_pos e,if_pos e];exact r.repl k ry
 ·rw [if_neg e,if_neg e];exact Paired.snoc r ⟨rfl,ry⟩
theorem KV.keys {kvs:List (κ×V)} {vs:List (κ×Value)} (r:KV kvs vs):kvs.map (·.1)=vs.map (·.1):=by
 unfold KV at r
 induction r with
 | nil=>rfl
 | cons h t ih=>rw [List.map_cons,List.map_cons,ih,h.1]
theorem KV.length {kvs:List (κ×V)} {vs:List (κ×Value)} (r:KV kvs vs):kvs.length=vs.length:=Paired.length r
end
theorem YA {P:Program} {w:World} {k:Key} {u:Value} (r:RelV (kV k) u):(kj P w).is k u=true:=by
 cases k with
 | inl i=>obtain ⟨t,e⟩:=(show ∃ t,u=Value.int i t from r);subst e;exact Z4 P w i t
 | inr x=>obtain ⟨t,e⟩:=(show ∃ t,u=Value.str x t from r);subst e;exact Z3 P w x t
theorem YB {P:Program} {w:World}:∀ {ks:List Key} {us:List Value},Vals (ks.map kV) us→ItemsAre (kj P w) ks us
 | [],_,r=>by rw [List.map_nil] at r;cases r;exact .nil
 | k :: ks,_,r=>by
  rw [List.map_cons] at r
  cases r with
  | cons h t=>exact .cons (YA h) (YB t)
abbrev KT (H:Hp):List (List Key×V)→List (List Key×Addr×Value)→Prop:=Paired fun p q=>p.1=q.1∧H q.2.1=some (.tup (p.1.map kV))∧RelV p.2 q.2.2
theorem KT.val {H:Hp} {kvs:List (List Key×V)} {xs:List (List Key×Addr×Value)} (r:KT H kvs xs) (k:List Key):RelO (qi kvs k) ((atKey xs k).map (·.2)):=by
 induction r with
 | nil=>exact True.intro
 | @cons p q ps qs h t ih=>
  obtain ⟨h1,_,h2⟩:=h
  by_cases e:p.1=k
  ·have e':q.1=k:=h1.symm.trans e
   have b:atKey (q :: qs) k=some q.2:=by simp [atKey,List.find?_cons,e']
   rw [kX e,b];exact h2
  ·have e':¬ q.1=k:=fun z=>e (h1.trans z)
   have b:atKey (q :: qs) k=atKey qs k:=by simp [atKey,List.find?_cons,e']
   rw [kY e,b];exact ih
theorem KT.repl {H:Hp} {kvs:List (List Key×V)} {xs:List (List Key×Addr×Value)} (r:KT H kvs xs) (k:List Key) {y:V} {u:Value} (ry:RelV y u) :
  KT H (kvs.map fun kv=>if kv.1=k then (kv.1,y) else kv) (xs.map (putAt k u)):=by
 induction r with
 | nil=>exact .nil
 | @cons p q ps qs h t ih=>
  rw [List.map_cons,List.map_cons]
  refine .cons ?_ ih
  obtain ⟨h1,h2,h3⟩:=h
  unfold putAt
  by_cases e:p.1=k
  ·rw [if_pos e,if_pos (h1.symm.trans e)];exact ⟨h1,h2,ry⟩
  ·rw [if_neg e,if_neg (fun z=>e (h1.trans z))];exact ⟨h1,h2,h3⟩
theorem KT.put {H:Hp} {kvs:List (List Key×V)} {xs:List (List Key×Addr×Value)} (r:KT H kvs xs) (k:List Key) {b:Addr} {y:V} {u:Value} (hb:H b=some (.tup (k.map kV))) (ry:RelV y u) :
  KT H (qE kvs k y) (storedH xs k b u):=by
 have e:(kvs.any fun kv=>decide (kv.1=k))=(atKey xs k).isSome:=by
  rw [y7,(r.val k).isSome_eq,Option.isSome_map]
 unfold qE storedH
 rw [e]
 by_cases q:(atKey xs k).isSome=true
 ·rw [if_pos q,if_pos q];exact r.repl k ry
 ·rw [if_neg q,if_neg q];exact Paired.snoc r ⟨rfl,hb,ry⟩
theorem KT.keeps {H H':Hp} {kvs:List (List Key×V)} {xs:List (List Key×Addr×Value)} (r:KT H kvs xs) (ht:∀ b ys,H b=some (.tup ys)→H' b=some (.tup ys)):KT H' kvs xs:=
 Paired.mapP r fun _ _ z=>⟨z.1,ht _ _ z.2.1,z.2.2⟩
section
variable {P:Program} {w:World} {H:Hp} {h:Heap} {a:Addr}
theorem jfD {u:HO} (ok:HOk P w H h) (e:Rd H a u):ObjOk P w H h a u:=e.ok ok
theorem jak {kvs:List (Key×V)} (ok:HOk P w H h) (e:Rd H a (.dK kvs)):kvs.length≤sizeLine∧(a == sysModules)=false∧∃ vs,KV kvs vs∧h.DictOf (kj P w) a vs:=
 show ObjOk P w H h a (.dK kvs) from jfD ok e
theorem jbQ {kvs:List (Key×V)} (ok:HOk P w H h) (e:H a=some (.dK kvs)):kvs.length≤sizeLine∧(a == sysModules)=false∧∃ vs,KV kvs vs∧h.DictOf (kj P w) a vs:=jak ok (.inl e)
theorem Zf {ks:List Key} (ok:HOk P w H h) (e:H a=some (.tup (ks.map kV))):(tupleKind (kj P w)).is h ks a:=by
 obtain ⟨_,its,r,o,h1,h2,n,h3⟩:=(show ObjOk P w H h a (.tup (ks.map kV)) from ok a _ e)
 exact ⟨o,its.toArray,n,h1,h2,h3,by simpa using YB r⟩
theorem jai {kvs:List (List Key×V)} (ok:HOk P w H h) (e:Rd H a (.dT kvs)):kvs.length≤sizeLine∧(a == sysModules)=false∧
  ∃ xs,KT H kvs xs∧h.DictOfH (tupleKind (kj P w)) a xs:=by
 obtain ⟨z,y,xs,r,o,es,ep,h1,h2,h3,h4,h5⟩:=(show ObjOk P w H h a (.dT kvs) from jfD ok e)
 refine ⟨z,y,xs,r,o,es,ep,h1,h2,h3,h4,fun x hx=>?_,h5⟩
 have all:∀ {l:List (List Key×V)} {m:List (List Key×Addr×Value)},KT H l m→∀ x∈m,(tupleKind (kj P w)).is h x.1 x.2.1:=by
  intro l m q
  induction q with
  | nil=>intro x hx;exact nomatch hx
  | @cons p q ps qs hq t ih=>
   intro x hx
   rcases List.mem_cons.mp hx with e | hx
   ·subst e
    exact Zf ok (by rw [← hq.1];exact hq.2.1)
   ·exact ih x hx
 exact all r x hx
theorem jhn {kvs:List (List Key×V)} (ok:HOk P w H h) (e:H a=some (.dT kvs)):kvs.length≤sizeLine∧(a == sysModules)=false∧
  ∃ xs,KT H kvs xs∧h.DictOfH (tupleKind (kj P w)) a xs:=jai ok (.inl e)
end
def DGet (H:Hp) (a:Addr) (y:V) (r:Option V):Prop:=
 (∃ kvs k,Rd H a (.dK kvs)∧y=kV k∧r=qi kvs k)∨∃ kvs k b,Rd H a (.dT kvs)∧y=.ref b∧H b=some (.tup (k.map kV))∧r=qi kvs k
def DPut (H:Hp) (a:Addr) (y v:V) (H':Hp):Prop:=
 (∃ kvs k,H a=some (.dK kvs)∧y=kV k∧kvs.length < sizeLine∧H'=upd H a (.dK (qE kvs k v)))∨
 ∃ kvs k b,H a=some (.dT kvs)∧y=.ref b∧H b=some (.tup (k.map kV))∧kvs.length < sizeLine∧H'=upd H a (.dT (qE kvs k v))
theorem DGet.k {H:Hp} {a:Addr} {kvs:List (Key×V)} {k:Key} (e:H a=some (.dK kvs)):DGet H a (kV k) (qi kvs k):=.inl ⟨kvs,k,.inl e,rfl,rfl⟩
theorem DGet.t {H:Hp} {a b:Addr} {kvs:List (List Key×V)} {k:List Key} (e:H a=some (.dT kvs)) (eb:H b=some (.tup (k.map kV))):DGet H a (.ref b) (qi kvs k):=.inr ⟨kvs,k,b,.inl e,rfl,eb,rfl⟩
theorem DPut.k {H:Hp} {a:Addr} {kvs:List (Key×V)} {k:Key} {v:V} (e:H a=some (.dK kvs)) (hl:kvs.length < sizeLine):DPut H a (kV k) v (upd H a (.dK (qE kvs k v))):=.inl ⟨kvs,k,e,rfl,hl,rfl⟩
theorem DPut.t {H:Hp} {a b:Addr} {kvs:List (List Key×V)} {k:List Key} {v:V} (e:H a=some (.dT kvs)) (eb:H b=some (.tup (k.map kV))) (hl:kvs.length < sizeLine) :
  DPut H a (.ref b) v (upd H a (.dT (qE kvs k v))):=.inr ⟨kvs,k,b,e,rfl,eb,hl,rfl⟩
section
variable {X:Cx} {pins:List (Addr×Obj)} {σ:St} {H:Hp} {s:Shared} {a:Addr} {y v:V} {u r:Value} {o:Option V} {A:Around} {E:Value→Shared→Prop}
theorem Inv.big (I:Inv X pins σ H s):sysModules < s.heap.objs.size:=by
 have h:mainGlobals < s.heap.objs.size:=(I.mod.glob.keeps I.bk).lt
 exact Nat.lt_trans (by decide) h
theorem jcT {Q:Value→Shared→Prop} (hu:A.units+1 < cLine) (I:Inv X pins σ H s) (g:DGet H a y (some v)) (ry:RelV y u) (h:∀ w' s',Inv X pins σ H s'→RelV v w'→Q w' s') :
  wpAny (model X.prog X.w) A (getItem (.ref a) u) Q E s:=by
 rcases g with ⟨kvs,k,e,ey,l⟩ | ⟨kvs,k,b,e,ey,eb,l⟩
 ·subst ey
  obtain ⟨z,hd,vs,rel,dd⟩:=jak I.hok e
  obtain ⟨w',hw,rw'⟩:=RelO.some_of (v:=v) (o:=valueAt vs k) (by rw [l];exact rel.val k)
  exact wpAny_getItem_of (YA ry) dd.mapOf hw (h w' _ (I.tok _) rw')
 ·subst ey
  cases (show u=Value.ref b from ry)
  obtain ⟨z,hd,xs,rel,dd⟩:=jai I.hok e
  obtain ⟨w',hw,rw'⟩:=RelO.some_of (v:=v) (o:=(atKey xs k).map (·.2)) (by rw [l];exact rel.val k)
  obtain ⟨p,hp,hp2⟩:=Option.map_eq_some_iff.mp hw
  refine wpAny_getItem_heap (tupleKind_room_in1 hu) (Zf I.hok eb) dd hp ?_
  rw [hp2]
  exact h w' _ (I.tok _) rw'
theorem J7 {h':Heap} {t':Nat} {ob:HO} (I:Inv X pins σ H s) (mu:Mut (H a)) (hs:Heap.SameBut a s.heap h') (he:∃ q,h'.get? a=some q) (new:ObjOk X.prog X.w (upd H a ob) h' a ob) :
  Inv X pins σ (upd H a ob) { s with heap:=h',toks:=t' }:=
 I.write (x:=a) (e:=a) mu (.inl rfl) (fun b q hb z=>(hs.2 b hb).trans z) he new
theorem Zo {P:Program} {w:World} {H':Hp} {h':Heap} {kvs:List (Key×V)} {vs:List (Key×Value)} (z:kvs.length≤sizeLine) (hd:(a == sysModules)=false) (rel:KV kvs vs) (dd:h'.DictOf (kj P w) a vs) :
  ObjOk P w H' h' a (.dK kvs):=⟨z,hd,vs,rel,dd⟩
theorem jcS {H':Hp} {Q:Unit→Shared→Prop} (hu:A.units+1 < cLine) (I:Inv X pins σ H s) (g:DPut H a y v H') (ry:RelV y u) (rv:RelV v r) (h:∀ s',Inv X pins σ H' s'→Q () s') :
  wpAny (model X.prog X.w) A (setItem (.ref a) u r) Q E s:=by
 rcases g with ⟨kvs,k,e,ey,l,eH⟩ | ⟨kvs,k,b,e,ey,eb,l,eH⟩
 ·subst ey eH
  obtain ⟨z,hd,vs,rel,dd⟩:=jbQ I.hok e
  have hz:vs.length≤sizeLine:=by rw [← rel.length];exact z
  have hl:(qE kvs k v).length≤sizeLine:=by have:=yu kvs k v;omega
  refine wpAny_setItem_pairs (hsz:=hz) (YA ry) dd fun h' dd' hs=>h _ ?_
  have he:∃ q,h'.get? a=some q:=let ⟨q,_,_,hq,_⟩:=dd';⟨q,hq⟩
  exact J7 I (by rw [e];exact True.intro) hs he (Zo hl hd (rel.put k rv) dd')
 ·subst ey eH
  cases (show u=Value.ref b from ry)
  obtain ⟨z,hd,xs,rel,dd⟩:=jhn I.hok e
  have hz:xs.length≤sizeLine:=by rw [← Paired.length rel];exact z
  have hl:(qE kvs k v).length≤sizeLine:=by have:=yu kvs k v;omega
  refine wpAny_setItem_heap (hsz:=hz) (tupleKind_room_in1 hu) (Zf I.hok eb) dd fun h' dd' hs=>h _ ?_
  obtain ⟨q,es,ep,hq,h2,h3,h4,_,h5⟩:=dd'
  refine J7 I (by rw [e];exact True.intro) hs ⟨q,hq⟩ ⟨hl,hd,_,(rel.put k eb rv).keeps fun c ys ec=>?_,q,es,ep,hq,h2,h3,h4,h5⟩
  rw [jg (j4 ec e (fun z=>nomatch z))]
  exact ec
end
def jgG (i:Expr):Prop:=∀ ov iv,subscripted i false ov iv=operate [ov,iv] (getItem ov iv)
theorem jew {prog:Program} {w:World} {A:Around} {E:Value→Shared→Prop} {s:Shared} {env:Env} {value slice:Expr} {pos:Pos} {T id:String} {Q:Value→Shared→Prop}
  (hl:typeLookup (.type T) "__getitem__" = pure (some (.builtin id))) (hs:jgG slice)
  (h:wpAny (model prog w) A (eval value env) (fun o s₁=>wpAny (model prog w) A (eval slice env) (fun i s₂=>s₂.TypeIs o T∧wpAny (model prog w) A (getItem o i) Q E s₂) E s₁) E s) :
  wpAny (model prog w) A (eval (.Subscript value slice pos) env) Q E s:=by
 refine Subscript_ (wpAny_mono h (fun o s₁ h₁=>wpAny_mono h₁ (fun i s₂ h₂=>?_) fun _ _ x=>x) fun _ _ x=>x)
 obtain ⟨hT,h₂⟩:=h₂
 unfold subscriptTail
 refine wpAny_bind ?_
 rw [getitemInPython_of_ne hT.not_modules]
 refine wpAny_bind (wpAny_specialOf hT hl ?_)
 have fin:wpAny (model prog w) A (subscripted slice false o i) (fun r s₃=>wpAny (model prog w) A (letTemporaryGo value o r >>= fun _=>pure r) Q E s₃) E s₂:=by
  rw [hs o i]
  exact wpAny_operating (wpAny_mono h₂ (fun r s₃ h₃=>wpAny_bind (wpAny_letTemporaryGo (wpAny_pure h₃))) fun _ _ x=>x)
 first
  | exact wpAny_pure (wpAny_bind fin)
  | exact wpAny_bind (wpAny_pure (wpAny_bind fin))
  | exact wpAny_bind fin
theorem jal {X:Cx} {pins:List (Addr×Obj)} {σ:St} {H:Hp} {s:Shared} {a:Addr} {y:V} {o:Option V} (I:Inv X pins σ H s) (g:DGet H a y o):s.TypeIs (.ref a) "dict":=by
 rcases g with ⟨kvs,k,e,_,_⟩ | ⟨kvs,k,b,e,_,_,_⟩
 ·obtain ⟨_,_,vs,_,dd⟩:=jak I.hok e
  exact dd.typeIs
 ·obtain ⟨_,_,xs,_,dd⟩:=jai I.hok e
  exact dd.typeIs
def jfz (td ty:TE):TE:=fun σ H Q=>td σ H fun x H1=>ty σ H1 fun y H2=>∃ a v,x=.ref a∧DGet H2 a y (some v)∧Q v H2
def jfC (td ty tv:TE):TS:=fun D σ H=>tv σ H fun v H1=>td σ H1 fun x H2=>ty σ H2 fun y H3=>∃ a H4,x=.ref a∧DPut H3 a y v H4∧D.nx σ H4
section
variable {X:Cx} {o i e value:Expr} {pos pos' tpos:Pos} {td ty tv:TE}
theorem jeR (hu:X.A.units+1 < cLine) (ho:PE X o td) (hi:PE X i ty) (hs:jgG i):PE X (.Subscript o i pos) (jfz td ty):=by
 intro pins s σ H Q I h
 refine jew PySem.F.slot_dict_getitem.lookup hs (thn (ho pins s σ H _ I h) fun u s1 ⟨x,H1,I1,rx,q1⟩=>thn (hi pins s1 σ H1 _ I1 q1) fun iv s2 ⟨y,H2,I2,ry,a,v,ex,g,q2⟩=>?_)
 subst ex
 obtain rfl:u=Value.ref a:=rx
 exact ⟨jal I2 g,jcT hu I2 g ry fun w' s3 I3 rw'=>⟨v,H2,I3,rw',q2⟩⟩
theorem jeM (hu:X.A.units+1 < cLine) (ho:PE X o td) (hi:PE X i ty) (hv:PE X value tv) (hs:swapsWith value (some (.Subscript o i pos')) pos.line X.env=pure false) :
  PS X (.Assign [.Subscript o i pos'] value pos) (jfC td ty tv):=by
 intro pins s σ H D I h
 refine wpAny_Assign_Subscript (thn (hv pins s σ H _ I h) fun r s1 ⟨v,H1,I1,rv,q1⟩=>thn (ho pins s1 σ H1 _ I1 q1) fun u s2 ⟨x,H2,I2,rx,q2⟩=>thn (hi pins s2 σ H2 _ I2 q2) fun iv s3 ⟨y,H3,I3,ry,a,H4,ex,g,q3⟩=>?_) hs
 subst ex
 obtain rfl:u=Value.ref a:=rx
 exact jcS hu I3 g ry rv fun s4 I4=>⟨σ,H4,I4,q3⟩
end
theorem jea {P:Program} {w:World} {H:Hp} (h:Heap) (hb:sysModules < h.objs.size):ObjOk P w H (h.push { cls:=.type "dict",data:=.dict #[] }) h.objs.size (.dK []):=
 ⟨Nat.zero_le _,beq_eq_false_iff_ne.mpr (Ne.symm (Nat.ne_of_lt hb)),[],.nil,Heap.DictOf.new h⟩
structure M2 (X:Cx) (o:Expr) (m:Str) (apos:Pos) (e f:Expr) (cpos:Pos):Prop where
 base:attributeBase o m X.env (eval o X.env)=eval o X.env
 few:((backTo cpos (starEach [e,f] X.env)).all (fun x=>!x.1) && (backToKw cpos (keywordEach [] X.env)).all (fun x=>x.1.isSome)
  && decide (([e,f]:List Expr).length+([]:List Keyword).length+(if ([]:List Keyword).isEmpty then 0 else 1) < 30))=true
 line:(apos.endLine == cpos.line)=true
 trees:backTo cpos (starEach [e,f] X.env)=[(false,eval e X.env),(false,eval f X.env)]
def IsD (H:Hp) (a:Addr):Prop:=(∃ kvs,Rd H a (.dK kvs))∨∃ kvs,Rd H a (.dT kvs)
theorem jgu {X:Cx} {pins:List (Addr×Obj)} {σ:St} {H:Hp} {s:Shared} {a:Addr} (I:Inv X pins σ H s) (d:IsD H a) :
  s.TypeIs (.ref a) "dict"∧(∀ b,Value.ref a=.ref b→∃ ob,s.heap.get? b=some ob∧ob.dict=none)∧(a == sysModules)=false:=by
 rcases d with ⟨kvs,e⟩ | ⟨kvs,e⟩
 ·obtain ⟨_,hd,vs,_,dd⟩:=jak I.hok e
  refine ⟨dd.typeIs,fun b q=>?_,hd⟩
  cases q
  obtain ⟨ob,_,_,h1,h2,_⟩:=dd
  exact ⟨ob,h1,h2.2.1⟩
 ·obtain ⟨_,hd,xs,_,dd⟩:=jai I.hok e
  refine ⟨dd.typeIs,fun b q=>?_,hd⟩
  cases q
  obtain ⟨ob,_,_,h1,h2,_⟩:=dd
  exact ⟨ob,h1,h2.2.1⟩
section
variable {X:Cx} {pins:List (Addr×Obj)} {σ:St} {H:Hp} {s:Shared} {a:Addr} {y d:V} {u r:Value} {o:Option V} {A:Around} {E:Value→Shared→Prop}
theorem jgx {Q:Value→Shared→Prop} (hu:A.units+1 < cLine) (I:Inv X pins σ H s) (g:DGet H a y o) (ry:RelV y u) (rd:RelV d r) (h:∀ w' s',Inv X pins σ H s'→RelV (o.getD d) w'→Q w' s') :
  wpAny (model X.prog X.w) A (call (.builtin "dict.get") [.ref a,u,r]) Q E s:=by
 rcases g with ⟨kvs,k,e,ey,l⟩ | ⟨kvs,k,b,e,ey,eb,l⟩
 ·subst ey
  obtain ⟨z,hd,vs,rel,dd⟩:=jak I.hok e
  refine call_meetsIn PySem.F.slot_dict_get dd.typeIs PySem.F.entry_dict_get (PySem.F.args_dict_get_3 _ _ _) (meets_dict_get_default (kj X.prog X.w) a (YA ry) hd r) ⟨_,dd.mapOf,h _ _ (I.tok _) ?_⟩
  rw [l]
  exact (rel.val k).getD rd
 ·subst ey
  cases (show u=Value.ref b from ry)
  obtain ⟨z,hd,xs,rel,dd⟩:=jai I.hok e
  refine call_meetsIn PySem.F.slot_dict_get dd.typeIs PySem.F.entry_dict_get (PySem.F.args_dict_get_3 _ _ _) (meetsH_dict_get_default (tupleKind (kj X.prog X.w)) a b hd r) ⟨tupleKind_room_in1 hu,k,xs,Zf I.hok eb,dd,h _ _ (I.tok _) ?_⟩
  rw [l]
  exact (rel.val k).getD rd
end
def jfV (td ty tx:TE):TE:=fun σ H Q=>td σ H fun x H1=>∃ a,x=.ref a∧IsD H1 a∧ty σ H1 fun y H2=>tx σ H2 fun z H3=>∃ o,DGet H3 a y o∧Q (o.getD z) H3
section
variable {X:Cx} {o e f:Expr} {apos cpos:Pos} {td ty tx:TE}
theorem ZV (hu:X.A.units+1 < cLine) (ho:PE X o td) (he:PE X e ty) (hf:PE X f tx) (m:M2 X o "get" apos e f cpos):PE X (.Call (.Attribute o "get" apos) [e,f] [] cpos) (jfV td ty tx):=by
 intro pins s σ H Q I h
 refine wpAny_Call_method m.base m.few m.line PySem.F.plainAttrs_dict PySem.F.slot_dict_get PySem.F.type_dict_get (thn (ho pins s σ H _ I h) fun u s1 ⟨x,H1,I1,rx,a,ex,d,q1⟩=>?_)
 subst ex
 obtain rfl:u=Value.ref a:=rx
 obtain ⟨t1,t2,_⟩:=jgu I1 d
 refine ⟨t1,t2,?_⟩
 rw [m.trees]
 refine Calls.callWith_builtin rfl (Calls.evalArgs_plain (Calls.spliced_cons (thn (he pins s1 σ H1 _ I1 q1) fun iv s2 ⟨y,H2,I2,ry,q2⟩=>
  Calls.spliced_cons (thn (hf pins s2 σ H2 _ I2 q2) fun fv s3 ⟨z,H3,I3,rz,ov,g,q3⟩=>Calls.spliced_nil ?_))))
 exact jgx hu I3 g ry rz fun w' s4 I4 rw'=>⟨_,H3,I4,rw',q3⟩
end
end L2
namespace Att
open PySem PySem.W PySem.Calls PyProof.Rows
theorem JV {P:Params} {h:Heap}:∀ (ns:List Int) (vs:List Value),WellAll P h vs (ns.map WData.int)→IntsAre vs ns:=by
 intro ns
 induction ns with
 | nil=>
  intro vs w
  rw [List.map_nil] at w
  cases w
  exact .nil
 | cons n ns ih=>
  intro vs w
  rw [List.map_cons] at w
  cases w with
  | cons a b=>
   cases a
   exact .cons _ _ (ih _ b)
theorem jcb {l:OpenLaw} {n:Nat} (hn:l.most=some n) {P:Params} {h:Heap} {args:List WData} {vals:List Value}
  (hpre:l.row.toRowW.claim.pre args=true) (hwl:WellAll P h vals args) :
  ∃ a vs ns,vals=[Value.ref a]∧args=[WData.list (ns.map WData.int)]∧h.get? a=some { cls:=.type "list",data:=.seq vs.toArray }∧IntsAre vs ns∧ns.length≤n:=by
 have hsh:WShape.hasAll [] args [.list .int]=true:=(pre_splitW hpre).1
 have hc:l.pre.holds [] { args:=args }=true:=(pre_splitW hpre).2
 obtain ⟨d,r,rfl,h1,h2⟩:=hasAllW_cons hsh
 obtain rfl:=hasAllW_nil h2
 obtain ⟨xs,rfl,h3⟩:=hasW_list h1
 obtain ⟨ns,rfl⟩:=items_int h3
 have hlen:ns.length≤n:=by
  unfold OpenLaw.pre at hc
  have h4:(WTm.not (.lt (.lit (.int (n:Int))) (.len (.arg 0)))).holds [] { args:=[.list (ns.map .int)] }=true:=by
   have h4:=(holds_andW hc).1
   rw [hn] at h4
   exact h4
  have h5:=condW_of h4 (w_not (w_lt w_lit (w_len_list (w_arg rfl))))
  rw [List.length_map] at h5
  refine Nat.le_of_not_lt fun q=>?_
  have q':(n:Int) < ((ns.length:Nat):Int):=by omega
  first
   | (rw [decide_eq_true q'] at h5;exact absurd h5 (by decide))
   | (simp at h5;omega)
 cases hwl with
 | cons w1 w2=>
  cases w2
  cases w1 with
  | list ho hall=>exact ⟨_,_,ns,rfl,rfl,ho,JV ns _ hall,hlen⟩
theorem jch (l:OpenLaw) (args:List WData):l.row.toRowW.claim.post args (.bool true) args=true:=
 postW_of (r:=l.row.toRowW) (X:=(true == true))
  (show WShape.has [] (.bool true) .bool=true by first | rfl | decide | simp [WShape.has,WShape.arms,WShape.armsAll])
  (show (WTm.eq .res (.lit (.bool true))).value [] { args:=args,res:=some (.bool true),after:=args }=some (.bool (true == true)) from w_eq_bool (w_res rfl) w_lit) rfl
theorem attach_call {l:OpenLaw} {n:Nat} {q:Program} {loose:List Str} {XP:(Str→Option Value)→Heap→Prop} {YP:World→Heap→Prop} {d:DefRec}
  (hn:l.most=some n) (hdf:d.params.defaults=[])
  (call:∀ (w:World) (s₀ s₁:Shared) (mg mb:Str→Option Value) (fa:Addr) (o:Obj) (pm cd doc:Value) (a:Addr) (vs:List Value) (ns:List Int),
   Ground q loose [] XP w s₀ mg mb s₁.heap→YP w s₁.heap→
   s₁.heap.get? fa=some o→o.data=.func (docDef d.name d.params d.body d.scope pm cd doc)→s₁.heap.CodeRec cd d.name→mg d.name=some (.ref fa)→
   s₁.heap.get? a=some { cls:=.type "list",data:=.seq vs.toArray }→IntsAre vs ns→ns.length≤n→s₁.gens=#[]→
   codeAny (model l.prog w) callerA (.call (.ref fa) ⟨[.ref a],[]⟩) (fun r s'=>r=.ok (.ret (.bool true))∧OldK s₁.heap s'.heap∧s'.os=s₁.os∧AllBare s'.gens) s₁) :
  WalkO q loose XP YP l.row.toRowW d [] (fun f vs=>PySem.call f vs):=by
 intro w s₀ s₁ mg mb G Y fa o pm cd doc dV kV ho hd hcd hD hmg hg args vals as hpre hlay hrd hwl hlo
 obtain rfl:dV=.none:=Dflts.none hD hdf
 obtain rfl:kV=.none:=Dflts.noKw hD
 obtain ⟨a,vs,ns,rfl,rfl,hobj,hints,hlen⟩:=jcb hn hpre hwl
 refine enter_call (codeAny_mono (call w s₀ s₁ mg mb fa o pm cd doc a vs ns G Y ho (fd_plain hd) hcd hmg hobj hints hlen hg) fun r s' hq=>?_)
 obtain ⟨rfl,h2,h3,h4⟩:=hq
 exact ⟨.inl ⟨.bool true,.bool true,[],rfl,fun _=>rfl,.bool true,jch l _,fun _=>⟨List.Pairwise.nil,fun _ hm=>(nomatch hm)⟩⟩,h2,h3,h4⟩
end Att
namespace L2
open PySem PySem.Spec PyProof.Rows
theorem Jp:∀ {vs:List Value} {ns:List Int},IntsAre vs ns→Vals (ns.map V.int) vs
 | _,_,.nil=>.nil
 | _,_,.cons n t h=>.cons ⟨t,rfl⟩ (Jp h)
def jgF (H:Hp):Prop:=∀ b,H b=none∨∃ o xs,H b=some (.frz o (.lst xs))
theorem jdT {P:Program} {w:World} {K:PySem.W.Frag} {mg mb:Str→Option Value} {CX:CXT} {k:Nat} {fa a:Addr} {fd:FuncData} {x:Str} {sp:Sp} {s₁:Shared} {vs:List Value} {ns:List Int}
  (KX:K.In s₁.heap) (hns:s₁.heap.Ns mainGlobals mg) (hb:s₁.heap.Ns builtinsNs mb) (hbb:∀ x:Str,x≠"__name__"→mb x=bootBuiltins x) (hlim:s₁.heap.NoLimit) (hg:s₁.gens=#[])
  (ha:s₁.heap.get? a=some { cls:=.type "list",data:=.seq vs.toArray }) (hi:IntsAre vs ns) (hl:ns.length≤sizeLine) (hr:Room k callerA)
  (F:∀ base:Heap,K.In base→base.Ns mainGlobals mg→FnOk P w K mg base CX k fa fd [x] sp) (hbind:∀ (s:Shared) (u:Value),BindsTo s fd ⟨[u],[]⟩ [(x,u)])
  (hsp:∀ H:Hp,jgF H→SqL K H a (ns.map V.int)→sp [.ref a] H (fun v _=>v=.bl true) fun _ _ _=>False)
  (hCX:∀ H e s',CX [] H s₁ (fun _ _ _=>False) e s'→False) :
  codeAny (model P w) callerA (.call (.ref fa) ⟨[.ref a],[]⟩) (fun r s'=>r=.ok (.ret (.bool true))∧OldK s₁.heap s'.heap∧s'.os=s₁.os∧AllBare s'.gens) s₁:=by
 have rv:=Jp hi
 have lenV:=hi.length
 have core:∀ H:Hp,jgF H→SqL K H a (ns.map V.int)→HOk P w H s₁.heap→(∀ b,H b≠none→b=a)→(H a≠none→K.lookup a=none)→
   codeAny (model P w) callerA (.call (.ref fa) ⟨[.ref a],[]⟩) (fun r s'=>r=.ok (.ret (.bool true))∧OldK s₁.heap s'.heap∧s'.os=s₁.os∧AllBare s'.gens) s₁:=by
  intro H hO hS hok hA hK
  have base_of:∀ {b:Addr} {o:Obj},s₁.heap.get? b=some o→H b=none→(Zj s₁.heap H).get? b=some o:=fun e n=>jd1 e n
  have noA:∀ {b:Addr} {o:Obj} {es:Array DictEntry} {ep:Nat},s₁.heap.get? b=some o→o.data=.dict es ep→H b=none:=fun {b o es ep} e d=>by
   cases q:H b with
   | none=>rfl
   | some u=>
    have e':b=a:=hA b (by rw [q];simp)
    subst e'
    rw [ha] at e;cases e
    have d':Data.seq vs.toArray _=Data.dict es ep:=d
    cases d'
  have nsK:∀ {b:Addr} {m:Str→Option Value},s₁.heap.Ns b m→(Zj s₁.heap H).Ns b m:=fun {b m} ⟨o,es,ep,e,d,r⟩=>⟨o,es,ep,base_of e (noA e d),d,r⟩
  have hKb:K.In (Zj s₁.heap H):=fun b o e=>base_of (KX b o e) (by
   cases q:H b with
   | none=>rfl
   | some u=>
    have e':b=a:=hA b (by rw [q];simp)
    subst e'
    rw [hK (by rw [q];simp)] at e;cases e)
  have hM:Mod K mg (Zj s₁.heap H):=⟨hKb,nsK hns,⟨mb,nsK hb,hbb⟩,let ⟨mc,h1,h2⟩:=hlim;⟨mc,nsK h1,h2⟩⟩
  have e0:Env0 P w K mg (Zj s₁.heap H) callerA [] s₁ H:=⟨rfl,hM,fun b o e=>je5 e,Nat.le_of_eq (jcJ _ _),trivial,fun b hb=>absurd (show b∈([]:List Addr) from hb) (by simp),hok,.of_eq hg⟩
  refine codeAny_mono ((F _ hKb (nsK hns)).run callerA [] s₁ H ⟨[.ref a],[]⟩ [.ref a] [.ref a] _ _ hr e0 (hbind s₁ (.ref a)) (.cons rfl .nil) (hsp H hO hS)) fun r s' h=>?_
  cases r with
  | error e=>exact (hCX H e s' h).elim
  | ok fl=>
   cases fl with
   | next=>exact False.elim h
   | brk=>exact False.elim h
   | cont=>exact False.elim h
   | ret u=>
    obtain ⟨v,H',os,bare,un,hok',r',q⟩:=h
    have q':v=.bl true:=q
    subst q'
    obtain rfl:u=Value.bool true:=r'
    refine ⟨rfl,OldK.of_keep fun b o e=>?_,os,bare⟩
    cases q:H b with
    | none=>exact un.keep b o e q (by intro z;exact absurd (show b∈([]:List Addr) from z) (by simp)) (by simp)
    | some u=>
     rcases hO b with z | ⟨ob,xs,z⟩
     ·rw [q] at z;cases z
     ·have z2:=un.frzs b ob _ z
      obtain ⟨e1,_⟩:=hok b _ z
      obtain ⟨e2,_⟩:=hok' b _ z2
      rw [e] at e1;cases e1
      exact e2
 cases hk:K.lookup a with
 | some o=>
  have e:=KX a o hk
  rw [ha] at e
  cases e
  refine core (fun _=>none) (fun _=>.inl rfl) (.inr ⟨_,vs.toArray,_,hk,rfl,rfl,rfl,by rw [List.size_toArray,lenV];exact hl,by simpa using rv⟩) (fun b u z=>by have z':(none:Option HO)=some u:=z;cases z') (fun b z=>absurd rfl z) fun z=>absurd rfl z
 | none=>
  refine core (fun b=>if b=a then some (.frz { cls:=.type "list",data:=.seq vs.toArray } (.lst (ns.map V.int))) else none) (fun b=>?_) (.inl (.inr ⟨{ cls:=.type "list",data:=.seq vs.toArray },if_pos rfl⟩)) (fun b u z=>?_) (fun b z=>?_) fun _=>hk
  ·by_cases hb:b=a
   ·exact .inr ⟨_,_,if_pos hb⟩
   ·exact .inl (if_neg hb)
  ·by_cases hb:b=a
   ·have z':=(if_pos hb).symm.trans z
    cases z'
    subst hb
    exact ⟨ha,by rw [List.length_map];exact hl,vs,_,rv,ha⟩
   ·have z':=(if_neg hb).symm.trans z
    cases z'
  ·by_cases hb:b=a
   ·exact hb
   ·exact absurd (if_neg hb) z
open PySem PySem.Spec PyProof.Rows
theorem walk_of {l:PySem.W.OpenLaw} {n k:Nat} {q:Program} {loose:List Str} {XP:(Str→Option Value)→Heap→Prop} {YP:World→Heap→Prop} {d:DefRec} {K:Params→PySem.W.Frag} {CX:World→CXT} {sp:World→Sp} {x:Str}
  (hn:l.most=some n) (hn2:n≤sizeLine) (hdf:d.params.defaults=[]) (hr:Room k callerA)
  (hY:∀ (w:World) (h:Heap),YP w h→(K w.params).In h)
  (F:∀ (w:World) (mg:Str→Option Value) (fa:Addr) (h:Heap),(K w.params).In h→h.Ns mainGlobals mg→mg d.name=some (.ref fa)→
   ∃ fd:FuncData,(∀ (s:Shared) (u:Value),BindsTo s fd ⟨[u],[]⟩ [(x,u)])∧
    ∀ base:Heap,(K w.params).In base→base.Ns mainGlobals mg→FnOk l.prog w (K w.params) mg base (CX w) k fa fd [x] (sp w))
  (hsp:∀ (w:World) (H:Hp) (a:Addr) (ns:List Int),ns.length≤n→jgF H→SqL (K w.params) H a (ns.map V.int)→sp w [.ref a] H (fun v _=>v=.bl true) fun _ _ _=>False)
  (hCX:∀ (w:World) (H:Hp) (s:Shared) (e:Value) (s':Shared),CX w [] H s (fun _ _ _=>False) e s'→False) :
  PySem.W.WalkO q loose XP YP l.row.toRowW d [] (fun f vs=>PySem.call f vs):=by
 refine Att.attach_call hn hdf fun w s₀ s₁ mg mb fa o pm cd doc a vs ns G Y ho hd hcd hmg hobj hints hlen hg=>?_
 have KX:=hY w _ Y
 obtain ⟨fd,hb,hF⟩:=F w mg fa _ KX G.T.g hmg
 exact jdT KX G.T.g G.T.b G.T.builtins G.T.nolimit hg hobj hints (Nat.le_trans hlen hn2) hr hF hb (fun H hO hS=>hsp w H a ns hlen hO hS) fun H e s'=>hCX w H s₁ e s'
open PySem PySem.Spec PyProof.Rows
def jbK (s:Stmt) (j:Nat):Stmt:=match s with
 | .ClassDef _ _ _ body _ _ _ _ _ _ _=>body.getD j (.Pass ⟨0,0,0,0⟩)
 | _=>.Pass ⟨0,0,0,0⟩
def jH (s:Stmt):Arguments:=match s with
 | .FunctionDef _ a _ _ _ _ _ _ _ _=>a
 | _=>{ posonlyargs:=[],args:=[],vararg:=none,kwonlyargs:=[],kw_defaults:=[],kwarg:=none,defaults:=[] }
def jC (s:Stmt):List Stmt:=match s with
 | .FunctionDef _ _ b _ _ _ _ _ _ _=>b
 | _=>[]
def jf (s:Stmt):Scope:=match s with
 | .FunctionDef _ _ _ _ _ _ sc _ _ _=>sc
 | _=>{ kind:=.function,names:=[],isGenerator:=false,isCoroutine:=false }
abbrev CX0:CXT:=fun _ _ _ _ _ _=>False
abbrev E0:XK:=fun _ _ _=>False
theorem jfE {X:Cx}:K1 CX0 X E0:=fun _ _ _ _ _ _ _ h=>h.elim
structure Fun (K:PySem.W.Frag) (x qual:Str) (st:Stmt) (f:Addr) (fd:FuncData):Prop where
 ex:∃ (oc:Value) (od:Option Addr) (kV doc pm:Value) (an:Option Addr) (cdv ct:Value) (osl:Array (Option Value)),
  fd=PySem.W.fnOf x qual (jH st) (jC st) (jf st) .none kV doc pm an cdv ct∧K.lookup f=some ⟨oc,od,.func fd,osl⟩∧PySem.W.codeIn K cdv qual=true
 kp:PySem.W.keepIn K (.ref f)=true
section
variable {P:Program} {w:World} {K:PySem.W.Frag} {mg:Str→Option Value} {base:Heap}
theorem Fun.ok {x qual:Str} {st:Stmt} {f:Addr} {fd:FuncData} {N ps:List Str} {k:Nat} {sp:Sp} (F:Fun K x qual st f fd) (S:FnScope N ps (jf st)) (len:∀ vs H Q E,sp vs H Q E→vs.length=ps.length)
  (hbody:∀ (cdv:Value) (A:Around) (outer:List Env) (s:Shared) (H:Hp) (vs:List V) (Q:VK) (E:XK),Room k (A.deeper (envOfC qual (jf st) s.heap.objs.size f cdv))→sp vs H Q E→
   ∃ t,PSs (jba CX0 P w K mg base N qual (jf st) f cdv A outer s H E).nox (jC st) t∧t { nx:=fun _ H'=>Q .non H',rt:=Q } (Jc N vs) H):FnOk P w K mg base CX0 (k+1) f fd ps sp:=by
 obtain ⟨oc,od,kV,doc,pm,an,cdv,ct,osl,rfl,lk,hcd⟩:=F.ex
 refine jhm lk hcd S len fun A outer s H vs Q E hr hsp=>?_
 obtain ⟨t,h,q⟩:=hbody cdv A outer s H vs Q E hr hsp
 exact ⟨t,h.nox,q⟩
theorem Fun.binds {x qual:Str} {st:Stmt} {f:Addr} {fd:FuncData} {ps:List Str} (F:Fun K x qual st f fd)
  (h:∀ (kV doc pm:Value) (an:Option Addr) (cdv ct:Value) (us:List Value),us.length=ps.length→bindArgs (PySem.W.fnOf x qual (jH st) (jC st) (jf st) .none kV doc pm an cdv ct) ⟨us,[]⟩=pure (ps.zip us)):Binds K fd ps []:=by
 obtain ⟨oc,od,kV,doc,pm,an,cdv,ct,osl,rfl,lk,hcd⟩:=F.ex
 exact .all (h kV doc pm an cdv ct)
theorem jY {x qual:Str} {st:Stmt} {f:Addr} {oc:Value} {od an:Option Addr} {osl:Array (Option Value)} {kV doc pm cdv ct:Value} (l:K.lookup f=some ⟨oc,od,.func (PySem.W.fnOf x qual (jH st) (jC st) (jf st) .none kV doc pm an cdv ct),osl⟩)
  (c:PySem.W.codeIn K cdv qual=true) (k:PySem.W.keepIn K (.ref f)=true):Fun K x qual st f (PySem.W.fnOf x qual (jH st) (jC st) (jf st) .none kV doc pm an cdv ct):=⟨⟨oc,od,kV,doc,pm,an,cdv,ct,osl,rfl,l,c⟩,k⟩
end
theorem yL {A:Around} {k:Nat} (hr:Room k A):A.units+1 < cLine:=Nat.lt_of_le_of_lt (Nat.add_le_add_left (by decide:1≤64) _) hr.units
theorem jz {n:Nat} (h:n≤1000):n < sizeLine:=Nat.lt_of_le_of_lt h (by decide)
section
variable {X:Cx}
theorem pv (i:Nat) {x:Str} {pos:Pos} (hN:X.N[i]?=some x:=by rfl) (hv:Vis X.env.scope x:=by first | exact Or.inl rfl | exact Or.inr (Or.inl rfl) | exact Or.inr (Or.inr rfl)) (hd:(x == ("__debug__" : Str))=false:=by decide)
  (hcd:(x == ("__classdict__" : Str))=false:=by decide):PE X (.Name x pos) (jfS i):=jdw hN hv hd hcd
end
theorem jcF {A B:Prop} (h:B):if false=true then A else B:=by
 rw [if_neg Bool.false_ne_true]
 exact h
theorem zy {A B:Prop} (h:A):if true=true then A else B:=by
 rw [if_pos rfl]
 exact h
theorem j9 {c A B:Prop} [Decidable c] (h1:c→A) (h2:¬ c→B):if c then A else B:=by
 by_cases h:c
 ·rw [if_pos h]
  exact h1 h
 ·rw [if_neg h]
  exact h2 h
def Same (H H':Hp):Prop:=∀ b o,H b=some o→H' b=some o
theorem Same.refl (H:Hp):Same H H:=fun _ _ h=>h
theorem Same.trans {H H1 H2:Hp} (a:Same H H1) (b:Same H1 H2):Same H H2:=fun c o h=>b c o (a c o h)
theorem Same.free {H H':Hp} (e:Same H H') {l:Addr} (h:H' l=Option.none):H l=Option.none:=by
 cases q:H l with
 | none=>rfl
 | some o=>
  rw [e l o q] at h
  cases h
theorem Same.seq {K:PySem.W.Frag} {H H':Hp} {a:Addr} {xs:List V} (e:Same H H') (h:SqL K H a xs):SqL K H' a xs:=by
 rcases h with (h | ⟨o,h⟩) | h
 ·exact .inl (.inl (e _ _ h))
 ·exact .inl (.inr ⟨o,e _ _ h⟩)
 ·exact .inr h
open PySem PySem.Spec PyProof.Rows
theorem Jl {prog:Program} {w:World} {A:Around} {s:Shared} {elt target iter:Expr} {ifs:List Expr} {scope:Scope} {pos:Pos} {it acc:Value} {env:Env} {R:Result→Shared→Prop} (I:Nat→Shared→Prop)
  (turn:∀ n s,I n s→wpAny (model prog w) A (pyNext it) (fun r s1=>match r with
   | none=>R (.ok .next) s1
   | some v=>wpAny (model prog w) A (letOwnedTupleGo target it v) (fun _ s1'=>wpAny (model prog w) A (assign target env v) (fun _ s2=>
     wpAny (model prog w) A (forIn ifs true fun c r=>if r=true then do let ok ← isTrue c env (eval c env);pure (ForInStep.yield ok) else pure (ForInStep.yield r)) (fun ok s3=>
      if ok=true then wpAny (model prog w) A (eval elt env) (fun x s4=>
       wpAny (model prog w) A (call (.builtin "list.append") [acc,x]) (fun _ s5=>∃ m,m < n∧I m s5) (fun _ _=>False) s4) (fun _ _=>False) s3
      else ∃ m,m < n∧I m s3) (fun _ _=>False) s2) (fun _ _=>False) s1') (fun _ _=>False) s1) (fun _ _=>False) s)
  (n:Nat) (h:I n s):codeAny (model prog w) A (.compLoop (.ListComp elt [⟨target,iter,ifs,0⟩] scope pos) 0 it acc env) R s:=by
 have no:∀ (x:Value) (s':Shared),False→notedBy (model prog w) A env (fun e s'=>R (.error e) s') x s':=fun _ _ z=>z.elim
 refine codeAny_loop rfl I (fun n s hI=>?_) n h
 show wpAny _ A ((compTurn (.ListComp elt [⟨target,iter,ifs,0⟩] scope pos) 0 it acc env).onRaise (fun x=>do noteFrame x env;theTreesLotGoes x)) _ _ s
 refine wpAny_noted ?_
 rw [compTurn_list]
 refine wpAny_bind (wpAny_standAt (wpAny_bind (wpAny_mono (turn n s hI) (fun r s1 h1=>?_) no)))
 cases r with
 | none=>exact wpAny_pure h1
 | some v=>
  refine wpAny_bind (wpAny_mono h1 (fun _ s1' h1'=>?_) no)
  refine wpAny_bind (wpAny_mono h1' (fun _ s2 h2=>wpAny_bind (wpAny_mono h2 (fun ok s3 h3=>?_) no)) no)
  cases ok with
  | false=>exact wpAny_pure ⟨rfl,h3⟩
  | true=>
   exact wpAny_bind (wpAny_bind (wpAny_mono h3 (fun x s4 h4=>wpAny_bind (wpAny_mono h4 (fun _ s5 h5=>wpAny_pure (wpAny_pure ⟨rfl,h5⟩)) no)) no))
theorem jd8:(NameKind.free == NameKind.free)=true:=rfl
def yi (cells:List (Str×Addr)):List (Str×NameKind)→List (Str×Addr)→List (Str×Addr)
 | [],acc=>acc
 | (n,k) :: r,acc=>if k == .free then yi cells r ((n,(cells.lookup n).getD 0) :: acc) else yi cells r acc
theorem jad {env:Env}:∀ (names:List (Str×NameKind)) (acc:List (Str×Addr)),(∀ x∈names,x.2=.free→(env.cells.lookup x.1).isSome=true)→
  (forIn names acc fun x (cs:List (Str×Addr))=>(match x with | (name,kind)=>if (kind == NameKind.free)=true then do let c ← cellOf env name;pure (ForInStep.yield ((name,c) :: cs)) else pure (ForInStep.yield cs):Sem (ForInStep (List (Str×Addr)))))=(pure (yi env.cells names acc):Sem (List (Str×Addr)))
 | [],acc,_=>by simp only [List.forIn_nil];rfl
 | (n,k) :: r,acc,h=>by
  have ih:=fun a=>jad (env:=env) r a fun x hx=>h x (List.mem_cons_of_mem _ hx)
  rw [List.forIn_cons]
  by_cases hk:k=.free
  ·subst hk
   have q:=h (n,.free) List.mem_cons_self rfl
   obtain ⟨c,hc⟩:=Option.isSome_iff_exists.mp q
   have e:cellOf env n=pure c:=by unfold cellOf;rw [show env.cells.lookup n=some c from hc]
   simp only [beq_self_eq_true,if_true,e,pure_bind]
   rw [ih]
   show _=pure (if (NameKind.free == NameKind.free)=true then yi env.cells r ((n,(env.cells.lookup n).getD 0) :: acc) else _)
   rw [if_pos jd8,show env.cells.lookup n=some c from hc]
   rfl
  ·have hb:(k == NameKind.free)=false:=by simpa using hk
   simp only [hb,Bool.false_eq_true,if_false,pure_bind]
   rw [ih]
   show _=pure (if (k == NameKind.free)=true then _ else yi env.cells r acc)
   rw [hb]
   rfl
theorem yX {scope:Scope} {env:Env} (h:∀ x∈scope.names,x.2=.free→(env.cells.lookup x.1).isSome=true):closureFor scope env=pure (yi env.cells scope.names []):=by
 unfold closureFor
 have e:=jad (env:=env) scope.names [] h
 simp only [bind_pure] at *
 exact e
theorem jbc {cells:List (Str×Addr)}:∀ (names:List (Str×NameKind)) (acc:List (Str×Addr)),(∀ x∈names,x.2=.free→(cells.lookup x.1).isSome=true)→(∀ x c,acc.lookup x=some c→cells.lookup x=some c)→
  ∀ x c,(yi cells names acc).lookup x=some c→cells.lookup x=some c
 | [],acc,_,ha=>ha
 | (n,k) :: r,acc,h,ha=>by
  unfold yi
  by_cases hk:k=.free
  ·subst hk
   rw [if_pos jd8]
   refine jbc r _ (fun x hx=>h x (List.mem_cons_of_mem _ hx)) fun x c e=>?_
   by_cases hx:x=n
   ·subst hx
    rw [List.lookup_cons_self] at e
    obtain ⟨d,hd⟩:=Option.isSome_iff_exists.mp (h (x,.free) List.mem_cons_self rfl)
    have hd':cells.lookup x=some d:=hd
    rw [hd'] at e ⊢
    exact e
   ·rw [List.lookup_cons,beq_eq_false_iff_ne.mpr hx] at e
    exact ha x c e
  ·rw [if_neg (by simpa using hk)]
   exact jbc r _ (fun x hx=>h x (List.mem_cons_of_mem _ hx)) ha
theorem Zr {cells:List (Str×Addr)}:∀ (names:List (Str×NameKind)) (acc:List (Str×Addr)) (x:Str),(acc.lookup x).isSome=true→((yi cells names acc).lookup x).isSome=true
 | [],acc,_,ha=>ha
 | (n,k) :: r,acc,x,ha=>by
  unfold yi
  split
  ·refine Zr r _ x ?_
   rw [List.lookup_cons]
   split
   ·rfl
   ·exact ha
  ·exact Zr r _ x ha
theorem jbd {cells:List (Str×Addr)}:∀ (names:List (Str×NameKind)) (acc:List (Str×Addr)) (x:Str),(x,NameKind.free)∈names→((yi cells names acc).lookup x).isSome=true
 | [],_,_,h=>by simp at h
 | (n,k) :: r,acc,x,h=>by
  unfold yi
  rcases List.mem_cons.mp h with e | h
  ·obtain ⟨e1,e2⟩:=Prod.mk.inj e
   subst e1 e2
   rw [if_pos jd8]
   refine Zr r _ _ ?_
   rw [List.lookup_cons_self]
   rfl
  ·split
   ·exact jbd r _ x h
   ·exact jbd r _ x h
theorem zt {env:Env}:∀ {names:List (Str×NameKind)} {x:Str} {k:NameKind},
  (names.map fun (n,k)=>if (k == NameKind.free && env.scope.kind == .function && env.kindOf n == some .cell) then (n,NameKind.cell) else (n,k)).lookup x=some k→
   names.lookup x=some k∨(k=.cell∧names.lookup x=some .free)
 | [],_,_,h=>by simp at h
 | (n,k') :: r,x,k,h=>by
  rw [List.map_cons] at h
  by_cases hx:x=n
  ·subst hx
   rw [List.lookup_cons_self]
   by_cases hc:(k' == NameKind.free && env.scope.kind == .function && env.kindOf x == some .cell)=true
   ·simp only [hc,if_true] at h
    rw [List.lookup_cons_self] at h
    have hk:k'=.free:=by
     simp only [Bool.and_eq_true,beq_iff_eq] at hc
     exact hc.1.1
    exact .inr ⟨(Option.some.inj h).symm,by rw [hk]⟩
   ·simp only [hc] at h
    rw [if_neg (by simp),List.lookup_cons_self] at h
    exact .inl h
  ·have e:(x == n)=false:=beq_eq_false_iff_ne.mpr hx
   have h':(r.map fun (n,k)=>if (k == NameKind.free && env.scope.kind == .function && env.kindOf n == some .cell) then (n,NameKind.cell) else (n,k)).lookup x=some k:=by
    by_cases hc:(k' == NameKind.free && env.scope.kind == .function && env.kindOf n == some .cell)=true
    ·simp only [hc,if_true] at h
     rw [List.lookup_cons,e] at h
     exact h
    ·simp only [hc] at h
     rw [if_neg (by simp),List.lookup_cons,e] at h
     exact h
   have ih:=@zt env r x k h'
   rw [List.lookup_cons,e]
   exact ih
theorem Je {env:Env}:∀ {names:List (Str×NameKind)} {x:Str},names.lookup x=some .free→
  (names.map fun (n,k)=>if (k == NameKind.free && env.scope.kind == .function && env.kindOf n == some .cell) then (n,NameKind.cell) else (n,k)).lookup x=some .cell∨
  (names.map fun (n,k)=>if (k == NameKind.free && env.scope.kind == .function && env.kindOf n == some .cell) then (n,NameKind.cell) else (n,k)).lookup x=some .free
 | [],_,h=>by simp at h
 | (n,k') :: r,x,h=>by
  rw [List.map_cons]
  by_cases hx:x=n
  ·subst hx
   rw [List.lookup_cons_self] at h
   cases h
   by_cases hc:(NameKind.free == NameKind.free && env.scope.kind == .function && env.kindOf x == some .cell)=true
   ·simp only [hc,if_true]
    exact .inl List.lookup_cons_self
   ·simp only [hc]
    rw [if_neg (by simp)]
    exact .inr List.lookup_cons_self
  ·have e:(x == n)=false:=beq_eq_false_iff_ne.mpr hx
   rw [List.lookup_cons,e] at h
   have ih:=@Je env r x h
   by_cases hc:(k' == NameKind.free && env.scope.kind == .function && env.kindOf n == some .cell)=true
   ·simp only [hc,if_true]
    rw [List.lookup_cons,e]
    exact ih
   ·simp only [hc]
    rw [if_neg (by simp),List.lookup_cons,e]
    exact ih
def blk (X:Cx) (scope:Scope) (own:List Str) (fr:List Nat) (s:Shared) (H:Hp) (ex:List Addr):Cx where
 prog:=X.prog
 w:=X.w
 K:=X.K
 mg:=X.mg
 base:=X.base
 A:=X.A
 N:=own++fr.map fun j=>X.N.getD j (Str.ofString "")
 s₀:=s
 H₀:=H
 env:=compEnvC scope (yi X.env.cells scope.names []) s.heap.objs.size X.env
 outer:=X.stack
 stack:=X.stack
 ex:=ex
 fn:=fun _=>false
 calm:=X.calm
 pn:=[]
 xe:=fun _ _=>False
def jcY (own:List Str) (fr:List Nat) (σ:St):St:=own.map (fun _=>none)++fr.map fun j=>(σ[j]?).join
structure CompOk (X:Cx) (scope:Scope) (fr:List Nat):Prop where
 kind:scope.kind=.function
 nocell:∀ y∈scope.names,y.2≠.cell
 loc:∀ y∈scope.names,y.2=.local→scope.names.lookup y.1=some .local
 frees:∀ y∈scope.names,y.2=.free→X.env.scope.names.lookup y.1=some .cell∨X.env.scope.names.lookup y.1=some .free
 fr:∀ j∈fr,scope.names.lookup (X.N.getD j (Str.ofString ""))=some .free
theorem Zg {X:Cx} {scope:Scope} {own:List Str} {fr:List Nat} {pins:List (Addr×Obj)} {σ:St} {H:Hp} {s:Shared} {ex:List Addr} {h1:Heap} {t1:Nat} (I:Inv X pins σ H s) (O:CompOk X scope fr)
  (hex:∀ b∈ex,Jn X pins H b∧b < s.heap.objs.size) (hns:h1.Ns s.heap.objs.size fun _=>none) (hk:∀ b o,s.heap.get? b=some o→h1.get? b=some o) :
  Inv (blk X scope own fr s H ex) [] (jcY own fr σ) H { s with heap:=h1,toks:=t1 }:=by
 have hsome:∀ x∈scope.names,x.2=.free→(X.env.cells.lookup x.1).isSome=true:=fun x hx e=>by
  obtain ⟨c,hc⟩:=I.ok.has x.1 (O.frees x hx e)
  rw [hc];rfl
 have sub:∀ x c,(yi X.env.cells scope.names []).lookup x=some c→X.env.cells.lookup x=some c:=jbc scope.names [] hsome fun x c e=>by simp at e
 have hasc:∀ x,scope.names.lookup x=some .free→∃ c,(yi X.env.cells scope.names []).lookup x=some c:=fun x e=>Option.isSome_iff_exists.mp (jbd scope.names [] x (PySem.mem_of_lookup e))
 have hcne:∀ x c,X.env.cells.lookup x=some c→c < s.heap.objs.size:=fun x c e=>by
  obtain ⟨v,q⟩:=I.cell x c e
  exact q.lt
 have hN:σ.length=X.N.length:=I.len
 refine ⟨⟨I.ok.mod,O.kind,I.ok.glob,I.ok.blt,Nat.le_refl _,fun x y c e1 e2=>I.ok.inj x y c (sub x c e1) (sub y c e2),fun x hx=>?_,fun x c z=>absurd z (by simp [blk]),I.ok.hd,I.ok.frames,.inl rfl,fun b hb=>⟨Nat.ne_of_lt (hex b hb).2,fun x c e=>(hex b hb).1.2.2.2.2.1 x c (sub x c e)⟩,
  fun b o e=>I.bs b o e,Nat.le_trans I.ok.bsz I.sz,fun b o e hb=>?_,fun b hb z=>?_,I.stack,I.stkFree⟩,
  rfl,I.bare,Un.kept hk,⟨_,hns,fun i x v e1 e2 e3=>?_⟩,fun x c e=>?_,I.fresh,fun x c e=>I.freeC x c (sub x c e),fun p hp=>absurd hp (by simp [blk]),I.hok.kept hk,?_⟩
 ·have hx':(relabel scope X.env).names.lookup x=some .cell∨(relabel scope X.env).names.lookup x=some .free:=hx
  rcases hx' with hx | hx
  ·rcases zt hx with q | ⟨_,q⟩
   ·exact absurd rfl (O.nocell _ (PySem.mem_of_lookup q))
   ·exact hasc x q
  ·rcases zt hx with q | ⟨q,_⟩
   ·exact hasc x q
   ·cases q
 ·rcases (hex b hb).1.2.2.2.1 with z | z
  ·exact I.ok.noex b o e z
  ·exact absurd (Nat.lt_of_lt_of_le (Heap.lt_size e) (Nat.le_trans I.ok.bsz z)) (Nat.lt_irrefl _)
 ·obtain ⟨_,f1,f2,_⟩:=(hex b hb).1
  rcases List.mem_cons.mp (I.stkSub b z) with q | q
  ·exact f1 q
  ·exact f2 q
 ·have e1':(own++fr.map fun j=>X.N.getD j (Str.ofString ""))[i]?=some x:=e1
  unfold jcY at e2
  have hi:own.length≤i:=by
   by_cases h:own.length≤i
   ·exact h
   ·rw [List.getElem?_append_left (by simpa using Nat.lt_of_not_le h),List.getElem?_map] at e2
    cases q:own[i]? with
    | none=>rw [q] at e2;cases e2
    | some z=>rw [q] at e2;cases e2
  rw [List.getElem?_append_right hi,List.getElem?_map] at e1'
  rw [List.getElem?_append_right (by simpa using hi),List.getElem?_map,List.length_map] at e2
  cases q:fr[i - own.length]? with
  | none=>rw [q] at e2;cases e2
  | some j=>
   rw [q] at e1' e2
   have e1'':X.N.getD j (Str.ofString "")=x:=Option.some.inj e1'
   have e2':(σ[j]?).join=some v:=Option.some.inj e2
   have e2'':σ[j]?=some (some v):=by
    cases z:σ[j]? with
    | none=>rw [z] at e2';cases e2'
    | some y=>rw [z] at e2';rw [← e2'];rfl
   have hj:j < X.N.length:=by rw [← hN];exact (List.getElem?_eq_some_iff.mp e2'').1
   have e3':X.N[j]?=some x:=by
    rw [List.getElem?_eq_getElem hj,← e1'',List.getD_eq_getElem?_getD,List.getElem?_eq_getElem hj]
    rfl
   have hf:=O.fr j (List.mem_of_getElem? q)
   rw [e1''] at hf
   have hv:=O.frees _ (PySem.mem_of_lookup hf) rfl
   obtain ⟨m,_,hl⟩:=I.loc
   obtain ⟨u,ru,lk⟩:=hl j x v e3' e2'' (.inr hv)
   refine ⟨u,ru,.inr ⟨?_,?_⟩⟩
   ·exact Je hf
   ·obtain ⟨c,hc⟩:=hasc x hf
    refine ⟨c,hc,?_⟩
    rcases lk with ⟨k,_⟩ | ⟨_,c',hc',z⟩
    ·have k':X.env.scope.names.lookup x=some .local:=k
     rcases hv with hv | hv <;> · rw [k'] at hv;cases hv
    ·have:=sub x c hc
     rw [hc'] at this
     cases this
     obtain ⟨o,ho,hd⟩:=z
     exact ⟨o,hk _ _ ho,hd⟩
 ·obtain ⟨v,o,ho,hd⟩:=I.cell x c (sub x c e)
  exact ⟨v,o,hk _ _ ho,hd⟩
 ·show (jcY own fr σ).length=(own++fr.map fun j=>X.N.getD j (Str.ofString "")).length
  unfold jcY
  rw [List.length_append,List.length_append,List.length_map,List.length_map,List.length_map]
theorem zX {X:Cx} {scope:Scope} {own:List Str} {fr:List Nat} {pins:List (Addr×Obj)} {σ σ':St} {H H':Hp} {s s':Shared} {ex:List Addr} (I:Inv X pins σ H s) (hex:∀ b∈ex,Jn X pins H b∧b < s.heap.objs.size)
  (J:Inv (blk X scope own fr s H ex) [] σ' H' s') {h':Heap} (hs:Heap.SameBut s.heap.objs.size s'.heap h'):Inv X pins σ H' { s' with heap:=h' }:=by
 have hC:H' s.heap.objs.size=none:=J.free
 have u:Un (frs X.stack) ex H H' s.heap s'.heap:=J.base
 have ne:∀ b o,s.heap.get? b=some o→b≠s.heap.objs.size:=fun b o e=>Nat.ne_of_lt (Heap.lt_size e)
 have at':∀ b o,b≠s.heap.objs.size→s'.heap.get? b=some o→h'.get? b=some o:=fun b o hb e=>(hs.2 b hb).trans e
 refine I.call' (ch:=ex) J.os ⟨fun b o e n hb hx=>?_,fun b o e n hb hx=>?_,u.free,fun b o e hx=>?_,u.tups,u.frzs,u.tbls⟩ (fun b o e=>?_) J.bare fun b hb=>?_
 ·exact at' b o (ne b o e) (u.keep b o e n hb hx)
 ·obtain ⟨sl,q⟩:=u.slot b o e n hb hx
  exact ⟨sl,at' b _ (ne b o e) q⟩
 ·obtain ⟨o',q⟩:=u.there b o e hx
  exact ⟨o',at' b _ (ne b o e) q⟩
 ·refine (J.hok b o e).stay (fun c v hc q=>at' c v ?_ q) (fun _ q=>q) fun _ _ q=>q
  rintro z
  rcases hc with y | y
  ·rw [y] at z;rw [z,hC] at e;cases e
  ·rw [z,hC] at y;cases y
 ·obtain ⟨f0,f1,f2,f3,f4,f5⟩:=(hex b hb).1
  exact ⟨f3,f1,f4,f5⟩
def PTs (X:Cx) (ifs:List Expr) (t:TT):Prop:=
 ∀ (pins:List (Addr×Obj)) (s:Shared) (σ:St) (H:Hp) (Q:Bool→Hp→Prop),Inv X pins σ H s→t σ H Q→
  wpAny (model X.prog X.w) X.A (forIn ifs true fun c r=>if r=true then do let ok ← isTrue c X.env (eval c X.env);pure (ForInStep.yield ok) else pure (ForInStep.yield r)) (TP X pins σ Q) X.xe s
def yl:TT:=fun _ H Q=>Q true H
theorem yC {X:Cx}:PTs X [] yl:=fun _ _ _ H _ I h=>wpAny_tests_nil ⟨H,I,h⟩
def K4 (J:It) (p:Addr) (g:TG) (tt:TT) (te:TE) (Q:VK) (σ:St) (H:Hp):Prop:=∃ W:Nat→Nat→St→Hp→Prop,(∃ m,W 0 m σ H)∧
 ∀ i m σ' H',W i m σ' H'→(J.stop i H'∧Q (.ref p) H')∨(J.go i H'∧∃ N:St→Hp→Prop,(∀ σ3 H3,N σ3 H3→∃ m',m' < m∧W (i+1) m' σ3 H3)∧∀ x H2,J.yld i H' x H2→g x σ' H2 fun σ3 H3=>tt σ3 H3 fun c H4=>
  if c=true then te σ3 H4 fun y H5=>∃ ys,H5 p=some (.lst ys)∧ys.length < sizeLine∧N σ3 (upd H5 p (.lst (ys++[y]))) else N σ3 H4)
def Yi (own:List Str) (fr:List Nat) (wi:TI) (g:TG) (tt:TT) (te:TE):TE:=fun σ H Q=>wi σ H fun J H1=>∀ p,H1 p=none→K4 J p g tt te Q (jcY own fr σ) (upd H1 p (.lst []))
theorem jec {X:Cx} {scope:Scope} {own:List Str} {fr:List Nat} {elt tg iter:Expr} {ifs:List Expr} {pos:Pos} {wi:TI} {g:TG} {tt:TT} {te:TE} {use:Option (Value→Sem Unit)} (hc:X.calm=true) (O:CompOk X scope fr) (hi:PI X tg iter wi)
  (hb:∀ s H ex,PG (blk X scope own fr s H ex) tg g∧PTs (blk X scope own fr s H ex) ifs tt∧PE (blk X scope own fr s H ex) elt te)
  (hs:∀ x,foldedSetIterable iter X.env x=pure x) {pins:List (Addr×Obj)} {s:Shared} {σ:St} {H:Hp} {Q:VK} {R:Value→Shared→Prop} (I:Inv X pins σ H s) (h:Yi own fr wi g tt te σ H Q) (hx:∀ e s',X.xe e s'↔False)
  (fin:∀ (p C:Addr) (H':Hp) (s':Shared) (m:Str→Option Value),s'.heap.Ns C m→H' C=none→C≠X.env.locals→(∀ x c,X.env.cells.lookup x=some c→c≠C)→Inv X pins σ H' s'→(∀ h',Heap.SameBut C s'.heap h'→Inv X pins σ H' { s' with heap:=h' })→Q (.ref p) H'→
   compPost (model X.prog X.w) X.A X.xe use R (.ref p) C (.ok .next) s') :
  wpAny (model X.prog X.w) X.A (comprehension (.ListComp elt [⟨tg,iter,ifs,0⟩] scope pos) scope X.env (firstIterPos [⟨tg,iter,ifs,0⟩] pos) (newList []) false (eval iter X.env) use) R X.xe s:=by
 have hsome:∀ x∈scope.names,x.2=.free→(X.env.cells.lookup x.1).isSome=true:=fun x hx' e=>by
  obtain ⟨c,hc⟩:=I.ok.has x.1 (O.frees x hx' e)
  rw [hc];rfl
 have no:∀ (E:Value→Shared→Prop) (x:Value) (s':Shared),X.xe x s'→E x s':=fun E x s' z=>((hx x s').mp z).elim
 refine wpAny_comprehension_free (cl:=yi X.env.cells scope.names []) rfl hs (yX hsome) O.kind O.loc ?_
 refine thn (hi pins s σ H _ I h) fun v s1 h1=>thn h1 fun itv s2 h2=>?_
 obtain ⟨it,fp,tn,J,H2,e,I2,T,st2,f2,q2⟩:=h2
 subst e
 refine wpAny_newObj_type ?_
 have nw:H2 s2.heap.objs.size=none:=I2.fresh
 obtain ⟨W,⟨m0,w0⟩,turn⟩:=q2 _ nw
 generalize hp:s2.heap.objs.size=p at *
 have I3:Inv X pins σ (upd H2 p (.lst [])) { s2 with heap:=s2.heap.push { cls:=.type "list",dict:=none,data:=.seq ([]:List Value).toArray } }:=by
  have:=I2.lnew (ys:=[]) (its:=[]) (t':=s2.toks) .nil (Nat.zero_le _)
  rw [hp] at this
  exact this
 have lt2:∀ b∈fp,b < s2.heap.objs.size:=fun b hb=>by
  obtain ⟨o,ho,_⟩:=T.obj _ _ st2 b hb
  exact Heap.lt_size ho
 have fpn:∀ b∈fp,(upd H2 p (.lst [])) b=none:=fun b hb=>by
  rw [jg (by rw [← hp];exact Nat.ne_of_lt (lt2 b hb))]
  exact (f2 b hb).1
 generalize hs3:({ s2 with heap:=s2.heap.push { cls:=.type "list",dict:=none,data:=.seq ([]:List Value).toArray } }:Shared)=s3 at *
 have sz3:s3.heap.objs.size=p+1:=by
  rw [← hs3]
  show (s2.heap.push _).objs.size=_
  rw [Heap.size_push,hp]
 have st3:tn 0 s3.heap:=T.keep 0 _ _ st2 fun b hb o e=>by
  rw [← hs3]
  exact Heap.get?_push_of_some _ e
 refine wpAny_newFunctionEnv O.nocell (by intro y hy;simp at hy) (fun h4 hns4 hsb4=>?_) O.kind
 have k4:∀ b o,s3.heap.get? b=some o→h4.get? b=some o:=fun b o e=>hsb4.extBut b o (Nat.ne_of_lt (Heap.lt_size e)) (Heap.get?_push_of_some _ e)
 have hns4':h4.Ns s3.heap.objs.size fun _=>none:=by
  have z:(fun x:Str=>([]:List (Str×Value)).reverse.lookup x)=fun _=>none:=by funext x;rfl
  rw [z] at hns4
  exact hns4
 have fo:∀ b∈fp,Jn X pins (upd H2 p (.lst [])) b∧b < s3.heap.objs.size:=fun b hb=>⟨⟨fpn b hb,(f2 b hb).2⟩,by rw [sz3,← hp];exact Nat.lt_succ_of_lt (lt2 b hb)⟩
 have I4:=Zg (own:=own) (fr:=fr) (t1:=s3.toks+([]:List (Str×Value)).length) I3 O fo hns4' k4
 have st4:tn 0 h4:=T.keep 0 _ _ st3 fun b hb o e=>k4 b o e
 obtain ⟨hg,ht,he⟩:=hb s3 (upd H2 p (.lst [])) fp
 have stat:∀ {H':Hp} {pn:List (Addr×Obj)} {s':Shared} {σ':St},Inv (blk X scope own fr s3 (upd H2 p (.lst [])) fp) [] σ' H' s'→(∀ b∈fp,H' b=none)→∀ b∈fp,Jn (blk X scope own fr s3 (upd H2 p (.lst [])) fp) [] H' b:=fun {H' pn s' σ'} J hn b hb'=>
  ⟨hn b hb',(J.ok.exf b hb').1,J.ok.exfs b hb',.inl hb',(J.ok.exf b hb').2,fun p hp=>absurd hp (by simp [blk])⟩
 have nocells:∀ x c,X.env.cells.lookup x=some c→c≠s3.heap.objs.size:=fun x c e=>by
  obtain ⟨v,q⟩:=I3.cell x c e
  exact Nat.ne_of_lt q.lt
 have loop:∀ s5:Shared,s5={ s3 with heap:=h4,toks:=s3.toks+([]:List (Str×Value)).length }→
   codeAny (model X.prog X.w) X.A (.compLoop (.ListComp elt [⟨tg,iter,ifs,0⟩] scope pos) 0 (.ref it) (.ref p) (blk X scope own fr s3 (upd H2 p (.lst [])) fp).env) (compPost (model X.prog X.w) X.A X.xe use R (.ref p) s3.heap.objs.size) s5:=by
  rintro s5 rfl
  refine Jl (fun n s'=>∃ i σ' H',Inv (blk X scope own fr s3 (upd H2 p (.lst [])) fp) [] σ' H' s'∧tn i s'.heap∧(∀ b∈fp,H' b=none)∧W i n σ' H') ?_ m0 ⟨0,_,_,I4,st4,fpn,w0⟩
  rintro n s6 ⟨i,σ6,H6,I6,st6,fr6,w6⟩
  rcases turn i n σ6 H6 w6 with ⟨stop,qn⟩ | ⟨go,N,hN,step⟩
  ·refine thn (T.done (blk X scope own fr s3 (upd H2 p (.lst [])) fp) rfl rfl rfl hc i [] s6 σ6 H6 _ I6 (stat (pn:=[]) I6 fr6) st6 stop) fun r s7 ⟨hr,I7⟩=>?_
   subst hr
   obtain ⟨m,hm,_⟩:=I7.loc
   exact fin p _ H6 s7 m hm I7.free (Nat.ne_of_gt I3.lt) nocells (zX I3 fo I7 (Heap.SameBut.refl ..)) (fun h' hs'=>zX I3 fo I7 hs') qn
  ·refine thn (T.item (blk X scope own fr s3 (upd H2 p (.lst [])) fp) rfl rfl rfl hc i [] s6 σ6 H6 _ I6 (stat (pn:=[]) I6 fr6) st6 go) fun r s7 ⟨u,hr,h7⟩=>?_
   subst hr
   refine thn h7 fun _ s8 ⟨x,H8,I8,r8,y8,st8,fr8⟩=>?_
   have I8':=I8.pinned (stat (pn:=[]) I8 fr8) (T.obj _ _ st8)
   refine thn (hg _ s8 σ6 H8 x u _ I8' r8 (step x H8 y8)) fun _ s9 ⟨σ9,H9,I9,q9⟩=>?_
   refine thn (ht _ s9 σ9 H9 _ I9 q9) fun ok s10 ⟨H10,I10,q10⟩=>?_
   have again:∀ {H11:Hp} {s11:Shared},Inv (blk X scope own fr s3 (upd H2 p (.lst [])) fp) ([]++yb fp s8.heap) σ9 H11 s11→(∃ m',m' < n∧W (i+1) m' σ9 H11)→
     ∃ m,m < n∧∃ i σ' H',Inv (blk X scope own fr s3 (upd H2 p (.lst [])) fp) [] σ' H' s11∧tn i s11.heap∧(∀ b∈fp,H' b=none)∧W i m σ' H':=fun {H11 s11} I11 ⟨m',hm,w11⟩=>by
    refine ⟨m',hm,i+1,σ9,H11,I11.unpinned,T.keep _ _ _ st8 fun b hb' o e=>(I11.pin (b,o) (List.mem_append_right _ (List.mem_append_right _ (qk hb' e)))).1,fun b hb'=>?_,w11⟩
    obtain ⟨o,e,d⟩:=T.obj _ _ st8 b hb'
    exact (I11.pin (b,o) (List.mem_append_right _ (List.mem_append_right _ (qk hb' e)))).2.1
   cases ok with
   | false=>
    rw [if_neg Bool.false_ne_true] at q10 ⊢
    exact again I10 (hN _ _ q10)
   | true=>
    rw [if_pos rfl] at q10 ⊢
    refine thn (he _ s10 σ9 H10 _ I10 q10) fun yv s11 ⟨y,H11,I11,r11,ys,hys,hlen,q11⟩=>?_
    have ap:=kN (X:=blk X scope own fr s3 (upd H2 p (.lst [])) fp) ([]++yb fp s8.heap) s11 σ9 H11 (.ref p) [y] (.ref p) [yv] (fun _ H12=>∃ m',m' < n∧W (i+1) m' σ9 H12) I11 rfl (.cons r11 .nil) ⟨p,ys,y,rfl,rfl,hys,hlen,hN _ _ q11⟩
    exact thn ap fun _ s12 ⟨_,H12,I12,_,q12⟩=>again I12 q12
 refine codeAny_compStart_list (loop _ rfl) (T.self X.A 0 _ _ _ st4 (loop _ rfl))
theorem J3 {X:Cx} {scope:Scope} {elt tg iter:Expr} {ifs:List Expr} {pos:Pos} {wi:TI} {g:TG} {tt:TT} {te:TE} (own:List Str) (fr:List Nat) (hc:X.calm=true) (O:CompOk X scope fr) (hi:PI X.nox tg iter wi)
  (hb:∀ s H ex,PG (blk X.nox scope own fr s H ex) tg g∧PTs (blk X.nox scope own fr s H ex) ifs tt∧PE (blk X.nox scope own fr s H ex) elt te)
  (hs:∀ x,foldedSetIterable iter X.env x=pure x:=by intro _;rfl):PE X.nox (.ListComp elt [⟨tg,iter,ifs,0⟩] scope pos) (Yi own fr wi g tt te):=by
 intro pins s σ H Q I h
 rw [eval_ListComp]
 refine jec (X:=X.nox) (use:=none) (Q:=Q) hc ⟨O.kind,O.nocell,O.loc,O.frees,O.fr⟩ hi hb hs I h (fun _ _=>Iff.rfl) fun p C H' s' m hm hC _ _ I' back q=>?_
 exact ⟨m,hm,fun h' hs'=>⟨.ref p,H',back h' hs',rfl,q⟩⟩
section
variable {p:Addr} {g:TG} {tt:TT} {te:TE} {σ:St} {H:Hp} {Q:VK}
theorem Zq (J:It) (n:Nat) (Pv:Nat→St→Hp→Prop) (h0:Pv 0 σ H) (stop:∀ σ' H',Pv n σ' H'→J.stop n H') (go:∀ i σ' H',i < n→Pv i σ' H'→J.go i H')
  (hs:∀ i σ' H',i < n→Pv i σ' H'→∀ x H2,J.yld i H' x H2→g x σ' H2 fun σ3 H3=>tt σ3 H3 fun c H4=>if c=true then te σ3 H4 fun y H5=>∃ ys,H5 p=some (.lst ys)∧ys.length < sizeLine∧Pv (i+1) σ3 (upd H5 p (.lst (ys++[y]))) else Pv (i+1) σ3 H4)
  (hd:∀ σ' H',Pv n σ' H'→Q (.ref p) H'):K4 J p g tt te Q σ H:=by
 refine ⟨fun i m σ H=>m=n - i∧i≤n∧Pv i σ H,⟨n,by simp,Nat.zero_le _,h0⟩,?_⟩
 rintro i m σ1 H1 ⟨rfl,hi,pv⟩
 by_cases hlt:i < n
 ·exact .inr ⟨go i σ1 H1 hlt pv,Pv (i+1),fun σ3 H3 q=>⟨n - (i+1),by omega,rfl,hlt,q⟩,hs i σ1 H1 hlt pv⟩
 ·have e:i=n:=by omega
  subst e
  exact .inl ⟨stop σ1 H1 pv,hd σ1 H1 pv⟩
theorem zw {lo:Int} {n:Nat} (Pv:Nat→St→Hp→Prop) (h0:Pv 0 σ H)
  (hs:∀ i σ' H',i < n→Pv i σ' H'→g (.int (lo+i)) σ' H' fun σ3 H3=>tt σ3 H3 fun c H4=>if c=true then te σ3 H4 fun y H5=>∃ ys,H5 p=some (.lst ys)∧ys.length < sizeLine∧Pv (i+1) σ3 (upd H5 p (.lst (ys++[y]))) else Pv (i+1) σ3 H4)
  (hd:∀ σ' H',Pv n σ' H'→Q (.ref p) H'):K4 (Itr lo n) p g tt te Q σ H:=
 Zq (Itr lo n) n Pv h0 (fun _ _ _=>Nat.le_refl _) (fun i _ _ h _=>h) (fun i σ' H' h pv x H2 y=>by
  obtain ⟨e1,e2⟩:=y
  subst e1 e2
  exact hs i σ' _ h pv) hd
theorem Jk {K:PySem.W.Frag} {a:Addr} {xs:List V} (Pv:Nat→St→Hp→Prop) (h0:Pv 0 σ H) (hl:∀ i σ' H',i≤xs.length→Pv i σ' H'→SqT K H' a xs)
  (hs:∀ i x σ' H',xs[i]?=some x→Pv i σ' H'→g x σ' H' fun σ3 H3=>tt σ3 H3 fun c H4=>if c=true then te σ3 H4 fun y H5=>∃ ys,H5 p=some (.lst ys)∧ys.length < sizeLine∧Pv (i+1) σ3 (upd H5 p (.lst (ys++[y]))) else Pv (i+1) σ3 H4)
  (hd:∀ σ' H',Pv xs.length σ' H'→Q (.ref p) H'):K4 (Itt K a) p g tt te Q σ H:=
 Zq (Itt K a) xs.length Pv h0 (fun σ' H' pv=>⟨xs,hl _ σ' H' (Nat.le_refl _) pv,Nat.le_refl _⟩) (fun i σ' H' h pv=>⟨xs,xs[i],hl i σ' H' (Nat.le_of_lt h) pv,by simp [h]⟩) (fun i σ' H' h pv x H2 y=>by
  obtain ⟨e1,e2⟩:=y
  subst e1
  exact hs i x σ' _ (e2 xs (hl i σ' _ (Nat.le_of_lt h) pv)) pv) hd
theorem yJ {K:PySem.W.Frag} {a:Addr} {xs:List V} (Pv:Nat→St→Hp→Prop) (h0:Pv 0 σ H) (hl:∀ i σ' H',i≤xs.length→Pv i σ' H'→SqL K H' a xs)
  (hs:∀ i x σ' H',xs[i]?=some x→Pv i σ' H'→g x σ' H' fun σ3 H3=>tt σ3 H3 fun c H4=>if c=true then te σ3 H4 fun y H5=>∃ ys,H5 p=some (.lst ys)∧ys.length < sizeLine∧Pv (i+1) σ3 (upd H5 p (.lst (ys++[y]))) else Pv (i+1) σ3 H4)
  (hd:∀ σ' H',Pv xs.length σ' H'→Q (.ref p) H'):K4 (Itl K a) p g tt te Q σ H:=
 Zq (Itl K a) xs.length Pv h0 (fun σ' H' pv=>⟨xs,hl _ σ' H' (Nat.le_refl _) pv,Nat.le_refl _⟩) (fun i σ' H' h pv=>⟨xs,xs[i],hl i σ' H' (Nat.le_of_lt h) pv,by simp [h]⟩) (fun i σ' H' h pv x H2 y=>by
  obtain ⟨e1,e2⟩:=y
  subst e1
  exact hs i x σ' _ (e2 xs (hl i σ' _ (Nat.le_of_lt h) pv)) pv) hd
end
open PySem PySem.Spec PyProof.Rows
inductive D where
 | int (i:Int) | str (x:Str) | tup (ds:List D)
mutual
def Held (H:Hp):D→V→Prop
 | .int i,v=>v=.int i
 | .str x,v=>v=.str x
 | .tup ds,v=>∃ a xs,v=.ref a∧H a=some (.tup xs)∧HeldL H ds xs
def HeldL (H:Hp):List D→List V→Prop
 | [],vs=>vs=[]
 | d :: ds,vs=>∃ v r,vs=v :: r∧Held H d v∧HeldL H ds r
end
mutual
theorem Held.mono {H H':Hp} (e:Same H H'):∀ {d:D} {v:V},Held H d v→Held H' d v
 | .int i,v,h=>by unfold Held at h ⊢;exact h
 | .str x,v,h=>by unfold Held at h ⊢;exact h
 | .tup ds,v,h=>by
  unfold Held at h ⊢
  obtain ⟨a,xs,e1,e2,e3⟩:=h
  exact ⟨a,xs,e1,e a _ e2,HeldL.mono e e3⟩
theorem HeldL.mono {H H':Hp} (e:Same H H'):∀ {ds:List D} {vs:List V},HeldL H ds vs→HeldL H' ds vs
 | [],vs,h=>by unfold HeldL at h ⊢;exact h
 | d :: ds,vs,h=>by
  unfold HeldL at h ⊢
  obtain ⟨v,r,e1,e2,e3⟩:=h
  exact ⟨v,r,e1,Held.mono e e2,HeldL.mono e e3⟩
end
theorem jM {H:Hp} {i:Int}:Held H (.int i) (.int i):=by unfold Held;rfl
theorem jA {H:Hp} {x:Str}:Held H (.str x) (.str x):=by unfold Held;rfl
theorem jQ {H:Hp} {a:Addr} {xs:List V} {ds:List D} (e:H a=some (.tup xs)) (h:HeldL H ds xs):Held H (.tup ds) (.ref a):=by unfold Held;exact ⟨a,xs,rfl,e,h⟩
theorem jy {H:Hp}:HeldL H [] []:=by unfold HeldL;rfl
theorem ji {H:Hp} {d:D} {ds:List D} {v:V} {r:List V} (h:Held H d v) (t:HeldL H ds r):HeldL H (d :: ds) (v :: r):=by unfold HeldL;exact ⟨v,r,rfl,h,t⟩
theorem HeldL.length {H:Hp}:∀ {ds:List D} {vs:List V},HeldL H ds vs→ds.length=vs.length
 | [],vs,h=>by unfold HeldL at h;subst h;rfl
 | d :: ds,vs,h=>by
  unfold HeldL at h
  obtain ⟨v,r,e1,_,e3⟩:=h
  subst e1
  rw [List.length_cons,List.length_cons,HeldL.length e3]
theorem HeldL.get {H:Hp}:∀ {ds:List D} {vs:List V} {j:Nat} {d:D},HeldL H ds vs→ds[j]?=some d→∃ v,vs[j]?=some v∧Held H d v
 | [],_,_,_,_,e=>by simp at e
 | d :: ds,vs,0,d',h,e=>by
  unfold HeldL at h
  obtain ⟨v,r,e1,e2,e3⟩:=h
  simp at e;subst e e1
  exact ⟨v,rfl,e2⟩
 | d :: ds,vs,j+1,d',h,e=>by
  unfold HeldL at h
  obtain ⟨v,r,e1,e2,e3⟩:=h
  subst e1
  obtain ⟨w,h1,h2⟩:=HeldL.get (j:=j) (d:=d') e3 (by simpa using e)
  exact ⟨w,by simpa using h1,h2⟩
mutual
def D.depth:D→Nat
 | .int _=>0
 | .str _=>0
 | .tup ds=>D.depthL ds+1
def D.depthL:List D→Nat
 | []=>0
 | d :: ds=>max (D.depth d) (D.depthL ds)
end
theorem D.depthL_get:∀ {ds:List D} {j:Nat} {d:D},ds[j]?=some d→d.depth≤D.depthL ds
 | [],_,_,e=>by simp at e
 | d :: ds,0,d',e=>by simp at e;subst e;unfold D.depthL;exact Nat.le_max_left _ _
 | d :: ds,j+1,d',e=>by unfold D.depthL;exact Nat.le_trans (D.depthL_get (j:=j) (by simpa using e)) (Nat.le_max_right _ _)
section
variable {prog:Program} {w:World} {A:Around} {E:Value→Shared→Prop}
theorem YI {it t:Addr} {items:Array Value} (hne:t≠it):∀ (n i:Nat) (s:Shared) (Q:List Value→Shared→Prop),s.heap.IsListIter it t i→s.heap.IsList t items→i+n≤items.size→
  (∀ h',h'.IsListIter it t (i+n)→Heap.SameBut it s.heap h'→Q ((items.toList.drop i).take n) { s with heap:=h' })→wpAny (model prog w) A (draw (.ref it) n) Q E s
 | 0,i,s,Q,hit,_,_,hQ=>by
  show wpAny _ _ (pure []) Q E s
  exact wpAny_pure (by simpa using hQ s.heap hit (Heap.SameBut.refl ..))
 | n+1,i,s,Q,hit,ht,hle,hQ=>by
  have hlt:i < items.size:=by omega
  show wpAny _ _ (pyNext (.ref it) >>= _) Q E s
  refine wpAny_bind (wpAny_pyNext_list_item hit ht (x:=items[i]) (by simp [hlt]) fun h1 hit1 hs1=>?_)
  refine wpAny_bind (wpAny_holding (YI hne n (i+1) _ _ hit1 (ht.extBut hs1.extBut hne) (by omega) fun h2 hit2 hs2=>wpAny_pure ?_))
  have hd:items.toList.drop i=items[i] :: items.toList.drop (i+1):=by simp [List.drop_eq_getElem_cons,hlt]
  have:=hQ h2 (by rw [show i+(n+1)=i+1+n by omega];exact hit2) (hs1.trans hs2)
  rw [hd,List.take_succ_cons] at this
  exact this
theorem Jq {s:Shared} {t:Addr} {items:Array Value} {Q:List Value→Shared→Prop} (hh:A.handled=none) (ht:s.heap.IsList t items)
  (hQ:∀ h',Heap.ExtBut s.heap.objs.size s.heap h'→Q items.toList { s with heap:=h' }):wpAny (model prog w) A (unpackItems (.ref t) items.size none) Q E s:=by
 have hlt:t≠s.heap.objs.size:=by obtain ⟨o,ho,_⟩:=ht;exact Nat.ne_of_lt (Heap.lt_size ho)
 unfold unpackItems
 refine wpAny_bind ?_
 unfold notIterableAtAll
 refine wpAny_bind (wpAny_specialOf ht.typeIs slot_list_iter.lookup ?_)
 refine wpAny_pure ?_
 simp only [Bool.false_eq_true,if_false]
 refine wpAny_bind (wpAny_holding (wpAny_pyIter_list ht ?_))
 refine wpAny_bind (wpAny_holding (YI hlt items.size 0 _ _ ⟨_,Heap.get?_push_size _ rfl,rfl,rfl⟩ (ht.at fun o e=>Heap.get?_push_of_some _ e) (by omega) fun h1 hit1 hs1=>?_))
 have hall:List.take items.size (List.drop 0 items.toList)=items.toList:=by
  rw [List.drop_zero];exact List.take_of_length_le (by simp)
 rw [hall]
 rw [if_neg (by simp)]
 have ht1:h1.IsList t items:=(ht.at fun o e=>Heap.get?_push_of_some _ e).extBut hs1.extBut hlt
 refine wpAny_bind (wpAny_holding (wpAny_pyNext_list_end hh hit1 ht1 (by simp) fun h2 he2=>?_))
 simp only [Option.isSome_none,Bool.false_eq_true,if_false]
 refine wpAny_pure (hQ h2 fun b o hb e=>he2 b o hb (hs1.extBut b o hb (Heap.get?_push_of_some _ e)))
theorem Jm {s:Shared} {env:Env} {elts:List Expr} {x1} {pos:Pos} {t:Addr} {items:Array Value} {Q:Unit→Shared→Prop} (hh:A.handled=none) (ht:s.heap.IsList t items)
  (hn:(assignEach elts env).length=items.size) (hstar:(assignEach elts env).findIdx? (·.1)=none)
  (h:∀ h',Heap.ExtBut s.heap.objs.size s.heap h'→wpAny (model prog w) A (assignInOrder ((assignEach elts env).map (·.2)) items.toList) Q E { s with heap:=h' }) :
  wpAny (model prog w) A (assign (.Tuple elts x1 pos) env (.ref t)) Q E s:=by
 rw [assign_Tuple]
 refine wpAny_bind (wpAny_standAt ?_)
 unfold unpack
 rw [hn,hstar]
 exact wpAny_bind (wpAny_holding (Jq hh ht h))
end
def jhl (K:PySem.W.Frag) (n:Nat) (t:TGs):TG:=fun v σ H Q=>∃ a xs,v=.ref a∧SqL K H a xs∧xs.length=n∧t xs σ H Q
theorem jf7 {X:Cx} {pos:Pos} {es:List Expr} {k:Nat} {t:TGs} {n:Nat} (hc:X.calm=true) (h:PGs X es t)
  (hn:(assignEach es X.env).length=n:=by rfl) (hst:(assignEach es X.env).findIdx? (·.1)=none:=by rfl):PG X (.Tuple es k pos) (jhl X.K n t):=by
 intro pins s σ H v u Q I r hw
 obtain ⟨a,xs,e1,hq,hl,hw⟩:=hw
 subst e1
 cases r
 obtain ⟨its,rv,ht,hz⟩:=I.list hq
 refine Jm (I.ok.hd hc) ht.isList (by simp [hn,← hl,rv.length]) hst fun h' hx=>?_
 have I1:Inv X pins σ H { s with heap:=h' }:=I.kept (t':=s.toks) fun b o e=>hx b o (Nat.ne_of_lt (Heap.lt_size e)) e
 exact h pins _ σ H xs _ Q I1 (by simpa using rv) hw
theorem kz {X:Cx}:OpR X (binaryOp .FloorDiv) (rI (fun _ j=>0 < j∧j < 2 ^ 200) fun i j=>.int (i / j)):=opI fun i j _ _ _ _ _ hc q=>by
 refine floordiv_int (by omega) ?_ (.inl (PyProof.noPylong_of_log2 ?_))
 ·rw [Int.fdiv_eq_ediv_of_nonneg _ (by omega)]
  exact q
 ·have h0:j.natAbs≠0:=by omega
  exact Nat.lt_trans ((Nat.log2_lt h0).mpr (show j.natAbs < 2 ^ 200 by omega)) (by decide)
theorem jas {X:Cx}:q5 X (.builtin "isinstance") (fun xs H Q=>∃ x t T b,xs=[x,.ty T]∧TyOf X.K H x t∧PySem.W.kitOne X.K t (.type T)=some b∧Q (.bl b) H):=by
 intro pins s σ H xs us Q I r h
 obtain ⟨x,t,T,b,rfl,ty,e,q⟩:=h
 obtain ⟨u,v,rfl,ru,rv⟩:=jbn r
 cases rv
 exact jcG I ru ty e fun tk=>⟨.bl b,H,I.tok _,rfl,q⟩
theorem jgo (K:PySem.W.Frag):PySem.W.kitOne K (.type "tuple") (.type "tuple")=some true:=rfl
def qj:Expr→Bool
 | .Starred _ _=>false
 | _=>true
theorem zm {e:Expr} (h:qj e=true) (jv:List Expr) (env:Env):starEach (e :: jv) env=(false,eval e env) :: starEach jv env:=by
 cases e <;> first | rfl | cases h
theorem Jw (pos:Pos) (env:Env):∀ es:List Expr,es.all qj=true→(backTo pos (starEach es env)).any (·.1)=false
 | [],_=>rfl
 | e :: es,h=>by
  rw [List.all_cons,Bool.and_eq_true] at h
  rw [zm h.1]
  have ih:=Jw pos env es h.2
  show (false || (backTo pos (starEach es env)).any (·.1))=false
  rw [ih]
  rfl
theorem jt {X:Cx} {e:Expr} {es:List Expr} {te:TE} {t:TA} (ha:PE X e te) (hr:PA X es t) (hp:qj e=true:=by rfl):PA X (e :: es) (jbq te t):=jeU ha hr (zm hp es X.env)
theorem Jh {X:Cx} {x:Str} {p pos:Pos} {e:Expr} {es:List Expr} {t:TA} {id:String} {r:List V→Hp→VK→Prop} (hc:q5 X (.builtin id) r) (hg:Gl X x) (hm:X.mg x=none) (hv:bootBuiltins x=some (.builtin id)) (ha:PA X (e :: es) t) (hp:(e :: es).all qj=true:=by rfl) (hn:x≠"__name__":=by decide) (hdb:(x == ("__debug__" : Str))=false:=by decide) :
  PE X (.Call (.Name x p) (e :: es) [] pos) (tCB r t):=by
 rw [List.all_cons,Bool.and_eq_true] at hp
 exact jdA hc hg hm hv ha hn hdb (zm hp.1 es X.env) (Jw pos X.env es hp.2)
theorem Jg {X:Cx} {x:Str} {p pos:Pos} {e:Expr} {es:List Expr} {t:TA} {T:String} {r:List V→Hp→VK→Prop} (hc:q5 X (.type T) r) (hg:Gl X x) (hm:X.mg x=none) (hv:bootBuiltins x=some (.type T)) (ha:PA X (e :: es) t) (hp:(e :: es).all qj=true:=by rfl) (hn:x≠"__name__":=by decide) (hdb:(x == ("__debug__" : Str))=false:=by decide) :
  PE X (.Call (.Name x p) (e :: es) [] pos) (tCB r t):=by
 rw [List.all_cons,Bool.and_eq_true] at hp
 exact jcl hc hg hm hv ha hn hdb (zm hp.1 es X.env) (Jw pos X.env es hp.2)
structure Fn (P:Program) (w:World) (K:PySem.W.Frag) (mg:Str→Option Value) (base:Heap) (k:Nat) (x:Str) (ps:List Str) (sp:Sp):Prop where
 ex:∃ f fd,FnOk P w K mg base CX0 k f fd ps sp∧Binds K fd ps []∧PySem.W.keepIn K (.ref f)=true∧mg x=some (.ref f)
theorem kO {X:Cx} {k k':Nat} {x:Str} {ps:List Str} {sp:Sp} {e:Expr} {es:List Expr} {t:TA} {p pos:Pos} (F:Fn X.prog X.w X.K X.mg X.base k x ps sp) (hr:Room k' X.A) (ha:PA X (e :: es) t) (hk:k≤k':=by decide) (hg:Gl X x:=by rfl)
  (hd:(x == ("__debug__" : Str))=false:=by decide) (hp:(e :: es).all qj=true:=by rfl):PE X (.Call (.Name x p) (e :: es) [] pos) (jdc sp [] E0 t):=by
 obtain ⟨f,fd,G,b,kp,m⟩:=F.ex
 rw [List.all_cons,Bool.and_eq_true] at hp
 exact jeS G (hr.mono hk) hg m kp b .nil jfE ha hd (zm hp.1 es X.env) (Jw pos X.env es hp.2)
theorem Fn.mk' {P:Program} {w:World} {K:PySem.W.Frag} {mg:Str→Option Value} {base:Heap} {k:Nat} {x:Str} {ps:List Str} {sp:Sp} {st:Stmt} {f:Addr} {fd:FuncData} (F:Fun K x x st f fd) (b:Binds K fd ps []) (m:mg x=some (.ref f)) (G:FnOk P w K mg base CX0 k f fd ps sp):Fn P w K mg base k x ps sp:=⟨f,fd,G,b,F.kp,m⟩
theorem kW {X:Cx} {scope:Scope} {fr:List Nat} {sc:Scope} {N:List Str} (h1:X.env.scope=sc) (h2:X.N=N) (h:scope.kind=.function∧(∀ y∈scope.names,y.2≠.cell)∧(∀ y∈scope.names,y.2=.local→scope.names.lookup y.1=some .local)∧
  (∀ y∈scope.names,y.2=.free→sc.names.lookup y.1=some .cell∨sc.names.lookup y.1=some .free)∧∀ j∈fr,scope.names.lookup (N.getD j (Str.ofString ""))=some .free):CompOk X scope fr:=by
 obtain ⟨a,b,c,d,e⟩:=h
 exact ⟨a,b,c,by rw [h1];exact d,by rw [h2];exact e⟩
theorem zx:bootBuiltins "len" = some (.builtin "len"):=by decide +kernel
theorem jgA:bootBuiltins "min" = some (.builtin "min"):=by decide +kernel
theorem Yf:bootBuiltins "isinstance" = some (.builtin "isinstance"):=by decide +kernel
theorem YK:bootBuiltins "sorted" = some (.builtin "sorted"):=by decide +kernel
theorem JJ:bootBuiltins "int" = some (.type "int"):=by decide +kernel
theorem zW:bootBuiltins "tuple" = some (.type "tuple"):=by decide +kernel
theorem Zt:bootBuiltins "list" = some (.type "list"):=by decide +kernel
theorem Zv:bootBuiltins "dict" = some (.type "dict"):=by decide +kernel
theorem jgz:bootBuiltins "set" = some (.type "set"):=by decide +kernel
structure Free0 (mg:Str→Option Value):Prop where
 len_:mg "len" = none
 max_:mg "max" = none
 min_:mg "min" = none
 all_:mg "all" = none
 isinstance_:mg "isinstance" = none
 abs_:mg "abs" = none
 sorted_:mg "sorted" = none
 int_:mg "int" = none
 str_:mg "str" = none
 bool_:mg "bool" = none
 tuple_:mg "tuple" = none
 list_:mg "list" = none
 dict_:mg "dict" = none
 range_:mg "range" = none
 set_:mg "set" = none
theorem jdW {X:Cx} {K:PySem.W.Frag} (h:X.K=K:=by rfl):IxR X (jg2 K):=by subst h;exact km
theorem jbI {X:Cx} {K:PySem.W.Frag} (h:X.K=K:=by rfl):IxR X (jg1 K):=by subst h;exact jS
theorem jeN {X:Cx} {K:PySem.W.Frag} {pos:Pos} {es:List Expr} {k:Nat} {t:TGs} {n:Nat} (hc:X.calm=true) (h:PGs X es t) (hK:X.K=K:=by rfl)
  (hn:(assignEach es X.env).length=n:=by rfl) (hst:(assignEach es X.env).findIdx? (·.1)=none:=by rfl):PG X (.Tuple es k pos) (jgv K n t):=by subst hK;exact qS hc h hn hst
structure QS (X:Cx) (st:Stmt) (t:TS):Prop where
 h:PS X st t
structure QSs (X:Cx) (st:List Stmt) (t:TS):Prop where
 h:PSs X st t
theorem qs {X:Cx} {st:Stmt} {t:TS} (h:PS X st t):QS X st t:=⟨h⟩
theorem qW {X:Cx} {st:Stmt} {jv:List Stmt} {t u:TS} (h1:QS X st t) (h2:QSs X jv u):QSs X (st :: jv) (jfT t u):=⟨jn h1.h h2.h⟩
theorem jeH {X:Cx} {st:Stmt} {t:TS} (h1:QS X st t):QSs X [st] t:=⟨jB h1.h⟩
open PySem PySem.Spec PyProof.Rows
theorem Same.sqT {K:PySem.W.Frag} {H H':Hp} {a:Addr} {xs:List V} (e:Same H H') (h:SqT K H a xs):SqT K H' a xs:=by
 rcases h with (h | ⟨o,h⟩) | h
 ·exact .inl (.inl (e _ _ h))
 ·exact .inl (.inr ⟨o,e _ _ h⟩)
 ·exact .inr h
theorem Z9:∀ {ns:List Int} {its:List Value},Vals (ns.map V.int) its→IntsAre its ns
 | [],_,r=>by cases r;exact .nil
 | n :: ns,_,r=>by
  cases r with
  | cons h r=>
   obtain ⟨t,rfl⟩:=h
   exact .cons n t (Z9 r)
theorem jdQ:64≤(sizeLine:Nat):=by rw [sizeLine_eq];decide
theorem JM {X:Cx}:OpR X (binaryOp .Add) (fun x y H Q=>∃ a b xs ys,x=.ref a∧y=.ref b∧SqL X.K H a xs∧SqL X.K H b ys∧xs.length+ys.length≤sizeLine∧∀ l,H l=none→Q (.ref l) (upd H l (.lst (xs++ys)))):=by
 intro pins s σ H x y v u Q I rx ry h
 obtain ⟨a,b,xs,ys,rfl,rfl,ha,hb,hz,q⟩:=h
 cases rx;cases ry
 obtain ⟨its,rv,⟨⟨c1,d1,t1,l1⟩,n1,o1,z1,z2,z3⟩,hz1⟩:=I.list ha
 obtain ⟨its2,rv2,⟨⟨c2,d2,t2,l2⟩,n2,o2,y1,y2,y3⟩,hz2⟩:=I.list hb
 simp only at z1 z2 z3 y1 y2 y3
 subst z1 z2 z3 y1 y2 y3
 have h1:=rv.length
 have h2:=rv2.length
 refine concat_meets ⟨_,o1,rfl⟩ ⟨_,o2,rfl⟩ noFill_list_add seq_list_add PySem.F.slot_list_add PySem.F.entry_list_add (PySem.F.args_list_add_2 _ _)
  (list_addW a b its.toArray its2.toArray n1 n2 none none l1 l2 (by simp only [List.size_toArray];omega)) ⟨o1,o2,?_⟩
 have e:its.toArray++its2.toArray=(its++its2).toArray:=by simp
 rw [e]
 refine ⟨.ref s.heap.objs.size,_,I.laid (t':=s.toks) (fun b u hb=>Heap.get?_push_of_some _ hb) (Nat.le_refl _) (show ObjOk X.prog X.w _ _ _ (.lst (xs++ys)) from ⟨?_,its++its2,0,rv.append rv2,Heap.get?_push_size _ rfl⟩),rfl,q _ (I.hok.fresh (Nat.le_refl _))⟩
 rw [List.length_append]
 exact hz
open PySem PySem.Spec PyProof.Rows PySem.W
def OkP (N:Nat) (p:Array Nat):Prop:=p.toList.Perm (List.range N)
theorem OkP.size {N:Nat} {p:Array Nat} (h:OkP N p):p.size=N:=by
 have:=h.length_eq
 rw [List.length_range] at this
 simpa using this
open PySem PySem.Spec PyProof.Rows PySem.W
def PairAt (h:Heap) (v:Value) (q:Int×Int):Prop:=∃ (c:Addr) (o:Obj) (t u:Tok) (k:Nat),v=.ref c∧h.get? c=some o∧o.cls=.type "tuple"∧o.data=.seq #[.int q.1 t,.int q.2 u] k
theorem PairAt.kept {h h':Heap} {v:Value} {q:Int×Int} (x:PairAt h v q) (k:∀ b o,h.get? b=some o→o.cls=.type "tuple"→h'.get? b=some o):PairAt h' v q:=by
 obtain ⟨c,o,t,u,n,e1,e2,e3,e4⟩:=x
 exact ⟨c,o,t,u,n,e1,k c o e2 e3,e3,e4⟩
section
variable {prog:Program} {w:World} {A:Around} {E:Value→Shared→Prop} {s:Shared}
theorem jcZ {vs:List Value} {ps:List (Int×Int)} (hl:vs.length=ps.length) (hv:∀ i (h:i < ps.length),PairAt s.heap (vs.getD i Value.none) ps[i]) (nd:(ps.map (·.1)).Nodup) {i j:Nat} {C:Bool→Shared→Prop} (hi:i < ps.length) (hj:j < ps.length)
  (h:C (decide ((ps.getD i (0,0)).1 < (ps.getD j (0,0)).1)) s):kas_ask prog w A (tuples' true) vs i j C s:=by
 unfold kas_ask
 obtain ⟨c,o,t,u,n,e1,e2,e3,e4⟩:=hv i hi
 obtain ⟨c',o',t',u',n',f1,f2,f3,f4⟩:=hv j hj
 rw [e1,f1]
 have gi:ps.getD i (0,0)=ps[i]:=by simp [hi]
 have gj:ps.getD j (0,0)=ps[j]:=by simp [hj]
 rw [gi,gj] at h
 refine kat_lt e2 e4 f2 f4 ?_
 refine kat_cons (wpAny_eqBool_int ?_)
 by_cases hij:i=j
 ·subst hij
  rw [beq_self_eq_true]
  refine kat_yes (kat_cons (wpAny_eqBool_int ?_))
  rw [beq_self_eq_true]
  refine kat_yes (kat_nil ?_)
  rw [decide_eq_false (Int.lt_irrefl _)] at h
  exact h
 ·have ne:ps[i].1≠ps[j].1:=by
   have pw:=List.pairwise_iff_getElem.mp nd
   rcases Nat.lt_or_ge i j with z | z
   ·have:=pw i j (by simpa using hi) (by simpa using hj) z
    simpa using this
   ·have:=pw j i (by simpa using hj) (by simpa using hi) (by omega)
    intro e
    exact this (by simpa using e.symm)
  rw [beq_eq_false_iff_ne.mpr ne]
  exact kat_no (oneLt_int h)
theorem Kr {h:Heap}:∀ {vs:List Value} {ps:List (Int×Int)},vs.length=ps.length→(∀ i (hi:i < ps.length),PairAt h (vs.getD i Value.none) ps[i])→∃ fs,KatTups h vs fs∧fs.length=ps.length∧∀ v∈fs,∃ x t,v=Value.int x t
 | [],[],_,_=>⟨[],KatTups.nil,rfl,fun v h=>absurd h (by simp)⟩
 | v :: vs,q :: ps,hl,hv=>by
  obtain ⟨fs,h1,h2,h3⟩:=Kr (vs:=vs) (ps:=ps) (by simpa using hl) fun i hi=>by
   have:=hv (i+1) (by simpa using hi)
   simpa using this
  obtain ⟨c,o,t,u,n,e1,e2,e3,e4⟩:=hv 0 (by simp)
  have e1':v=.ref c:=by simpa using e1
  subst e1'
  refine ⟨.int q.1 t :: fs,KatTups.cons e2 e3 e4 (by simp) h1,by simp [h2],fun v hv=>?_⟩
  rcases List.mem_cons.mp hv with rfl | hv
  ·exact ⟨_,_,rfl⟩
  ·exact h3 v hv
 | [],_ :: _,hl,_=>by simp at hl
 | _ :: _,[],hl,_=>by simp at hl
end
def PairsL (K:PySem.W.Frag) (H:Hp) (qs:List V) (ps:List (Int×Int)):Prop:=qs.length=ps.length∧∀ i (h:i < ps.length),∃ c,qs[i]?=some (.ref c)∧SqT K H c [.int ps[i].1,.int ps[i].2]
theorem PairsL.mono {K:PySem.W.Frag} {H H':Hp} {qs:List V} {ps:List (Int×Int)} (e:Same H H') (h:PairsL K H qs ps):PairsL K H' qs ps:=⟨h.1,fun i hi=>by
 obtain ⟨c,e1,e2⟩:=h.2 i hi
 exact ⟨c,e1,e.sqT e2⟩⟩
end L2
namespace PySem
open Sem (wp)
namespace F
theorem sub_attr_attr:isSubtype (.type "AttributeError") (.type "AttributeError")=pure true:=by rw [isSubtype_type];kernel_rfl
end F
section
variable {prog:Program} {w:World} {A:Around} {E:Value→Shared→Prop} {h:Heap} {g:Array GenState} {d:Drawn} {t:Nat} {os:OsState} {a:Addr} {its:Array Value} {n:Nat} {sl:Array (Option Value)}
theorem jbh {α:Type} {m:Str} {Q:α→Shared→Prop} (hm:m.length≤sizeLine) (hh:A.handled=none)
   (hq:∀ h' t' e,(∀ b u,h.get? b=some u→h'.get? b=some u)→(∃ oe,h'.get? e=some oe∧oe.cls=.type "AttributeError")→E (.ref e) ⟨h',g,d,t',os⟩) :
  wpAny (model prog w) A (raiseAttrError (.ref a) (Str.ofString "keys") m:Sem α) Q E ⟨h,g,d,t,os⟩:=by
 unfold raiseAttrError
 refine wpAny_bind (wpAny_mkStr (wpAny_bind ?_) hm)
 unfold newExc newTuple
 refine wpAny_bind (wpAny_newObj_type ?_ (by show 1≤sizeLine;rw [sizeLine_eq];decide))
 refine wpAny_bind (m:=firstArgMember _ _) (wpAny_of_eq (a:=Value.none) (by kernel_rfl) ?_)
 refine wpAny_newObj_type ?_ (by size_fits)
 refine wpAny_bind (wpAny_mkText ?_)
 dsimp only
 have hsub:isSubtype (.type "AttributeError") (.type "AttributeError")=pure true:=by rw [isSubtype_type];kernel_rfl
 generalize hf:(#[Value.ref h.objs.size,Value.none,Value.none,Value.none,Value.bool false,Value.none]++ownMembersOf (Value.type "AttributeError") [Value.str m t])=fs
 have e1:((h.push { cls:=.type "tuple",data:=.seq #[Value.str m t] }).push { cls:=.type "AttributeError",data:=.fields fs }).get? (h.push { cls:=.type "tuple",data:=.seq #[Value.str m t] }).objs.size=some { cls:=.type "AttributeError",data:=.fields fs }:=Heap.get?_push_size _ rfl
 have old:∀ b u,h.get? b=some u→((h.push { cls:=.type "tuple",data:=.seq #[Value.str m t] }).push { cls:=.type "AttributeError",data:=.fields fs }).get? b=some u:=fun b u q=>Heap.get?_push_of_some _ (Heap.get?_push_of_some _ q)
 have oldn:∀ b u,h.get? b=some u→b≠(h.push { cls:=.type "tuple",data:=.seq #[Value.str m t] }).objs.size:=fun b u q=>Nat.ne_of_lt (Heap.lt_size (Heap.get?_push_of_some _ q))
 generalize ((h.push { cls:=.type "tuple",data:=.seq #[Value.str m t] }).push { cls:=.type "AttributeError",data:=.fields fs })=h2 at *
 generalize (h.push { cls:=.type "tuple",data:=.seq #[Value.str m t] }).objs.size=e at *
 refine wpAny_bind ?_
 have hT:(⟨h2,g,d,t+1+1,os⟩:Shared).TypeIs (.ref e) "AttributeError":=⟨_,e1,rfl⟩
 unfold noteAttr
 dsimp only
 refine wpAny_bind ?_
 unfold lacksNameAndObj
 dsimp only
 refine wpAny_bind (wpAny_isInstance hT hsub ?_)
 simp only [Bool.not_true,Bool.false_eq_true,if_false]
 refine wpAny_bind (wpAny_load e1 ?_)
 dsimp only
 have e6:fs[6]?=some unsetMember:=by rw [← hf];rfl
 have e7:fs[7]?=some unsetMember:=by rw [← hf];rfl
 rw [if_neg (by rw [e6,e7];decide),if_neg (by rw [e6,e7];decide)]
 refine wpAny_pure ?_
 rw [if_pos rfl]
 refine wpAny_bind (wpAny_rule (wpAny_bind (wpAny_typeOf hT ?_)))
 dsimp only
 unfold layMembers
 refine wpAny_bind (wpAny_load e1 ?_)
 dsimp only
 refine wpAny_update e1 ?_
 unfold raiseNew
 refine wpAny_bind (wpAny_handled ?_)
 rw [hh]
 refine wpAny_bind (wpAny_pure (wpAny_throw ?_))
 refine hq _ _ e (fun b u q=>?_) ⟨_,Heap.get?_update_self _ e1 rfl,rfl⟩
 rw [Heap.get?_update_ne _ _ _ _ (oldn b u q)]
 exact old b u q
end
end PySem
namespace L2
open PySem PySem.Spec PyProof.Rows PySem.W
theorem yx:entryFor table "dict.update.loop" = some Builtin.«dict.update.loop»:=entryFor_of_tree (by kernel_rfl)
theorem qH:plainId "dict.update.loop" = true:=by decide +kernel
section
variable {prog:Program} {w:World} {A:Around} {E:Value→Shared→Prop} {R:Result→Shared→Prop}
theorem jfd {kvs:List (Key×V)} {vs:List (Key×Value)} (r:KV kvs vs):vs.map (·.1)=kvs.map (·.1):=by
 unfold KV at r
 induction r with
 | nil=>rfl
 | cons h _ ih=>rw [List.map_cons,List.map_cons,ih,h.1]
theorem jfc {kvs:List (Key×V)} {vs:List (Key×Value)} {k:Key} {x:V} {v:Value} (r:KV kvs vs) (h:RelV x v):KV (kvs++[(k,x)]) (vs++[(k,v)]):=by
 unfold KV at r ⊢
 induction r with
 | nil=>exact .cons ⟨rfl,h⟩ .nil
 | cons h' _ ih=>exact .cons h' ih
end
open PySem PySem.Spec PyProof.Rows PySem.W
def pD (q:Int×Int):D:=.tup [.int q.1,.int q.2]
theorem Z8:∀ (vs:List Value),(∀ v∈vs,∃ x t,v=.int x t)→∃ ns,IntsAre vs ns
 | [],_=>⟨[],.nil⟩
 | v :: vs,h=>by
  obtain ⟨x,t,rfl⟩:=h v List.mem_cons_self
  obtain ⟨ns,hn⟩:=Z8 vs fun u hu=>h u (List.mem_cons_of_mem _ hu)
  exact ⟨x :: ns,.cons x t hn⟩
open PySem PySem.Spec PyProof.Rows PySem.W
abbrev Up (xs:Array Nat):Prop:=xs.toList.Pairwise (· < ·)
structure TabOk (led:Bool) (t:SetTable):Prop where
 led_:t.led=led
 none_:t.dummies=#[]
 up:Up t.place
theorem jbo {xs:Array Nat} (h:Up xs) {i j:Nat} (hij:i < j) (hj:j < xs.size):xs.getD i 0 < xs.getD j 0:=by
 have hi:i < xs.size:=by omega
 have:=List.pairwise_iff_getElem.mp h i j (by simpa using hi) (by simpa using hj) hij
 simpa [Array.getD,hi,hj] using this
theorem KZ {xs:Array Nat} (h:Up xs) (j:Nat):∀ (f lo hi:Nat),lo≤hi→hi≤xs.size→hi≤lo+f→(∀ i,i < lo→xs.getD i 0 < j)→(∀ i,hi≤i→i < xs.size→j≤xs.getD i 0)→
  (SetTable.below.go xs j f lo hi)≤xs.size∧(∀ i,i < SetTable.below.go xs j f lo hi→xs.getD i 0 < j)∧∀ i,SetTable.below.go xs j f lo hi≤i→i < xs.size→j≤xs.getD i 0
 | 0,lo,hi,h1,h2,h3,a,b=>by
  unfold SetTable.below.go
  exact ⟨by omega,a,fun i hi'=>b i (by omega)⟩
 | f+1,lo,hi,h1,h2,h3,a,b=>by
  unfold SetTable.below.go
  by_cases e:lo < hi
  ·rw [if_pos e]
   dsimp only
   have hm:(lo+hi) / 2 < xs.size:=by omega
   have eg:xs.getD ((lo+hi) / 2) j=xs.getD ((lo+hi) / 2) 0:=by simp [Array.getD,hm]
   rw [eg]
   by_cases c:xs.getD ((lo+hi) / 2) 0 < j
   ·rw [if_pos c]
    refine KZ h j f ((lo+hi) / 2+1) hi (by omega) h2 (by omega) (fun i hi'=>?_) b
    rcases Nat.lt_or_ge i ((lo+hi) / 2) with z | z
    ·exact Nat.lt_trans (jbo h z hm) c
    ·have:i=(lo+hi) / 2:=by omega
     subst this
     exact c
   ·rw [if_neg c]
    refine KZ h j f lo ((lo+hi) / 2) (by omega) (by omega) (by omega) a fun i hi' hs=>?_
    rcases Nat.lt_or_ge ((lo+hi) / 2) i with z | z
    ·exact Nat.le_trans (Nat.le_of_not_lt c) (Nat.le_of_lt (jbo h z hs))
    ·have:i=(lo+hi) / 2:=by omega
     subst this
     exact Nat.le_of_not_lt c
  ·rw [if_neg e]
   exact ⟨by omega,a,fun i hi'=>b i (by omega)⟩
theorem KY {xs:Array Nat} (h:Up xs) (j:Nat):SetTable.below xs j≤xs.size∧(∀ i,i < SetTable.below xs j→xs.getD i 0 < j)∧∀ i,SetTable.below xs j≤i→i < xs.size→j≤xs.getD i 0:=
 KZ h j xs.size 0 xs.size (Nat.zero_le _) (Nat.le_refl _) (by omega) (fun i h=>by omega) fun i h1 h2=>by omega
theorem jfg {xs:Array Nat} {i:Nat} (h:i < xs.size):xs[i]?=some (xs.getD i 0):=by simp [Array.getD,h]
theorem jcI {xs:Array Nat} (h:Up xs) {j:Nat} (hj:xs[SetTable.below xs j]?≠some j):Up (SetTable.insertAt xs (SetTable.below xs j) j):=by
 obtain ⟨b1,b2,b3⟩:=KY h j
 unfold Up
 rw [SetTable.toList_insertAt]
 have hd:∀ x∈xs.toList.drop (SetTable.below xs j),j < x:=fun x hx=>by
  obtain ⟨i,hi,rfl⟩:=List.mem_iff_getElem.mp hx
  rw [List.length_drop] at hi
  rw [List.getElem_drop]
  have hs:SetTable.below xs j+i < xs.size:=by simpa using (by omega:SetTable.below xs j+i < xs.toList.length)
  have e:xs.toList[SetTable.below xs j+i]'(by simpa using hs)=xs.getD (SetTable.below xs j+i) 0:=by simp [Array.getD,hs]
  rw [e]
  have ge:=b3 (SetTable.below xs j+i) (by omega) hs
  rcases Nat.lt_or_ge j (xs.getD (SetTable.below xs j+i) 0) with z | z
  ·exact z
  ·have eq:xs.getD (SetTable.below xs j+i) 0=j:=by omega
   rcases Nat.eq_zero_or_pos i with rfl | hp
   ·exact absurd (by rw [Nat.add_zero] at eq hs;rw [jfg hs,eq]) hj
   ·have:=jbo h (i:=SetTable.below xs j) (j:=SetTable.below xs j+i) (by omega) hs
    have:=b3 (SetTable.below xs j) (Nat.le_refl _) (by omega)
    omega
 have ht:∀ x∈xs.toList.take (SetTable.below xs j),x < j:=fun x hx=>by
  obtain ⟨i,hi,rfl⟩:=List.mem_iff_getElem.mp hx
  rw [List.length_take] at hi
  rw [List.getElem_take]
  have hs:i < xs.size:=by simpa using (by omega:i < xs.toList.length)
  have e:xs.toList[i]'(by simpa using hs)=xs.getD i 0:=by simp [Array.getD,hs]
  rw [e]
  exact b2 i (by omega)
 refine List.pairwise_append.mpr ⟨h.sublist (List.take_sublist _ _),List.pairwise_cons.mpr ⟨hd,h.sublist (List.drop_sublist _ _)⟩,fun x hx y hy=>?_⟩
 rcases List.mem_cons.mp hy with rfl | hy
 ·exact ht x hx
 ·exact Nat.lt_trans (ht x hx) (hd y hy)
theorem ZS {led:Bool} {t:SetTable} (h:TabOk led t) {hashAt:Nat→Int} {hh:Int} (hne:∀ i,(hashAt i == hh)=false):∀ (f:Nat) (p:SetTable.Probe) (m:SetTable.Met),p.dummy=none→SetTable.probe.go t hashAt hh f p=some m→∃ j,m=.empty j none∧t.slot j=.empty
 | 0,p,m,_,e=>by
  unfold SetTable.probe.go at e
  cases e
 | f+1,p,m,hd,e=>by
  unfold SetTable.probe.go at e
  cases hs:t.slot p.j with
  | empty=>
   rw [hs] at e
   cases e
   exact ⟨p.j,by rw [hd],hs⟩
  | dummy=>
   exfalso
   unfold SetTable.slot at hs
   dsimp only at hs
   rw [h.none_] at hs
   split at hs
   ·cases hs
   ·simp [SetTable.has] at hs
  | live i=>
   rw [hs] at e
   dsimp only at e
   rw [hne i] at e
   rw [if_neg Bool.false_ne_true] at e
   refine ZS h hne f _ m ?_ e
   unfold SetTable.advance
   split
   ·exact hd
   ·exact hd
theorem jbN {led:Bool} {t:SetTable} (h:TabOk led t) {hh:Int} {j:Nat} {d:Bool} (e:t.freeSlot hh=some (j,d)):t.place[SetTable.below t.place j]?≠some j:=by
 unfold SetTable.freeSlot at e
 cases hp:t.probe (fun _=>hh+1) hh (t.probeStart hh) with
 | none=>rw [hp] at e;cases e
 | some m=>
  obtain ⟨j',rfl,hs⟩:=ZS h (fun _=>beq_eq_false_iff_ne.mpr (by omega)) _ _ m rfl (show SetTable.probe.go t (fun _=>hh+1) hh _ _=some m from hp)
  rw [hp] at e
  cases e
  unfold SetTable.slot at hs
  dsimp only at hs
  intro z
  split at hs
  ·cases hs
  ·next c=>
   refine c ?_
   have z':t.place[SetTable.below t.place j']?=some j':=z
   rw [z']
   simp
theorem jc7 (n:Nat):Up (Array.range n):=by
 unfold Up
 rw [Array.toList_range]
 exact List.pairwise_lt_range
theorem Jd {led:Bool} {t:SetTable} (h:t.led=led) (n:Nat):TabOk led (t.standIn n):=⟨h,rfl,jc7 n⟩
theorem jdr {led:Bool} {t:SetTable} (h:TabOk led t) {j:Nat} (hj:t.place[SetTable.below t.place j]?≠some j):TabOk led (t.put j).1:=by
 refine ⟨h.led_,?_,jcI h.up hj⟩
 unfold SetTable.put
 dsimp only
 rw [h.none_]
 split
 ·simp [SetTable.eraseAt]
 ·rfl
theorem jcC {led:Bool} {t:SetTable} (h:TabOk led t) (es:Array (Int×Value)) (hh:Int) (x:Value):TabOk led (layNew t es hh x).2.1:=by
 unfold layNew
 split
 ·next slot d e=>
  dsimp only
  unfold SetTable.orStandIn
  split
  ·exact jdr h (jbN h e)
  ·exact Jd (jdr h (jbN h e)).led_ _
 ·exact Jd h.led_ _
theorem jfb {mask finger moves:Nat} {led plain:Bool} {hashes:Array Int} {t:SetTable} {o:Array Nat} (h:SetTable.laid mask finger moves led plain hashes=some (t,o)):TabOk led t:=by
 unfold SetTable.laid at h
 cases hl:SetTable.layClean mask hashes with
 | none=>rw [hl] at h;cases h
 | some owner=>
  rw [hl] at h
  cases h
  refine ⟨rfl,rfl,?_⟩
  unfold Up
  dsimp only
  have key:∀ l:List Nat,(l.filterMap fun j=>(owner.getD j none).map (fun k=>(j,k))).map (·.1)=l.filter fun j=>(owner.getD j none).isSome:=by
   intro l
   induction l with
   | nil=>rfl
   | cons a l ih=>
    rw [List.filterMap_cons,List.filter_cons]
    cases owner.getD a none with
    | none=>simpa using ih
    | some k=>
     show a :: List.map _ _=_
     rw [ih]
     rfl
  show List.Pairwise _ (List.map _ _)
  rw [key]
  exact List.pairwise_lt_range.sublist List.filter_sublist
theorem jdq {led:Bool} {t:SetTable} (h:TabOk led t) (es:Array (Int×Value)) (n:Nat):TabOk led (relayAll t es n).2.1:=by
 unfold relayAll
 split
 ·next t' o e=>
  dsimp only
  split
  ·have:=jfb (show SetTable.laid _ _ _ _ _ _=some (t',o) from e)
   rw [h.led_] at this
   exact this
  ·exact Jd h.led_ _
 ·exact Jd h.led_ _
theorem jci {led:Bool} {t:SetTable} (h:TabOk led t):TabOk led { t with plain:=false }:=⟨h.led_,h.none_,h.up⟩
open PySem PySem.Spec PyProof.Rows PySem.W
def SetAt (prog:Program) (w:World) (h:Heap) (a:Addr) (led:Bool) (σ:List Int):Prop:=∃ (es:Array (Int×Value)) (ep:Nat) (t:SetTable),
 h.get? a=some { cls:=.type "set",dict:=none,data:=.set es ep t }∧ElemsOf (intKind prog w) es.toList∧(∃ l:List Int,IntsAre (es.toList.map (·.2)) l∧l.Perm σ)∧es.size < scanBound∧t.fits es.size=true∧TabOk led t
theorem SetAt.kept {prog:Program} {w:World} {h h':Heap} {a:Addr} {led:Bool} {σ:List Int} (x:SetAt prog w h a led σ) (k:∀ o,h.get? a=some o→h'.get? a=some o):SetAt prog w h' a led σ:=by
 obtain ⟨es,ep,t,e,r⟩:=x
 exact ⟨es,ep,t,k _ e,r⟩
theorem jdY {vs:List Value} {l:List Int} (h:IntsAre vs l) {v:Int}:v∈l↔∃ t,Value.int v t∈vs:=by
 induction h with
 | nil=>simp
 | cons n t h ih=>
  constructor
  ·intro hv
   rcases List.mem_cons.mp hv with rfl | hv
   ·exact ⟨t,List.mem_cons_self⟩
   ·obtain ⟨t',ht⟩:=ih.mp hv
    exact ⟨t',List.mem_cons_of_mem _ ht⟩
  ·rintro ⟨t',ht⟩
   rcases List.mem_cons.mp ht with e | ht
   ·cases e
    exact List.mem_cons_self
   ·exact List.mem_cons_of_mem _ (ih.mpr ⟨t',ht⟩)
theorem YD:∀ {vs:List Value} {l:List Int} {v:Int} {t:Tok},IntsAre vs l→IntsAre (vs++[.int v t]) (l++[v])
 | _,_,v,t,.nil=>.cons v t .nil
 | _,_,v,t,.cons n t' h=>.cons n t' (YD h)
theorem JF {vs vs':List Value} {l:List Int} (h:IntsAre vs l) (p:vs'.Perm vs):∃ l',IntsAre vs' l'∧l'.Perm l:=by
 obtain ⟨l',h'⟩:=Z8 vs' fun v hv=>by
  have:=p.mem_iff.mp hv
  obtain ⟨x,t,e⟩:=h.all v this
  exact ⟨x,t,e⟩
 refine ⟨l',h',?_⟩
 have e1:=h.nums
 have e2:=h'.nums
 rw [← e1,← e2]
 exact p.map _
section
variable {prog:Program} {w:World} {A:Around} {E:Value→Shared→Prop} {s:Shared}
theorem ZO {es:Array (Int×Value)} {l:List Int} (hI:IntsAre (es.toList.map (·.2)) l) {v:Int}:(∃ j,List.findIdx? (fun e=>(intKind prog w).is v e.2) es.toList=some j)↔v∈l:=by
 rw [jdY hI]
 constructor
 ·rintro ⟨j,hj⟩
  obtain ⟨hlt,h1,_⟩:=List.findIdx?_eq_some_iff_getElem.mp hj
  obtain ⟨x,t,e⟩:=hI.all es.toList[j].2 (List.mem_map.mpr ⟨_,List.getElem_mem hlt,rfl⟩)
  have:v=x:=by
   rw [e] at h1
   exact (intKind prog w).inj _ _ _ h1 (intKind_is _ _ _ _)
  subst this
  exact ⟨t,List.mem_map.mpr ⟨_,List.getElem_mem hlt,e⟩⟩
 ·rintro ⟨t,ht⟩
  obtain ⟨e,he,e2⟩:=List.mem_map.mp ht
  cases hf:List.findIdx? (fun e=>(intKind prog w).is v e.2) es.toList with
  | some j=>exact ⟨j,rfl⟩
  | none=>
   have:=List.findIdx?_eq_none_iff.mp hf e he
   rw [e2,intKind_is] at this
   cases this
theorem Yn {a:Addr} {led:Bool} {σ:List Int} {es es':Array (Int×Value)} {ep:Nat} {t t':SetTable} {h:Heap} (ho:h.get? a=some { cls:=.type "set",dict:=none,data:=.set es ep t })
  (hel:ElemsOf (intKind prog w) es'.toList) (hl:∃ l:List Int,IntsAre (es'.toList.map (·.2)) l∧l.Perm σ) (hb:es'.size < scanBound) (hf:t'.fits es'.size=true) (ht:TabOk led t') :
  (h.update a (Obj.putSet es' t')).get? a=some { cls:=.type "set",dict:=none,data:=.set es' (ep+1) t' }∧SetAt prog w (h.update a (Obj.putSet es' t')) a led σ:=by
 have hg:(h.update a (Obj.putSet es' t')).get? a=some { cls:=.type "set",dict:=none,data:=.set es' (ep+1) t' }:=by
  have:=Heap.get?_update_self (Obj.putSet es' t') ho (by rw [putSet_of es' t' rfl];rfl)
  rw [putSet_of es' t' rfl] at this
  exact this
 exact ⟨hg,es',ep+1,t',hg,hel,hl,hb,hf,ht⟩
theorem jeB {a:Addr} {led:Bool} {σ:List Int} {v:Int} {tk:Tok} {Q:Bool→Shared→Prop} (hS:SetAt prog w s.heap a led σ) (hroom:σ.length+1 < scanBound)
  (h:∀ b h',Heap.SameBut a s.heap h'→SetAt prog w h' a led (if v∈σ then σ else σ++[v])→Q b { s with heap:=h' }):wpAny (model prog w) A (setAddHashed a (.int v tk) ((intKind prog w).hash v)) Q E s:=by
 obtain ⟨es,ep,t,ho,hel,⟨l,hI,hp⟩,hb,hf,ht⟩:=hS
 have hsz:es.size=σ.length:=by
  have h1:=hI.length
  have h2:=hp.length_eq
  rw [List.length_map,Array.length_toList] at h1
  omega
 unfold setAddHashed setAddHashedIn
 refine wpAny_holding (wpAny_bind (wpAny_setState_of ho rfl hf ?_))
 dsimp only
 rw [byScan_of (knd:=intKind prog w) rfl hb hel]
 simp only [↓reduceIte]
 unfold setAddByScan
 refine wpAny_bind (wpAny_bind (wpAny_rule (wpAny_bind (wpAny_setScan_of (knd:=intKind prog w) (intKind_is _ _ _ _) ho rfl hf hel ?_))))
 cases hr:List.findIdx? (fun e=>(intKind prog w).is v e.2) es.toList with
 | some j=>
  have hv:v∈σ:=hp.mem_iff.mp ((ZO hI).mp ⟨j,hr⟩)
  dsimp only
  refine wpAny_pure (wpAny_pure ?_)
  have:=h false s.heap (Heap.SameBut.refl a s.heap) (by rw [if_pos hv];exact ⟨es,ep,t,ho,hel,⟨l,hI,hp⟩,hb,hf,ht⟩)
  exact this
 | none=>
  have hv:¬ v∈σ:=fun z=>by
   obtain ⟨j,hj⟩:=(ZO (prog:=prog) (w:=w) hI).mpr (hp.mem_iff.mpr z)
   rw [hr] at hj
   cases hj
  rw [if_neg hv] at h
  dsimp only
  have gw:∀ (b:Bool) {s₁:Shared} {Q':Unit→Shared→Prop},Q' () s₁→wpAny (model prog w) A (match b with | true=>rule "set.scan.the-table-gave-way" | false=>pure ()) Q' E s₁:=fun b s₁ Q' hq=>by
   cases b
   ·exact wpAny_pure hq
   ·exact wpAny_rule hq
  have p1:=layNew_perm t es ((intKind prog w).hash v) (.int v tk)
  have f1:=layNew_fits t es ((intKind prog w).hash v) (.int v tk)
  have k1:=jcC ht es ((intKind prog w).hash v) (.int v tk)
  generalize layNew t es ((intKind prog w).hash v) (.int v tk)=L at p1 f1 k1 ⊢
  obtain ⟨es1,t1,wd,gv⟩:=L
  dsimp only at p1 f1 k1 ⊢
  rw [Array.toList_push] at p1
  have hel1:ElemsOf (intKind prog w) es1.toList:=(hel.push (intKind_is _ _ _ _) rfl).perm p1
  have hI1:∃ l:List Int,IntsAre (es1.toList.map (·.2)) l∧l.Perm (σ++[v]):=by
   have pm:=p1.map (·.2)
   rw [List.map_append] at pm
   obtain ⟨l',i1,i2⟩:=JF (YD (t:=tk) hI) pm
   exact ⟨l',i1,i2.trans (hp.append_right _)⟩
  have hs1:es1.size=es.size+1:=by
   have:=p1.length_eq
   rw [List.length_append,Array.length_toList,Array.length_toList] at this
   simpa using this
  have hb1:es1.size < scanBound:=by omega
  refine wpAny_bind (gw _ ?_)
  have fin:∀ t2:SetTable,t2.fits es1.size=true→TabOk led t2→wpAny (model prog w) A (do
    storeSet a es1 t2
    if (!wd && t2.tooFull)=true then do
      (match (relayAll t2 es1 (SetTable.grown es1.size)).2.2 with | true=>rule "set.scan.the-table-gave-way" | false=>pure ():Sem Unit)
      storeSet a (relayAll t2 es1 (SetTable.grown es1.size)).1 (relayAll t2 es1 (SetTable.grown es1.size)).2.1
      pure (some true)
     else pure (some true)) (fun a_1 s'=>wpAny (model prog w) A (match a_1 with | some added=>pure added | none=>setAddHashedIn a (.int v tk) ((intKind prog w).hash v) 99999) Q E s') E s:=by
   intro t2 f2 k2
   refine wpAny_bind (wpAny_storeSet_of ho rfl ?_ (fits_of_scanBound hb1))
   obtain ⟨ho1,hS1⟩:=Yn (prog:=prog) (w:=w) (σ:=σ++[v]) ho hel1 hI1 hb1 f2 k2
   have sb1:=Heap.SameBut.update s.heap a (Obj.putSet es1 t2)
   split
   ·have p2:=relayAll_perm t2 es1 (SetTable.grown es1.size)
    have f3:=relayAll_fits t2 es1 (SetTable.grown es1.size)
    have k3:=jdq k2 es1 (SetTable.grown es1.size)
    generalize relayAll t2 es1 (SetTable.grown es1.size)=L at p2 f3 k3 ⊢
    obtain ⟨es2,t3,gv2⟩:=L
    dsimp only at p2 f3 k3 ⊢
    have hs2:es2.size=es1.size:=by rw [← Array.length_toList,p2.length_eq,Array.length_toList]
    have hI2:∃ l:List Int,IntsAre (es2.toList.map (·.2)) l∧l.Perm (σ++[v]):=by
     obtain ⟨l1,i1,i2⟩:=hI1
     obtain ⟨l',j1,j2⟩:=JF i1 (p2.map (·.2))
     exact ⟨l',j1,j2.trans i2⟩
    refine wpAny_bind (gw _ (wpAny_bind (wpAny_storeSet_of ho1 rfl ?_ (fits_of_scanBound (by omega)))))
    obtain ⟨_,hS2⟩:=Yn (prog:=prog) (w:=w) (σ:=σ++[v]) ho1 (hel1.perm p2) hI2 (by omega) f3 k3
    exact wpAny_pure (wpAny_pure (h true _ (sb1.trans (Heap.SameBut.update _ a _)) hS2))
   ·exact wpAny_pure (wpAny_pure (h true _ sb1 hS1))
  split
  ·refine wpAny_bind ?_
   rw [hashByValue_scannable 8 rfl]
   refine wpAny_pure ?_
   refine fin _ ?_ ?_
   ·split
    ·exact f1
    ·exact SetTable.fits_plain_off f1
   ·split
    ·exact k1
    ·exact jci k1
  ·refine wpAny_bind (wpAny_pure ?_)
   simp only [↓reduceIte]
   exact fin _ f1 k1
end
open PySem PySem.Spec PyProof.Rows PySem.W
abbrev ledOf (w:World):Bool:=!(w.params.followText "set-order")
def dedup (ns:List Int):List Int:=ns.foldl (fun σ v=>if v∈σ then σ else σ++[v]) []
theorem KP (ns:List Int) (v:Int):dedup (ns++[v])=if v∈dedup ns then dedup ns else dedup ns++[v]:=by unfold dedup;rw [List.foldl_append];rfl
theorem KQ (ns:List Int):(dedup ns).Nodup∧(dedup ns).length≤ns.length∧∀ x,x∈dedup ns↔x∈ns:=by
 have key:∀ (l:List Int),(dedup l.reverse).Nodup∧(dedup l.reverse).length≤l.reverse.length∧∀ x,x∈dedup l.reverse↔x∈l.reverse:=by
  intro l
  induction l with
  | nil=>exact ⟨List.nodup_nil,Nat.le_refl _,fun x=>Iff.rfl⟩
  | cons v l ih=>
   rw [List.reverse_cons,KP]
   obtain ⟨h1,h2,h3⟩:=ih
   split
   ·next h=>
    refine ⟨h1,by rw [List.length_append];omega,fun x=>?_⟩
    rw [List.mem_append,h3]
    constructor
    ·exact .inl
    ·rintro (z | z)
     ·exact z
     ·rw [List.mem_singleton.mp z]
      exact (h3 v).mp h
   ·next h=>
    refine ⟨?_,by rw [List.length_append,List.length_append];simp;simpa using h2,fun x=>by rw [List.mem_append,List.mem_append,h3]⟩
    rw [List.nodup_append]
    refine ⟨h1,by simp,fun x hx y hy e=>?_⟩
    rw [List.mem_singleton] at hy
    subst hy e
    exact h hx
 have:=key ns.reverse
 rw [List.reverse_reverse] at this
 exact this
section
variable {prog:Program} {w:World} {A:Around} {E:Value→Shared→Prop} {R:Result→Shared→Prop}
theorem set_loop {S it l:Addr} {led:Bool} {its:List Value} {ns:List Int} (hh:A.handled=none) (hI:IntsAre its ns) (hSl:S≠l) (hSi:S≠it) (hli:l≠it) (hz:ns.length+1 < scanBound) :
  ∀ (k i:Nat) (s:Shared),i+k=ns.length→s.heap.IsListIter it l i→s.heap.IsList l its.toArray→SetAt prog w s.heap S led (dedup (ns.take i))→
   (∀ h' tk,(∀ b o,b≠S→b≠it→s.heap.get? b=some o→h'.get? b=some o)→SetAt prog w h' S led (dedup ns)→R (.ok (.ret .none)) { s with heap:=h',toks:=tk })→
   codeAny (model prog w) A (.builtin "set.update.loop" ⟨[.ref S,.ref it],[]⟩) R s:=by
 intro k
 induction k with
 | zero=>
  intro i s hk hit ht hS hR
  have hl:=hI.length
  refine codeAny_builtin F.entry_set_update_loop ?_
  rw [Around.under_plainId F.plain_set_update_loop _]
  show wpAny _ A.in1 (pyNext (.ref it) >>= _) _ _ s
  refine wpAny_bind (wpAny_pyNext_list_end (A:=A.in1) hh hit ht (by simp;omega) fun h1 he1=>?_)
  show wpAny _ A.in1 (ret Value.none) _ _ _
  refine wpAny_pure ?_
  rw [show ns.take i=ns from List.take_of_length_le (by omega)] at hS
  exact hR h1 s.toks (fun b o _ hb e=>he1 b o hb e) (hS.kept fun o e=>he1 S o hSi e)
 | succ k ih=>
  intro i s hk hit ht hS hR
  have hl:=hI.length
  have hlt:i < ns.length:=by omega
  have hgi:its.toArray[i]?=some its[i]:=by simp [hl,hlt]
  obtain ⟨t,et⟩:=IntsAre.int_at hI i its[i] (by simp [hl,hlt])
  have eg:ns.getD i 0=ns[i]:=by simp [hlt]
  rw [eg] at et
  refine codeAny_builtin F.entry_set_update_loop ?_
  rw [Around.under_plainId F.plain_set_update_loop _]
  show wpAny _ A.in1 (pyNext (.ref it) >>= _) _ _ s
  refine wpAny_bind (wpAny_pyNext_list_item hit ht hgi fun h1 hit1 hs1=>?_)
  have ht1:h1.IsList l its.toArray:=ht.extBut hs1.extBut hli
  have hS1:SetAt prog w h1 S led (dedup (ns.take i)):=hS.kept fun o e=>(hs1.2 S hSi).trans e
  rw [et]
  show wpAny _ A.in1 (holding [Value.int ns[i] t] (setAdd S (.int ns[i] t)) >>= _) _ _ _
  refine wpAny_bind (wpAny_holding ?_)
  unfold setAdd
  refine wpAny_holding ?_
  refine wpAny_bind ((intKind prog w).pyHash (k:=ns[i]) (intKind_is _ _ _ _) ?_)
  have hroom:(dedup (ns.take i)).length+1 < scanBound:=by
   have:=(KQ (ns.take i)).2.1
   rw [List.length_take] at this
   omega
  refine jeB (s:={ s with heap:=h1,toks:=s.toks+1 }) hS1 hroom fun b h2 hs2 hS2=>?_
  have e2:dedup (ns.take (i+1))=if ns[i]∈dedup (ns.take i) then dedup (ns.take i) else dedup (ns.take i)++[ns[i]]:=by
   rw [List.take_succ,List.getElem?_eq_getElem hlt]
   exact KP _ _
  rw [← e2] at hS2
  have hb2:∀ b o,b≠S→h1.get? b=some o→h2.get? b=some o:=fun b o hb e=>(hs2.2 b hb).trans e
  refine wpAny_pure ⟨plainId_quiet F.plain_set_update_loop _,ih (i+1) _ (by omega) ?_ ?_ hS2 fun h' tk hk' hS'=>hR h' tk (fun b o b1 b2 e=>hk' b o b1 b2 (hb2 b o b1 ((hs1.2 b b2).trans e))) hS'⟩
  ·obtain ⟨oi,z1,z2⟩:=hit1
   exact ⟨oi,hb2 it oi hSi.symm z1,z2⟩
  ·obtain ⟨oi,z1,z2⟩:=ht1
   exact ⟨oi,hb2 l oi hSl.symm z1,z2⟩
end
end L2
namespace PySem
section
variable {prog:Program} {w:World} {A:Around} {E:Value→Shared→Prop} {s:Shared}
theorem ZN (a:Value) {Q₁:Value→Shared→Prop}
  (h:Q₁ (.ref s.heap.objs.size) { s with heap:=s.heap.push { cls:=.type "set",dict:=none,data:=.set #[] 0 (.fresh 0 0 (L2.ledOf w)) } }) :
  codeAny (model prog w) A (.call (.builtin "set.__new__") ⟨[.type "set",a],[]⟩) (wants Q₁ E) s:=by
 refine codeAny_of_tree ?_
 show wpAny _ A.in1 (do checkBuiltinCall "set.__new__" ⟨[.type "set",a],[]⟩;again (.builtin "set.__new__" ⟨[.type "set",a],[]⟩)) _ _ s
 refine wpAny_bind (wpAny_of_eq (F.newCall_set_1 a) (wpAny_pure ⟨plainId_quiet F.plain_set_new _,codeAny_builtin F.entry_set_new ?_⟩))
 rw [Around.under_plainId F.plain_set_new _]
 unfold Builtin.«set.__new__» Builtin.Frozenset.newClass
 have hsub:=sub_set_self
 obtain ⟨hp,g,d,tk,os⟩:=s
 dsimp only
 wp_walk
 refine wpAny_askSetting (wpAny_pure ?_)
 dsimp only
 simp only [newObj]
 refine wpAny_bind (wpAny_alloc (wpAny_pure ?_))
 exact wpAny_pure h
set_option maxHeartbeats 3200000 in
theorem set_of_list {l:Addr} {its:List Value} {ns:List Int} {nl:Nat} {sl:Array (Option Value)} {dd:Option Addr} {Q:Value→Shared→Prop} (hh:A.handled=none) (hol:s.heap.get? l=some { cls:=.type "list",dict:=dd,data:=.seq its.toArray nl,slots:=sl }) (hi:PyProof.Rows.IntsAre its ns) (hb:ns.length+1 < scanBound)
  (h:∀ (h':Heap) (tk:Nat),L2.SetAt prog w h' s.heap.objs.size (L2.ledOf w) (L2.dedup ns)→(∀ b o,s.heap.get? b=some o→h'.get? b=some o)→Q (.ref s.heap.objs.size) { s with heap:=h',toks:=tk }) :
  wpAny (model prog w) A (call (.type "set") [.ref l]) Q E s:=by
 obtain ⟨c,tl,hmro⟩:=F.called_set.mro
 have hmade:=F.called_set.made
 have hsub:=F.called_set.sub
 refine wpAny_call (codeAny_of_tree ?_)
 show wpAny _ _ (callAny (.type "set") _) _ _ _
 refine wpAny_pure ⟨Code.quiet_builtin _ (by decide +kernel),codeAny_builtin F.entry_type_call ?_⟩
 rw [Around.under_plain (weight_type_call_type "set" [.ref l] []) rfl]
 have h1:=F.called_set.notType
 have h2:=F.called_set.canCreate
 have hct:=F.typeCall_set_1 (.ref l)
 repeat (any_goals (first | assumption | wp_step))
 refine codeAny_mono (ZN (.ref l) (E:=E) (Q₁:=fun obj s₁=>obj=.ref s.heap.objs.size∧s₁={ s with heap:=s.heap.push { cls:=.type "set",dict:=none,data:=.set #[] 0 (.fresh 0 0 (L2.ledOf w)) } }) ⟨rfl,rfl⟩) fun r s₁ hr=>?_
 cases r with
 | error e=>exact hr
 | ok fl=>
  cases fl with
  | ret obj=>
   obtain ⟨rfl,rfl⟩:=hr
   have hS:(s.heap.push { cls:=.type "set",dict:=none,data:=.set #[] 0 (.fresh 0 0 (L2.ledOf w)) }).get? s.heap.objs.size=some { cls:=.type "set",dict:=none,data:=.set #[] 0 (.fresh 0 0 (L2.ledOf w)) }:=Heap.get?_push_size _ rfl
   have hT:Shared.TypeIs { s with heap:=s.heap.push { cls:=.type "set",dict:=none,data:=.set #[] 0 (.fresh 0 0 (L2.ledOf w)) } } (.ref s.heap.objs.size) "set":=⟨_,hS,rfl⟩
   have hli:=F.called_set.init.lookup
   have hbi:=F.called_set.init.bind (.ref s.heap.objs.size)
   repeat (any_goals (first | assumption | wp_step))
   refine codeAny_mono (codeAny_call_builtin (R:=wants (fun r s₂=>r=.none∧∃ h' tk,s₂={ s with heap:=h',toks:=tk }∧L2.SetAt prog w h' s.heap.objs.size (L2.ledOf w) (L2.dedup ns)∧
     (∀ b o,s.heap.get? b=some o→h'.get? b=some o)) E) F.called_set.init.plain F.entry_set_init (check_set_init_1 hT ?_)) fun r₂ s₂ hr₂=>?_
   ·have hol':(s.heap.push { cls:=.type "set",dict:=none,data:=.set #[] 0 (.fresh 0 0 (L2.ledOf w)) }).get? l=some { cls:=.type "list",dict:=dd,data:=.seq its.toArray nl,slots:=sl }:=Heap.get?_push_of_some _ hol
    have hsls:=F.sub_list_set
    have hslf:=F.sub_list_frozenset
    have hne:(Value.type "list" == Value.type "dict")=false:=by decide
    have hl1:(s.heap.push { cls:=.type "set",dict:=none,data:=.set #[] 0 (.fresh 0 0 (L2.ledOf w)) }).IsList l its.toArray:=⟨_,hol',rfl,nl,rfl⟩
    unfold Builtin.«set.__init__» noKeywords Builtin.Frozenset.updateFrom
    generalize hPI:pyIter=PI
    wp_walk
    subst hPI
    refine wpAny_pyIter_list hl1 ?_
    refine wpAny_bind (wpAny_runValue ?_)
    have hlS:l < s.heap.objs.size:=Heap.lt_size hol
    have hh3:A.in1.in1.handled=none:=by simp [hh]
    have lt1:s.heap.objs.size < (s.heap.push { cls:=.type "set",dict:=none,data:=.set #[] 0 (.fresh 0 0 (L2.ledOf w)) }).objs.size:=Heap.lt_size hS
    refine L2.set_loop (its:=its) (ns:=ns) (led:=L2.ledOf w) hh3 hi (Nat.ne_of_gt hlS) (Nat.ne_of_lt lt1) (Nat.ne_of_lt (Nat.lt_trans hlS lt1)) hb ns.length 0 _ (by omega) ?_ ?_ ?_ ?_
    ·exact ⟨_,Heap.get?_push_size _ rfl,rfl,rfl⟩
    ·exact hl1.push _
    ·refine ⟨#[],0,.fresh 0 0 (L2.ledOf w),?_,fun e he=>by simp at he,⟨[],.nil,.nil⟩,by decide,rfl,⟨rfl,rfl,List.Pairwise.nil⟩⟩
     exact Heap.get?_push_of_some _ hS
    ·intro h' tk hk hS'
     show wpAny _ _ _ _ _ _
     refine wpAny_pure ?_
     show wpAny _ _ (ret Value.none) _ _ _
     refine wpAny_pure ⟨rfl,h',tk,rfl,hS',fun b o e=>?_⟩
     have hb0:=Heap.lt_size e
     exact hk b o (Nat.ne_of_lt hb0) (Nat.ne_of_lt (Nat.lt_trans hb0 lt1)) (Heap.get?_push_of_some _ (Heap.get?_push_of_some _ e))
   ·cases r₂ with
    | error e=>exact hr₂
    | ok fl₂=>
     cases fl₂ with
     | ret r=>
      obtain ⟨rfl,h',tk,rfl,hS',hk'⟩:=hr₂
      repeat (any_goals (first | assumption | wp_step))
      exact h _ _ hS' hk'
     | _=>exact hr₂.elim
  | _=>exact hr.elim
end
namespace F
theorem slot_seti_next:Slot "set_iterator" "__next__" "set_iterator.__next__":=
 .of (owner:="set_iterator") (n:="__next__") (by rw [typeLookup_type,builtinLookup_eq_fast];kernel_rfl) (by decide +kernel) (by decide +kernel) (by decide +kernel)
  (by first | exact .inl (by decide +kernel) | exact .inr (by decide +kernel)) (by rw [isSubtype_type];kernel_rfl)
theorem entry_seti_next:entryFor table "set_iterator.__next__" = some Builtin.«set_iterator.__next__»:=entryFor_of_tree (by kernel_rfl)
theorem args_seti_next (a:Value):argsOk "set_iterator.__next__" ⟨[a],[]⟩:=by unfold argsOk;kernel_rfl
theorem entry_set_iter':entryFor table "set.__iter__" = some Builtin.«frozenset.__iter__»:=entryFor_alias (id':="frozenset.__iter__") (by kernel_rfl) (by first | rfl | decide +kernel) (by decide +kernel) (by kernel_rfl)
end F
end PySem
namespace L2
open PySem PySem.Spec PyProof.Rows PySem.W
abbrev Jv (es:Array (Int×Value)) (ep:Nat) (t:SetTable):Obj:={ cls:=.type "set",dict:=none,data:=.set es ep t }
abbrev YC (first:Value) (i:Nat) (a:Addr) (n ep:Nat):Obj:={ cls:=.type "set_iterator",data:=.fields #[first,.int i 0,.ref a,.int n 0,.int ep 0] }
def KM (es:Array (Int×Value)) (t:SetTable):Bool:=!t.plain && decide (es.size > 1)
section
variable {prog:Program} {w:World} {A:Around} {E:Value→Shared→Prop} {s:Shared}
theorem jbe {src:Source} {n:Nat} {Q:Nat→Shared→Prop} (hn:n≠0) (h:∀ i d',i < n→Q i { s with drawn:=d' }):wpAny (model prog w) A (choose src n) Q E s:=by
 intro Γ p hΓ
 show Sem.wp _ _ (.choose src n .pure) _ _ _ _
 rw [Sem.wp_choose]
 exact ⟨hn,h _ _ (Nat.mod_lt _ (Nat.pos_of_ne_zero hn))⟩
theorem yW {α:Type}:∀ {l:List α} {i:Nat} {x:α},l[i]?=some x→(x :: l.eraseIdx i).Perm l
 | [],i,x,e=>by simp at e
 | a :: l,0,x,e=>by
  simp at e
  subst e
  exact List.Perm.refl _
 | a :: l,i+1,x,e=>by
  simp at e
  have ih:=yW (l:=l) (i:=i) (x:=x) e
  show (x :: a :: l.eraseIdx i).Perm (a :: l)
  exact (List.Perm.swap a x _).trans (ih.cons a)
theorem KN {α:Type}:∀ (n:Nat) (xs:List α) (s:Shared) (Q:List α→Shared→Prop),xs.length=n→(∀ ys d',ys.Perm xs→Q ys { s with drawn:=d' })→wpAny (model prog w) A (drawOrder n xs) Q E s
 | 0,xs,s,Q,hl,h=>by
  have:xs=[]:=List.length_eq_zero_iff.mp hl
  subst this
  unfold drawOrder
  exact wpAny_pure (h [] s.drawn (List.Perm.refl _))
 | n+1,[],s,Q,hl,h=>by simp at hl
 | n+1,x :: xs,s,Q,hl,h=>by
  unfold drawOrder
  refine wpAny_bind (jbe (by simp) fun i d' hi=>?_)
  have hg:(x :: xs)[i]?=some (x :: xs)[i]:=List.getElem?_eq_getElem hi
  rw [hg]
  dsimp only
  refine wpAny_bind (KN n _ _ _ (by rw [List.length_eraseIdx,if_pos hi];omega) fun ys d2 hp=>?_)
  exact wpAny_pure (h _ d2 ((hp.cons _).trans (yW hg)))
theorem jcj {α:Type} (next:Nat→Nat) (xs:Array α):(pickOrder next xs).toList.Perm xs.toList:=by
 have key:∀ (f k:Nat) (left:List α) (out:Array α),left.length=f→(pickOrder.go next f k left out).toList.Perm (out.toList++left):=by
  intro f
  induction f with
  | zero=>
   intro k left out h
   have:left=[]:=List.length_eq_zero_iff.mp h
   subst this
   unfold pickOrder.go
   rw [List.append_nil]
  | succ f ih=>
   intro k left out h
   unfold pickOrder.go
   have hm:next k % left.length < left.length:=Nat.mod_lt _ (by omega)
   have hg:left[next k % left.length]?=some (left[next k % left.length]'hm):=List.getElem?_eq_getElem hm
   rw [hg]
   dsimp only
   refine (ih (k+1) _ _ (by rw [List.length_eraseIdx,if_pos hm];omega)).trans ?_
   rw [Array.toList_push,List.append_assoc]
   exact (yW hg).append_left _
 have:=key xs.size 0 xs.toList #[] (by simp)
 simpa [pickOrder] using this
theorem yF {I a:Addr} {first:Value} {i:Nat} {es:Array (Int×Value)} {ep:Nat} {t:SetTable} {Q:Option Value→Shared→Prop} (hI:s.heap.get? I=some (YC first i a es.size ep)) (ha:s.heap.get? a=some (Jv es ep t)) (hf:t.fits es.size=true)
  (h:wpAny (model prog w) A.in1 (if let .int slot _:=first then
   (do match ← setNext a slot.toNat i ep with
    | some (x,next)=>
     setField (.ref I) 0 (rawInt next)
     setField (.ref I) 1 (rawInt ((i:Int)+1))
     ret x
    | none=>setField (.ref I) 2 .none;raiseNew (← newExc (.type "StopIteration") []):Sem Fin)
   else (do
    let some places ← seqItems? first | unsupported "internal:set_iterator"
    match places[i]? with
    | some (.int place _)=>
     let x ← setNextDrawn a place.toNat ep
     setField (.ref I) 1 (rawInt ((i:Int)+1))
     ret x
    | some _=>unsupported "internal:set_iterator"
    | none=>setField (.ref I) 0 (rawInt 0);setField (.ref I) 2 .none;raiseNew (← newExc (.type "StopIteration") []):Sem Fin))
   (fun fin s'=>∃ v,fin=.done (.ret v)∧Q (some v) s') (fun e s'=>∃ c o,e=.ref c∧s'.heap.get? c=some o∧o.cls=.type "StopIteration"∧Q none s') s):wpAny (model prog w) A (pyNext (.ref I)) Q E s:=by
 have hT:s.TypeIs (.ref I) "set_iterator":=⟨_,hI,rfl⟩
 unfold pyNext
 refine wpAny_bind (wpAny_attempt (wpAny_callSpecial?_slot (name:=Str.ofString "__next__") hT F.slot_seti_next
  (wpAny_call_entry F.slot_seti_next hT F.entry_seti_next ?_ (F.args_seti_next _))))
 unfold Builtin.«set_iterator.__next__»
 refine wpAny_bind (wpAny_pure (wpAny_bind (wpAny_fieldsOf hI rfl ?_)))
 dsimp only
 refine wpAny_bind ?_
 unfold setEntries
 refine wpAny_bind (wpAny_setState_of ha rfl hf (wpAny_pure ?_))
 rw [if_neg (by simp)]
 simp only [Int.toNat_natCast]
 refine wpAny_mono h (fun fin s' x=>?_) fun e s' x=>?_
 ·obtain ⟨v,rfl,q⟩:=x
  exact ⟨v,rfl,wpAny_pure q⟩
 ·obtain ⟨c,o,rfl,e1,e2,q⟩:=x
  refine wpAny_bind (wpAny_isInstance (T:="StopIteration") ⟨o,e1,e2⟩ isSubtype_stop ?_)
  rw [if_pos rfl]
  exact wpAny_pure q
def ItSt (w:World) (h:Heap) (I a:Addr) (es:Array (Int×Value)) (ep:Nat) (t:SetTable) (vals:List Value) (i:Nat):Prop:=h.get? a=some (Jv es ep t)∧
 ((w.params.followText "set-order" = true∧h.get? I=some (YC (.int 0 0) i a es.size ep)∧vals=(pickOrder (w.params.setOrder a ep) es).toList.map (·.2))∨
   (w.params.followText "set-order" = false∧∃ (T:Addr) (ps:List Nat),h.get? I=some (YC (.ref T) i a es.size ep)∧h.get? T=some { cls:=.type "tuple",data:=.seq (ps.map fun (p:Nat)=>rawInt p).toArray }∧T≠I∧(∀ p∈ps,p < es.size)∧vals=ps.map fun p=>(es.getD p (0,.none)).2)∨
   (w.params.followText "set-order" = false∧KM es t=false∧∃ slot:Nat,h.get? I=some (YC (.int slot 0) i a es.size ep)∧SetTable.below t.place slot=i∧vals=es.toList.map (·.2)))
theorem YX {I:Addr} {o:Obj} {vs:Array Value} {k:Nat} {x:Value} {Q:Option Value→Shared→Prop} (hh:A.handled=none) (hI:s.heap.get? I=some o) (hd:o.data=.fields vs) (hk:k < vs.size) (h:∀ h',(∀ b u,b≠I→s.heap.get? b=some u→h'.get? b=some u)→Q none { s with heap:=h' }) :
  wpAny (model prog w) A.in1 (do setField (.ref I) k x;raiseNew (← newExc (.type "StopIteration") []):Sem Fin) (fun fin s'=>∃ v,fin=.done (.ret v)∧Q (some v) s') (fun e s'=>∃ c o,e=.ref c∧s'.heap.get? c=some o∧o.cls=.type "StopIteration"∧Q none s') s:=by
 refine wpAny_bind (wpAny_setField hI hd hk ?_)
 refine wpAny_bind ?_
 simp only [newExc,newTuple]
 refine wpAny_bind (wpAny_newObj_type ?_ (by size_fits))
 refine wpAny_bind (m:=firstArgMember _ _) (wpAny_of_eq (a:=Value.none) (by first | rfl | (simp only [firstArgMember];rfl)) ?_)
 refine wpAny_newObj_type ?_ (by size_fits)
 simp only [raiseNew]
 refine wpAny_bind (wpAny_handled ?_)
 rw [show A.in1.handled=none from hh]
 refine wpAny_bind (wpAny_pure (wpAny_throw ?_))
 refine ⟨_,_,rfl,Heap.get?_push_size _ rfl,rfl,h _ fun b u hb e=>?_⟩
 exact Heap.get?_push_of_some _ (Heap.get?_push_of_some _ ((Heap.get?_update_ne _ _ _ _ hb).trans e))
theorem yg {Q:Bool→Shared→Prop} (h:Q (w.params.followText "set-order") s):wpAny (model prog w) A setsByText Q E s:=by
 unfold setsByText
 exact wpAny_bind (wpAny_askSetting (wpAny_pure h))
theorem Ju {I:Addr} {first:Value} {i:Nat} {a:Addr} {n ep k:Nat} {x:Value} {Q:Unit→Shared→Prop} (hI:s.heap.get? I=some (YC first i a n ep)) (hk:k < 5)
  (h:∀ h',h'.get? I=some { cls:=.type "set_iterator",data:=.fields (#[first,.int i 0,.ref a,.int n 0,.int ep 0].setIfInBounds k x) }→(∀ b u,b≠I→s.heap.get? b=some u→h'.get? b=some u)→Q () { s with heap:=h' }):wpAny (model prog w) A (setField (.ref I) k x) Q E s:=
 wpAny_setField_rec hI hk fun h' e sb=>h h' e fun b u hb e=>(sb.2 b hb).trans e
theorem jcv {I a:Addr} {es:Array (Int×Value)} {ep:Nat} {t:SetTable} {vals:List Value} {i:Nat} {Q:Option Value→Shared→Prop} (hf:t.fits es.size=true) (ht:TabOk (ledOf w) t) (hIa:a≠I) (hst:ItSt w s.heap I a es ep t vals i) (hi:i < vals.length)
  (h:∀ h',ItSt w h' I a es ep t vals (i+1)→(∀ b u,b≠I→s.heap.get? b=some u→h'.get? b=some u)→Q (some (vals.getD i Value.none)) { s with heap:=h' }):wpAny (model prog w) A (pyNext (.ref I)) Q E s:=by
 obtain ⟨ha,hm⟩:=hst
 rcases hm with ⟨hb,hI,hv⟩ | ⟨hb,T,ps,hI,hT,hTI,hps,hv⟩ | ⟨hb,hd,slot,hI,hs,hv⟩
 ·refine yF hI ha hf ?_
  show wpAny _ _ (setNext a (Int.toNat 0) i ep >>= _) _ _ _
  refine wpAny_bind ?_
  unfold setNext
  refine wpAny_bind (wpAny_setState_of ha rfl hf (wpAny_bind (yg ?_)))
  dsimp only
  rw [hb,if_pos rfl,if_neg (by simp)]
  refine wpAny_bind ?_
  unfold setWalk
  refine wpAny_bind (wpAny_setState_of ha rfl hf (wpAny_bind (yg ?_)))
  rw [hb,if_pos rfl]
  refine wpAny_bind (wpAny_askSetting (wpAny_pure (wpAny_pure ?_)))
  have hg:(pickOrder (w.params.setOrder a ep) es)[i]?=some ((pickOrder (w.params.setOrder a ep) es)[i]'(by rw [hv] at hi;simpa using hi)):=Array.getElem?_eq_getElem _
  have hvi:vals.getD i Value.none=((pickOrder (w.params.setOrder a ep) es)[i]'(by rw [hv] at hi;simpa using hi)).2:=by
   subst hv
   have hi':i < (pickOrder (w.params.setOrder a ep) es).size:=by simpa using hi
   simp [hi']
  show wpAny _ _ (match ((pickOrder (w.params.setOrder a ep) es)[i]?).map fun e=>(e.2,Int.toNat 0) with | some (x,next)=>_ | none=>_) _ _ _
  rw [hg]
  dsimp only [Option.map]
  refine wpAny_bind (Ju hI (by decide) fun h1 e1 k1=>?_)
  refine wpAny_bind (Ju (s:={ s with heap:=h1 }) (first:=.int 0 0) e1 (by decide) fun h2 e2 k2=>wpAny_pure ⟨_,rfl,?_⟩)
  rw [← hvi]
  refine h h2 ⟨k2 _ _ hIa (k1 _ _ hIa ha),.inl ⟨hb,?_,hv⟩⟩ fun b u hb e=>k2 _ _ hb (k1 _ _ hb e)
  exact e2
 ·refine yF hI ha hf ?_
  show wpAny _ _ (seqItems? (.ref T) >>= _) _ _ _
  refine wpAny_bind (wpAny_seqItems hT rfl ?_)
  have hi':i < ps.length:=by rw [hv,List.length_map] at hi;exact hi
  have hg:(List.map (fun (p:Nat)=>rawInt p) ps).toArray[i]?=some (rawInt ps[i]):=by simp [hi']
  dsimp only
  rw [hg]
  have hpl:=hps _ (List.getElem_mem hi')
  show wpAny _ _ (setNextDrawn a (Int.toNat (ps[i]:Nat)) ep >>= _) _ _ _
  rw [Int.toNat_natCast]
  refine wpAny_bind ?_
  unfold setNextDrawn
  refine wpAny_bind (wpAny_setState_of ha rfl hf ?_)
  dsimp only
  rw [if_neg (by simp),Array.getElem?_eq_getElem hpl]
  refine wpAny_pure ?_
  refine wpAny_bind (Ju hI (by decide) fun h1 e1 k1=>wpAny_pure ⟨_,rfl,?_⟩)
  have hvi:vals.getD i Value.none=es[ps[i]].2:=by
   subst hv
   simp [hi',hpl]
  show Q (some es[ps[i]].2) _
  rw [← hvi]
  refine h h1 ⟨k1 _ _ hIa ha,.inr (.inl ⟨hb,T,ps,?_,k1 _ _ hTI hT,hTI,hps,hv⟩)⟩ k1
  exact e1
 ·refine yF hI ha hf ?_
  show wpAny _ _ (setNext a (Int.toNat (slot:Nat)) i ep >>= _) _ _ _
  rw [Int.toNat_natCast]
  refine wpAny_bind ?_
  unfold setNext
  refine wpAny_bind (wpAny_setState_of ha rfl hf (wpAny_bind (yg ?_)))
  dsimp only
  rw [hb,if_neg Bool.false_ne_true]
  have hi':i < es.size:=by rw [hv,List.length_map,Array.length_toList] at hi;exact hi
  have hled:t.led=true:=by rw [ht.led_];unfold ledOf;rw [hb];rfl
  have hpz:t.place.size=es.size:=by
   simp only [SetTable.fits,Bool.and_eq_true,beq_iff_eq] at hf
   exact hf.1
  show wpAny _ _ (if KM es t=true then _ else _) _ _ _
  rw [hd,if_neg Bool.false_ne_true]
  refine wpAny_bind ?_
  show wpAny _ _ (if (!t.led && !es.isEmpty)=true then _ else _) _ _ _
  rw [hled,if_neg (by simp)]
  refine wpAny_pure (wpAny_pure ?_)
  rw [hs,Array.getElem?_eq_getElem hi',Array.getElem?_eq_getElem (by omega)]
  dsimp only
  refine wpAny_bind (Ju hI (by decide) fun h1 e1 k1=>?_)
  refine wpAny_bind (Ju (s:={ s with heap:=h1 }) (first:=.int ((t.place[i]'(by omega)+1:Nat):Int) 0) e1 (by decide) fun h2 e2 k2=>wpAny_pure ⟨_,rfl,?_⟩)
  have hvi:vals.getD i Value.none=es[i].2:=by
   subst hv
   simp [hi']
  rw [← hvi]
  refine h h2 ⟨k2 _ _ hIa (k1 _ _ hIa ha),.inr (.inr ⟨hb,hd,t.place[i]'(by omega)+1,?_,?_,hv⟩)⟩ fun b u hb e=>k2 _ _ hb (k1 _ _ hb e)
  ·exact e2
  ·obtain ⟨b1,b2,b3⟩:=KY ht.up (t.place[i]'(by omega)+1)
   have eg:t.place.getD i 0=t.place[i]'(by omega):=by
    have hlt:i < t.place.size:=by omega
    simp [Array.getD,hlt]
   have h1:i < SetTable.below t.place (t.place[i]'(by omega)+1):=by
    rcases Nat.lt_or_ge i (SetTable.below t.place (t.place[i]'(by omega)+1)) with z | z
    ·exact z
    ·have:=b3 i z (by omega)
     omega
   rcases Nat.lt_or_ge (i+1) (SetTable.below t.place (t.place[i]'(by omega)+1)) with z | z
   ·have h2:=b2 (i+1) z
    have h3:=jbo ht.up (i:=i) (j:=i+1) (by omega) (by omega)
    omega
   ·omega
theorem jdM {I a:Addr} {es:Array (Int×Value)} {ep:Nat} {t:SetTable} {vals:List Value} {i:Nat} {Q:Option Value→Shared→Prop} (hh:A.handled=none) (hf:t.fits es.size=true) (ht:TabOk (ledOf w) t) (hIa:a≠I) (hst:ItSt w s.heap I a es ep t vals i) (hi:i=vals.length)
  (h:∀ h',(∀ b u,b≠I→s.heap.get? b=some u→h'.get? b=some u)→Q none { s with heap:=h' }):wpAny (model prog w) A (pyNext (.ref I)) Q E s:=by
 obtain ⟨ha,hm⟩:=hst
 rcases hm with ⟨hb,hI,hv⟩ | ⟨hb,T,ps,hI,hT,hTI,hps,hv⟩ | ⟨hb,hd,slot,hI,hs,hv⟩
 ·refine yF hI ha hf ?_
  show wpAny _ _ (setNext a (Int.toNat 0) i ep >>= _) _ _ _
  refine wpAny_bind ?_
  unfold setNext
  refine wpAny_bind (wpAny_setState_of ha rfl hf (wpAny_bind (yg ?_)))
  dsimp only
  rw [hb,if_pos rfl,if_neg (by simp)]
  refine wpAny_bind ?_
  unfold setWalk
  refine wpAny_bind (wpAny_setState_of ha rfl hf (wpAny_bind (yg ?_)))
  rw [hb,if_pos rfl]
  refine wpAny_bind (wpAny_askSetting (wpAny_pure (wpAny_pure ?_)))
  have hg:(pickOrder (w.params.setOrder a ep) es)[i]?=none:=by
   rw [hi,hv]
   simp
  show wpAny _ _ (match ((pickOrder (w.params.setOrder a ep) es)[i]?).map fun e=>(e.2,Int.toNat 0) with | some (x,next)=>_ | none=>_) _ _ _
  rw [hg]
  exact YX hh hI rfl (by simp) h
 ·refine yF hI ha hf ?_
  show wpAny _ _ (seqItems? (.ref T) >>= _) _ _ _
  refine wpAny_bind (wpAny_seqItems hT rfl ?_)
  have hg:(List.map (fun (p:Nat)=>rawInt p) ps).toArray[i]?=none:=by
   rw [hi,hv]
   simp
  dsimp only
  rw [hg]
  dsimp only
  refine wpAny_bind (Ju hI (by decide) fun h1 e1 k1=>?_)
  exact YX (s:={ s with heap:=h1 }) hh e1 rfl (by simp) fun h' k=>h h' fun b u hb e=>k _ _ hb (k1 _ _ hb e)
 ·refine yF hI ha hf ?_
  show wpAny _ _ (setNext a (Int.toNat (slot:Nat)) i ep >>= _) _ _ _
  rw [Int.toNat_natCast]
  refine wpAny_bind ?_
  unfold setNext
  refine wpAny_bind (wpAny_setState_of ha rfl hf (wpAny_bind (yg ?_)))
  dsimp only
  rw [hb,if_neg Bool.false_ne_true]
  have hled:t.led=true:=by rw [ht.led_];unfold ledOf;rw [hb];rfl
  show wpAny _ _ (if KM es t=true then _ else _) _ _ _
  rw [hd,if_neg Bool.false_ne_true]
  refine wpAny_bind ?_
  show wpAny _ _ (if (!t.led && !es.isEmpty)=true then _ else _) _ _ _
  rw [hled,if_neg (by simp)]
  refine wpAny_pure (wpAny_pure ?_)
  have hg:es[i]?=none:=by
   rw [hi,hv]
   simp
  rw [hs,hg]
  dsimp only
  exact YX hh hI rfl (by simp) h
end
open PySem PySem.Spec PyProof.Rows PySem.W
section
variable {prog:Program} {w:World} {A:Around} {E:Value→Shared→Prop} {s:Shared}
theorem ItSt.kept {h h':Heap} {I a:Addr} {es:Array (Int×Value)} {ep:Nat} {t:SetTable} {vals:List Value} {i:Nat} (x:ItSt w h I a es ep t vals i) (k:∀ b o,h.get? b=some o→o.cls≠.type "list"→h'.get? b=some o):ItSt w h' I a es ep t vals i:=by
 obtain ⟨ha,hm⟩:=x
 refine ⟨k _ _ ha (by simp),?_⟩
 rcases hm with ⟨hb,hI,hv⟩ | ⟨hb,T,ps,hI,hT,r⟩ | ⟨hb,hd,slot,hI,r⟩
 ·exact .inl ⟨hb,k _ _ hI (by simp),hv⟩
 ·exact .inr (.inl ⟨hb,T,ps,k _ _ hI (by simp),k _ _ hT (by simp),r⟩)
 ·exact .inr (.inr ⟨hb,hd,slot,k _ _ hI (by simp),r⟩)
theorem jdX {a:Addr} {es:Array (Int×Value)} {ep:Nat} {t:SetTable} {Q:Value→Shared→Prop} (ha:s.heap.get? a=some (Jv es ep t)) (hf:t.fits es.size=true) (ht:TabOk (ledOf w) t) (hz:es.size≤1000)
  (h:∀ I h' d' vals,s.heap.objs.size≤I→ItSt w h' I a es ep t vals 0→vals.Perm (es.toList.map (·.2))→(∀ b o,s.heap.get? b=some o→h'.get? b=some o)→Q (.ref I) { s with heap:=h',drawn:=d' }):wpAny (model prog w) A (pyIter (.ref a)) Q E s:=by
 have hT:s.TypeIs (.ref a) "set":=⟨_,ha,rfl⟩
 refine wpAny_pyIter_slot hT PySem.F.slot_set_iter (wpAny_call_entry PySem.F.slot_set_iter hT PySem.F.entry_set_iter' ?_ (PySem.F.args_set_iter_1 _))
 unfold Builtin.«frozenset.__iter__»
 refine wpAny_bind (wpAny_pure (wpAny_bind ?_))
 unfold Builtin.Frozenset.sizeOf setEntries
 refine wpAny_bind (wpAny_bind (wpAny_setState_of ha rfl hf (wpAny_pure (wpAny_pure ?_))))
 refine wpAny_bind ?_
 unfold setDrawn
 refine wpAny_bind (wpAny_setState_of ha rfl hf (wpAny_bind (yg (wpAny_pure ?_))))
 dsimp only
 show wpAny _ _ (if (!(w.params.followText "set-order") && KM es t)=true then _ else _) _ _ _
 have fin:∀ (first:Value) (s1:Shared) (vals:List Value),s1.heap.get? a=some (Jv es ep t)→vals.Perm (es.toList.map (·.2))→(∀ b o,s.heap.get? b=some o→s1.heap.get? b=some o)→s1.gens=s.gens→s1.toks=s.toks→s1.os=s.os→s.heap.objs.size≤s1.heap.objs.size→
   (∀ h' I,(∀ b o,s1.heap.get? b=some o→h'.get? b=some o)→s1.heap.objs.size=I→h'.get? I=some (YC first 0 a es.size ep)→ItSt w h' I a es ep t vals 0)→
   wpAny (model prog w) A.in1 (do let e ← setEpoch a;let i ← newFields "set_iterator" [first,rawInt 0,.ref a,rawInt es.size,rawInt e];ret i) (fun fin s'=>∃ v,fin=Fin.done (Flow.ret v)∧∃ T' r,s'.TypeIs v T'∧typeLookup (.type T') "__next__" = pure (some r)∧Q v s') E s1:=by
  intro first s1 vals h1 hp hk eg et eo hle hst
  refine wpAny_bind (wpAny_setEpoch_of h1 rfl hf ?_)
  refine wpAny_bind (wpAny_newObj_type (wpAny_pure ⟨_,rfl,"set_iterator",_,⟨_,Heap.get?_push_size _ rfl,rfl⟩,PySem.F.slot_seti_next.lookup,?_⟩))
  obtain ⟨hp1,g1,d1,t1,o1⟩:=s1
  dsimp only at eg et eo
  subst eg et eo
  exact h _ _ d1 vals hle (hst _ _ (fun b o e=>Heap.get?_push_of_some _ e) rfl (Heap.get?_push_size _ rfl)) hp fun b o e=>Heap.get?_push_of_some _ (hk b o e)
 cases hb:w.params.followText "set-order" with
 | true=>
  rw [if_neg (by simp)]
  refine wpAny_bind (wpAny_pure ?_)
  refine fin (rawInt 0) s ((pickOrder (w.params.setOrder a ep) es).toList.map (·.2)) ha ((jcj _ _).map _) (fun _ _ e=>e) rfl rfl rfl (Nat.le_refl _) fun h' I k _ hI=>?_
  exact ⟨k _ _ ha,.inl ⟨hb,hI,rfl⟩⟩
 | false=>
  cases hd:KM es t with
  | true=>
   rw [if_pos (by simp)]
   refine wpAny_bind (KN es.size (List.range es.size) s _ (by simp) fun ps d' hp=>?_)
   refine wpAny_bind (wpAny_newObj_type ?_ (by show (List.map _ ps).length≤_;rw [List.length_map,hp.length_eq,List.length_range];exact Nat.le_of_lt (jz hz)))
   have hps:∀ p∈ps,p < es.size:=fun p h=>List.mem_range.mp (hp.mem_iff.mp h)
   have hvp:(ps.map fun p=>(es.getD p (0,.none)).2).Perm (es.toList.map (·.2)):=by
    have h1:=hp.map fun p=>(es.getD p (0,.none)).2
    have e:((List.range es.size).map fun p=>(es.getD p (0,Value.none)).2)=es.toList.map (·.2):=by
     apply List.ext_getElem
     ·simp
     ·intro i h1 h2
      have hi:i < es.size:=by simpa using h1
      simp [hi]
    rw [e] at h1
    exact h1
   have lt:∀ o:Obj,s.heap.objs.size < (s.heap.push o).objs.size:=fun o=>by rw [size_push'];exact Nat.lt_succ_self _
   refine fin (.ref s.heap.objs.size) _ (ps.map fun p=>(es.getD p (0,.none)).2) (Heap.get?_push_of_some _ ha) hvp (fun b o e=>Heap.get?_push_of_some _ e) rfl rfl rfl (Nat.le_of_lt (lt _)) fun h' I k eI hI=>?_
   refine ⟨k _ _ (Heap.get?_push_of_some _ ha),.inr (.inl ⟨hb,s.heap.objs.size,ps,hI,k _ _ (Heap.get?_push_size _ rfl),?_,hps,rfl⟩)⟩
   rw [← eI]
   exact Nat.ne_of_lt (lt _)
  | false=>
   rw [if_neg (by simp)]
   refine wpAny_bind (wpAny_pure ?_)
   refine fin (rawInt 0) s (es.toList.map (·.2)) ha (List.Perm.refl _) (fun _ _ e=>e) rfl rfl rfl (Nat.le_refl _) fun h' I k _ hI=>?_
   refine ⟨k _ _ ha,.inr (.inr ⟨hb,hd,0,hI,?_,rfl⟩)⟩
   obtain ⟨b1,b2,b3⟩:=KY ht.up 0
   rcases Nat.eq_zero_or_pos (SetTable.below t.place 0) with z | z
   ·exact z
   ·exact absurd (b2 0 z) (Nat.not_lt_zero _)
theorem jaf {S I a:Addr} {es:Array (Int×Value)} {ep:Nat} {t:SetTable} {vals:List Value} {res:Value} {R:Result→Shared→Prop} (hh:A.handled=none) (hf:t.fits es.size=true) (ht:TabOk (ledOf w) t) (hIa:a≠I) (hSI:S≠I) (hz:vals.length≤1000) :
  ∀ (k i:Nat) (s:Shared) (c:Nat),i+k=vals.length→ItSt w s.heap I a es ep t vals i→s.heap.get? S=some { cls:=.type "list",dict:=none,data:=.seq (vals.take i).toArray c,slots:=#[] }→
   (∀ h' c',h'.get? S=some { cls:=.type "list",dict:=none,data:=.seq vals.toArray c',slots:=#[] }→(∀ b o,b≠S→b≠I→s.heap.get? b=some o→h'.get? b=some o)→R (.ok (.ret res)) { s with heap:=h' })→
   codeAny (model prog w) A (.builtin "list.extend.loop" ⟨[.ref S,.ref I,res],[]⟩) R s:=by
 intro k
 induction k with
 | zero=>
  intro i s c hk hst hS hR
  have hi:i=vals.length:=by omega
  refine codeAny_builtin PySem.F.entry_extend_loop ?_
  rw [Around.under_plainId PySem.F.plain_extend_loop _]
  show wpAny _ A.in1 (pyNext (.ref I) >>= _) _ _ s
  refine wpAny_bind (jdM (A:=A.in1) hh hf ht hIa hst hi fun h1 k1=>?_)
  refine wpAny_pure ?_
  rw [hi,List.take_length] at hS
  exact hR h1 c (k1 _ _ hSI hS) fun b o _ hb e=>k1 _ _ hb e
 | succ k ih=>
  intro i s c hk hst hS hR
  have hi:i < vals.length:=by omega
  refine codeAny_builtin PySem.F.entry_extend_loop ?_
  rw [Around.under_plainId PySem.F.plain_extend_loop _]
  show wpAny _ A.in1 (pyNext (.ref I) >>= _) _ _ s
  refine wpAny_bind (jcv (A:=A.in1) hf ht hIa hst hi fun h1 st1 k1=>?_)
  dsimp only
  have hS1:=k1 _ _ hSI hS
  refine wpAny_bind ?_
  show wpAny _ _ (updateSeq S (·.push (vals.getD i Value.none))) _ _ _
  refine wpAny_updateSeq hS1 rfl ?_ (by simp only [List.size_toArray,List.length_take];exact Nat.le_of_lt (jz (by omega))) (by simp only [Array.size_push,List.size_toArray,List.length_take];exact Nat.le_succ_of_le (Nat.le_of_lt (jz (by omega))))
  refine wpAny_pure ⟨plainId_quiet PySem.F.plain_extend_loop _,?_⟩
  obtain ⟨c2,hS2⟩:∃ c2,(h1.update S (Obj.mapSeq (·.push (vals.getD i Value.none)))).get? S=some (seqObj "list" ((vals.take i).toArray.push (vals.getD i Value.none)) c2):=⟨_,get?_update_seq hS1 _⟩
  have oth:∀ b o,b≠S→h1.get? b=some o→(h1.update S (Obj.mapSeq (·.push (vals.getD i Value.none)))).get? b=some o:=fun b o hb e=>(Heap.get?_update_other _ _ (Ne.symm hb)).trans e
  have et:((vals.take i).toArray.push (vals.getD i Value.none))=(vals.take (i+1)).toArray:=by
   rw [List.take_succ,List.getElem?_eq_getElem hi]
   simp [hi]
  rw [et] at hS2
  refine ih (i+1) _ c2 (by omega) (st1.kept fun b o e hc=>oth b o (fun z=>?_) e) hS2 fun h' c' e1 e2=>hR h' c' e1 fun b o hb hb2 e=>e2 b o hb hb2 (oth b o hb (k1 _ _ hb2 e))
  rw [z,hS1] at e
  cases e
  exact hc rfl
end
open PySem PySem.Spec PySem.Calls PyProof.Rows PySem.W
section
variable {prog:Program} {w:World} {A:Around} {E:Value→Shared→Prop} {s:Shared}
theorem jd0 {r:Addr} {Q:Bool→Shared→Prop} (hT:s.TypeIs (.ref r) "set") (h:Q false s):wpAny (model prog w) A (Builtin.List.listLengthHint (.ref r)) Q E s:=by
 unfold Builtin.List.listLengthHint
 refine wpAny_bind (wpAny_specialOf hT PySem.F.slot_set_len.lookup ?_)
 generalize hid:("set.__len__" : String)=id0
 wp_delta
 rw [show splitId id0=some ("set","__len__") from by subst hid;decide +kernel]
 subst hid
 refine wpAny_bind (wpAny_isInstance (T:="set") (b:=true) hT (by rw [isSubtype_type];kernel_rfl) ?_)
 refine wpAny_ite_split (fun hab=>absurd hab (by decide)) (fun _=>?_)
 refine wpAny_ite_split (fun _=>?_) (fun hab=>absurd (by decide +kernel) hab)
 exact wpAny_bind (wpAny_typeOf hT (wpAny_pure h))
theorem jap {a:Addr} {es:Array (Int×Value)} {ep:Nat} {t:SetTable} {R:List Value→Shared→Prop} (hh:A.handled=none) (ha:s.heap.get? a=some (Jv es ep t)) (hf:t.fits es.size=true) (ht:TabOk (ledOf w) t) (hz:es.size≤1000)
  (h:∀ h' d' vals,vals.Perm (es.toList.map (·.2))→(∀ b o,s.heap.get? b=some o→h'.get? b=some o)→R vals { s with heap:=h',drawn:=d' }):wpAny (model prog w) A (collect (.ref a)) R E s:=by
 have haS:a < s.heap.objs.size:=Heap.lt_size ha
 unfold collect
 refine wpAny_bind (wpAny_runValue (codeAny_builtin entry_proto_collect' ?_))
 rw [Around.under_plainId PySem.F.plain_proto_collect _]
 show wpAny _ A.in1 (newList [] >>= fun l=>again (.builtin "list.__iadd__" ⟨[l,.ref a],[]⟩)) _ _ s
 refine wpAny_bind (wpAny_newObj_type ?_)
 refine wpAny_pure ⟨plainId_quiet PySem.F.plain_list_iadd _,codeAny_builtin entry_list_iadd' ?_⟩
 rw [Around.under_plainId PySem.F.plain_list_iadd _]
 show wpAny _ A.in1 (Builtin.List.listExtendWith (.ref s.heap.objs.size) (.ref a) (.ref s.heap.objs.size)) _ _ _
 have hS:(s.heap.push { cls:=.type "list",data:=.seq ([]:List Value).toArray }).get? s.heap.objs.size=some { cls:=.type "list",data:=.seq #[] }:=Heap.get?_push_size _ rfl
 have ha1:(s.heap.push { cls:=.type "list",data:=.seq ([]:List Value).toArray }).get? a=some (Jv es ep t):=Heap.get?_push_of_some _ ha
 have old1:∀ b o,s.heap.get? b=some o→(s.heap.push { cls:=.type "list",data:=.seq ([]:List Value).toArray }).get? b=some o:=fun b o e=>Heap.get?_push_of_some _ e
 have sz1:s.heap.objs.size < (s.heap.push { cls:=.type "list",data:=.seq ([]:List Value).toArray }).objs.size:=Heap.lt_size hS
 generalize (s.heap.push { cls:=.type "list",data:=.seq ([]:List Value).toArray })=h1 at *
 unfold Builtin.List.listExtendWith
 refine wpAny_bind (wpAny_typeOf (T:="set") ⟨_,ha1,rfl⟩ ?_)
 have e1:Builtin.List.listSameRef (.ref s.heap.objs.size) (.ref a)=false:=by
  have:s.heap.objs.size≠a:=Nat.ne_of_gt haS
  simp [Builtin.List.listSameRef,this]
 rw [if_neg (by rw [e1];decide)]
 refine wpAny_bind (jdX (A:=A.in1) (s:={ s with heap:=h1 }) ha1 hf ht hz fun I h2 d2 vals hI st hp old2=>?_)
 have ha2:=old2 _ _ ha1
 have hS2:=old2 _ _ hS
 have hSI:s.heap.objs.size≠I:=Nat.ne_of_lt (Nat.lt_of_lt_of_le sz1 hI)
 have hIa:a≠I:=Nat.ne_of_lt (Nat.lt_of_lt_of_le (Nat.lt_trans haS sz1) hI)
 have hvz:vals.length≤1000:=by
  rw [hp.length_eq,List.length_map,Array.length_toList]
  exact hz
 refine wpAny_bind (wpAny_holding (jd0 ⟨_,ha2,rfl⟩ ?_))
 refine wpAny_ite_split (fun _=>?_) (fun _=>?_)
 ·refine wpAny_bind (wpAny_rule (wpAny_bind ?_))
  show wpAny _ _ (updateSeq s.heap.objs.size (·.push .none) >>= fun _=>updateSeq s.heap.objs.size (·.pop)) _ _ _
  refine wpAny_bind (wpAny_updateSeq hS2 rfl ?_ (by decide) (by show 1≤sizeLine+1;omega))
  obtain ⟨c3,hS3⟩:∃ c3,(h2.update s.heap.objs.size (Obj.mapSeq (·.push Value.none))).get? s.heap.objs.size=some (seqObj "list" (#[].push Value.none) c3):=⟨_,get?_update_seq hS2 _⟩
  refine wpAny_updateSeq hS3 rfl ?_ (by show 1≤sizeLine;rw [sizeLine_eq];decide) (by show 0≤sizeLine+1;omega)
  obtain ⟨c4,hS4⟩:∃ c4,((h2.update s.heap.objs.size (Obj.mapSeq (·.push Value.none))).update s.heap.objs.size (Obj.mapSeq (·.pop))).get? s.heap.objs.size=some (seqObj "list" ((#[].push Value.none).pop) c4):=⟨_,get?_update_seq hS3 _⟩
  have oth:∀ b o,b≠s.heap.objs.size→h2.get? b=some o→((h2.update s.heap.objs.size (Obj.mapSeq (·.push Value.none))).update s.heap.objs.size (Obj.mapSeq (·.pop))).get? b=some o:=fun b o hb e=>(Heap.get?_update_other _ _ (Ne.symm hb)).trans ((Heap.get?_update_other _ _ (Ne.symm hb)).trans e)
  refine wpAny_pure ⟨plainId_quiet PySem.F.plain_extend_loop _,jaf hh hf ht hIa hSI hvz vals.length 0 _ c4 (by omega) (st.kept fun b o e hc=>oth b o (fun z=>?_) e) hS4 fun h' c' e k=>?_⟩
  ·rw [z,hS2] at e
   cases e
   exact hc rfl
  ·show wpAny _ A (load s.heap.objs.size >>= _) _ _ _
   refine wpAny_bind (wpAny_load e (wpAny_pure ?_))
   refine h h' d2 vals hp fun b o q=>?_
   have hb:=Heap.lt_size q
   exact k b o (Nat.ne_of_lt hb) (Nat.ne_of_lt (Nat.lt_of_lt_of_le (Nat.lt_trans hb sz1) hI)) (oth b o (Nat.ne_of_lt hb) (old2 _ _ (old1 _ _ q)))
 ·refine wpAny_pure ⟨plainId_quiet PySem.F.plain_extend_loop _,jaf hh hf ht hIa hSI hvz vals.length 0 _ _ (by omega) st hS2 fun h' c' e k=>?_⟩
  show wpAny _ A (load s.heap.objs.size >>= _) _ _ _
  refine wpAny_bind (wpAny_load e (wpAny_pure ?_))
  refine h h' d2 vals hp fun b o q=>?_
  have hb:=Heap.lt_size q
  exact k b o (Nat.ne_of_lt hb) (Nat.ne_of_lt (Nat.lt_of_lt_of_le (Nat.lt_trans hb sz1) hI)) (old2 _ _ (old1 _ _ q))
end
abbrev jfX (X:Cx) (v:Addr) (σ:List Int):HO:=.ext fun h=>SetAt X.prog X.w h v (ledOf X.w) σ
theorem Inv.drawn {X:Cx} {pins:List (Addr×Obj)} {σ:St} {H:Hp} {s:Shared} {h':Heap} {d':Drawn} (I:Inv X pins σ H s) (k:∀ b u,s.heap.get? b=some u→h'.get? b=some u):Inv X pins σ H { s with heap:=h',drawn:=d' }:=
 I.call (g':=s.gens) (t':=s.toks) (d':=d') (ch:=[]) (Un.kept k) (I.hok.kept k) I.bare fun _ z=>nomatch z
theorem Ye {X:Cx} (hc:X.calm=true):q5 X (.type "set") (fun xs H Q=>∃ (p:Addr) (ns:List Int),xs=[.ref p]∧SqL X.K H p (ns.map V.int)∧ns.length≤1000∧∀ v,H v=none→Q (.ref v) (upd H v (jfX X v (dedup ns)))):=by
 intro pins s σ H xs us Q I r h
 obtain ⟨p,ns,rfl,hq,hz,q⟩:=h
 obtain ⟨u,rfl,rx⟩:=yk r
 cases rx
 obtain ⟨its,rv,⟨⟨c1,d1,t1,l1⟩,n1,o1,z1,z2,z3⟩,hz1⟩:=I.list hq
 simp only at z1 z2 z3
 subst z1 z2 z3
 refine PySem.set_of_list (I.ok.hd hc) o1 (Z9 rv) (by unfold scanBound;omega) fun h' tk hS hk=>?_
 have hS':=hS
 obtain ⟨es,ep,t,e,_⟩:=hS'
 refine ⟨.ref s.heap.objs.size,_,I.laid (t':=tk) hk (Nat.le_refl _) (show ObjOk X.prog X.w _ _ _ (jfX X s.heap.objs.size (dedup ns)) from ⟨hS,⟨_,e⟩,fun h1 h2 x k=>x.kept k⟩),rfl,q _ (I.hok.fresh (Nat.le_refl _))⟩
theorem JY {X:Cx} (hc:X.calm=true):q5 X (.builtin "sorted") (fun xs H Q=>∃ (p:Addr) (τ:List Int),xs=[.ref p]∧H p=some (jfX X p τ)∧τ.length < 64∧∀ (l:Addr) (ns:List Int),H l=none→ns.Perm τ→ns.Pairwise (·≤·)→Q (.ref l) (upd H l (.lst (ns.map V.int)))):=by
 intro pins s σ H xs us Q I r h
 obtain ⟨p,τ,rfl,hp,h64,q⟩:=h
 obtain ⟨u,rfl,rx⟩:=yk r
 cases rx
 obtain ⟨⟨es,ep,t,ho,hel,⟨l0,hI0,hp0⟩,hb,hf,ht⟩,_⟩:=I.hok p _ hp
 have hz:es.size=τ.length:=by
  have h1:=hI0.length
  rw [List.length_map,Array.length_toList] at h1
  rw [h1,hp0.length_eq]
 refine Calls.call_function_entry kind_sorted plain_sorted entry_sorted (args_sorted1 _) ?_
 unfold Builtin.«sorted»
 refine wpAny_bind (m:=checkCount "sorted" 1 1 _) (wpAny_pure (wpAny_bind ?_))
 refine jap (A:=X.A.in1) (show X.A.in1.handled=none from I.ok.hd hc) ho hf ht (by omega) fun h' d' vals hv hk=>?_
 obtain ⟨ns0,hI,hp1⟩:=JF hI0 hv
 have hl:vals.length=τ.length:=by rw [hI.length,hp1.length_eq,hp0.length_eq]
 refine wpAny_bind (wpAny_newList ?_ (by rw [hl];exact Nat.le_trans (by omega) jdQ))
 have hoL:(h'.push (seqObj "list" vals.toArray 0)).get? h'.objs.size=some (seqObj "list" vals.toArray 0):=Heap.get?_push_size _ rfl
 refine wpAny_bind (wpAny_holding (wpAny_call_entry slot_list_sort ⟨_,hoL,rfl⟩ entry_list_sort (list_sort_tree hoL hI (by omega) fun out ns' a1 a2 a3=>⟨_,rfl,?_⟩) (args_list_sort _)))
 refine wpAny_pure ⟨_,rfl,?_⟩
 have I1:Inv X pins σ H { s with heap:=h',drawn:=d' }:=I.drawn hk
 obtain ⟨e,he⟩:=sortedHeap_at (out:=out) hoL
 refine ⟨.ref h'.objs.size,_,I1.laid (t':=s.toks) (a:=h'.objs.size) (fun b o hb=>?_) (Nat.le_refl _) (show ObjOk X.prog X.w _ _ _ (.lst (ns'.map V.int)) from ⟨?_,_,e,Jp a1,?_⟩),rfl,q _ _ (I1.hok.fresh (Nat.le_refl _)) (a2.trans (hp1.trans hp0)) a3⟩
 ·have hlt:=Heap.lt_size hb
  rw [sortedHeap_old (Nat.ne_of_lt hlt) (by rw [size_push'];exact Nat.lt_succ_of_lt hlt)]
  exact Heap.get?_push_of_some _ hb
 ·rw [List.length_map,a2.length_eq,← hI.length,hl]
  exact Nat.le_trans (by omega) jdQ
 ·rw [Array.toArray_toList]
  exact he
open PySem PySem.Spec PyProof.Rows PySem.W
abbrev jca (P:Program) (w:World) (v:Addr) (σ:List Int):HO:=.ext fun h=>SetAt P w h v (ledOf w) σ
theorem KU {X:Cx} {P:Program} {w:World} (hc:X.calm=true) (h1:X.prog=P:=by rfl) (h2:X.w=w:=by rfl):q5 X (.type "set") (fun xs H Q=>∃ (p:Addr) (ns:List Int),xs=[.ref p]∧SqL X.K H p (ns.map V.int)∧ns.length≤1000∧∀ v,H v=none→Q (.ref v) (upd H v (jca P w v (dedup ns)))):=by
 subst h1 h2
 exact Ye hc
theorem JI {X:Cx} {P:Program} {w:World} (hc:X.calm=true) (h1:X.prog=P:=by rfl) (h2:X.w=w:=by rfl):q5 X (.builtin "sorted") (fun xs H Q=>∃ (p:Addr) (τ:List Int),xs=[.ref p]∧H p=some (jca P w p τ)∧τ.length < 64∧∀ (l:Addr) (ns:List Int),H l=none→ns.Perm τ→ns.Pairwise (·≤·)→Q (.ref l) (upd H l (.lst (ns.map V.int)))):=by
 subst h1 h2
 exact JY hc
open PySem PySem.Spec PyProof.Rows PySem.W
theorem jcU {X:Cx} {scope:Scope} {own:List Str} {fr:List Nat} {elt tg iter:Expr} {ifs:List Expr} {pos:Pos} {wi:TI} {g:TG} {tt:TT} {te:TE} {use:Option (Value→Sem Unit)} (hc:X.calm=true) (O:CompOk X scope fr) (hi:PI X tg iter wi)
  (hb:∀ s H ex,PG (blk X scope own fr s H ex) tg g∧PTs (blk X scope own fr s H ex) ifs tt∧PE (blk X scope own fr s H ex) elt te)
  (hs:∀ x,foldedSetIterable iter X.env x=pure x) {pins:List (Addr×Obj)} {s:Shared} {σ:St} {H:Hp} {Q:VK} {R:Value→Shared→Prop} (I:Inv X pins σ H s) (h:Yi own fr wi g tt te σ H Q) (hx:∀ e s',X.xe e s'↔False)
  (fin:∀ (p C:Addr) (H':Hp) (s':Shared) (m:Str→Option Value),s'.heap.Ns C m→H' C=none→C≠X.env.locals→(∀ x c,X.env.cells.lookup x=some c→c≠C)→X.s₀.heap.objs.size≤C→(∀ p∈X.pn++pins,p.1≠C)→Inv X pins σ H' s'→(∀ h',Heap.SameBut C s'.heap h'→Inv X pins σ H' { s' with heap:=h' })→Q (.ref p) H'→
   compPost (model X.prog X.w) X.A X.xe use R (.ref p) C (.ok .next) s') :
  wpAny (model X.prog X.w) X.A (comprehension (.ListComp elt [⟨tg,iter,ifs,0⟩] scope pos) scope X.env (firstIterPos [⟨tg,iter,ifs,0⟩] pos) (newList []) false (eval iter X.env) use) R X.xe s:=by
 have hsome:∀ x∈scope.names,x.2=.free→(X.env.cells.lookup x.1).isSome=true:=fun x hx' e=>by
  obtain ⟨c,hc⟩:=I.ok.has x.1 (O.frees x hx' e)
  rw [hc];rfl
 have no:∀ (E:Value→Shared→Prop) (x:Value) (s':Shared),X.xe x s'→E x s':=fun E x s' z=>((hx x s').mp z).elim
 refine wpAny_comprehension_free (cl:=yi X.env.cells scope.names []) rfl hs (yX hsome) O.kind O.loc ?_
 refine thn (hi pins s σ H _ I h) fun v s1 h1=>thn h1 fun itv s2 h2=>?_
 obtain ⟨it,fp,tn,J,H2,e,I2,T,st2,f2,q2⟩:=h2
 subst e
 refine wpAny_newObj_type ?_
 have nw:H2 s2.heap.objs.size=none:=I2.fresh
 obtain ⟨W,⟨m0,w0⟩,turn⟩:=q2 _ nw
 generalize hp:s2.heap.objs.size=p at *
 have I3:Inv X pins σ (upd H2 p (.lst [])) { s2 with heap:=s2.heap.push { cls:=.type "list",dict:=none,data:=.seq ([]:List Value).toArray } }:=by
  have:=I2.lnew (ys:=[]) (its:=[]) (t':=s2.toks) .nil (Nat.zero_le _)
  rw [hp] at this
  exact this
 have lt2:∀ b∈fp,b < s2.heap.objs.size:=fun b hb=>by
  obtain ⟨o,ho,_⟩:=T.obj _ _ st2 b hb
  exact Heap.lt_size ho
 have fpn:∀ b∈fp,(upd H2 p (.lst [])) b=none:=fun b hb=>by
  rw [jg (by rw [← hp];exact Nat.ne_of_lt (lt2 b hb))]
  exact (f2 b hb).1
 generalize hs3:({ s2 with heap:=s2.heap.push { cls:=.type "list",dict:=none,data:=.seq ([]:List Value).toArray } }:Shared)=s3 at *
 have sz3:s3.heap.objs.size=p+1:=by
  rw [← hs3]
  show (s2.heap.push _).objs.size=_
  rw [Heap.size_push,hp]
 have st3:tn 0 s3.heap:=T.keep 0 _ _ st2 fun b hb o e=>by
  rw [← hs3]
  exact Heap.get?_push_of_some _ e
 refine wpAny_newFunctionEnv O.nocell (by intro y hy;simp at hy) (fun h4 hns4 hsb4=>?_) O.kind
 have k4:∀ b o,s3.heap.get? b=some o→h4.get? b=some o:=fun b o e=>hsb4.extBut b o (Nat.ne_of_lt (Heap.lt_size e)) (Heap.get?_push_of_some _ e)
 have hns4':h4.Ns s3.heap.objs.size fun _=>none:=by
  have z:(fun x:Str=>([]:List (Str×Value)).reverse.lookup x)=fun _=>none:=by funext x;rfl
  rw [z] at hns4
  exact hns4
 have fo:∀ b∈fp,Jn X pins (upd H2 p (.lst [])) b∧b < s3.heap.objs.size:=fun b hb=>⟨⟨fpn b hb,(f2 b hb).2⟩,by rw [sz3,← hp];exact Nat.lt_succ_of_lt (lt2 b hb)⟩
 have I4:=Zg (own:=own) (fr:=fr) (t1:=s3.toks+([]:List (Str×Value)).length) I3 O fo hns4' k4
 have st4:tn 0 h4:=T.keep 0 _ _ st3 fun b hb o e=>k4 b o e
 obtain ⟨hg,ht,he⟩:=hb s3 (upd H2 p (.lst [])) fp
 have stat:∀ {H':Hp} {pn:List (Addr×Obj)} {s':Shared} {σ':St},Inv (blk X scope own fr s3 (upd H2 p (.lst [])) fp) [] σ' H' s'→(∀ b∈fp,H' b=none)→∀ b∈fp,Jn (blk X scope own fr s3 (upd H2 p (.lst [])) fp) [] H' b:=fun {H' pn s' σ'} J hn b hb'=>
  ⟨hn b hb',(J.ok.exf b hb').1,J.ok.exfs b hb',.inl hb',(J.ok.exf b hb').2,fun p hp=>absurd hp (by simp [blk])⟩
 have nocells:∀ x c,X.env.cells.lookup x=some c→c≠s3.heap.objs.size:=fun x c e=>by
  obtain ⟨v,q⟩:=I3.cell x c e
  exact Nat.ne_of_lt q.lt
 have loop:∀ s5:Shared,s5={ s3 with heap:=h4,toks:=s3.toks+([]:List (Str×Value)).length }→
   codeAny (model X.prog X.w) X.A (.compLoop (.ListComp elt [⟨tg,iter,ifs,0⟩] scope pos) 0 (.ref it) (.ref p) (blk X scope own fr s3 (upd H2 p (.lst [])) fp).env) (compPost (model X.prog X.w) X.A X.xe use R (.ref p) s3.heap.objs.size) s5:=by
  rintro s5 rfl
  refine Jl (fun n s'=>∃ i σ' H',Inv (blk X scope own fr s3 (upd H2 p (.lst [])) fp) [] σ' H' s'∧tn i s'.heap∧(∀ b∈fp,H' b=none)∧W i n σ' H') ?_ m0 ⟨0,_,_,I4,st4,fpn,w0⟩
  rintro n s6 ⟨i,σ6,H6,I6,st6,fr6,w6⟩
  rcases turn i n σ6 H6 w6 with ⟨stop,qn⟩ | ⟨go,N,hN,step⟩
  ·refine thn (T.done (blk X scope own fr s3 (upd H2 p (.lst [])) fp) rfl rfl rfl hc i [] s6 σ6 H6 _ I6 (stat (pn:=[]) I6 fr6) st6 stop) fun r s7 ⟨hr,I7⟩=>?_
   subst hr
   obtain ⟨m,hm,_⟩:=I7.loc
   exact fin p _ H6 s7 m hm I7.free (Nat.ne_of_gt I3.lt) nocells I3.sz (fun p hp=>Nat.ne_of_lt (Heap.lt_size (I3.pin p hp).1)) (zX I3 fo I7 (Heap.SameBut.refl ..)) (fun h' hs'=>zX I3 fo I7 hs') qn
  ·refine thn (T.item (blk X scope own fr s3 (upd H2 p (.lst [])) fp) rfl rfl rfl hc i [] s6 σ6 H6 _ I6 (stat (pn:=[]) I6 fr6) st6 go) fun r s7 ⟨u,hr,h7⟩=>?_
   subst hr
   refine thn h7 fun _ s8 ⟨x,H8,I8,r8,y8,st8,fr8⟩=>?_
   have I8':=I8.pinned (stat (pn:=[]) I8 fr8) (T.obj _ _ st8)
   refine thn (hg _ s8 σ6 H8 x u _ I8' r8 (step x H8 y8)) fun _ s9 ⟨σ9,H9,I9,q9⟩=>?_
   refine thn (ht _ s9 σ9 H9 _ I9 q9) fun ok s10 ⟨H10,I10,q10⟩=>?_
   have again:∀ {H11:Hp} {s11:Shared},Inv (blk X scope own fr s3 (upd H2 p (.lst [])) fp) ([]++yb fp s8.heap) σ9 H11 s11→(∃ m',m' < n∧W (i+1) m' σ9 H11)→
     ∃ m,m < n∧∃ i σ' H',Inv (blk X scope own fr s3 (upd H2 p (.lst [])) fp) [] σ' H' s11∧tn i s11.heap∧(∀ b∈fp,H' b=none)∧W i m σ' H':=fun {H11 s11} I11 ⟨m',hm,w11⟩=>by
    refine ⟨m',hm,i+1,σ9,H11,I11.unpinned,T.keep _ _ _ st8 fun b hb' o e=>(I11.pin (b,o) (List.mem_append_right _ (List.mem_append_right _ (qk hb' e)))).1,fun b hb'=>?_,w11⟩
    obtain ⟨o,e,d⟩:=T.obj _ _ st8 b hb'
    exact (I11.pin (b,o) (List.mem_append_right _ (List.mem_append_right _ (qk hb' e)))).2.1
   cases ok with
   | false=>
    rw [if_neg Bool.false_ne_true] at q10 ⊢
    exact again I10 (hN _ _ q10)
   | true=>
    rw [if_pos rfl] at q10 ⊢
    refine thn (he _ s10 σ9 H10 _ I10 q10) fun yv s11 ⟨y,H11,I11,r11,ys,hys,hlen,q11⟩=>?_
    have ap:=kN (X:=blk X scope own fr s3 (upd H2 p (.lst [])) fp) ([]++yb fp s8.heap) s11 σ9 H11 (.ref p) [y] (.ref p) [yv] (fun _ H12=>∃ m',m' < n∧W (i+1) m' σ9 H12) I11 rfl (.cons r11 .nil) ⟨p,ys,y,rfl,rfl,hys,hlen,hN _ _ q11⟩
    exact thn ap fun _ s12 ⟨_,H12,I12,_,q12⟩=>again I12 q12
 refine codeAny_compStart_list (loop _ rfl) (T.self X.A 0 _ _ _ st4 (loop _ rfl))
theorem yR {X:Cx} {scope:Scope} {elt tg iter:Expr} {ifs:List Expr} {pos:Pos} {wi:TI} {g:TG} {tt:TT} {te:TE} {i:Nat} {y:Str} {py spos:Pos} (hN:X.N.Nodup) (hi':X.N[i]?=some y) (hy:Loc X.env.scope y) (own:List Str) (fr:List Nat) (hc:X.calm=true) (O:CompOk X scope fr) (hi:PI X.nox tg iter wi)
  (hb:∀ s H ex,PG (blk X.nox scope own fr s H ex) tg g∧PTs (blk X.nox scope own fr s H ex) ifs tt∧PE (blk X.nox scope own fr s H ex) elt te)
  (hs:∀ x,foldedSetIterable iter X.env x=pure x:=by intro _;rfl)
  (hsw:swapsWith (.ListComp elt [⟨tg,iter,ifs,0⟩] scope pos) (some (.Name y py)) spos.line X.env=pure true:=by rfl)
  (hf:X.fn y=true∨X.env.scope.names.lookup y=some .local:=by first | exact .inl rfl | exact .inr rfl | assumption) :
  PS X.nox (.Assign [.Name y py] (.ListComp elt [⟨tg,iter,ifs,0⟩] scope pos) spos) (jaE (Yi own fr wi g tt te) (qg i)):=by
 intro pins s σ H D I h
 rw [exec_Assign_Name_used _ _ _ _ hsw]
 refine wpAny_bind (wpAny_standAt (wpAny_bind ?_))
 show wpAny _ _ (do let _ ← comprehension (.ListComp elt [⟨tg,iter,ifs,0⟩] scope pos) scope X.nox.env _ (newList []) false (eval iter X.nox.env) (some (assign (.Name y py) X.nox.env))) _ _ s
 refine wpAny_bind (wpAny_mono (jcU (X:=X.nox) (use:=some (assign (.Name y py) X.nox.env)) (R:=fun _ s'=>SP X.nox pins D .next s') hc ⟨O.kind,O.nocell,O.loc,O.frees,O.fr⟩ hi hb hs I h (fun _ _=>Iff.rfl)
  fun p C H' s' m hm hC hL hcs hz hpn I' back q=>?_) (fun _ s' hq=>wpAny_pure (wpAny_pure hq)) fun _ _ e=>e)
 show wpAny _ _ (assign (.Name y py) X.nox.env (.ref p)) _ _ _
 refine wpAny_assign_Name (Yj (v:=.ref p) I' hN hi' hy rfl (fun s2 I2 hsb=>?_) hf)
 obtain ⟨a,hsa,ha⟩:=hsb
 have hCa:C≠a:=by
  rcases ha with rfl | e
  ·exact hL
  ·exact fun z=>hcs _ _ e z.symm
 refine ⟨m,hm.sameBut hsa hCa,fun h' hs'=>?_⟩
 exact ⟨_,H',I2.turned (t':=s2.toks) (fun b o hb e=>(hs'.2 b hb).trans e) hC hL (.inr hz) hcs hpn,q⟩
open PySem PySem.Spec PyProof.Rows
section
variable {X:Cx} {pins:List (Addr×Obj)} {σ:St} {H:Hp} {s:Shared} {tg:Expr}
theorem Inv.relabel {a:Addr} {u v:HO} (I:Inv X pins σ H s) (hu:H a=some u) (h1:∀ xs,u≠.tup xs) (h2:∀ ps,u≠.tbl ps) (h3:∀ o z,X.H₀ a≠some (.frz o z)) (h4:∀ x,u≠.own x) (hv:ObjOk X.prog X.w (upd H a v) s.heap a v):Inv X pins σ (upd H a v) s:=by
 have ne:∀ b,H b=none→b≠a:=fun b n z=>by rw [z,hu] at n;cases n
 have nt:∀ b xs,H b=some (.tup xs)→b≠a:=fun b xs n z=>by rw [z,hu] at n;exact h1 xs (Option.some.inj n)
 have no:∀ b x,H b=some (.own x)→b≠a:=fun b x n z=>by rw [z,hu] at n;exact h4 x (Option.some.inj n)
 refine ⟨I.ok,I.os,I.bare,⟨I.base.keep,I.base.slot,fun b o e n hx=>?_,I.base.there,fun b xs e=>?_,fun b o z e=>?_,fun b ps e=>?_⟩,I.loc,I.cell,?_,fun x c e=>?_,fun p hp=>?_,fun b o e=>?_,I.len⟩
 ·have q:=I.base.free b o e n hx
  rw [jg (ne b q)];exact q
 ·have q:=I.base.tups b xs e
  rw [jg (nt b xs q)];exact q
 ·have hb:b≠a:=fun z'=>by subst z';exact h3 _ _ e
  rw [jg hb]
  exact I.base.frzs b o z e
 ·obtain ⟨m,q⟩:=I.base.tbls b ps e
  have hb:b≠a:=fun z'=>by rw [z',hu] at q;exact h2 _ (Option.some.inj q)
  exact ⟨m,by rw [jg hb];exact q⟩
 ·rw [jg (ne _ I.free)];exact I.free
 ·rw [jg (ne _ (I.freeC x c e))];exact I.freeC x c e
 ·obtain ⟨q1,q2,q3⟩:=I.pin p hp
  exact ⟨q1,by rw [jg (ne _ q2)];exact q2,q3⟩
 ·by_cases hb:b=a
  ·subst hb
   rw [ja] at e
   cases e
   exact hv
  ·rw [jg hb] at e
   exact (I.hok b o e).stay (fun _ _ _ q=>q) (fun c q=>by rw [jg (no c _ q)];exact q) fun c xs q=>by rw [jg (nt c xs q)];exact q
end
open PySem PySem.Spec PyProof.Rows
theorem Zu:bootBuiltins "enumerate" = some (.type "enumerate"):=by decide +kernel
end L2
namespace PySem
open AutoSeq1 (wpAny_loadPart')
section
variable {prog:Program} {w:World} {A:Around} {E:Value→Shared→Prop} {s:Shared}
theorem y9 {it t:Addr} {i:Nat} {items} {x:Value} {Q:Value→Shared→Prop} (hit:s.heap.IsTupleIter it t i) (ht:s.heap.IsTuple t items) (hx:items[i]?=some x)
  (hQ:∀ h',h'.IsTupleIter it t (i+1)→Heap.SameBut it s.heap h'→Q x { s with heap:=h' }):wpAny (model prog w) A (Builtin.SmallTypes.nextOf (.ref it)) Q E s:=by
 obtain ⟨o,ho,hc,hd⟩:=id hit
 obtain ⟨ol,hol,_,nl,hdl⟩:=ht
 unfold Builtin.SmallTypes.nextOf
 refine wpAny_bind (wpAny_callSpecial?_slot (name:=Str.ofString "__next__") hit.typeIs F.slot_tuple_iterator_next (wpAny_call_entry F.slot_tuple_iterator_next hit.typeIs F.entry_tuple_iterator_next ?_ (F.args_tuple_iterator_next_1 _)))
 show wpAny _ _ (field (.ref it) 0 >>= _) _ _ s
 refine wpAny_bind (wpAny_field ho hd (x:=.ref t) rfl ?_)
 show wpAny _ _ (if (Value.ref t == Value.none)=true then _ else _) _ _ s
 rw [if_neg (show ¬ ((Value.ref t == Value.none)=true) from Bool.false_ne_true)]
 show wpAny _ _ (field (.ref it) 1 >>= _) _ _ s
 refine wpAny_bind (wpAny_field ho hd (x:=.int i 0) rfl ?_)
 show wpAny _ _ (seqItems? (.ref t) >>= _) _ _ s
 refine wpAny_bind (wpAny_seqItems hol hdl ?_)
 simp only [Int.toNat_natCast,hx]
 refine wpAny_bind (wpAny_setField ho hd (by simp) (wpAny_pure ⟨x,rfl,wpAny_pure (hQ _ ?_ (Heap.SameBut.update ..))⟩))
 exact ⟨_,Heap.get?_update_self _ ho (Obj.isFreed_of_fields (Obj.data_mapFields hd _)),(Obj.cls_mapFields ..).trans hc,by rw [Obj.data_mapFields hd];simp [rawInt]⟩
theorem za {it t:Addr} {i:Nat} {items} {Q:Value→Shared→Prop} (hh:A.handled=none) (hit:s.heap.IsTupleIter it t i) (ht:s.heap.IsTuple t items) (hx:items[i]?=none)
  (hE:∀ h' e,Heap.ExtBut it s.heap h'→(∃ o,h'.get? e=some o∧o.cls=.type "StopIteration")→E (.ref e) { s with heap:=h' }):wpAny (model prog w) A (Builtin.SmallTypes.nextOf (.ref it)) Q E s:=by
 obtain ⟨o,ho,hc,hd⟩:=id hit
 obtain ⟨ol,hol,_,nl,hdl⟩:=ht
 unfold Builtin.SmallTypes.nextOf
 refine wpAny_bind (wpAny_callSpecial?_slot (name:=Str.ofString "__next__") hit.typeIs F.slot_tuple_iterator_next (wpAny_call_entry F.slot_tuple_iterator_next hit.typeIs F.entry_tuple_iterator_next ?_ (F.args_tuple_iterator_next_1 _)))
 show wpAny _ _ (field (.ref it) 0 >>= _) _ _ s
 refine wpAny_bind (wpAny_field ho hd (x:=.ref t) rfl ?_)
 show wpAny _ _ (if (Value.ref t == Value.none)=true then _ else _) _ _ s
 rw [if_neg (show ¬ ((Value.ref t == Value.none)=true) from Bool.false_ne_true)]
 show wpAny _ _ (field (.ref it) 1 >>= _) _ _ s
 refine wpAny_bind (wpAny_field ho hd (x:=.int i 0) rfl ?_)
 show wpAny _ _ (seqItems? (.ref t) >>= _) _ _ s
 refine wpAny_bind (wpAny_seqItems hol hdl ?_)
 simp only [Int.toNat_natCast,hx]
 refine wpAny_bind (wpAny_rule (wpAny_bind (wpAny_setField ho hd (by simp) ?_)))
 show wpAny _ _ (newExc (.type "StopIteration") [] >>= _) _ _ _
 refine wpAny_bind ?_
 simp only [newExc,newTuple]
 refine wpAny_bind (wpAny_newObj_type ?_ (by size_fits))
 refine wpAny_bind (m:=firstArgMember _ _) (wpAny_of_eq (a:=Value.none) (by first | rfl | (simp only [firstArgMember];rfl)) ?_)
 refine wpAny_newObj_type ?_ (by size_fits)
 simp only [raiseNew]
 refine wpAny_bind (wpAny_handled ?_)
 first | rw [show A.in1.handled=none from hh] | rw [hh]
 refine wpAny_bind (wpAny_pure (wpAny_throw ?_))
 exact hE _ _ (((Heap.SameBut.update ..).extBut.push _).push _) ⟨_,Heap.get?_push_size _ rfl,rfl⟩
theorem jcN {e it:Addr} {i:Nat} {x old:Value} {Q:Value→Shared→Prop} {St:Heap→Prop} (he:IsEnum s.heap e it i old) (hne:e≠it)
  (hin:∀ Q':Value→Shared→Prop,(∀ h',St h'→Heap.SameBut it s.heap h'→Q' x { s with heap:=h' })→wpAny (model prog w) A (Builtin.SmallTypes.nextOf (.ref it)) Q' E s)
  (keep:∀ h h',St h→(∀ o,h.get? it=some o→h'.get? it=some o)→St h')
  (hQ:∀ h',IsEnumOut h' e it ((i:Int)+1) x s.heap.objs.size→St h'→h'.get? s.heap.objs.size=some { cls:=.type "tuple",data:=.seq #[.int i s.toks,x] }→h'.objs.size=s.heap.objs.size+1→
   (∀ b o,b≠e→b≠it→s.heap.get? b=some o→h'.get? b=some o)→Q (.ref s.heap.objs.size) { s with heap:=h',toks:=s.toks+1 }) :
  wpAny (model prog w) A (Builtin.«enumerate.__next__» ⟨[.ref e],[]⟩) (fun fin s'=>∃ v,fin=.done (.ret v)∧Q v s') E s:=by
 obtain ⟨hp,g,d,tk,os⟩:=s
 show wpAny _ _ (field (.ref e) 2 >>= _) _ _ _
 refine wpAny_bind (wpAny_field he rfl (x:=.ref it) rfl ?_)
 refine wpAny_bind (hin _ fun h1 st1 b1=>?_)
 replace b1:Heap.SameBut it hp h1:=b1
 have e1:IsEnum h1 e it i old:=(b1.2 e hne).trans he
 show wpAny _ _ (field (.ref e) 3 >>= _) _ _ ⟨h1,g,d,tk,os⟩
 refine wpAny_bind (wpAny_field e1 rfl (x:=rawInt i) rfl ?_)
 show wpAny _ _ (field (.ref e) 4 >>= _) _ _ ⟨h1,g,d,tk,os⟩
 refine wpAny_bind (wpAny_field e1 rfl (x:=.none) rfl ?_)
 show wpAny _ _ (mkInt i >>= _) _ _ ⟨h1,g,d,tk,os⟩
 refine wpAny_bind (wpAny_mkInt ?_)
 show wpAny _ _ (setField (.ref e) 3 (rawInt ((i:Int)+1)) >>= _) _ _ ⟨h1,g,d,tk+1,os⟩
 refine wpAny_bind (wpAny_setField_rec e1 (by simp) fun h2 e2 b2=>?_)
 replace b2:Heap.SameBut e h1 h2:=b2
 replace e2:IsEnum h2 e it ((i:Int)+1) old:=e2
 show wpAny _ _ (setField (.ref e) 4 .none >>= _) _ _ ⟨h2,g,d,tk+1,os⟩
 refine wpAny_bind (wpAny_setField_rec e2 (by simp) fun h3 e3 b3=>?_)
 replace b3:Heap.SameBut e h2 h3:=b3
 replace e3:IsEnum h3 e it ((i:Int)+1) old:=e3
 show wpAny _ _ (newTuple [.int i tk,x] >>= _) _ _ ⟨h3,g,d,tk+1,os⟩
 refine wpAny_bind (wpAny_newTuple ?_)
 have hsz:h3.objs.size=hp.objs.size:=by rw [b3.1,b2.1,b1.1]
 have st3:St h3:=keep h1 h3 st1 fun o q=>(b3.2 it (Ne.symm hne)).trans ((b2.2 it (Ne.symm hne)).trans q)
 have e4:IsEnum (h3.push { cls:=.type "tuple",data:=.seq #[.int i tk,x] }) e it ((i:Int)+1) old:=Heap.get?_push_of_some _ e3
 have st4:St (h3.push { cls:=.type "tuple",data:=.seq #[.int i tk,x] }):=keep h3 _ st3 fun o q=>Heap.get?_push_of_some _ q
 have t4:(h3.push { cls:=.type "tuple",data:=.seq #[.int i tk,x] }).get? hp.objs.size=some { cls:=.type "tuple",data:=.seq #[.int i tk,x] }:=by rw [← hsz];exact Heap.get?_push_size _ rfl
 have z4:(h3.push { cls:=.type "tuple",data:=.seq #[.int i tk,x] }).objs.size=hp.objs.size+1:=by rw [Heap.size_push,hsz]
 have k4:∀ b o,b≠e→b≠it→hp.get? b=some o→(h3.push { cls:=.type "tuple",data:=.seq #[.int i tk,x] }).get? b=some o:=fun b o hbe hbi hb=>
  Heap.get?_push_of_some _ (b3.extBut b o hbe (b2.extBut b o hbe (b1.extBut b o hbi hb)))
 have hel:e < hp.objs.size:=Heap.lt_size he
 rw [hsz]
 generalize h3.push { cls:=.type "tuple",data:=.seq #[.int i tk,x] }=h4 at *
 clear e3 b3 e2 b2 e1 b1 st1 st3 hsz
 show wpAny _ _ (Builtin.SmallTypes.ownedTupleIsFree (.ref e) >>= _) _ _ ⟨h4,g,d,tk+1,os⟩
 refine wpAny_bind ?_
 unfold Builtin.SmallTypes.ownedTupleIsFree
 refine wpAny_bind (wpAny_field e4 rfl (x:=.none) rfl (wpAny_pure ?_))
 simp only [if_true]
 refine wpAny_bind (wpAny_rule ?_)
 refine wpAny_bind (wpAny_field e4 rfl (x:=old) rfl ?_)
 refine wpAny_bind (wpAny_setField_rec e4 (by simp) fun h5 e5 b5=>?_)
 replace b5:Heap.SameBut e h4 h5:=b5
 replace e5:IsEnum h5 e it ((i:Int)+1) x:=e5
 show wpAny _ _ (Builtin.SmallTypes.ownedTupleHandOut (.ref e) (.ref hp.objs.size) >>= _) _ _ ⟨h5,g,d,tk+1,os⟩
 refine wpAny_bind ?_
 unfold Builtin.SmallTypes.ownedTupleHandOut
 refine wpAny_bind (wpAny_setField_rec e5 (by simp) fun h6 e6 b6=>?_)
 replace b6:Heap.SameBut e h5 h6:=b6
 replace e6:IsEnumOut h6 e it ((i:Int)+1) x hp.objs.size:=e6
 refine wpAny_setField_rec e6 (by simp) fun h7 e7 b7=>?_
 replace b7:Heap.SameBut e h6 h7:=b7
 replace e7:IsEnumOut h7 e it ((i:Int)+1) x hp.objs.size:=e7
 have k7:∀ b o,b≠e→h4.get? b=some o→h7.get? b=some o:=fun b o hb q=>b7.extBut b o hb (b6.extBut b o hb (b5.extBut b o hb q))
 refine wpAny_bind (wpAny_letGo (wpAny_pure ⟨_,rfl,hQ h7 e7 (keep h4 h7 st4 fun o q=>k7 it o (Ne.symm hne) q) (k7 _ _ (Nat.ne_of_gt hel) t4) (by rw [b7.1,b6.1,b5.1,z4]) fun b o hbe hbi hb=>k7 b o hbe (k4 b o hbe hbi hb)⟩))
theorem jah {e it t:Addr} {i:Nat} {items:Array Value} {x old:Value} {Q:Option Value→Shared→Prop}
  (he:IsEnum s.heap e it i old) (hit:s.heap.IsTupleIter it t i) (ht:s.heap.IsTuple t items) (hx:items[i]?=some x) (hne:e≠it)
  (hQ:∀ h',IsEnumOut h' e it ((i:Int)+1) x s.heap.objs.size→h'.IsTupleIter it t (i+1)→h'.get? s.heap.objs.size=some { cls:=.type "tuple",data:=.seq #[.int i s.toks,x] }→h'.objs.size=s.heap.objs.size+1→
   (∀ b o,b≠e→b≠it→s.heap.get? b=some o→h'.get? b=some o)→Q (some (.ref s.heap.objs.size)) { s with heap:=h',toks:=s.toks+1 }):wpAny (model prog w) A (pyNext (.ref e)) Q E s:=by
 have hT:s.TypeIs (.ref e) "enumerate":=⟨_,he,rfl⟩
 unfold pyNext
 refine wpAny_bind (wpAny_attempt (wpAny_callSpecial?_slot (name:=Str.ofString "__next__") hT F.slot_enumerate_next (wpAny_call_entry F.slot_enumerate_next hT F.entry_enumerate_next ?_ (F.args_enumerate_next_1 _))))
 exact jcN (St:=fun h=>h.IsTupleIter it t (i+1)) he hne (fun Q' k=>y9 hit ht hx k) (fun h h' st k=>st.at k) fun h' a b c d k=>wpAny_pure (hQ h' a b c d k)
theorem JW {e it t:Addr} {i:Nat} {items:Array Value} {old:Value} {Q:Option Value→Shared→Prop} (hh:A.handled=none)
  (he:IsEnum s.heap e it i old) (hit:s.heap.IsTupleIter it t i) (ht:s.heap.IsTuple t items) (hx:items[i]?=none)
  (hQ:∀ h',Heap.ExtBut it s.heap h'→Q none { s with heap:=h' }):wpAny (model prog w) A (pyNext (.ref e)) Q E s:=by
 have hT:s.TypeIs (.ref e) "enumerate":=⟨_,he,rfl⟩
 unfold pyNext
 refine wpAny_bind (wpAny_attempt (wpAny_callSpecial?_slot (name:=Str.ofString "__next__") hT F.slot_enumerate_next (wpAny_call_entry F.slot_enumerate_next hT F.entry_enumerate_next ?_ (F.args_enumerate_next_1 _))))
 show wpAny _ _ (field (.ref e) 2 >>= _) _ _ _
 refine wpAny_bind (wpAny_field he rfl (x:=.ref it) rfl ?_)
 refine wpAny_bind (za hh hit ht hx fun h' x he' hx'=>?_)
 obtain ⟨o,ho,hc⟩:=hx'
 refine wpAny_bind (wpAny_isInstance (T:="StopIteration") (b:=true) ⟨o,ho,hc⟩ isSubtype_stop ?_)
 exact wpAny_pure (hQ _ he')
theorem jd9 (l:Addr) (items:Array Value) (n:Nat) (dct:Option Addr) (sl:Array (Option Value)) :
  Meets (Builtin.«enumerate.__new__» ⟨[.type "enumerate",.ref l],[]⟩) (fun _ R s=>s.heap.get? l=some { cls:=.type "tuple",dict:=dct,data:=.seq items n,slots:=sl }∧
   R (.ok (.ret (.ref (s.heap.push { cls:=.type "tuple_iterator",data:=.fields #[.ref l,.int 0 0] }).objs.size)))
    { s with heap:=(s.heap.push { cls:=.type "tuple_iterator",data:=.fields #[.ref l,.int 0 0] }).push { cls:=.type "enumerate",data:=.fields #[.none,.bool false,.ref s.heap.objs.size,rawInt 0,.none,.none] } }):=
 .of_wp fun prog w A R s h=>by
  obtain ⟨hp,g,d,tk,os⟩:=s;obtain ⟨hl,h⟩:=h
  have hsub:=sub_enumerate
  have hL:Heap.IsTuple (Shared.heap ⟨hp,g,d,tk,os⟩) l items:=⟨_,hl,rfl,n,rfl⟩
  wp_walk using wpAny_loadPart' hl
  refine wpAny_stack_any fun st=>wpAny_pure ?_
  split
  ·rename_i c _ _ _ _ _
   cases (c == Value.type "enumerate")
   ·wp_walk using wpAny_loadPart' hl,wpAny_pyIter_tuple hL
    exact ⟨_,rfl,h⟩
   ·wp_walk using wpAny_loadPart' hl,wpAny_pyIter_tuple hL
    exact ⟨_,rfl,h⟩
  ·wp_walk using wpAny_loadPart' hl,wpAny_pyIter_tuple hL
   exact ⟨_,rfl,h⟩
theorem jbf {l:Addr} {items:Array Value} {Q:Value→Shared→Prop} (hL:s.heap.IsTuple l items)
  (h:∀ h',IsEnum h' (s.heap.objs.size+1) s.heap.objs.size 0 .none→h'.IsTupleIter s.heap.objs.size l 0→h'.objs.size=s.heap.objs.size+2→
   (∀ b o,s.heap.get? b=some o→h'.get? b=some o)→Q (.ref (s.heap.objs.size+1)) { s with heap:=h' }) :
  wpAny (model prog w) A (call (.type "enumerate") [.ref l]) Q E s:=by
 obtain ⟨⟨c,dct,dt,sl⟩,hl,hc,n,hd⟩:=hL
 replace hc:c=.type "tuple":=hc
 replace hd:dt=.seq items n:=hd
 subst hc hd
 refine callType_new F.called_enumerate (by decide) (F.typeCall_enumerate_1 _) (F.newCall_enumerate_1 _) (fun obj=>F.args_object_init_2 obj _) F.entry_enumerate_new (jd9 l items n dct sl) ⟨hl,?_⟩
 have hz:(s.heap.push { cls:=.type "tuple_iterator",data:=.fields #[.ref l,.int 0 0] }).objs.size=s.heap.objs.size+1:=Heap.size_push ..
 show _∧_
 rw [hz]
 have he:IsEnum ((s.heap.push { cls:=.type "tuple_iterator",data:=.fields #[.ref l,.int 0 0] }).push { cls:=.type "enumerate",data:=.fields #[.none,.bool false,.ref s.heap.objs.size,rawInt 0,.none,.none] }) (s.heap.objs.size+1) s.heap.objs.size 0 .none:=by
  have:=Heap.get?_push_size (s.heap.push { cls:=.type "tuple_iterator",data:=.fields #[.ref l,.int 0 0] }) (o:={ cls:=.type "enumerate",data:=.fields #[.none,.bool false,.ref s.heap.objs.size,rawInt 0,.none,.none] }) rfl
  rw [hz] at this;exact this
 exact ⟨⟨_,he,rfl⟩,h _ he ⟨_,Heap.get?_push_of_some _ (Heap.get?_push_size _ rfl),rfl,rfl⟩ (by rw [Heap.size_push,hz]) fun b o x=>Heap.get?_push_of_some _ (Heap.get?_push_of_some _ x)⟩
end
end PySem
namespace L2
open PySem PySem.Spec PyProof.Rows
def jei (K:PySem.W.Frag) (l:Addr):It:=
 ⟨fun i H=>∃ xs x,SqT K H l xs∧xs[i]?=some x,fun i H x H'=>∃ t y,H t=none∧(∀ xs,SqT K H l xs→xs[i]?=some y)∧x=.ref t∧H'=upd H t (.tup [.int i,y]),fun i H=>∃ xs,SqT K H l xs∧xs.length≤i⟩
theorem jaB {P:Program} {w:World} {K:PySem.W.Frag} {elts:List Expr} {x1:Nat} {tp:Pos} (l e it:Addr) (hne:e≠it):Turn P w K (.Tuple elts x1 tp) (jei K l) [e,it] e (fun i h=>(∃ old,IsEnum h e it i old)∧h.IsTupleIter it l i) where
 mem:=by simp
 obj:=fun i h st b hb=>by
  obtain ⟨⟨old,h1⟩,o,e2,c,d⟩:=st
  rcases List.mem_cons.mp hb with rfl | hb
  ·exact ⟨_,h1,fun v z=>by cases z⟩
  ·rw [List.mem_singleton.mp hb]
   exact ⟨o,e2,fun v z=>by rw [d] at z;cases z⟩
 keep:=fun i h h' st k=>by
  obtain ⟨⟨old,h1⟩,o,e2,c,d⟩:=st
  exact ⟨⟨old,k e (by simp) _ h1⟩,o,k it (by simp) o e2,c,d⟩
 item:=by
  intro X hP hw hK hc i pins s σ H E I hf st hg
  subst hP hw hK
  obtain ⟨xs,x,hq,hx⟩:=hg
  obtain ⟨⟨old,hE⟩,hit⟩:=st
  obtain ⟨its,rv,p,hz⟩:=I.tuple hq
  obtain ⟨u,hu,ru⟩:=rv.get hx
  obtain ⟨a0,a1,a2,a3,a4,a5⟩:=hf e (by simp)
  obtain ⟨f0,f1,f2,f3,f4,f5⟩:=hf it (by simp)
  refine jah hE hit (show s.heap.IsTuple l its.toArray from p) (x:=u) (by simpa using hu) hne fun h' o1 o2 o3 o4 o5=>?_
  refine ⟨_,rfl,wpAny_letOwnedTupleGo_enum (s:={ s with heap:=h',toks:=s.toks+1 }) o1 fun h2 g1 g2=>?_⟩
  have hfr:H s.heap.objs.size=none:=I.hok.fresh (Nat.le_refl _)
  have kp:∀ b o,b≠e→b≠it→s.heap.get? b=some o→h2.get? b=some o:=fun b o hb hb' q=>(g2.2 b hb).trans (o5 b o hb hb' q)
  have nt:∀ b o,s.heap.get? b=some o→b≠s.heap.objs.size:=fun b o q=>Nat.ne_of_lt (Heap.lt_size q)
  have ne:∀ b z,H b=some z→b≠e∧b≠it:=fun b z q=>⟨fun t=>(by rw [t,a0] at q;cases q),fun t=>(by rw [t,f0] at q;cases q)⟩
  have het:s.heap.objs.size≠e:=fun z=>absurd (Heap.lt_size hE) (by rw [← z];exact Nat.lt_irrefl _)
  have I1:Inv X pins σ (upd H s.heap.objs.size (.tup [.int i,x])) { s with heap:=h2,gens:=s.gens,drawn:=s.drawn,toks:=s.toks+1 }:=by
   refine I.step (g':=s.gens) (d':=s.drawn) (ch:=[e,it]) (fun b hb=>?_) (fun b o _ _ hc' q _=>kp b o (fun z=>hc' (by simp [z])) (fun z=>hc' (by simp [z])) q) (fun b o _ _ hc' q _=>⟨o.slots,kp b o (fun z=>hc' (by simp [z])) (fun z=>hc' (by simp [z])) q⟩)
    (fun b o _ q n=>by rw [jg (nt b o q)];exact n) (fun b o hc' q=>⟨o,kp b o (fun z=>hc' (by simp [z])) (fun z=>hc' (by simp [z])) q⟩) (fun b ys q=>by rw [jg (jl q hfr)];exact q) (fun b o z q=>by rw [jg (jl q hfr)];exact q)
    (fun b ps q=>⟨#[],by rw [jg (jl q hfr),q];simp⟩) (fun m hm=>?_) (fun b z q=>?_) I.bare
   ·rcases List.mem_cons.mp hb with rfl | hb
    ·exact ⟨a3,a1,a4,a5⟩
    ·rw [List.mem_singleton.mp hb];exact ⟨f3,f1,f4,f5⟩
   ·obtain ⟨o,es,ep,ho,r⟩:=hm
    exact ⟨o,es,ep,kp _ o (Ne.symm a1) (Ne.symm f1) ho,r⟩
   ·by_cases hb:b=s.heap.objs.size
    ·subst hb
     rw [ja] at q
     cases q
     refine ⟨?_,[Value.int (i:Int) s.toks,u],.cons ⟨_,rfl⟩ (.cons ru .nil),_,(g2.2 _ het).trans o3,rfl,0,rfl⟩
     show 2≤sizeLine
     rw [sizeLine_eq]
     decide
    ·rw [jg hb] at q
     refine (I.hok b z q).stay (fun c v hc' q'=>?_) (fun c q'=>by rw [jg (jl q' hfr)];exact q') fun c ys q'=>by rw [jg (jl q' hfr)];exact q'
     rcases hc' with rfl | hc'
     ·exact kp c v (ne c z q).1 (ne c z q).2 q'
     ·exact kp c v (ne c _ hc').1 (ne c _ hc').2 q'
  refine ⟨.ref s.heap.objs.size,_,I1,rfl,⟨_,x,hfr,fun ys hy=>by rw [I.tuple_inj hy hq];exact hx,rfl,rfl⟩,⟨⟨_,g1⟩,?_⟩,fun b hb=>?_⟩
  ·obtain ⟨o,z1,z2,z3⟩:=o2
   exact ⟨o,(g2.2 it (Ne.symm hne)).trans z1,z2,z3⟩
  ·rcases List.mem_cons.mp hb with rfl | hb
   ·rw [jg (Ne.symm het)];exact a0
   ·rw [List.mem_singleton.mp hb]
    have:it≠s.heap.objs.size:=by
     obtain ⟨o,z1,_⟩:=hit
     exact nt it o z1
    rw [jg this];exact f0
 done:=by
  intro X hP hw hK hc i pins s σ H E I hf st hg
  subst hP hw hK
  obtain ⟨xs,hq,hx⟩:=hg
  obtain ⟨⟨old,hE⟩,hit⟩:=st
  obtain ⟨its,rv,p,hz⟩:=I.tuple hq
  obtain ⟨f0,f1,f2,f3,f4,f5⟩:=hf it (by simp)
  have hl:=rv.length
  exact JW (I.ok.hd hc) hE hit (show s.heap.IsTuple l its.toArray from p) (by simp;omega) fun h' eb=>⟨rfl,I.turned (t':=s.toks) (fun b o hb e=>eb b o hb e) f0 f1 f3 f4 f5⟩
 self:=fun _ _ _ _ _ st h=>by
  obtain ⟨⟨old,hE⟩,_⟩:=st
  exact wpAny_pyIter_enum hE h
section
variable {X:Cx} {elts:List Expr} {x1:Nat} {tp:Pos}
def jdZ (K:PySem.W.Frag) (ta:TA):TI:=fun σ H R=>ta σ H fun vs H1=>∃ l,vs=[.ref l]∧(∃ xs,SqT K H1 l xs)∧R (jei K l) H1
theorem ZT {a:Expr} {ta:TA} {p pos:Pos} (hg:Gl X "enumerate") (hm:X.mg "enumerate" = none) (ha:PA X [a] ta) (hs:starEach [a] X.env=[(false,eval a X.env)]:=by rfl):PI X (.Tuple elts x1 tp) (.Call (.Name "enumerate" p) [a] [] pos) (jdZ X.K ta):=by
 intro pins s σ H R I h
 refine Call_ (yw I hg hm Zu (PyProof.Rows.callWith_type1 (thn (ha pos pins s σ H _ I h) fun us s1 ⟨vs,H1,I1,r1,q1⟩=>?_) hs rfl))
 obtain ⟨l,e,⟨xs,hq⟩,q⟩:=q1
 subst e
 obtain ⟨u,rfl,rx⟩:=yk r1
 cases rx
 obtain ⟨its,rv,pl,hz⟩:=I1.tuple hq
 refine jbf (show s1.heap.IsTuple l its.toArray from pl) fun h' g1 g2 g3 g4=>?_
 refine wpAny_pyIter_enum (s:={ s1 with heap:=h' }) g1 ?_
 have I2:Inv X pins σ H1 { s1 with heap:=h' }:=I1.kept (t':=s1.toks) g4
 refine ⟨s1.heap.objs.size+1,[s1.heap.objs.size+1,s1.heap.objs.size],_,_,_,rfl,I2,jaB l _ _ (Nat.succ_ne_self _),⟨⟨_,g1⟩,g2⟩,fun b hb=>?_,q⟩
 rcases List.mem_cons.mp hb with rfl | hb
 ·exact I1.fpOk (Nat.le_succ _) (I1.hok.fresh (Nat.le_succ _))
 ·rw [List.mem_singleton.mp hb]
  exact I1.fpOk (Nat.le_refl _) (I1.hok.fresh (Nat.le_refl _))
theorem YG {K:PySem.W.Frag} {l:Addr} {xs:List V} {g:TG} {tb:TS} {D:Ends} {σ:St} {H:Hp} (Pv:Nat→St→Hp→Prop) (h0:Pv 0 σ H) (hl:∀ i σ H,i≤xs.length→Pv i σ H→SqT K H l xs)
  (hs:∀ i y σ H t,xs[i]?=some y→Pv i σ H→H t=none→g (.ref t) σ (upd H t (.tup [.int i,y])) fun σ2 H2=>tb { D with nx:=Pv (i+1),ct:=Pv (i+1),bk:=D.nx } σ2 H2) (hd:∀ σ H,Pv xs.length σ H→D.nx σ H) :
  ∃ W:Nat→Nat→St→Hp→Prop,(∃ m,W 0 m σ H)∧∀ i m σ H,W i m σ H→
   ((jei K l).stop i H∧D.nx σ H)∨((jei K l).go i H∧∃ N:St→Hp→Prop,(∀ σ' H',N σ' H'→∃ m',m' < m∧W (i+1) m' σ' H')∧∀ x H',(jei K l).yld i H x H'→g x σ H' fun σ2 H2=>tb { D with nx:=N,ct:=N,bk:=D.nx } σ2 H2):=by
 refine ⟨fun i m σ H=>m=xs.length - i∧i≤xs.length∧Pv i σ H,⟨xs.length,by simp,Nat.zero_le _,h0⟩,?_⟩
 rintro i m σ H ⟨rfl,hi,p⟩
 have q:=hl i σ H hi p
 by_cases hlt:i < xs.length
 ·refine .inr ⟨⟨xs,xs[i],q,by simp [hlt]⟩,Pv (i+1),fun σ' H' p'=>⟨xs.length - (i+1),by omega,rfl,hlt,p'⟩,fun x H' y=>?_⟩
  obtain ⟨t,z,ht,hz,rfl,rfl⟩:=y
  exact hs i z σ H t (hz xs q) p ht
 ·have:i=xs.length:=by omega
  subst this
  exact .inl ⟨⟨xs,q,Nat.le_refl _⟩,hd σ H p⟩
end
open PySem PySem.Spec PyProof.Rows PySem.W
mutual
def dEq:D→D→Bool
 | .int i,.int j=>i == j
 | .str x,.str y=>x == y
 | .tup a,.tup b=>dEqL a b
 | _,_=>false
def dEqL:List D→List D→Bool
 | [],[]=>true
 | a :: as,b :: bs=>dEq a b && dEqL as bs
 | _,_=>false
end
mutual
theorem yI:∀ {a b:D},dEq a b=true↔a=b
 | .int i,.int j=>by unfold dEq;rw [beq_iff_eq];exact ⟨(fun h=>by rw [h]),(fun h=>by injection h)⟩
 | .str i,.str j=>by unfold dEq;rw [beq_iff_eq];exact ⟨(fun h=>by rw [h]),(fun h=>by injection h)⟩
 | .tup a,.tup b=>by unfold dEq;rw [dEqL_iff];exact ⟨(fun h=>by rw [h]),(fun h=>by injection h)⟩
 | .int i,.str j=>by unfold dEq;exact ⟨(fun h=>by cases h),(fun h=>by cases h)⟩
 | .int i,.tup j=>by unfold dEq;exact ⟨(fun h=>by cases h),(fun h=>by cases h)⟩
 | .str i,.int j=>by unfold dEq;exact ⟨(fun h=>by cases h),(fun h=>by cases h)⟩
 | .str i,.tup j=>by unfold dEq;exact ⟨(fun h=>by cases h),(fun h=>by cases h)⟩
 | .tup i,.int j=>by unfold dEq;exact ⟨(fun h=>by cases h),(fun h=>by cases h)⟩
 | .tup i,.str j=>by unfold dEq;exact ⟨(fun h=>by cases h),(fun h=>by cases h)⟩
theorem dEqL_iff:∀ {a b:List D},dEqL a b=true↔a=b
 | [],[]=>by unfold dEqL;exact ⟨(fun _=>rfl),(fun _=>rfl)⟩
 | a :: as,b :: bs=>by
  unfold dEqL
  rw [Bool.and_eq_true,yI,dEqL_iff]
  exact ⟨(fun h=>by rw [h.1,h.2]),(fun h=>by injection h with h1 h2;exact ⟨h1,h2⟩)⟩
 | [],b :: bs=>by unfold dEqL;exact ⟨(fun h=>by cases h),(fun h=>by cases h)⟩
 | a :: as,[]=>by unfold dEqL;exact ⟨(fun h=>by cases h),(fun h=>by cases h)⟩
end
instance:DecidableEq D:=fun a b=>if h:dEq a b=true then isTrue (yI.mp h) else isFalse fun e=>h (yI.mpr e)
theorem jan (a b:List D):dEqL a b=decide (a=b):=by
 apply Bool.eq_iff_iff.mpr
 rw [dEqL_iff,decide_eq_true_iff]
mutual
theorem jaa {H:Hp}:∀ {d d':D} {v:V},Held H d v→Held H d' v→d=d'
 | .int i,.int j,v,h,h'=>by unfold Held at h h';subst h;injection h' with h';rw [h']
 | .str i,.str j,v,h,h'=>by unfold Held at h h';subst h;injection h' with h';rw [h']
 | .tup a,.tup b,v,h,h'=>by
  unfold Held at h h'
  obtain ⟨p,xs,rfl,e,h⟩:=h
  obtain ⟨p',xs',e0,e',h'⟩:=h'
  injection e0 with e0
  subst e0
  rw [e] at e'
  injection e' with e'
  injection e' with e'
  subst e'
  rw [heldL_inj h h']
 | .int i,.str j,v,h,h'=>by unfold Held at h h';subst h;cases h'
 | .int i,.tup j,v,h,h'=>by unfold Held at h h';subst h;obtain ⟨p,xs,e,_⟩:=h';cases e
 | .str i,.int j,v,h,h'=>by unfold Held at h h';subst h;cases h'
 | .str i,.tup j,v,h,h'=>by unfold Held at h h';subst h;obtain ⟨p,xs,e,_⟩:=h';cases e
 | .tup i,.int j,v,h,h'=>by unfold Held at h h';subst h';obtain ⟨p,xs,e,_⟩:=h;cases e
 | .tup i,.str j,v,h,h'=>by unfold Held at h h';subst h';obtain ⟨p,xs,e,_⟩:=h;cases e
theorem heldL_inj {H:Hp}:∀ {d d':List D} {v:List V},HeldL H d v→HeldL H d' v→d=d'
 | [],[],_,_,_=>rfl
 | a :: as,b :: bs,v,h,h'=>by
  unfold HeldL at h h'
  obtain ⟨u,r,rfl,h1,h2⟩:=h
  obtain ⟨u',r',e,h1',h2'⟩:=h'
  injection e with e1 e2
  subst e1 e2
  rw [jaa h1 h1',heldL_inj h2 h2']
 | [],b :: bs,v,h,h'=>by unfold HeldL at h h';subst h;obtain ⟨u',r',e,_⟩:=h';cases e
 | a :: as,[],v,h,h'=>by unfold HeldL at h h';subst h';obtain ⟨u',r',e,_⟩:=h;cases e
end
theorem KR:∀ (a b:List D),((List.range (min a.length b.length)).all (fun j=>dEq (a.getD j (.int 0)) (b.getD j (.int 0))) && a.length == b.length)=dEqL a b:=by
 intro a b
 apply Bool.eq_iff_iff.mpr
 rw [dEqL_iff,Bool.and_eq_true,List.all_eq_true,beq_iff_eq]
 constructor
 ·rintro ⟨h1,h2⟩
  apply List.ext_getElem h2
  intro j hj hj'
  have:=h1 j (List.mem_range.mpr (by omega))
  rw [yI] at this
  simpa [hj,hj'] using this
 ·rintro rfl
  exact ⟨fun j _=>yI.mpr rfl,rfl⟩
section
variable {X:Cx} {pins:List (Addr×Obj)} {σ:St} {H:Hp} {s:Shared}
theorem jfh (I:Inv X pins σ H s):∀ (n:Nat) (A:Around) (d d':D) (x y:V) (u v:Value),d.depth≤n→A.units+n < cLine→Held H d x→Held H d' y→RelV x u→RelV y v→SeqAt.EqAt A s u v (dEq d d'):=by
 intro n
 induction n with
 | zero=>
  intro A d d' x y u v hd hA hx hy ru rv
  have hA':A.units < cLine:=by omega
  cases d with
  | int i=>
   unfold Held at hx;subst hx
   obtain ⟨t,rfl⟩:=ru
   cases d' with
   | int j=>
    unfold Held at hy;subst hy
    obtain ⟨t',rfl⟩:=rv
    unfold dEq
    exact SeqAt.EqAt.int_int i t j t'
   | str j=>
    unfold Held at hy;subst hy
    obtain ⟨t',rfl⟩:=rv
    unfold dEq
    exact SeqAt.EqAt.int_str i t j t'
   | tup ds=>
    unfold Held at hy
    obtain ⟨b,ys,rfl,hb,_⟩:=hy
    cases rv
    obtain ⟨its,_,tb,_⟩:=I.tuple (SqT.of hb)
    unfold dEq
    exact SeqAt.EqAt.int_tuple i t (show s.heap.IsTuple b its.toArray from tb) hA'
  | str i=>
   unfold Held at hx;subst hx
   obtain ⟨t,rfl⟩:=ru
   cases d' with
   | int j=>
    unfold Held at hy;subst hy
    obtain ⟨t',rfl⟩:=rv
    unfold dEq
    exact SeqAt.EqAt.str_int i t j t'
   | str j=>
    unfold Held at hy;subst hy
    obtain ⟨t',rfl⟩:=rv
    unfold dEq
    exact SeqAt.EqAt.str_str i t j t'
   | tup ds=>
    unfold Held at hy
    obtain ⟨b,ys,rfl,hb,_⟩:=hy
    cases rv
    obtain ⟨its,_,tb,_⟩:=I.tuple (SqT.of hb)
    unfold dEq
    exact SeqAt.EqAt.str_tuple i t (show s.heap.IsTuple b its.toArray from tb) hA'
  | tup ds=>unfold D.depth at hd;omega
 | succ n ih=>
  intro A d d' x y u v hd hA hx hy ru rv
  have hA':A.units < cLine:=by omega
  cases d with
  | int i=>exact ih A (.int i) d' x y u v (by unfold D.depth;omega) (by omega) hx hy ru rv
  | str z=>exact ih A (.str z) d' x y u v (by unfold D.depth;omega) (by omega) hx hy ru rv
  | tup ds=>
   have hx0:=hx
   unfold Held at hx
   obtain ⟨a,xs,rfl,ha,hxs⟩:=hx
   cases ru
   obtain ⟨its,rva,ta,_⟩:=I.tuple (SqT.of ha)
   cases d' with
   | int j=>
    unfold Held at hy;subst hy
    obtain ⟨t',rfl⟩:=rv
    unfold dEq
    exact SeqAt.EqAt.tuple_int j t' (show s.heap.IsTuple a its.toArray from ta) hA'
   | str j=>
    unfold Held at hy;subst hy
    obtain ⟨t',rfl⟩:=rv
    unfold dEq
    exact SeqAt.EqAt.tuple_str j t' (show s.heap.IsTuple a its.toArray from ta) hA'
   | tup ds'=>
    have hy0:=hy
    unfold Held at hy
    obtain ⟨b,ys,rfl,hb,hys⟩:=hy
    cases rv
    by_cases hab:a=b
    ·subst hab
     rw [yI.mpr (jaa hx0 hy0)]
     exact SeqAt.EqAt.same _
    ·obtain ⟨its2,rvb,tb,_⟩:=I.tuple (SqT.of hb)
     refine SeqAt.EqAt.of_refs hab ?_
     have l1:=hxs.length
     have l2:=hys.length
     have l3:=rva.length
     have l4:=rvb.length
     have key:=SeqAt.RcAt.tuples (A:=A) (s:=s) (e:=fun j=>dEq (ds.getD j (.int 0)) (ds'.getD j (.int 0))) (show s.heap.IsTuple a its.toArray from ta) (show s.heap.IsTuple b its2.toArray from tb) (by omega) (fun j h1 h2=>by
      have hj:j < ds.length:=by
       have:j < its.length:=by simpa using h1
       omega
      have hj':j < ds'.length:=by
       have:j < its2.length:=by simpa using h2
       omega
      have ej:ds[j]?=some ds[j]:=List.getElem?_eq_getElem hj
      obtain ⟨x',hx',gx⟩:=hxs.get ej
      obtain ⟨y',hy',gy⟩:=hys.get (List.getElem?_eq_getElem hj')
      obtain ⟨u',hu',ru'⟩:=rva.get hx'
      obtain ⟨v',hv',rv'⟩:=rvb.get hy'
      have eu:its.toArray[j]=u':=by
       have:=(List.getElem?_eq_some_iff.mp hu').2
       simpa using this
      have ev:its2.toArray[j]=v':=by
       have:=(List.getElem?_eq_some_iff.mp hv').2
       simpa using this
      rw [eu,ev]
      unfold D.depth at hd
      have g1:ds.getD j (.int 0)=ds[j]:=by simp [hj]
      have g2:ds'.getD j (.int 0)=ds'[j]:=by simp [hj']
      rw [g1,g2]
      exact ih A.in1 ds[j] ds'[j] x' y' u' v' (by have:=D.depthL_get ej;omega) (by show A.units+1+n < cLine;omega) gx gy ru' rv')
     have e:((List.range (min its.toArray.size its2.toArray.size)).all (fun j=>dEq (ds.getD j (.int 0)) (ds'.getD j (.int 0))) && its.toArray.size == its2.toArray.size)=dEqL ds ds':=by
      have e1:its.toArray.size=ds.length:=by simp;omega
      have e2:its2.toArray.size=ds'.length:=by simp;omega
      rw [e1,e2]
      exact KR ds ds'
     rw [e] at key
     unfold dEq
     exact key
theorem KJ (I:Inv X pins σ H s) {n:Nat} {A:Around} {ds ds':List D} {xs ys:List V} {its its2:List Value} (hd:D.depthL ds≤n) (hA:A.units+n < cLine) (hxs:HeldL H ds xs) (hys:HeldL H ds' ys) (rva:Vals xs its) (rvb:Vals ys its2) :
  ∀ j (h1:j < its.toArray.size) (h2:j < its2.toArray.size),SeqAt.EqAt A s its.toArray[j] its2.toArray[j] (dEq (ds.getD j (.int 0)) (ds'.getD j (.int 0))):=fun j h1 h2=>by
 have l1:=hxs.length
 have l2:=hys.length
 have l3:=rva.length
 have l4:=rvb.length
 have hj:j < ds.length:=by
  have:j < its.length:=by simpa using h1
  omega
 have hj':j < ds'.length:=by
  have:j < its2.length:=by simpa using h2
  omega
 have ej:ds[j]?=some ds[j]:=List.getElem?_eq_getElem hj
 obtain ⟨x',hx',gx⟩:=hxs.get ej
 obtain ⟨y',hy',gy⟩:=hys.get (List.getElem?_eq_getElem hj')
 obtain ⟨u',hu',ru'⟩:=rva.get hx'
 obtain ⟨v',hv',rv'⟩:=rvb.get hy'
 have eu:its.toArray[j]=u':=by
  have:=(List.getElem?_eq_some_iff.mp hu').2
  simpa using this
 have ev:its2.toArray[j]=v':=by
  have:=(List.getElem?_eq_some_iff.mp hv').2
  simpa using this
 rw [eu,ev]
 have g1:ds.getD j (.int 0)=ds[j]:=by simp [hj]
 have g2:ds'.getD j (.int 0)=ds'[j]:=by simp [hj']
 rw [g1,g2]
 exact jfh I n A ds[j] ds'[j] x' y' u' v' (by have:=D.depthL_get ej;omega) hA gx gy ru' rv'
theorem jhv (n:Nat) (hu:X.A.units+1+n < cLine):OpR X (compareOp .Eq) (fun x y H Q=>∃ a b xs ys ds ds',x=.ref a∧y=.ref b∧H a=some (.tup xs)∧H b=some (.tup ys)∧D.depthL ds≤n∧HeldL H ds xs∧HeldL H ds' ys∧Q (.bl (decide (ds=ds'))) H):=by
 intro pins s σ H x y v u Q I rx ry h
 obtain ⟨a,b,xs,ys,ds,ds',rfl,rfl,ha,hb,hd,hxs,hys,q⟩:=h
 cases rx;cases ry
 obtain ⟨its,rva,ta,_⟩:=I.tuple (SqT.of ha)
 obtain ⟨its2,rvb,tb,_⟩:=I.tuple (SqT.of hb)
 have l1:=hxs.length
 have l2:=hys.length
 have l3:=rva.length
 have l4:=rvb.length
 have key:=SeqAt.RcAt.tuples (A:=X.A) (s:=s) (e:=fun j=>dEq (ds.getD j (.int 0)) (ds'.getD j (.int 0))) (show s.heap.IsTuple a its.toArray from ta) (show s.heap.IsTuple b its2.toArray from tb) (by omega) (KJ I (A:=X.A.in1) hd (by show X.A.units+1+n < cLine;exact hu) hxs hys rva rvb)
 have e:((List.range (min its.toArray.size its2.toArray.size)).all (fun j=>dEq (ds.getD j (.int 0)) (ds'.getD j (.int 0))) && its.toArray.size == its2.toArray.size)=decide (ds=ds'):=by
  have e1:its.toArray.size=ds.length:=by simp;omega
  have e2:its2.toArray.size=ds'.length:=by simp;omega
  rw [e1,e2,KR,jan]
 rw [e] at key
 exact key X.prog X.w X.xe _ ⟨.bl (decide (ds=ds')),H,I,rfl,q⟩
theorem jfp {ds ds':List D} (h:ds.length=ds'.length):((List.range ds.length).all fun j=>dEq (ds.getD j (.int 0)) (ds'.getD j (.int 0)))=decide (ds=ds'):=by
 have:=KR ds ds'
 rw [← h,Nat.min_self,beq_self_eq_true,Bool.and_true,jan] at this
 exact this
theorem jeW (n:Nat) (hu:X.A.units+1+n < cLine):OpR X (compareOp .Eq) (fun x y H Q=>∃ a b xs ys ds ds',x=.ref a∧y=.ref b∧H a=some (.lst xs)∧H b=some (.lst ys)∧D.depthL ds≤n∧HeldL H ds xs∧HeldL H ds' ys∧Q (.bl (decide (ds=ds'))) H):=by
 intro pins s σ H x y v u Q I rx ry h
 obtain ⟨a,b,xs,ys,ds,ds',rfl,rfl,ha,hb,hd,hxs,hys,q⟩:=h
 cases rx;cases ry
 obtain ⟨its,rva,ta,_⟩:=I.list (SqL.of ha)
 obtain ⟨its2,rvb,tb,_⟩:=I.list (SqL.of hb)
 have l1:=hxs.length
 have l2:=hys.length
 have l3:=rva.length
 have l4:=rvb.length
 have e1:its.toArray.size=ds.length:=by simp;omega
 have e2:its2.toArray.size=ds'.length:=by simp;omega
 by_cases hl:ds.length=ds'.length
 ·have key:=SeqAt.RcAt.lists (A:=X.A) (s:=s) (e:=fun j=>dEq (ds.getD j (.int 0)) (ds'.getD j (.int 0))) ta.isList tb.isList (by rw [e1,e2,hl]) (by omega) (KJ I (A:=X.A.in1) hd (by show X.A.units+1+n < cLine;exact hu) hxs hys rva rvb)
  rw [e1,jfp hl] at key
  exact key X.prog X.w X.xe _ ⟨.bl (decide (ds=ds')),H,I,rfl,q⟩
 ·have key:=SeqAt.RcAt.lists_lengths (A:=X.A) (s:=s) ta.isList tb.isList (by rw [e1,e2];simpa using hl) (by omega)
  rw [decide_eq_false (fun z=>hl (by rw [z]))] at q
  exact key X.prog X.w X.xe _ ⟨.bl false,H,I,rfl,q⟩
end
open PySem PySem.Spec PyProof.Rows
def LikeV (K:PySem.W.Frag) (H:Hp):Nat→V→V→Prop
 | 0,x,y=>(∃ i,x=.int i∧y=.int i)∨∃ z,x=.str z∧y=.str z
 | n+1,x,y=>LikeV K H n x y∨
  (∃ a b xs ys,x=.ref a∧y=.ref b∧SqT K H a xs∧SqT K H b ys∧xs.length=ys.length∧∀ (j:Nat) x' y',xs[j]?=some x'→ys[j]?=some y'→LikeV K H n x' y')∨
  ∃ a b xs ys,x=.ref a∧y=.ref b∧SqL K H a xs∧SqL K H b ys∧xs.length=ys.length∧∀ (j:Nat) x' y',xs[j]?=some x'→ys[j]?=some y'→LikeV K H n x' y'
theorem qJ {K:PySem.W.Frag} {H:Hp} (i:Int):∀ n,LikeV K H n (.int i) (.int i)
 | 0=>.inl ⟨i,rfl,rfl⟩
 | n+1=>.inl (qJ i n)
theorem qx {K:PySem.W.Frag} {H:Hp} (z:Str):∀ n,LikeV K H n (.str z) (.str z)
 | 0=>.inr ⟨z,rfl,rfl⟩
 | n+1=>.inl (qx z n)
section
variable {X:Cx} {pins:List (Addr×Obj)} {σ:St} {H:Hp} {s:Shared}
theorem YU {xs ys:List V} {its its2:List Value} {A:Around} (hl:xs.length=ys.length) (rva:Vals xs its) (rvb:Vals ys its2) (h:∀ (j:Nat) x' y' u' v',xs[j]?=some x'→ys[j]?=some y'→RelV x' u'→RelV y' v'→SeqAt.EqAt A s u' v' true) :
  ∀ j (h1:j < its.toArray.size) (h2:j < its2.toArray.size),SeqAt.EqAt A s its.toArray[j] its2.toArray[j] true:=fun j h1 h2=>by
 have l3:=rva.length
 have h1':j < its.length:=by simpa using h1
 have hx':xs[j]?=some (xs[j]'(by omega)):=List.getElem?_eq_getElem (by omega)
 have hy':ys[j]?=some (ys[j]'(by omega)):=List.getElem?_eq_getElem (by omega)
 obtain ⟨u',hu',ru'⟩:=rva.get hx'
 obtain ⟨v',hv',rv'⟩:=rvb.get hy'
 have eu:its.toArray[j]=u':=by
  have:=(List.getElem?_eq_some_iff.mp hu').2
  simpa using this
 have ev:its2.toArray[j]=v':=by
  have:=(List.getElem?_eq_some_iff.mp hv').2
  simpa using this
 rw [eu,ev]
 exact h j _ _ u' v' hx' hy' ru' rv'
theorem yH (I:Inv X pins σ H s):∀ (n:Nat) (A:Around) (x y:V) (u v:Value),A.units+n < cLine→LikeV X.K H n x y→RelV x u→RelV y v→SeqAt.EqAt A s u v true
 | 0,A,x,y,u,v,hA,h,ru,rv=>by
  rcases h with ⟨i,rfl,rfl⟩ | ⟨z,rfl,rfl⟩
  ·obtain ⟨t,rfl⟩:=ru
   obtain ⟨t',rfl⟩:=rv
   have:=SeqAt.EqAt.int_int (A:=A) (s:=s) i t i t'
   rw [beq_self_eq_true] at this
   exact this
  ·obtain ⟨t,rfl⟩:=ru
   obtain ⟨t',rfl⟩:=rv
   have:=SeqAt.EqAt.str_str (A:=A) (s:=s) z t z t'
   rw [beq_self_eq_true] at this
   exact this
 | n+1,A,x,y,u,v,hA,h,ru,rv=>by
  rcases h with h | ⟨a,b,xs,ys,rfl,rfl,ha,hb,hl,hj⟩ | ⟨a,b,xs,ys,rfl,rfl,ha,hb,hl,hj⟩
  ·exact yH I n A x y u v (by omega) h ru rv
  ·cases ru;cases rv
   by_cases hab:a=b
   ·subst hab;exact SeqAt.EqAt.same _
   ·obtain ⟨its,rva,ta,_⟩:=I.tuple ha
    obtain ⟨its2,rvb,tb,_⟩:=I.tuple hb
    refine SeqAt.EqAt.of_refs hab ?_
    have l3:=rva.length
    have l4:=rvb.length
    have key:=SeqAt.RcAt.tuples (A:=A) (s:=s) (e:=fun _=>true) (show s.heap.IsTuple a its.toArray from ta) (show s.heap.IsTuple b its2.toArray from tb) (by omega) (YU hl rva rvb fun j x' y' u' v' e1 e2 r1 r2=>yH I n A.in1 x' y' u' v' (by show A.units+1+n < cLine;omega) (hj j x' y' e1 e2) r1 r2)
    have e:((List.range (min its.toArray.size its2.toArray.size)).all (fun _=>true) && its.toArray.size == its2.toArray.size)=true:=by
     have:its.toArray.size=its2.toArray.size:=by simp;omega
     rw [this];simp
    rw [e] at key
    exact key
  ·cases ru;cases rv
   by_cases hab:a=b
   ·subst hab;exact SeqAt.EqAt.same _
   ·obtain ⟨its,rva,ta,_⟩:=I.list ha
    obtain ⟨its2,rvb,tb,_⟩:=I.list hb
    refine SeqAt.EqAt.of_refs hab ?_
    have l3:=rva.length
    have l4:=rvb.length
    have key:=SeqAt.RcAt.lists (A:=A) (s:=s) (e:=fun _=>true) ta.isList tb.isList (by simp;omega) (by omega) (YU hl rva rvb fun j x' y' u' v' e1 e2 r1 r2=>yH I n A.in1 x' y' u' v' (by show A.units+1+n < cLine;omega) (hj j x' y' e1 e2) r1 r2)
    have e:(List.range its.toArray.size).all (fun _=>true)=true:=by simp
    rw [e] at key
    exact key
end
def TKF (H H':Hp):Prop:=(∀ b xs,H b=some (.tup xs)→H' b=some (.tup xs))∧∀ b o u,H b=some (.frz o u)→H' b=some (.frz o u)
theorem TKF.same {H H':Hp} (h:Same H H'):TKF H H':=⟨fun b xs e=>h b _ e,fun b o u e=>h b _ e⟩
theorem TKF.trans {H H1 H2:Hp} (h:TKF H H1) (h':TKF H1 H2):TKF H H2:=⟨fun b xs e=>h'.1 b xs (h.1 b xs e),fun b o u e=>h'.2 b o u (h.2 b o u e)⟩
theorem TKF.upd {H:Hp} {a:Addr} {o u:HO} (h:H a=some o) (h1:∀ xs,o≠.tup xs) (h2:∀ p z,o≠.frz p z):TKF H (L2.upd H a u):=
 ⟨fun b xs e=>by rw [jg (j4 e h (fun z=>h1 xs z.symm))];exact e,fun b p z e=>by rw [jg (j4 e h (fun t=>h2 p z t.symm))];exact e⟩
theorem TKF.updD {H:Hp} {a:Addr} {kv:List (Key×V)} {u:HO} (h:H a=some (.dK kv)):TKF H (L2.upd H a u):=TKF.upd h (fun _ z=>by cases z) fun _ _ z=>by cases z
theorem TKF.updL {H:Hp} {a:Addr} {xs:List V} {u:HO} (h:H a=some (.lst xs)):TKF H (L2.upd H a u):=TKF.upd h (fun _ z=>by cases z) fun _ _ z=>by cases z
theorem TKF.sqT {K:PySem.W.Frag} {H H':Hp} {a:Addr} {xs:List V} (e:TKF H H') (h:SqT K H a xs):SqT K H' a xs:=by
 rcases h with (h | ⟨o,h⟩) | h
 ·exact .inl (.inl (e.1 _ _ h))
 ·exact .inl (.inr ⟨o,e.2 _ _ _ h⟩)
 ·exact .inr h
open PySem PySem.Spec PyProof.Rows PySem.W
theorem ZH:∀ {ys:List Str} {its:List Value},Vals (ys.map V.str) its→StrsAre its ys
 | [],_,r=>by cases r;exact .nil
 | y :: ys,_,r=>by
  cases r with
  | cons h t=>
   obtain ⟨k,rfl⟩:=h
   exact .cons y k (ZH t)
theorem je7 {X:Cx}:MtR X "str.join" (fun x xs H Q=>∃ (sep:Str) (l:Addr) (ys:List Str),x=.str sep∧xs=[.ref l]∧SqL X.K H l (ys.map V.str)∧(ys.map (·.length)).sum+ys.length * sep.length≤16777216∧Q (.str (Txt.join sep ys)) H):=by
 intro pins s σ H x xs v us Q I rx rs h
 obtain ⟨sep,l,ys,rfl,rfl,hl,hb,q⟩:=h
 obtain ⟨t,rfl⟩:=rx
 obtain ⟨u,rfl,ru⟩:=yk rs
 cases ru
 obtain ⟨its,rv,pl,hz⟩:=I.list hl
 refine join_list pl.isList (by simpa using ZH rv) hb fun t' k=>?_
 exact ⟨.str (Txt.join sep ys),H,I.kept (t':=k) fun b o e=>e,⟨t',rfl⟩,q⟩
open PySem PySem.Spec PyProof.Rows PySem.W
section
variable {prog:Program} {w:World} {A:Around} {E:Value→Shared→Prop} {s:Shared}
theorem jed {t b:Addr} {vs ws:List Value} {Q:Value→Shared→Prop} (ht:IsTup s.heap t vs.toArray) (hb:IsTup s.heap b ws.toArray) (hv:vs=[]) (h:Q (.ref b) s):wpAny (model prog w) A (binaryOp .Add (.ref t) (.ref b)) Q E s:=by
 obtain ⟨⟨cls,dd,data,sl⟩,ho,hc,n,hd⟩:=id ht
 obtain ⟨⟨cls2,dd2,data2,sl2⟩,ho2,hc2,n2,hd2⟩:=id hb
 simp only at hc hd hc2 hd2
 subst hc hd hc2 hd2
 exact concat_meets ⟨_,ho,rfl⟩ ⟨_,ho2,rfl⟩ noFill_tuple_add seq_tuple_add PySem.F.slot_tuple_add PySem.F.entry_tuple_add (PySem.F.args_tuple_add_2 _ _)
   (tuple_addW0 t b vs.toArray ws.toArray n n2 dd dd2 sl sl2 (by simp [hv])) ⟨ho,ho2,h⟩
end
open PySem PySem.Spec PyProof.Rows PySem.W
def jf0:R2:=fun x y H Q=>∃ a b xs ys,x=.ref a∧y=.ref b∧H a=some (.tup xs)∧H b=some (.tup ys)∧xs.length+ys.length≤sizeLine∧∀ p H',Same H H'→H' p=some (.tup (xs++ys))→Q (.ref p) H'
theorem zT {X:Cx}:OpR X (binaryOp .Add) jf0:=by
 intro pins s σ H x y v u Q I rx ry h
 obtain ⟨a,b,xs,ys,rfl,rfl,ha,hb,hz,q⟩:=h
 by_cases hx:xs=[]
 ·cases rx
  cases ry
  obtain ⟨its,r1,p1,_⟩:=I.tuple (SqT.of ha)
  obtain ⟨its2,r2,p2,_⟩:=I.tuple (SqT.of hb)
  subst hx
  exact jed p1 p2 (r1.nil_iff.mpr rfl) ⟨.ref b,H,I,rfl,q b H (Same.refl _) hb⟩
 ·refine jeX pins s σ H (.ref a) (.ref b) v u Q I rx ry ⟨a,b,xs,ys,rfl,rfl,SqT.of ha,SqT.of hb,hx,hz,fun hy=>q a H (Same.refl _) (by rw [hy,List.append_nil];exact ha),fun _ p hp=>q p _ (fun c o e=>by rw [jg (jl e hp)];exact e) ja⟩
open PySem PySem.Spec PyProof.Rows PySem.W
def jfx (t:TS):TS:=fun D σ H=>∃ J:St→Hp→Prop,t { D with nx:=J } σ H∧∀ σ' H',J σ' H'→D.nx σ' H'
theorem jeL {X:Cx} {st:Stmt} {t:TS} (h:PS X st t):PS X st (jfx t):=by
 intro pins s σ H D I q
 obtain ⟨J,q,k⟩:=q
 refine thn (h pins s σ H _ I q) fun f s1 q1=>?_
 cases f with
 | next=>
  obtain ⟨σ',H',I',e⟩:=q1
  exact ⟨σ',H',I',k _ _ e⟩
 | cont=>exact q1
 | brk=>exact q1
 | ret v=>exact q1
end L2
namespace LW
open PySem L2
theorem ye {H:Hp}:∀ {ds:List D} {vs:List V} {d:D} {v:V},HeldL H ds vs→Held H d v→HeldL H (ds++[d]) (vs++[v])
 | [],vs,d,v,h,hv=>by
  unfold HeldL at h
  subst h
  exact ji hv jy
 | d' :: ds,vs,d,v,h,hv=>by
  unfold HeldL at h
  obtain ⟨u,r,rfl,h1,h2⟩:=h
  exact ji h1 (ye h2 hv)
mutual
theorem Zk {H H':Hp} (e:∀ b xs,H b=some (.tup xs)→H' b=some (.tup xs)):∀ {d:D} {v:V},Held H d v→Held H' d v
 | .int i,v,h=>by unfold Held at h ⊢;exact h
 | .str x,v,h=>by unfold Held at h ⊢;exact h
 | .tup ds,v,h=>by
  unfold Held at h ⊢
  obtain ⟨a,xs,e1,e2,e3⟩:=h
  exact ⟨a,xs,e1,e a _ e2,heldL_tk e e3⟩
theorem heldL_tk {H H':Hp} (e:∀ b xs,H b=some (.tup xs)→H' b=some (.tup xs)):∀ {ds:List D} {vs:List V},HeldL H ds vs→HeldL H' ds vs
 | [],vs,h=>by unfold HeldL at h ⊢;exact h
 | d :: ds,vs,h=>by
  unfold HeldL at h ⊢
  obtain ⟨v,r,e1,e2,e3⟩:=h
  exact ⟨v,r,e1,Zk e e2,heldL_tk e e3⟩
end
def TK (G G':Hp):Prop:=∀ b xs,G b=some (.tup xs)→G' b=some (.tup xs)
theorem TK.trans {G G1 G2:Hp} (h:TK G G1) (h':TK G1 G2):TK G G2:=fun b xs e=>h' b xs (h b xs e)
theorem TK.same {G G':Hp} (h:Same G G'):TK G G':=fun b xs e=>h b _ e
theorem TK.upd {G:Hp} {a:Addr} {o u:HO} (h:G a=some o) (hn:∀ xs,o≠.tup xs):TK G (L2.upd G a u):=fun b xs e=>by
 rw [jg (j4 e h (fun z=>hn xs z.symm))]
 exact e
theorem TK.heldL {G G':Hp} (h:TK G G') {d:List D} {v:List V} (x:HeldL G d v):HeldL G' d v:=heldL_tk h x
theorem TK.held {G G':Hp} (h:TK G G') {d:D} {v:V} (x:Held G d v):Held G' d v:=Zk h x
def qw (p:List Int):D:=.tup (p.map D.int)
def Zx (least keeps:D) (kind:Str) (p:List Int) (yes no:Nat):D:=.tup [.str "ask",least,keeps,.str kind,qw p,.int yes,.int no]
def kD (S:Nat→D→List Int→List D):Nat→List D→List Int→Nat→List D
 | _,[],_,_=>[]
 | n,st :: jv,ar,k=>S n st (ar++[(k:Int)])++kD S (n+(S n st (ar++[(k:Int)])).length) jv ar (k+1)
def Yy (S:Nat→D→List Int→List D) (n:Nat) (least:D) (b o:List D) (p:List Int):List D:=
 let B:=kD S (n+1) b (p++[0]) 0
 let O:=kD S (n+1+B.length+1) o (p++[1]) 0
 Zx least (.tup []) "" p (n+1) (n+1+B.length+1) :: B++.tup [.str "go",.int ((n+1+B.length+1+O.length:Nat):Int)] :: O
def KC (S:Nat→D→List Int→List D) (n:Nat) (least keeps:D) (b:List D) (p:List Int):List D:=
 let B:=kD S (n+2) b (p++[0]) 0
 .tup [.str "come"] :: Zx least keeps "enter" p (n+2) (n+2+B.length+1) :: B++[Zx least keeps "keep" p (n+2) (n+2+B.length+1)]
def kT:Nat→Nat→D→List Int→List D
 | 0,_,_,_=>[]
 | f+1,n,st,p=>match st with
  | .tup [.str k,least,.tup b,.tup o]=>if k = "if" then Yy (kT f) n least b o p else if k = "while" then KC (kT f) n least (.tup b) o p else [.tup [.str "do",st,qw p]]
  | _=>[.tup [.str "do",st,qw p]]
def Jo:Nat→D→Prop
 | 0,_=>False
 | f+1,st=>(∃ k r,st=.tup (.str k :: r)∧k≠"if"∧k≠"while")∨(∃ least b o,st=.tup [.str "if",least,.tup b,.tup o]∧(∀ s∈b,Jo f s)∧∀ s∈o,Jo f s)∨(∃ least keeps b,st=.tup [.str "while",least,.tup keeps,.tup b]∧∀ s∈b,Jo f s)
theorem jbG {f n:Nat} {least:D} {b o:List D} {p:List Int}:kT (f+1) n (.tup [.str "if",least,.tup b,.tup o]) p=Yy (kT f) n least b o p:=by
 unfold kT
 dsimp only
 rw [if_pos rfl]
theorem jfa {f n:Nat} {least:D} {ks b:List D} {p:List Int}:kT (f+1) n (.tup [.str "while",least,.tup ks,.tup b]) p=KC (kT f) n least (.tup ks) b p:=by
 unfold kT
 dsimp only
 rw [if_neg (by decide),if_pos rfl]
theorem jbH {f n:Nat} {k:Str} {r:List D} {p:List Int} (h1:k≠"if") (h2:k≠"while"):kT (f+1) n (.tup (.str k :: r)) p=[.tup [.str "do",.tup (.str k :: r),qw p]]:=by
 unfold kT
 split
 ·rename_i k' least b o e
  injection e with e
  injection e with e1 e2
  injection e1 with e1
  subst e1
  rw [if_neg h1,if_neg h2]
 ·rfl
inductive SO (H:Hp):List (Option D)→List V→Prop where
 | nil:SO H [] []
 | non {os:List (Option D)} {vs:List V} (r:SO H os vs):SO H (none :: os) (.non :: vs)
 | tree {d:D} {v:V} {os:List (Option D)} {vs:List V} (h:Held H d v) (r:SO H os vs):SO H (some d :: os) (v :: vs)
theorem SO.length {H:Hp} {os:List (Option D)} {vs:List V} (h:SO H os vs):os.length=vs.length:=by
 induction h with
 | nil=>rfl
 | non _ ih=>rw [List.length_cons,List.length_cons,ih]
 | tree _ _ ih=>rw [List.length_cons,List.length_cons,ih]
theorem SO.append {H:Hp} {os os':List (Option D)} {vs vs':List V} (h:SO H os vs) (h':SO H os' vs'):SO H (os++os') (vs++vs'):=by
 induction h with
 | nil=>exact h'
 | non _ ih=>exact .non ih
 | tree h _ ih=>exact .tree h ih
theorem SO.tk {H H':Hp} (e:TK H H') {os:List (Option D)} {vs:List V} (h:SO H os vs):SO H' os vs:=by
 induction h with
 | nil=>exact .nil
 | non _ ih=>exact .non ih
 | tree h _ ih=>exact .tree (e.held h) ih
theorem SO.set {H:Hp} {d:D} {v:V} (hv:Held H d v) {os:List (Option D)} {vs:List V} (h:SO H os vs):∀ k,SO H (os.set k (some d)) (vs.set k v):=by
 induction h with
 | nil=>intro k;exact .nil
 | non r ih=>intro k;cases k with | zero=>exact .tree hv r | succ k=>exact .non (ih k)
 | tree h r ih=>intro k;cases k with | zero=>exact .tree hv r | succ k=>exact .tree h (ih k)
theorem SO.heldL {H:Hp}:∀ {ds:List D} {vs:List V},SO H (ds.map some) vs→HeldL H ds vs
 | [],_,h=>by cases h;exact jy
 | d :: ds,_,h=>by
  cases h with
  | tree h r=>exact ji h r.heldL
theorem JA {H:Hp} {p:List Int} {v:V} (h:Held H (qw p) v):∃ a,v=.ref a∧H a=some (.tup (p.map V.int)):=by
 unfold qw Held at h
 obtain ⟨a,xs,e1,e2,e3⟩:=h
 refine ⟨a,e1,?_⟩
 have:∀ {p:List Int} {xs:List V},HeldL H (p.map D.int) xs→xs=p.map V.int:=by
  intro p
  induction p with
  | nil=>intro xs h;simpa [HeldL] using h
  | cons x p ih=>
   intro xs h
   rw [List.map_cons] at h
   unfold HeldL at h
   obtain ⟨v,r,rfl,h1,h2⟩:=h
   unfold Held at h1
   rw [h1,ih h2]
   rfl
 rw [this e3] at e2
 exact e2
theorem qC {H:Hp} {p:List Int} {a:Addr} (h:H a=some (.tup (p.map V.int))):Held H (qw p) (.ref a):=by
 have:∀ p:List Int,HeldL H (p.map D.int) (p.map V.int):=by
  intro p
  induction p with
  | nil=>exact jy
  | cons x p ih=>exact ji jM ih
 exact jQ h (this p)
open PySem L2
def jeu:TE:=fun _ _ _=>False
theorem ZU {X:Cx} {e:Expr}:PE X e jeu:=fun _ _ _ _ _ _ h=>h.elim
def lkA {α:Type} (L:List (Str×α)) (k:Str):Option α:=(L.find? fun q=>decide (q.1=k)).map (·.2)
def kE {α:Type} (L:List (Str×α)) (k:Str) (v:α):List (Str×α):=if (L.any fun q=>decide (q.1=k))=true then L.map (fun q=>if q.1=k then (q.1,v) else q) else L++[(k,v)]
def nKV (N:List (Str×Int)):List (Key×V):=N.map fun q=>(Sum.inr q.1,V.int q.2)
theorem Zi (x y:Str):decide ((Sum.inr x:Key)=Sum.inr y)=decide (x=y):=by
 rw [decide_eq_decide]
 exact ⟨fun h=>Sum.inr.inj h,fun h=>by rw [h]⟩
theorem je6 (N:List (Str×Int)) (x:Str):qi (nKV N) (Sum.inr x)=(lkA N x).map V.int:=by
 unfold qi lkA nKV
 rw [List.find?_map,Option.map_map,Option.map_map]
 congr 1
 congr 1
 funext q
 exact Zi q.1 x
theorem Y9 (N:List (Str×Int)) (x:Str) (n:Int):qE (nKV N) (Sum.inr x) (.int n)=nKV (kE N x n):=by
 unfold qE kE nKV
 have e:((N.map fun q=>((Sum.inr q.1:Key),V.int q.2)).any fun kv=>decide (kv.1=(Sum.inr x:Key)))=N.any fun q=>decide (q.1=x):=by
  rw [List.any_map]
  congr 1
  funext q
  exact Zi q.1 x
 rw [e]
 split
 ·rw [List.map_map,List.map_map]
  apply List.map_congr_left
  intro q _
  show (if (Sum.inr q.1:Key)=Sum.inr x then ((Sum.inr q.1:Key),V.int n) else ((Sum.inr q.1:Key),V.int q.2))=((Sum.inr (if q.1=x then (q.1,n) else q).1:Key),V.int (if q.1=x then (q.1,n) else q).2)
  by_cases h:q.1=x
  ·rw [if_pos (by rw [h]),if_pos h]
  ·rw [if_neg (fun z=>h (Sum.inr.inj z)),if_neg h]
 ·rw [List.map_append]
  rfl
theorem Ko {α:Type} (L:List (Str×α)) (k:Str) (v:α):(kE L k v).length≤L.length+1:=by
 unfold kE
 split
 ·rw [List.length_map];omega
 ·rw [List.length_append];simp
def kH (N:List (Str×Int)) (x:Str):Int:=if x = "" then 0 else (lkA N x).getD 0
theorem j3 {H:Hp} {x:Int} {v:V} (h:Held H (.int x) v):v=.int x:=by unfold Held at h;exact h
theorem jo {H:Hp} {ds:List D} {v:V} (h:Held H (.tup ds) v):∃ a xs,v=.ref a∧H a=some (.tup xs)∧HeldL H ds xs:=by unfold Held at h;exact h
theorem js {H:Hp} {vs:List V} (h:HeldL H [] vs):vs=[]:=by unfold HeldL at h;exact h
theorem jb {H:Hp} {d:D} {ds:List D} {vs:List V} (h:HeldL H (d :: ds) vs):∃ v r,vs=v :: r∧Held H d v∧HeldL H ds r:=by unfold HeldL at h;exact h
theorem jq {H:Hp} {x:Str} {v:V} (h:Held H (.str x) v):v=.str x:=by unfold Held at h;exact h
theorem jgt {H:Hp} {x y:Str} {v:V} (h:Held H (.tup [.str x,.str y]) v):∃ a,v=.ref a∧H a=some (.tup [.str x,.str y]):=by
 obtain ⟨a,xs,rfl,ha,h1⟩:=jo h
 obtain ⟨v1,r1,rfl,e1,h2⟩:=jb h1
 obtain ⟨v2,r2,rfl,e2,h3⟩:=jb h2
 cases js h3
 cases jq e1
 cases jq e2
 exact ⟨a,rfl,ha⟩
open PySem L2
theorem jeg {ns:List Int} {k:Int} (h0:0≤k) (h:k < (ns.length:Int)):atI (ns.map V.int) k=some (.int (ns.getD k.toNat 0)):=by
 have hk:k.toNat < ns.length:=by omega
 have:=zD (xs:=ns.map V.int) (j:=k.toNat) (v:=.int (ns.getD k.toNat 0)) (by rw [List.getElem?_map,List.getD_eq_getElem?_getD,List.getElem?_eq_getElem hk];rfl)
 rw [show ((k.toNat:Nat):Int)=k by omega] at this
 exact this
theorem jfo {xs:List Str} {i:Int} (h0:0≤i) (h:i < (xs.length:Int)):atI (xs.map V.str) i=some (.str (xs.getD i.toNat "")):=by
 have hk:i.toNat < xs.length:=by omega
 have:=zD (xs:=xs.map V.str) (j:=i.toNat) (v:=.str (xs.getD i.toNat "")) (by rw [List.getElem?_map,List.getD_eq_getElem?_getD,List.getElem?_eq_getElem hk];rfl)
 rw [show ((i.toNat:Nat):Int)=i by omega] at this
 exact this
theorem Z7:∀ ys:List Nat,(Txt.join "" (ys.map fun c=>(⟨#[c]⟩:Str))).cps.toList=ys:=by
 intro ys
 have e:Txt.join "" (ys.map fun c=>(⟨#[c]⟩:Str))=("" : Str).join (ys.map fun c=>(⟨#[c]⟩:Str)):=PySem.StrLaws.glued_eq_join _ _
 rw [e]
 clear e
 induction ys with
 | nil=>rfl
 | cons y r ih=>
  cases r with
  | nil=>rfl
  | cons z r=>
   show (((⟨#[y]⟩:Str)++("" : Str))++("" : Str).join ((z :: r).map fun c=>(⟨#[c]⟩:Str))).cps.toList=_
   rw [Str.cps_append,Array.toList_append,ih]
   rfl
def qK:Str:="abcdefghijklmnopqrstuvwxyz"
theorem Zb:qK.cps.toList=(List.range 26).map (·+97):=by decide +kernel
def yc (i:Int):Nat:=i.toNat+97
theorem Yx {i:Int} (h0:0≤i) (h1:i < 26):atI qK.cps.toList i=some (yc i):=by
 have hk:i.toNat < 26:=by omega
 have:=zD (xs:=qK.cps.toList) (j:=i.toNat) (v:=yc i) (by rw [Zb,List.getElem?_map,List.getElem?_range hk];rfl)
 rw [show ((i.toNat:Nat):Int)=i by omega] at this
 exact this
def qzS:Str:="qz"
def qzC (i:Int):Nat:=if i=0 then 113 else 122
theorem jg4 {i:Int} (h0:0≤i) (h1:i < 2):atI qzS.cps.toList i=some (qzC i):=by
 have:i=0∨i=1:=by omega
 rcases this with rfl | rfl
 ·decide +kernel
 ·decide +kernel
def Ku:List Str:=["row","is","at","set","put","know","lose","start","entry","own","nought","pick","least","lost"]
structure WordsOk (ws:List Str) (n:Nat):Prop where
 len:ws.length=n
 nd:ws.Nodup
 ne:∀ w∈ws,w≠""
 out:∀ w∈ws,w≠"out"
 sz:∀ w∈ws,w.length≤10
theorem yT {α:Type} {n:Nat} {f:Nat→α} (h:∀ i j,i < n→j < n→f i=f j→i=j):((List.range n).map f).Nodup:=by
 unfold List.Nodup
 rw [List.pairwise_map]
 apply List.Pairwise.imp_of_mem (R:=fun a b=>a≠b)
 ·intro a b ha hb hne e
  exact hne (h a b (List.mem_range.mp ha) (List.mem_range.mp hb) e)
 ·exact List.nodup_range
theorem Za {a:Int} {i j:Nat} {m:Int} {n:Nat} (hn:(n:Int)≤m) (hi:i < n) (hj:j < n) (h:(a+(0+(i:Int))) % m=(a+(0+(j:Int))) % m):i=j:=by
 have hm:0 < m:=by omega
 have h1:=Int.emod_emod_of_dvd (a+(0+(i:Int))) (Int.dvd_refl m)
 have h2:((a+(0+(i:Int))) - (a+(0+(j:Int)))) % m=0:=Int.emod_eq_emod_iff_emod_sub_eq_zero.mp h
 have h3:m ∣ ((i:Int) - j):=by
  have:=Int.dvd_of_emod_eq_zero h2
  rwa [show (a+(0+(i:Int))) - (a+(0+(j:Int)))=(i:Int) - j by omega] at this
 have h4:=Int.eq_zero_of_dvd_of_natAbs_lt_natAbs h3 (by omega)
 omega
def jdC (c:Int) (k:Nat):Str:=Ku.getD ((c / 7+(0+(k:Int))) % 14).toNat ""
def jgg (c:Int) (k:Nat):Str:=⟨#[yc ((c / 8+(0+(k:Int))) % 26)]⟩
def bsW (c spot:Int) (k j:Nat):Int:=c / 432+7 * (0+(j:Int)) * (0+(j:Int))+(0+(k:Int)) * (if decide (V.int (0+(j:Int))=V.int spot)=true then 1 else 0)
def lgW (c size spot:Int) (k:Nat):Str:=(⟨#[qzC (c / 144 % 2)]⟩:Str)++Txt.join "" (((List.range size.toNat).map fun j=>yc (bsW c spot k j % 26)).map fun ch=>(⟨#[ch]⟩:Str))
theorem jdN {α:Type} {l:List α} (nd:l.Nodup) {i j:Nat} (hi:i < l.length) (hj:j < l.length) (e:l[i]=l[j]):i=j:=by
 have pw:=List.pairwise_iff_getElem.mp nd
 rcases Nat.lt_trichotomy i j with h | h | h
 ·exact absurd e (pw i j hi hj h)
 ·exact h
 ·exact absurd e.symm (pw j i hj hi h)
theorem jaP:Ku.Nodup:=by decide +kernel
theorem Kt:∀ w∈Ku,w≠""∧w≠"out"∧w.length≤10:=by decide +kernel
theorem Ks (c:Int) (k:Nat):jdC c k∈Ku:=by
 unfold jdC
 have h0:=Int.emod_nonneg (c / 7+(0+(k:Int))) (b:=14) (by decide)
 have h1:=Int.emod_lt_of_pos (c / 7+(0+(k:Int))) (b:=14) (by decide)
 have hl:Ku.length=14:=rfl
 have hk:((c / 7+(0+(k:Int))) % 14).toNat < Ku.length:=by omega
 rw [List.getD_eq_getElem?_getD,List.getElem?_eq_getElem hk]
 exact List.getElem_mem hk
theorem jgd {c:Int} {n:Nat} (hn:n≤14):WordsOk ((List.range n).map (jdC c)) n:=by
 refine ⟨by simp,?_,fun w hw=>?_,fun w hw=>?_,fun w hw=>?_⟩
 ·apply yT
  intro i j hi hj e
  unfold jdC at e
  have a0:=Int.emod_nonneg (c / 7+(0+(i:Int))) (b:=14) (by decide)
  have a1:=Int.emod_lt_of_pos (c / 7+(0+(i:Int))) (b:=14) (by decide)
  have b0:=Int.emod_nonneg (c / 7+(0+(j:Int))) (b:=14) (by decide)
  have b1:=Int.emod_lt_of_pos (c / 7+(0+(j:Int))) (b:=14) (by decide)
  have hl:Ku.length=14:=rfl
  have hk:((c / 7+(0+(i:Int))) % 14).toNat < Ku.length:=by omega
  have hk2:((c / 7+(0+(j:Int))) % 14).toNat < Ku.length:=by omega
  rw [List.getD_eq_getElem?_getD,List.getElem?_eq_getElem hk,List.getD_eq_getElem?_getD,List.getElem?_eq_getElem hk2] at e
  have e2:=jdN jaP hk hk2 e
  exact Za (a:=c / 7) (n:=n) (m:=14) (by omega) hi hj (by omega)
 ·obtain ⟨k,_,rfl⟩:=List.mem_map.mp hw
  exact (Kt _ (Ks c k)).1
 ·obtain ⟨k,_,rfl⟩:=List.mem_map.mp hw
  exact (Kt _ (Ks c k)).2.1
 ·obtain ⟨k,_,rfl⟩:=List.mem_map.mp hw
  exact (Kt _ (Ks c k)).2.2
theorem Z5 {a b:Int} (ha:0≤a) (hb:0≤b) (h:yc a=yc b):a=b:=by
 unfold yc at h
 omega
theorem jgf {c:Int} {n:Nat} (hn:n≤26):WordsOk ((List.range n).map (jgg c)) n:=by
 refine ⟨by simp,?_,fun w hw=>?_,fun w hw=>?_,fun w hw=>?_⟩
 ·apply yT
  intro i j hi hj e
  unfold jgg at e
  have a0:=Int.emod_nonneg (c / 8+(0+(i:Int))) (b:=26) (by decide)
  have b0:=Int.emod_nonneg (c / 8+(0+(j:Int))) (b:=26) (by decide)
  have e1:yc ((c / 8+(0+(i:Int))) % 26)=yc ((c / 8+(0+(j:Int))) % 26):=by
   injection e with e
   injection e with e
   injection e
  exact Za (n:=n) (m:=26) (by omega) hi hj (Z5 a0 b0 e1)
 ·obtain ⟨k,_,rfl⟩:=List.mem_map.mp hw
  intro z
  have:=congrArg Str.length z
  exact absurd this (by show (1:Nat)≠0;decide)
 ·obtain ⟨k,_,rfl⟩:=List.mem_map.mp hw
  intro z
  have:=congrArg Str.length z
  exact absurd this (by show (1:Nat)≠3;decide)
 ·obtain ⟨k,_,rfl⟩:=List.mem_map.mp hw
  show 1≤10
  decide
theorem J6 (c size spot:Int) (k:Nat):(lgW c size spot k).cps.toList=qzC (c / 144 % 2) :: (List.range size.toNat).map fun j=>yc (bsW c spot k j % 26):=by
 unfold lgW
 rw [Str.cps_append,Array.toList_append,Z7]
 rfl
theorem jhf {c size spot:Int} {n:Nat} (hn:n≤26) (h0:0≤spot) (h1:spot < size) (h2:size≤7):WordsOk ((List.range n).map (lgW c size spot)) n:=by
 have len:∀ k,(lgW c size spot k).length=1+size.toNat:=fun k=>by
  show (lgW c size spot k).cps.size=_
  rw [← Array.length_toList,J6]
  simp
  omega
 have q0:∀ k,(lgW c size spot k).cps.toList[0]?=some (qzC (c / 144 % 2)):=fun k=>by rw [J6];rfl
 refine ⟨by simp,?_,fun w hw=>?_,fun w hw=>?_,fun w hw=>?_⟩
 ·apply yT
  intro i j hi hj e
  have e1:(lgW c size spot i).cps.toList=(lgW c size spot j).cps.toList:=by rw [e]
  rw [J6,J6] at e1
  injection e1 with _ e1
  have hs:spot.toNat < size.toNat:=by omega
  have e2:yc (bsW c spot i spot.toNat % 26)=yc (bsW c spot j spot.toNat % 26):=by
   have this:((List.range size.toNat).map fun k=>yc (bsW c spot i k % 26))[spot.toNat]?=((List.range size.toNat).map fun k=>yc (bsW c spot j k % 26))[spot.toNat]?:=by rw [e1]
   rw [List.getElem?_map,List.getElem?_map,List.getElem?_range hs] at this
   exact Option.some.inj this
  have e3:=Z5 (Int.emod_nonneg _ (by decide)) (Int.emod_nonneg _ (by decide)) e2
  unfold bsW at e3
  have hd:decide (V.int (0+((spot.toNat:Nat):Int))=V.int spot)=true:=decide_eq_true (congrArg V.int (by omega))
  rw [hd,if_pos rfl,Int.mul_one,Int.mul_one] at e3
  exact Za (n:=n) (m:=26) (by omega) hi hj e3
 ·obtain ⟨k,_,rfl⟩:=List.mem_map.mp hw
  intro z
  have h:=len k
  rw [z] at h
  have:(0:Nat)=1+size.toNat:=h
  omega
 ·obtain ⟨k,_,rfl⟩:=List.mem_map.mp hw
  intro z
  have h:=q0 k
  rw [z] at h
  have h':some (111:Nat)=some (qzC (c / 144 % 2)):=by
   rw [← h]
   decide +kernel
  unfold qzC at h'
  split at h' <;> cases h'
 ·obtain ⟨k,_,rfl⟩:=List.mem_map.mp hw
  rw [len k]
  omega
end LW
namespace L2
open PySem PySem.Spec PyProof.Rows PySem.W
abbrev RD:=St→Hp→D→Prop
abbrev RDL:=St→Hp→List D→Prop
def tHD (R:RD):TE:=fun σ H Q=>∃ d,R σ H d∧∀ v H',Same H H'→Held H' d v→Q v H'
def jhw (R:RDL):TA:=fun σ H Q=>∃ ds,R σ H ds∧∀ vs H',Same H H'→HeldL H' ds vs→Q vs H'
structure PD (X:Cx) (e:Expr) (R:RD):Prop where
 h:PE X e (tHD R)
 m:∀ {σ H H' d},Same H H'→R σ H d→R σ H' d
structure PDs (X:Cx) (es:List Expr) (R:RDL):Prop where
 h:PA X es (jhw R)
 m:∀ {σ H H' d},Same H H'→R σ H d→R σ H' d
def rV (i:Nat):RD:=fun σ H d=>∃ v,σ[i]?=some (some v)∧Held H d v
def rK (c:D):RD:=fun _ _ d=>d=c
def rN:RDL:=fun _ _ ds=>ds=[]
def rC (R:RD) (Rs:RDL):RDL:=fun σ H ds=>∃ d r,ds=d :: r∧R σ H d∧Rs σ H r
def rT (R:RDL):RD:=fun σ H d=>∃ ds,d=.tup ds∧ds.length≤1000∧R σ H ds
def rE (t:TE):RD:=fun σ H d=>∀ G,Same H G→∀ Q:VK,(∀ v G',Same G G'→Held G' d v→Q v G')→t σ G Q
theorem PE.weak {X:Cx} {e:Expr} {t t':TE} (h:PE X e t) (w:∀ σ H Q,t' σ H Q→t σ H Q):PE X e t':=fun pins s σ H Q I q=>h pins s σ H Q I (w σ H Q q)
theorem PA.weak {X:Cx} {es:List Expr} {t t':TA} (h:PA X es t) (w:∀ σ H Q,t' σ H Q→t σ H Q):PA X es t':=fun pos pins s σ H Q I q=>h pos pins s σ H Q I (w σ H Q q)
theorem fs {a b c} (h:FnScope a b c:=by exact ⟨rfl,rfl,rfl,by decide +kernel,rfl,by decide +kernel,by decide +kernel⟩):FnScope a b c:=h
theorem ol {p q:Prop} (h:p∨q:=by first|exact .inl rfl|exact .inr rfl):p∨q:=h
theorem jhH {i:Nat} {v:V} {σ σ':St} {H:Hp} {Q:St→Hp→Prop} (e:σ.set i (some v)=σ') (h:Q σ' H):qg i v σ H Q:=by subst e;exact h
theorem gs {i:Nat} {v:V} {σ σ':St} {H:Hp} {Q:St→Hp→Prop} (h:Q σ' H) (e:σ.set i (some v)=σ':=by simp only [List.set_cons_succ,List.set_cons_zero];rfl):qg i v σ H Q:=jhH e h
theorem zJ {t:TS} {D:Ends} {σ σ':St} {H:Hp} (e:σ=σ') (h:t D σ' H):t D σ H:=by subst e;exact h
theorem j0 {H:Hp} {p:Addr} (h:H p=none) (o:HO):Same H (upd H p o):=fun b u q=>by rw [jg (jl q h)];exact q
theorem kL (H:Hp):Same H H:=fun _ _ e=>e
section
variable {X:Cx}
theorem jU (i:Nat) {x:Str} {pos:Pos} (hN:X.N[i]?=some x:=by rfl) (hv:Vis X.env.scope x:=by first | exact Or.inl rfl | exact Or.inr (Or.inl rfl) | exact Or.inr (Or.inr rfl)) (hd:(x == ("__debug__" : Str))=false:=by decide)
  (hcd:(x == ("__classdict__" : Str))=false:=by decide):PD X (.Name x pos) (rV i):=
 ⟨(jdw hN hv hd hcd).weak fun σ H Q ⟨d,⟨v,e,hv⟩,q⟩=>⟨v,e,q v H (kL H) hv⟩,fun s ⟨v,e,h⟩=>⟨v,e,h.mono s⟩⟩
theorem yS {i j pos}:PD X (.Constant (.int i) j pos) (rK (.int i)):=⟨jm.weak fun σ H Q ⟨d,e,q⟩=>by cases e;exact q _ H (kL H) jM,fun _ h=>h⟩
theorem kg {x j pos}:PD X (.Constant (.str x) j pos) (rK (.str x)):=⟨kJ.weak fun σ H Q ⟨d,e,q⟩=>by cases e;exact q _ H (kL H) jA,fun _ h=>h⟩
theorem jg8 {e:Expr} {t:TE} (h:PE X e t):PD X e (rE t):=⟨h.weak fun σ H Q ⟨d,r,q⟩=>r H (kL H) Q q,fun s r G sG Q q=>r G (s.trans sG) Q q⟩
theorem jE:PDs X [] rN:=⟨jp.weak fun σ H Q ⟨d,e,q⟩=>by cases e;exact q _ H (kL H) jy,fun _ h=>h⟩
theorem je {e:Expr} {es:List Expr} {R:RD} {Rs:RDL} (h:PD X e R) (hs:PDs X es Rs) (hp:qj e=true:=by rfl):PDs X (e :: es) (rC R Rs):=by
 refine ⟨(jt h.h hs.h hp).weak fun σ H Q ⟨ds,⟨d,r,e,h1,h2⟩,q⟩=>?_,fun s ⟨d,r,e,h1,h2⟩=>⟨d,r,e,h.m s h1,hs.m s h2⟩⟩
 subst e
 exact ⟨d,h1,fun v H1 s1 hv=>⟨r,hs.m s1 h2,fun vs H2 s2 hvs=>q _ _ (s1.trans s2) (ji (hv.mono s2) hvs)⟩⟩
theorem jP {es:List Expr} {R:RDL} {x1} {pos:Pos} (h:PDs X es R):PD X (.Tuple es x1 pos) (rT R):=by
 refine ⟨(ku h.h).weak fun σ H Q ⟨d,⟨ds,e,hl,hr⟩,q⟩=>?_,fun s ⟨ds,e,hl,hr⟩=>⟨ds,e,hl,h.m s hr⟩⟩
 subst e
 refine ⟨ds,hr,fun vs H1 s1 hvs=>⟨?_,fun p hp=>?_⟩⟩
 ·rw [← hvs.length]
  exact Nat.le_of_lt (jz hl)
 ·exact q _ _ (s1.trans (j0 hp _)) (jQ ja (hvs.mono (j0 hp _)))
structure QA (X:Cx) (es:List Expr) (t:TA):Prop where
 h:PA X es t
structure QE (X:Cx) (e:Expr) (t:TE):Prop where
 h:PE X e t
end
end L2
namespace PySem
section
variable {prog:Program} {w:World} {A:Around} {E:Value→Shared→Prop} {s:Shared}
abbrev yh (h:Heap) (z TI TO:Addr) (f0:Value) (b:Bool):Prop:=
 h.get? z=some { cls:=.type "zip",dict:=none,data:=.fields #[f0,.bool b,.bool false,.ref TI,.ref TO],slots:=#[] }
theorem jaw {z TI TO i1 i2 l1 l2 T:Addr} {oT:Obj} {bb:Bool} {k1 k2:Nat} {xs ys:Array Value} {x y:Value} {Q:Value→Shared→Prop}
  (n1:i1≠z) (n2:i2≠z) (n12:i1≠i2) (m1:l1≠z) (m2:l2≠z) (m21:l2≠i1) (nTz:T≠z) (nTI:TI≠z)
  (hz:yh s.heap z TI TO (rawInt T) bb) (hT:s.heap.get? T=some oT) (hTI:IsPair s.heap TI (.ref i1) (.ref i2))
  (h1:s.heap.IsTupleIter i1 l1 k1) (h2L:s.heap.IsListIter i2 l2 k2) (hl1:s.heap.IsTuple l1 xs) (hl2:s.heap.IsList l2 ys) (hx:xs[k1]?=some x) (hy:ys[k2]?=some y)
  (hQ:∀ h',yh h' z TI TO (rawInt T) true→h'.IsTupleIter i1 l1 (k1+1)→h'.IsListIter i2 l2 (k2+1)→IsPair h' s.heap.objs.size x y→h'.objs.size=s.heap.objs.size+1→
   (∀ c o,c≠z→c≠i1→c≠i2→s.heap.get? c=some o→h'.get? c=some o)→Q (.ref s.heap.objs.size) { s with heap:=h' }) :
  wpAny (model prog w) A (Builtin.«zip.__next__» ⟨[.ref z],[]⟩) (fun fin s'=>∃ v,fin=.done (.ret v)∧Q v s') E s:=by
 show wpAny _ _ (field (.ref z) 2 >>= _) _ _ _
 refine wpAny_bind (wpAny_field hz rfl (x:=.bool false) rfl ?_)
 show wpAny _ _ (field (.ref z) 3 >>= _) _ _ _
 refine wpAny_bind (wpAny_field hz rfl (x:=.ref TI) rfl ?_)
 refine wpAny_bind (wpAny_seqItems hTI rfl ?_)
 show wpAny _ _ (Builtin.SmallTypes.ownedTupleIsFree (.ref z) >>= _) _ _ _
 refine wpAny_bind ?_
 unfold Builtin.SmallTypes.ownedTupleIsFree
 refine wpAny_bind (wpAny_field hz rfl (x:=rawInt T) rfl ?_)
 show wpAny _ _ (loadIfAlive ((T:Int).toNat) >>= _) _ _ _
 rw [Int.toNat_natCast]
 refine wpAny_bind (W.kdx_alive hT ?_)
 simp only [Option.isNone_some,Bool.false_eq_true,if_false]
 refine wpAny_bind (wpAny_field hz rfl (x:=.bool bb) rfl ?_)
 cases bb with
 | true=>
  rw [if_neg (show ¬ ((Value.bool true != Value.bool true)=true) from Bool.false_ne_true)]
  refine wpAny_pure ?_
  simp only [Bool.false_eq_true,if_false,← Array.forIn_toList,List.forIn_cons,List.forIn_nil]
  refine wpAny_bind (wpAny_bind (wpAny_bind (wpAny_holding ?_)))
  show wpAny _ _ (Builtin.SmallTypes.nextOf (.ref i1) >>= _) _ _ _
  refine wpAny_bind (y9 (h1) (hl1) hx fun h2 t2 b2=>wpAny_pure (wpAny_pure ?_))
  dsimp only
  refine wpAny_bind (wpAny_bind (wpAny_holding ?_))
  show wpAny _ _ (Builtin.SmallTypes.nextOf (.ref i2) >>= _) _ _ _
  refine wpAny_bind (wpAny_nextOf_list_item (h2L.extBut b2.extBut n12.symm) (hl2.extBut b2.extBut m21) hy fun h3 t3 b3=>wpAny_pure (wpAny_pure (wpAny_pure ?_)))
  dsimp only
  refine wpAny_bind (wpAny_newTuple (hsz:=by show 2≤sizeLine;decide) (wpAny_pure ⟨_,rfl,?_⟩))
  have sz:h3.objs.size=s.heap.objs.size:=by rw [b3.1,b2.1]
  show Q (.ref h3.objs.size) _
  have hzz:yh h3 z TI TO (rawInt T) true:=b3.extBut _ _ n2.symm (b2.extBut _ _ n1.symm hz)
  have kk:∀ c o,c≠z→c≠i1→c≠i2→s.heap.get? c=some o→h3.get? c=some o:=fun c o c1 c2 c3 e=>b3.extBut _ _ c3 (b2.extBut _ _ c2 (e))
  have t2':h3.IsTupleIter i1 l1 (k1+1):=t2.extBut b3.extBut n12
  have pp:∀ c o,h3.get? c=some o→(h3.push { cls:=.type "tuple",data:=.seq #[x,y] }).get? c=some o:=fun c o e=>Heap.get?_push_of_some _ e
  have np:IsPair (h3.push { cls:=.type "tuple",data:=.seq #[x,y] }) h3.objs.size x y:=Heap.get?_push_size _ rfl
  have zp:(h3.push { cls:=.type "tuple",data:=.seq #[x,y] }).objs.size=s.heap.objs.size+1:=by rw [Heap.size_push,sz]
  rw [sz] at np ⊢
  exact hQ _ (pp _ _ hzz) (t2'.at fun o e=>pp _ o e) (t3.at fun o e=>pp _ o e) np zp fun c o c1 c2 c3 e=>pp _ _ (kk c o c1 c2 c3 e)
 | false=>
  rw [if_pos (show (Value.bool false != Value.bool true)=true from rfl)]
  refine wpAny_bind (wpAny_setField_rec hz (by simp) fun h1' e1 b1=>?_)
  replace b1:Heap.SameBut z s.heap h1':=b1
  replace e1:yh h1' z TI TO (rawInt T) true:=e1
  refine wpAny_pure ?_
  simp only [Bool.false_eq_true,if_false,← Array.forIn_toList,List.forIn_cons,List.forIn_nil]
  refine wpAny_bind (wpAny_bind (wpAny_bind (wpAny_holding ?_)))
  show wpAny _ _ (Builtin.SmallTypes.nextOf (.ref i1) >>= _) _ _ _
  refine wpAny_bind (y9 (h1.extBut b1.extBut n1) (hl1.extBut b1.extBut m1) hx fun h2 t2 b2=>wpAny_pure (wpAny_pure ?_))
  dsimp only
  refine wpAny_bind (wpAny_bind (wpAny_holding ?_))
  show wpAny _ _ (Builtin.SmallTypes.nextOf (.ref i2) >>= _) _ _ _
  refine wpAny_bind (wpAny_nextOf_list_item ((h2L.extBut b1.extBut n2).extBut b2.extBut n12.symm) ((hl2.extBut b1.extBut m2).extBut b2.extBut m21) hy fun h3 t3 b3=>wpAny_pure (wpAny_pure (wpAny_pure ?_)))
  dsimp only
  refine wpAny_bind (wpAny_newTuple (hsz:=by show 2≤sizeLine;decide) (wpAny_pure ⟨_,rfl,?_⟩))
  have sz:h3.objs.size=s.heap.objs.size:=by rw [b3.1,b2.1,b1.1]
  show Q (.ref h3.objs.size) _
  have hzz:yh h3 z TI TO (rawInt T) true:=b3.extBut _ _ n2.symm (b2.extBut _ _ n1.symm e1)
  have kk:∀ c o,c≠z→c≠i1→c≠i2→s.heap.get? c=some o→h3.get? c=some o:=fun c o c1 c2 c3 e=>b3.extBut _ _ c3 (b2.extBut _ _ c2 (b1.extBut _ _ c1 e))
  have t2':h3.IsTupleIter i1 l1 (k1+1):=t2.extBut b3.extBut n12
  have pp:∀ c o,h3.get? c=some o→(h3.push { cls:=.type "tuple",data:=.seq #[x,y] }).get? c=some o:=fun c o e=>Heap.get?_push_of_some _ e
  have np:IsPair (h3.push { cls:=.type "tuple",data:=.seq #[x,y] }) h3.objs.size x y:=Heap.get?_push_size _ rfl
  have zp:(h3.push { cls:=.type "tuple",data:=.seq #[x,y] }).objs.size=s.heap.objs.size+1:=by rw [Heap.size_push,sz]
  rw [sz] at np ⊢
  exact hQ _ (pp _ _ hzz) (t2'.at fun o e=>pp _ o e) (t3.at fun o e=>pp _ o e) np zp fun c o c1 c2 c3 e=>pp _ _ (kk c o c1 c2 c3 e)
theorem jax {z TI TO i1 i2 l1 l2:Addr} {k1 k2:Nat} {xs ys:Array Value} {x y a b:Value} {Q:Value→Shared→Prop} (D:ZipApart z TI TO i1 i2 l1 l2)
  (hz:IsZip s.heap z TI TO .none) (hTI:IsPair s.heap TI (.ref i1) (.ref i2)) (hTO:IsPair s.heap TO a b)
  (h1:s.heap.IsTupleIter i1 l1 k1) (h2:s.heap.IsListIter i2 l2 k2) (hl1:s.heap.IsTuple l1 xs) (hl2:s.heap.IsList l2 ys) (hx:xs[k1]?=some x) (hy:ys[k2]?=some y)
  (hQ:∀ h',yh h' z TI TO (rawInt s.heap.objs.size) false→h'.IsTupleIter i1 l1 (k1+1)→h'.IsListIter i2 l2 (k2+1)→IsPair h' s.heap.objs.size x y→h'.objs.size=s.heap.objs.size+1→
   (∀ c o,c≠z→c≠TO→c≠i1→c≠i2→s.heap.get? c=some o→h'.get? c=some o)→Q (.ref s.heap.objs.size) { s with heap:=h' }) :
  wpAny (model prog w) A (Builtin.«zip.__next__» ⟨[.ref z],[]⟩) (fun fin s'=>∃ v,fin=.done (.ret v)∧Q v s') E s:=by
 show wpAny _ _ (field (.ref z) 2 >>= _) _ _ _
 refine wpAny_bind (wpAny_field hz rfl (x:=.bool false) rfl ?_)
 show wpAny _ _ (field (.ref z) 3 >>= _) _ _ _
 refine wpAny_bind (wpAny_field hz rfl (x:=.ref TI) rfl ?_)
 refine wpAny_bind (wpAny_seqItems hTI rfl ?_)
 show wpAny _ _ (Builtin.SmallTypes.ownedTupleIsFree (.ref z) >>= _) _ _ _
 refine wpAny_bind ?_
 unfold Builtin.SmallTypes.ownedTupleIsFree
 refine wpAny_bind (wpAny_field hz rfl (x:=.none) rfl (wpAny_pure ?_))
 simp only [if_true]
 refine wpAny_bind (wpAny_rule ?_)
 refine wpAny_bind (wpAny_field hz rfl (x:=.ref TO) rfl ?_)
 refine wpAny_bind (wpAny_setField_rec hz (by simp) fun g1 z1 b1=>?_)
 replace z1:IsZip g1 z TI TO .ellipsis:=z1
 refine wpAny_bind ?_
 simp only [List.zipIdx_cons,List.zipIdx_nil,List.forIn_cons,List.forIn_nil]
 refine wpAny_bind (wpAny_bind (wpAny_onRaise ?_))
 show wpAny _ _ (Builtin.SmallTypes.nextOf (.ref i1) >>= _) _ _ _
 refine wpAny_bind (y9 (h1.extBut b1.extBut D.i1z) (hl1.extBut b1.extBut D.l1z) hx fun g2 t2 b2=>wpAny_pure ?_)
 have o2:IsPair g2 TO a b:=b2.extBut _ _ D.TOi1 (b1.extBut _ _ D.TOz hTO)
 refine wpAny_bind (wpAny_seqItems o2 rfl ?_)
 refine wpAny_bind (wpAny_updateSeq_pair o2 fun g3 o3 b3=>?_)
 replace o3:IsPair g3 TO x b:=o3
 refine wpAny_bind (wpAny_letGo (wpAny_pure ?_))
 refine wpAny_bind (wpAny_bind (wpAny_onRaise ?_))
 show wpAny _ _ (Builtin.SmallTypes.nextOf (.ref i2) >>= _) _ _ _
 refine wpAny_bind (wpAny_nextOf_list_item (((h2.extBut b1.extBut D.i2z).extBut b2.extBut D.i12.symm).extBut b3.extBut D.TOi2.symm) (((hl2.extBut b1.extBut D.l2z).extBut b2.extBut D.l2i1).extBut b3.extBut D.l2TO) hy fun g4 t4 b4=>wpAny_pure ?_)
 have o4:IsPair g4 TO x b:=b4.extBut _ _ D.TOi2 o3
 refine wpAny_bind (wpAny_seqItems o4 rfl ?_)
 refine wpAny_bind (wpAny_updateSeq_pair o4 fun g5 o5 b5=>?_)
 replace o5:IsPair g5 TO x y:=o5
 refine wpAny_bind (wpAny_letGo (wpAny_pure (wpAny_pure ?_)))
 refine wpAny_bind (wpAny_seqItems o5 rfl ?_)
 refine wpAny_bind (wpAny_newTuple ?_)
 have sz:g5.objs.size=s.heap.objs.size:=by rw [b5.1,b4.1,b3.1,b2.1,b1.1]
 have z5:IsZip g5 z TI TO .ellipsis:=b5.extBut _ _ D.TOz.symm (b4.extBut _ _ D.i2z.symm (b3.extBut _ _ D.TOz.symm (b2.extBut _ _ D.i1z.symm z1)))
 have k5:∀ c o,c≠z→c≠TO→c≠i1→c≠i2→s.heap.get? c=some o→g5.get? c=some o:=fun c o c1 c2 c3 c4 e=>b5.extBut _ _ c2 (b4.extBut _ _ c4 (b3.extBut _ _ c2 (b2.extBut _ _ c3 (b1.extBut _ _ c1 e))))
 have t2':g5.IsTupleIter i1 l1 (k1+1):=((t2.extBut b3.extBut D.TOi1.symm).extBut b4.extBut D.i12).extBut b5.extBut D.TOi1.symm
 have t4':g5.IsListIter i2 l2 (k2+1):=t4.extBut b5.extBut D.TOi2.symm
 have zlt:z < g5.objs.size:=Heap.lt_size z5
 show wpAny _ _ (Builtin.SmallTypes.ownedTupleHandOut (.ref z) (.ref g5.objs.size) >>= _) _ _ _
 refine wpAny_bind ?_
 unfold Builtin.SmallTypes.ownedTupleHandOut
 have z6:IsZip (g5.push { cls:=.type "tuple",data:=.seq #[x,y] }) z TI TO .ellipsis:=Heap.get?_push_of_some _ z5
 refine wpAny_bind (wpAny_setField_rec z6 (by simp) fun g7 z7 b7=>?_)
 replace z7:IsZip g7 z TI TO (rawInt g5.objs.size):=z7
 refine wpAny_setField_rec z7 (by simp) fun g8 z8 b8=>?_
 replace z8:yh g8 z TI TO (rawInt g5.objs.size) false:=z8
 have up:∀ c o,c≠z→g5.get? c=some o→g8.get? c=some o:=fun c o c1 e=>b8.extBut _ _ c1 (b7.extBut _ _ c1 (Heap.get?_push_of_some _ e))
 have p8:IsPair g8 g5.objs.size x y:=b8.extBut _ _ (Nat.ne_of_gt zlt) (b7.extBut _ _ (Nat.ne_of_gt zlt) (Heap.get?_push_size _ rfl))
 have s8:g8.objs.size=g5.objs.size+1:=by rw [b8.1,b7.1,Heap.size_push]
 rw [sz] at z8 p8 s8
 refine wpAny_pure ⟨_,rfl,?_⟩
 show Q (.ref g5.objs.size) _
 rw [sz]
 exact hQ g8 z8 (t2'.at fun o e=>up _ o D.i1z e) (t4'.at fun o e=>up _ o D.i2z e) p8 s8 fun c o c1 c2 c3 c4 e=>up c o c1 (k5 c o c1 c2 c3 c4 e)
theorem Kg {z TI TO i1 i2 l1 T:Addr} {oT:Obj} {bb:Bool} {k1:Nat} {xs:Array Value} {Q:Fin→Shared→Prop} (hh:A.handled=none)
  (n1:i1≠z) (m1:l1≠z) (hz:yh s.heap z TI TO (rawInt T) bb) (hT:s.heap.get? T=some oT) (hTI:IsPair s.heap TI (.ref i1) (.ref i2)) (h1:s.heap.IsTupleIter i1 l1 k1) (hl1:s.heap.IsTuple l1 xs) (hx:xs[k1]?=none)
  (hE:∀ h' e,(∀ c o,c≠z→c≠i1→s.heap.get? c=some o→h'.get? c=some o)→(∃ o,h'.get? e=some o∧o.cls=.type "StopIteration")→E (.ref e) { s with heap:=h' }) :
  wpAny (model prog w) A (Builtin.«zip.__next__» ⟨[.ref z],[]⟩) Q E s:=by
 show wpAny _ _ (field (.ref z) 2 >>= _) _ _ _
 refine wpAny_bind (wpAny_field hz rfl (x:=.bool false) rfl ?_)
 show wpAny _ _ (field (.ref z) 3 >>= _) _ _ _
 refine wpAny_bind (wpAny_field hz rfl (x:=.ref TI) rfl ?_)
 refine wpAny_bind (wpAny_seqItems hTI rfl ?_)
 show wpAny _ _ (Builtin.SmallTypes.ownedTupleIsFree (.ref z) >>= _) _ _ _
 refine wpAny_bind ?_
 unfold Builtin.SmallTypes.ownedTupleIsFree
 refine wpAny_bind (wpAny_field hz rfl (x:=rawInt T) rfl ?_)
 show wpAny _ _ (loadIfAlive ((T:Int).toNat) >>= _) _ _ _
 rw [Int.toNat_natCast]
 refine wpAny_bind (W.kdx_alive hT ?_)
 simp only [Option.isNone_some,Bool.false_eq_true,if_false]
 refine wpAny_bind (wpAny_field hz rfl (x:=.bool bb) rfl ?_)
 cases bb with
 | true=>
  rw [if_neg (show ¬ ((Value.bool true != Value.bool true)=true) from Bool.false_ne_true)]
  refine wpAny_pure ?_
  simp only [Bool.false_eq_true,if_false,← Array.forIn_toList,List.forIn_cons,List.forIn_nil]
  refine wpAny_bind (wpAny_bind (wpAny_bind (wpAny_holding ?_)))
  show wpAny _ _ (Builtin.SmallTypes.nextOf (.ref i1) >>= _) _ _ _
  exact wpAny_bind (za hh (h1) (hl1) hx fun h2 e b2 he=>hE h2 e (fun c o c1 c3 x=>b2 _ _ c3 (x)) he)
 | false=>
  rw [if_pos (show (Value.bool false != Value.bool true)=true from rfl)]
  refine wpAny_bind (wpAny_setField_rec hz (by simp) fun h1' e1 b1=>?_)
  replace b1:Heap.SameBut z s.heap h1':=b1
  refine wpAny_pure ?_
  simp only [Bool.false_eq_true,if_false,← Array.forIn_toList,List.forIn_cons,List.forIn_nil]
  refine wpAny_bind (wpAny_bind (wpAny_bind (wpAny_holding ?_)))
  show wpAny _ _ (Builtin.SmallTypes.nextOf (.ref i1) >>= _) _ _ _
  exact wpAny_bind (za hh (h1.extBut b1.extBut n1) (hl1.extBut b1.extBut m1) hx fun h2 e b2 he=>hE h2 e (fun c o c1 c3 x=>b2 _ _ c3 (b1.extBut _ _ c1 x)) he)
theorem K5 {z TI TO i1 i2 l1:Addr} {k1:Nat} {xs:Array Value} {Q:Fin→Shared→Prop} (hh:A.handled=none)
  (n1:i1≠z) (m1:l1≠z) (hz:IsZip s.heap z TI TO .none) (hTI:IsPair s.heap TI (.ref i1) (.ref i2)) (h1:s.heap.IsTupleIter i1 l1 k1) (hl1:s.heap.IsTuple l1 xs) (hx:xs[k1]?=none)
  (hE:∀ h' e,(∀ c o,c≠z→c≠i1→s.heap.get? c=some o→h'.get? c=some o)→(∃ o,h'.get? e=some o∧o.cls=.type "StopIteration")→E (.ref e) { s with heap:=h' }) :
  wpAny (model prog w) A (Builtin.«zip.__next__» ⟨[.ref z],[]⟩) Q E s:=by
 show wpAny _ _ (field (.ref z) 2 >>= _) _ _ _
 refine wpAny_bind (wpAny_field hz rfl (x:=.bool false) rfl ?_)
 show wpAny _ _ (field (.ref z) 3 >>= _) _ _ _
 refine wpAny_bind (wpAny_field hz rfl (x:=.ref TI) rfl ?_)
 refine wpAny_bind (wpAny_seqItems hTI rfl ?_)
 show wpAny _ _ (Builtin.SmallTypes.ownedTupleIsFree (.ref z) >>= _) _ _ _
 refine wpAny_bind ?_
 unfold Builtin.SmallTypes.ownedTupleIsFree
 refine wpAny_bind (wpAny_field hz rfl (x:=.none) rfl (wpAny_pure ?_))
 simp only [if_true]
 refine wpAny_bind (wpAny_rule ?_)
 refine wpAny_bind (wpAny_field hz rfl (x:=.ref TO) rfl ?_)
 refine wpAny_bind (wpAny_setField_rec hz (by simp) fun g1 z1 b1=>?_)
 replace z1:IsZip g1 z TI TO .ellipsis:=z1
 refine wpAny_bind ?_
 simp only [List.zipIdx_cons,List.zipIdx_nil,List.forIn_cons,List.forIn_nil]
 refine wpAny_bind (wpAny_bind (wpAny_onRaise ?_))
 show wpAny _ _ (Builtin.SmallTypes.nextOf (.ref i1) >>= _) _ _ _
 refine wpAny_bind (za hh (h1.extBut b1.extBut n1) (hl1.extBut b1.extBut m1) hx fun g2 e b2 he=>?_)
 obtain ⟨oe,hoe,hce⟩:=he
 have z2:IsZip g2 z TI TO .ellipsis:=b2 _ _ n1.symm z1
 have hez:e≠z:=fun x=>by subst x;rw [z2] at hoe;cases hoe;simp at hce
 exact wpAny_setField_rec z2 (by simp) fun g3 _ b3=>hE g3 e (fun c o c1 c3 x=>b3.extBut _ _ c1 (b2 _ _ c3 (b1.extBut _ _ c1 x))) ⟨oe,b3.extBut _ _ hez hoe,hce⟩
end
abbrev jem (h:Heap) (l1:Addr):Heap:=h.push { cls:=.type "tuple_iterator",data:=.fields #[.ref l1,.int 0 0] }
abbrev jel (h:Heap) (l1 l2:Addr):Heap:=(jem h l1).push { cls:=.type "list_iterator",data:=.fields #[.ref l2,.int 0 0] }
abbrev jek (h:Heap) (l1 l2:Addr):Heap:=(jel h l1 l2).push { cls:=.type "tuple",data:=.seq #[.ref h.objs.size,.ref (jem h l1).objs.size] }
abbrev jej (h:Heap) (l1 l2:Addr):Heap:=(jek h l1 l2).push { cls:=.type "tuple",data:=.seq #[.none,.none] }
abbrev jat (h:Heap) (l1 l2:Addr):Heap:=(jej h l1 l2).push { cls:=.type "zip",data:=.fields #[.none,.bool false,.bool false,.ref (jel h l1 l2).objs.size,.ref (jek h l1 l2).objs.size] }
theorem jc3 (l1 l2:Addr) (xs ys:Array Value) :
  Meets (Builtin.«zip.__new__» ⟨[.type "zip",.ref l1,.ref l2],[]⟩) (fun _ R s=>s.heap.IsTuple l1 xs∧s.heap.IsList l2 ys∧R (.ok (.ret (.ref (jej s.heap l1 l2).objs.size))) { s with heap:=jat s.heap l1 l2 }):=
 .of_wp fun prog w A R s h=>by
  obtain ⟨hp,g,d,tk,os⟩:=s;obtain ⟨hl1,hl2,h⟩:=h
  have hsub:=sub_zip
  have hL1:Heap.IsTuple (Shared.heap ⟨hp,g,d,tk,os⟩) l1 xs:=hl1
  have hL2:Heap.IsList (Shared.heap ⟨hp.push { cls:=.type "tuple_iterator",data:=.fields #[.ref l1,.int 0 0] },g,d,tk,os⟩) l2 ys:=Heap.IsList.push hl2 _
  wp_walk using wpAny_pyIter_tuple hL1,wpAny_pyIter_list hL2
  exact ⟨_,rfl,h⟩
section
variable {prog:Program} {w:World} {A:Around} {E:Value→Shared→Prop} {s:Shared}
theorem jcW {l1 l2:Addr} {xs ys:Array Value} {Q:Value→Shared→Prop} (hl1:s.heap.IsTuple l1 xs) (hl2:s.heap.IsList l2 ys)
  (h:∀ h',IsZip h' (s.heap.objs.size+4) (s.heap.objs.size+2) (s.heap.objs.size+3) .none→IsPair h' (s.heap.objs.size+2) (.ref s.heap.objs.size) (.ref (s.heap.objs.size+1))→
   IsPair h' (s.heap.objs.size+3) .none .none→h'.IsTupleIter s.heap.objs.size l1 0→h'.IsListIter (s.heap.objs.size+1) l2 0→h'.objs.size=s.heap.objs.size+5→
   (∀ c o,s.heap.get? c=some o→h'.get? c=some o)→Q (.ref (s.heap.objs.size+4)) { s with heap:=h' }) :
  wpAny (model prog w) A (call (.type "zip") [.ref l1,.ref l2]) Q E s:=by
 refine callType_new F.called_zip (by decide) (F.typeCall_zip_2 _ _) (F.newCall_zip_2 _ _) (fun obj=>F.args_object_init_3 obj _ _) F.entry_zip_new (jc3 l1 l2 xs ys) ⟨hl1,hl2,?_⟩
 have z1:(jem s.heap l1).objs.size=s.heap.objs.size+1:=Heap.size_push ..
 have z2:(jel s.heap l1 l2).objs.size=s.heap.objs.size+2:=by rw [Heap.size_push,z1]
 have z3:(jek s.heap l1 l2).objs.size=s.heap.objs.size+3:=by rw [Heap.size_push,z2]
 have z4:(jej s.heap l1 l2).objs.size=s.heap.objs.size+4:=by rw [Heap.size_push,z3]
 have z5:(jat s.heap l1 l2).objs.size=s.heap.objs.size+5:=by rw [Heap.size_push,z4]
 have up:∀ (h:Heap) (o:Obj) c u,h.get? c=some u→(h.push o).get? c=some u:=fun h o c u e=>Heap.get?_push_of_some _ e
 have g5:(jat s.heap l1 l2).get? (jej s.heap l1 l2).objs.size=some _:=Heap.get?_push_size _ rfl
 have g4:(jat s.heap l1 l2).get? (jek s.heap l1 l2).objs.size=some _:=up _ _ _ _ (Heap.get?_push_size _ rfl)
 have g3:(jat s.heap l1 l2).get? (jel s.heap l1 l2).objs.size=some _:=up _ _ _ _ (up _ _ _ _ (Heap.get?_push_size _ rfl))
 have g2:(jat s.heap l1 l2).get? (jem s.heap l1).objs.size=some _:=up _ _ _ _ (up _ _ _ _ (up _ _ _ _ (Heap.get?_push_size _ rfl)))
 have g1:(jat s.heap l1 l2).get? s.heap.objs.size=some _:=up _ _ _ _ (up _ _ _ _ (up _ _ _ _ (up _ _ _ _ (Heap.get?_push_size _ rfl))))
 show _∧_
 rw [z2,z3,z4] at g5
 rw [z1,z2] at g3
 rw [z3] at g4
 rw [z1] at g2
 rw [z4]
 exact ⟨⟨_,g5,rfl⟩,h _ g5 g3 g4 ⟨_,g1,rfl,rfl⟩ ⟨_,g2,rfl,rfl⟩ z5 fun c o x=>up _ _ _ _ (up _ _ _ _ (up _ _ _ _ (up _ _ _ _ (up _ _ _ _ x))))⟩
end
open Sem (wp)
namespace F
theorem lk_zip_keys:typeLookup (.type "zip") "keys" = pure none:=by rw [typeLookup_type,builtinLookup_eq_fast];kernel_rfl
theorem lk_zip_getattr:typeLookup (.type "zip") "__getattr__" = pure none:=by rw [typeLookup_type,builtinLookup_eq_fast];kernel_rfl
theorem entry_zip_ga:entryFor table "zip.__getattribute__" = some Builtin.«object.__getattribute__»:=entryFor_alias (id':="object.__getattribute__") (by kernel_rfl) (by first | rfl | decide +kernel) (by decide +kernel) (by kernel_rfl)
end F
section
variable {prog:Program} {w:World} {A:Around} {E:Value→Shared→Prop} {h:Heap} {g:Array GenState} {d:Drawn} {t:Nat} {os:OsState} {a:Addr} {its:Array Value} {n:Nat} {sl:Array (Option Value)}
theorem je8:(Str.ofString (toString "'"++toString ((Manifest.find? "zip").elim "zip" fun x=>x.tpName)++toString "' object has no attribute '")++Str.ofString "keys"++Str.ofString "'").length≤sizeLine:=by
 rw [sizeLine_eq]
 decide +kernel
theorem Ya {tk:Tok} {Q:Fin→Shared→Prop} (hh:A.handled=none) (hx:h.get? a=some { cls:=.type "zip",dict:=none,data:=.fields its,slots:=sl })
   (hq:∀ h' t' e,(∀ b u,h.get? b=some u→h'.get? b=some u)→(∃ oe,h'.get? e=some oe∧oe.cls=.type "AttributeError")→E (.ref e) ⟨h',g,d,t',os⟩) :
  wpAny (model prog w) A (Builtin.«object.__getattribute__» ⟨[.ref a,.str "keys" tk],[]⟩) Q E ⟨h,g,d,t,os⟩:=by
 have hT:(⟨h,g,d,t,os⟩:Shared).TypeIs (.ref a) "zip":=⟨_,hx,rfl⟩
 have f4:=F.lk_zip_keys
 repeat (any_goals (first | assumption | wp_step))
 exact jbh je8 hh hq
theorem Y7 {tk:Tok} {R:Result→Shared→Prop} (hh:A.handled=none) (hx:h.get? a=some { cls:=.type "zip",dict:=none,data:=.fields its,slots:=sl })
   (hq:∀ h' t' e,(∀ b u,h.get? b=some u→h'.get? b=some u)→(∃ oe,h'.get? e=some oe∧oe.cls=.type "AttributeError")→R (.error (.ref e)) ⟨h',g,d,t',os⟩) :
  codeAny (model prog w) A (.call (.builtin "zip.__getattribute__") ⟨[.ref a,.str "keys" tk],[]⟩) R ⟨h,g,d,t,os⟩:=
 codeAny_call_builtin F.slot_zip_getattribute.plain F.entry_zip_ga (F.slot_zip_getattribute.check _ _ _ _ _ _ _ _ (show (⟨h,g,d,t,os⟩:Shared).TypeIs (.ref a) "zip" from ⟨_,hx,rfl⟩) (F.args_zip_getattribute_2 _ _) (Ya hh hx hq))
theorem jaY {tk:Tok} {Q:Value→Shared→Prop} (hh:A.handled=none) (hx:h.get? a=some { cls:=.type "zip",dict:=none,data:=.fields its,slots:=sl })
   (hq:∀ h' t' e,(∀ b u,h.get? b=some u→h'.get? b=some u)→(∃ oe,h'.get? e=some oe∧oe.cls=.type "AttributeError")→E (.ref e) ⟨h',g,d,t',os⟩) :
  wpAny (model prog w) A (getAttrBy (.ref a) (.str "keys" tk) false) Q E ⟨h,g,d,t,os⟩:=by
 have hT:(⟨h,g,d,t,os⟩:Shared).TypeIs (.ref a) "zip":=⟨_,hx,rfl⟩
 have f2:=F.slot_zip_getattribute.lookup
 have f3:=F.slot_zip_getattribute.bind (.ref a)
 have f4:=F.lk_zip_getattr
 repeat (any_goals (first | assumption | wp_step))
 refine Y7 hh hx fun h' t' e k hoe=>?_
 obtain ⟨oe,e1,e2⟩:=hoe
 have hTe:(⟨h',g,d,t',os⟩:Shared).TypeIs (.ref e) "AttributeError":=⟨_,e1,e2⟩
 show wpAny (model prog w) A (getattributeRaised (Value.ref a) (Value.str (Str.ofString "keys") tk) (Value.type "zip") (.ref e) none false false) Q E _
 unfold getattributeRaised
 refine wpAny_bind (wpAny_isInstance hTe F.sub_attr_attr ?_)
 rw [if_pos rfl]
 refine wpAny_bind ?_
 show wpAny _ _ (typeLookup (.type "zip") "__getattr__") _ _ _
 rw [f4]
 refine wpAny_pure ?_
 show wpAny _ _ (attributeErrorLeaves _ _ _ false false) _ _ _
 unfold attributeErrorLeaves
 dsimp only
 rw [if_pos (show (!false)=true from rfl)]
 refine wpAny_bind (wpAny_throw ?_)
 exact hq h' t' e k ⟨oe,e1,e2⟩
theorem nokeysZ {s:Shared} {Q:Option Value→Shared→Prop} (hh:A.handled=none) (hx:s.heap.get? a=some { cls:=.type "zip",dict:=none,data:=.fields its,slots:=sl })
   (hq:∀ h' t',(∀ b u,s.heap.get? b=some u→h'.get? b=some u)→Q none { s with heap:=h',toks:=t' }) :
  wpAny (model prog w) A (getAttr? (.ref a) "keys") Q E s:=by
 obtain ⟨h,g,d,t,os⟩:=s
 unfold getAttr? getAttrBy?
 refine wpAny_bind (wpAny_mkText (wpAny_bind (wpAny_attempt ?_)))
 refine jaY hh hx fun h' t' e k hoe=>?_
 obtain ⟨oe,e1,e2⟩:=hoe
 have hTe:(⟨h',g,d,t',os⟩:Shared).TypeIs (.ref e) "AttributeError":=⟨_,e1,e2⟩
 dsimp only
 refine wpAny_bind (wpAny_isInstance hTe F.sub_attr_attr ?_)
 rw [if_pos rfl]
 exact wpAny_pure (hq h' t' k)
end
structure ZipSt (h:Heap) (z TI TO i1 i2 l1 l2:Addr) (i:Nat):Prop where
 ti:IsPair h TI (.ref i1) (.ref i2)
 a:h.IsTupleIter i1 l1 i
 b:h.IsListIter i2 l2 i
 c:(IsZip h z TI TO .none∧∃ a b,IsPair h TO a b)∨∃ (T:Addr) (oT:Obj) (bb:Bool),yh h z TI TO (rawInt T) bb∧h.get? T=some oT∧T≠z∧T≠i1∧T≠i2
section
variable {prog:Program} {w:World} {A:Around} {E:Value→Shared→Prop} {s:Shared}
theorem jb4 {z TI TO i1 i2 l1 l2:Addr} {i:Nat} {xs ys:Array Value} {x y:Value} {Q:Option Value→Shared→Prop} (D:ZipApart z TI TO i1 i2 l1 l2) (Z:ZipSt s.heap z TI TO i1 i2 l1 l2 i) (hl1:s.heap.IsTuple l1 xs) (hl2:s.heap.IsList l2 ys) (hx:xs[i]?=some x) (hy:ys[i]?=some y)
  (hQ:∀ h',ZipSt h' z TI TO i1 i2 l1 l2 (i+1)→IsPair h' s.heap.objs.size x y→(∀ c o,c≠z→c≠TO→c≠i1→c≠i2→s.heap.get? c=some o→h'.get? c=some o)→Q (some (.ref s.heap.objs.size)) { s with heap:=h' }) :
  wpAny (model prog w) A (pyNext (.ref z)) Q E s:=by
 have lt:∀ {c o},s.heap.get? c=some o→s.heap.objs.size≠c:=fun e=>Nat.ne_of_gt (Heap.lt_size e)
 have l1':s.heap.objs.size≠i1:=by obtain ⟨_,e,_⟩:=Z.a;exact lt e
 have l2':s.heap.objs.size≠i2:=by obtain ⟨_,e,_⟩:=Z.b;exact lt e
 rcases Z.c with ⟨hz,a,b,hTO⟩ | ⟨T,oT,bb,hz,hT,t1,t2,t3⟩
 ·have hT:s.TypeIs (.ref z) "zip":=⟨_,hz,rfl⟩
  unfold pyNext
  refine wpAny_bind (wpAny_attempt (wpAny_callSpecial?_slot (name:=Str.ofString "__next__") hT F.slot_zip_next (wpAny_call_entry F.slot_zip_next hT F.entry_zip_next ?_ (F.args_zip_next_1 _))))
  exact jax D hz Z.ti hTO Z.a Z.b hl1 hl2 hx hy fun h' a1 a2 a3 a4 a5 k=>wpAny_pure (hQ h' ⟨k _ _ D.TIz D.TITO D.TIi1 D.TIi2 Z.ti,a2,a3,.inr ⟨_,_,false,a1,a4,lt hz,l1',l2'⟩⟩ a4 k)
 ·have hT':s.TypeIs (.ref z) "zip":=⟨_,hz,rfl⟩
  unfold pyNext
  refine wpAny_bind (wpAny_attempt (wpAny_callSpecial?_slot (name:=Str.ofString "__next__") hT' F.slot_zip_next (wpAny_call_entry F.slot_zip_next hT' F.entry_zip_next ?_ (F.args_zip_next_1 _))))
  exact jaw D.i1z D.i2z D.i12 D.l1z D.l2z D.l2i1 t1 D.TIz hz hT Z.ti Z.a Z.b hl1 hl2 hx hy fun h' a1 a2 a3 a4 a5 k=>wpAny_pure (hQ h' ⟨k _ _ D.TIz D.TIi1 D.TIi2 Z.ti,a2,a3,.inr ⟨T,oT,true,a1,k _ _ t1 t2 t3 hT,t1,t2,t3⟩⟩ a4 fun c o c1 _ c3 c4 e=>k c o c1 c3 c4 e)
theorem jc4 {z TI TO i1 i2 l1 l2:Addr} {i:Nat} {xs:Array Value} {Q:Option Value→Shared→Prop} (hh:A.handled=none) (D:ZipApart z TI TO i1 i2 l1 l2) (Z:ZipSt s.heap z TI TO i1 i2 l1 l2 i) (hl1:s.heap.IsTuple l1 xs) (hx:xs[i]?=none)
  (hQ:∀ h',(∀ c o,c≠z→c≠i1→s.heap.get? c=some o→h'.get? c=some o)→Q none { s with heap:=h' }):wpAny (model prog w) A (pyNext (.ref z)) Q E s:=by
 have hT':s.TypeIs (.ref z) "zip":=by
  rcases Z.c with ⟨hz,_⟩ | ⟨T,oT,bb,hz,_⟩
  ·exact ⟨_,hz,rfl⟩
  ·exact ⟨_,hz,rfl⟩
 unfold pyNext
 refine wpAny_bind (wpAny_attempt (wpAny_callSpecial?_slot (name:=Str.ofString "__next__") hT' F.slot_zip_next (wpAny_call_entry F.slot_zip_next hT' F.entry_zip_next ?_ (F.args_zip_next_1 _))))
 rcases Z.c with ⟨hz,_⟩ | ⟨T,oT,bb,hz,hT,t1,t2,t3⟩
 ·refine K5 hh D.i1z D.l1z hz Z.ti Z.a hl1 hx fun h' e k he=>?_
  obtain ⟨o,ho,hc⟩:=he
  refine wpAny_bind (wpAny_isInstance (T:="StopIteration") (b:=true) ⟨o,ho,hc⟩ isSubtype_stop ?_)
  exact wpAny_pure (hQ _ k)
 ·refine Kg hh D.i1z D.l1z hz hT Z.ti Z.a hl1 hx fun h' e k he=>?_
  obtain ⟨o,ho,hc⟩:=he
  refine wpAny_bind (wpAny_isInstance (T:="StopIteration") (b:=true) ⟨o,ho,hc⟩ isSubtype_stop ?_)
  exact wpAny_pure (hQ _ k)
theorem ZW {T:Addr} {x y:Value} {Q:List Value→Shared→Prop} (h:IsPair s.heap T x y) (hq:Q [x,y] s):wpAny (model prog w) A (Builtin.Dict.pairItems (.ref T)) Q E s:=by
 unfold Builtin.Dict.pairItems
 refine wpAny_bind (wpAny_typeOf (T:="tuple") ⟨_,h,rfl⟩ ?_)
 rw [if_pos (by decide)]
 refine wpAny_bind ?_
 unfold seqItems?
 refine wpAny_bind (wpAny_load h ?_)
 exact wpAny_pure (wpAny_pure hq)
end
end PySem
namespace L2
open PySem PySem.Spec PyProof.Rows PySem.W
def zKV (names:List Str) (vs:List V):List (Key×V):=(names.zip vs).map fun q=>(Sum.inr q.1,q.2)
theorem ZipSt.keepD {h h':Heap} {z TI TO i1 i2 l1 l2 d:Addr} {i:Nat} (Z:ZipSt h z TI TO i1 i2 l1 l2 i) (nTI:TI≠d) (n1:i1≠d) (n2:i2≠d) (nz:z≠d) (nTO:TO≠d) (hd:∃ o,h'.get? d=some o) (k:∀ b o,b≠d→h.get? b=some o→h'.get? b=some o):ZipSt h' z TI TO i1 i2 l1 l2 i:=by
 refine ⟨k _ _ nTI Z.ti,Z.a.at fun o e=>k _ o n1 e,Z.b.at fun o e=>k _ o n2 e,?_⟩
 rcases Z.c with ⟨hz,a,b,hTO⟩ | ⟨T,oT,bb,hz,hT,t1,t2,t3⟩
 ·exact .inl ⟨k _ _ nz hz,a,b,k _ _ nTO hTO⟩
 ·refine .inr ⟨T,?_⟩
  by_cases e:T=d
  ·obtain ⟨o,ho⟩:=hd
   exact ⟨o,bb,k _ _ nz hz,by rw [e];exact ho,t1,t2,t3⟩
  ·exact ⟨oT,bb,k _ _ nz hz,k _ _ e hT,t1,t2,t3⟩
section
variable {prog:Program} {w:World} {A:Around} {E:Value→Shared→Prop} {R:Result→Shared→Prop}
theorem jb5 {d z TI TO i1 i2 l1 l2:Addr} {xs ys:List Value} {names:List Str} {vs:List V} (hh:A.handled=none) (D:ZipApart z TI TO i1 i2 l1 l2) (nTI:TI≠d) (n1:i1≠d) (n2:i2≠d) (nz:z≠d) (nTO:TO≠d) (m1:l1≠d) (m2:l2≠d)
  (rx:Vals (names.map V.str) xs) (ry:Vals vs ys) (hl:names.length=vs.length) (nd:names.Nodup) (hz:names.length≤sizeLine) :
  ∀ (k i:Nat) (s:Shared) (acc:List (Key×Value)),i+k=names.length→ZipSt s.heap z TI TO i1 i2 l1 l2 i→s.heap.IsTuple l1 xs.toArray→s.heap.IsList l2 ys.toArray→s.heap.DictOf (kj prog w) d acc→KV (zKV (names.take i) (vs.take i)) acc→
   (∀ h' tk acc',(∀ b o,b≠d→b≠z→b≠TO→b≠i1→b≠i2→s.heap.get? b=some o→h'.get? b=some o)→h'.DictOf (kj prog w) d acc'→KV (zKV names vs) acc'→R (.ok (.ret .none)) { s with heap:=h',toks:=tk })→
   ∀ c:Int,codeAny (model prog w) A (.builtin "dict.update.loop" ⟨[.ref d,.ref z,rawInt c,.none],[]⟩) R s:=by
 intro k
 have lx:=rx.length
 have ly:=ry.length
 rw [List.length_map] at lx
 induction k with
 | zero=>
  intro i s acc hk Z ht hl2 hd hkv hR c
  have hin:i=names.length:=by omega
  refine codeAny_builtin yx ?_
  rw [Around.under_plainId qH _]
  show wpAny _ A.in1 (pyNext (.ref z) >>= _) _ _ s
  refine wpAny_bind (jc4 (A:=A.in1) hh D Z ht (by simp;omega) fun h1 he1=>?_)
  show wpAny _ A.in1 (Builtin.Dict.addKeywords d [] >>= _) _ _ _
  refine wpAny_bind (wpAny_pure (wpAny_pure ?_))
  obtain ⟨o,es,ep,ho,x⟩:=hd
  subst hin
  rw [List.take_length,hl,List.take_length] at hkv
  exact hR h1 s.toks acc (fun b o _ b2 _ b4 _ e=>he1 b o b2 b4 e) ⟨o,es,ep,he1 d o (Ne.symm nz) (Ne.symm n1) ho,x⟩ hkv
 | succ k ih=>
  intro i s acc hk Z ht hl2 hd hkv hR c
  have hlt:i < names.length:=by omega
  have hxi:(names.map V.str)[i]?=some (.str names[i]):=by rw [List.getElem?_map,List.getElem?_eq_getElem hlt];rfl
  have hvi:vs[i]?=some (vs[i]'(by omega)):=List.getElem?_eq_getElem (by omega)
  obtain ⟨x,ex,rx'⟩:=rx.get hxi
  obtain ⟨y,ey,ry'⟩:=ry.get hvi
  refine codeAny_builtin yx ?_
  rw [Around.under_plainId qH _]
  show wpAny _ A.in1 (pyNext (.ref z) >>= _) _ _ s
  refine wpAny_bind (jb4 D Z ht hl2 (x:=x) (y:=y) (by simpa using ex) (by simpa using ey) fun h1 Z1 hp1 k1=>?_)
  have ht1:h1.IsTuple l1 xs.toArray:=ht.at fun o e=>k1 _ o D.l1z D.l1TO D.l1i1 D.l1i2 e
  have hl21:h1.IsList l2 ys.toArray:=hl2.at fun o e=>k1 _ o D.l2z D.l2TO D.l2i1 D.l2i2 e
  have hd1:h1.DictOf (kj prog w) d acc:=by
   obtain ⟨o,es,ep,ho,x⟩:=hd
   exact ⟨o,es,ep,k1 d o (Ne.symm nz) (Ne.symm nTO) (Ne.symm n1) (Ne.symm n2) ho,x⟩
  dsimp only
  refine wpAny_bind (wpAny_holding (wpAny_bind (wpAny_tryCatch (ZW hp1 ?_))))
  dsimp only
  have hal:acc.length=i:=by
   have:=Paired.length hkv
   unfold zKV at this
   rw [List.length_map,List.length_zip,List.length_take,List.length_take] at this
   omega
  refine wpAny_holding (wpAny_dictSet_pairs (k:=(Sum.inr names[i]:Key)) (YA (k:=Sum.inr names[i]) rx') hd1 (fun h2 hd2 hs2=>?_) (by omega))
  refine wpAny_pure ⟨plainId_quiet qH _,?_⟩
  have hb2:∀ b o,b≠d→h1.get? b=some o→h2.get? b=some o:=fun b o hb e=>(hs2.2 b hb).trans e
  have fresh:(acc.any fun kv=>decide (kv.1=(Sum.inr names[i]:Key)))=false:=by
   rw [List.any_eq_false]
   intro kv hm
   have h1:kv.1∈acc.map (·.1):=List.mem_map.mpr ⟨kv,hm,rfl⟩
   rw [jfd hkv] at h1
   unfold zKV at h1
   rw [List.map_map] at h1
   obtain ⟨q,hq,e⟩:=List.mem_map.mp h1
   intro zz
   have z':kv.1=Sum.inr names[i]:=of_decide_eq_true zz
   rw [← e] at z'
   have hqi:q.1=names[i]:=Sum.inr.inj z'
   have hmem:names[i]∈names.take i:=by
    rw [← hqi]
    exact (List.of_mem_zip hq).1
   obtain ⟨j,hj,hje⟩:=List.mem_iff_getElem.mp hmem
   rw [List.length_take] at hj
   rw [List.getElem_take] at hje
   exact (List.pairwise_iff_getElem.mp nd) j i (by omega) hlt (by omega) hje
  have hst:stored acc (Sum.inr names[i]) y=acc++[((Sum.inr names[i]:Key),y)]:=by
   unfold stored
   rw [fresh,if_neg Bool.false_ne_true]
  rw [hst] at hd2
  have hkv2:KV (zKV (names.take (i+1)) (vs.take (i+1))) (acc++[((Sum.inr names[i]:Key),y)]):=by
   have e1:zKV (names.take (i+1)) (vs.take (i+1))=zKV (names.take i) (vs.take i)++[((Sum.inr names[i]:Key),vs[i]'(by omega))]:=by
    unfold zKV
    rw [List.take_succ,List.getElem?_eq_getElem hlt,List.take_succ,hvi,List.zip_append (by rw [List.length_take,List.length_take];omega),List.map_append]
    rfl
   rw [e1]
   exact jfc hkv ry'
  have hdx:∃ o,h2.get? d=some o:=by obtain ⟨o,es,ep,ho,_⟩:=hd2;exact ⟨o,ho⟩
  exact ih (i+1) { s with heap:=h2,toks:=_ } _ (by omega) (ZipSt.keepD Z1 nTI n1 n2 nz nTO hdx hb2) (ht1.at fun o e=>hb2 _ o m1 e) (hl21.at fun o e=>hb2 _ o m2 e) hd2 hkv2 (fun h' tk acc' hk' hd' hkv'=>hR h' tk acc' (fun b o b1 b2 b3 b4 b5 e=>hk' b o b1 b2 b3 b4 b5 (hb2 b o b1 (k1 b o b2 b3 b4 b5 e))) hd' hkv') (c+1)
end
open PySem PySem.Spec PyProof.Rows PySem.W
def tDZ (K:W.Frag) (t:TA):TE:=fun σ H Q=>t σ H fun vs H1=>∃ (a b:Addr) (names:List Str) (ys:List V),vs=[.ref a,.ref b]∧SqT K H1 a (names.map V.str)∧H1 b=some (.lst ys)∧names.length=ys.length∧names.Nodup∧names.length≤1000∧
 ∀ l:Addr,H1 l=none→Q (.ref l) (upd H1 l (.dK (zKV names ys)))
theorem nlt {x y:Nat} (h:x < y∨y < x):x≠y:=by omega
theorem jb3 {S a b:Nat} (ha:a < S) (hb:b < S):ZipApart (S+4) (S+2) (S+3) S (S+1) a b:=by
 constructor <;> exact nlt (by omega)
theorem jbg:bootBuiltins "zip" = some (.type "zip"):=by decide +kernel
theorem jeQ {X:Cx} {p pos p2 pos2:Pos} {e1 e2:Expr} {t:TA} (hc:X.calm=true) (hg:Gl X "dict") (hm:X.mg "dict" = none) (hv:bootBuiltins "dict" = some (.type "dict")) (hg2:Gl X "zip") (hm2:X.mg "zip" = none) (hv2:bootBuiltins "zip" = some (.type "zip")) (ha:PA X [e1,e2] t) (hp1:qj e1=true:=by rfl) (hp2:qj e2=true:=by rfl) :
  PE X (.Call (.Name "dict" p) [.Call (.Name "zip" p2) [e1,e2] [] pos2] [] pos) (tDZ X.K t):=by
 intro pins s σ H Q I h
 refine wpAny_Call_Name_kw (yw I hg hm hv ?_)
 refine PyProof.Rows.callWith_type1 ?_ rfl rfl
 show wpAny _ _ (spliced [(false,eval (.Call (.Name "zip" p2) [e1,e2] [] pos2) X.env)]) _ _ s
 refine Calls.spliced_cons ?_
 refine wpAny_Call_Name_kw (yw I hg2 hm2 hv2 ?_)
 refine PyProof.Rows.callWith_type1 (thn (ha pos2 pins s σ H _ I h) fun us s1 z=>?_) (zm hp1 _ _) (Jw _ _ [e2] (by simp [hp2]))
 obtain ⟨vs,H1,I1,r1,a,b,names,ys,rfl,hta,hb,hl,nd,hz,q⟩:=z
 clear I h
 obtain ⟨u1,u2,rfl,r1a,r1b⟩:=jbn r1
 cases r1a
 cases r1b
 obtain ⟨xs,rx,htup,_⟩:=I1.tuple hta
 obtain ⟨hzy,its,n,ry,ho⟩:=I1.hok b _ hb
 have hlist:s1.heap.IsList b its.toArray:=⟨_,ho,rfl,n,rfl⟩
 refine jcW htup hlist fun h' zz zp zo zi1 zi2 zs zk=>?_
 refine Calls.spliced_nil ?_
 have hbig:(h'.objs.size == sysModules)=false:=by
  have:=I1.big
  exact beq_eq_false_iff_ne.mpr (by rw [zs];exact Nat.ne_of_gt (Nat.lt_of_lt_of_le this (Nat.le_add_right _ _)))
 refine callType_codes (Q₁:=fun obj s₁=>obj=.ref h'.objs.size∧s₁={ s1 with heap:=h'.push { cls:=.type "dict",data:=.dict #[] } }) PySem.F.kt_called_dict (PySem.F.kt_typeCall_dict_1 _) PySem.F.entry_dict_init (PySem.kt_code_dict_new _ ⟨rfl,rfl⟩) ?_
 rintro obj s₁ ⟨rfl,rfl⟩
 have hnew:(h'.push { cls:=.type "dict",data:=.dict #[] }).DictOf (kj X.prog X.w) h'.objs.size []:=Heap.DictOf.new h'
 have hp1:∀ b o,h'.get? b=some o→(h'.push { cls:=.type "dict",data:=.dict #[] }).get? b=some o:=fun b o e=>Heap.get?_push_of_some _ e
 refine ⟨hnew.typeIs,PySem.F.args_dict_init_2 _ _,?_⟩
 unfold Builtin.«dict.__init__»
 refine wpAny_bind ?_
 unfold Builtin.Dict.selfAndRest
 refine wpAny_bind (wpAny_notOrdered_dict hnew.typeIs ?_)
 show wpAny _ _ (pure (h'.objs.size,[Value.ref (s1.heap.objs.size+4)])) _ _ _
 refine wpAny_pure ?_
 show wpAny _ _ (Builtin.Dict.updateFrom "dict.__init__" h'.objs.size (.ref (s1.heap.objs.size+4)) [] .none) _ _ _
 unfold Builtin.Dict.updateFrom
 have ho1:=hp1 _ _ zz
 refine wpAny_bind (wpAny_typeOf (T:="zip") ⟨_,ho1,rfl⟩ ?_)
 rw [if_pos (by decide)]
 refine wpAny_bind (PySem.nokeysZ (show X.A.in1.in1.handled=none from I1.ok.hd hc) ho1 fun h2 t2 k2=>?_)
 rw [if_pos (show (none:Option Value).isNone=true from rfl)]
 have k20:∀ c o,h'.get? c=some o→h2.get? c=some o:=fun c o e=>k2 c o (hp1 c o e)
 refine wpAny_bind (wpAny_rule (wpAny_bind (wpAny_pyIter_zip (show IsZip h2 _ _ _ .none from k20 _ _ zz) ?_)))
 refine wpAny_pure ⟨plainId_quiet qH _,?_⟩
 have hd2:h2.DictOf (kj X.prog X.w) h'.objs.size []:=by
  obtain ⟨o,es,ep,ho,x⟩:=hnew
  exact ⟨o,es,ep,k2 _ _ ho,x⟩
 have lta:a < s1.heap.objs.size:=by obtain ⟨o,e,_⟩:=htup;exact Heap.lt_size e
 have ltb:b < s1.heap.objs.size:=Heap.lt_size ho
 generalize hS:s1.heap.objs.size=S at *
 have D:=jb3 lta ltb
 rw [zs] at hd2 hbig ⊢
 refine jb5 (A:=X.A.in1) (xs:=xs) (ys:=its) (names:=names) (vs:=ys) (show X.A.in1.handled=none from I1.ok.hd hc) D (nlt (by omega)) (nlt (by omega)) (nlt (by omega)) (nlt (by omega)) (nlt (by omega)) (Nat.ne_of_lt (Nat.lt_of_lt_of_le lta (Nat.le_add_right _ _))) (Nat.ne_of_lt (Nat.lt_of_lt_of_le ltb (Nat.le_add_right _ _))) rx ry hl nd (Nat.le_of_lt (jz hz)) names.length 0 _ [] (by omega) ⟨k20 _ _ zp,zi1.at fun o e=>k20 _ o e,zi2.at fun o e=>k20 _ o e,.inl ⟨k20 _ _ zz,_,_,k20 _ _ zo⟩⟩ (Heap.IsTuple.at htup fun o e=>k20 _ o (zk _ o e)) (hlist.at fun o e=>k20 _ o (zk _ o e)) hd2 .nil ?_ 0
 intro h3 tk acc' hk hd' hkv'
 refine ⟨rfl,.ref (S+5),_,I1.laid (t':=tk) (fun c o e=>?_) (by omega) (Zo (kvs:=zKV names ys) ?_ hbig hkv' hd'),rfl,q _ (I1.hok.fresh (by omega))⟩
 ·have lc:=Heap.lt_size e
  rw [hS] at lc
  have g:∀ k,c≠S+k:=fun k=>Nat.ne_of_lt (Nat.lt_of_lt_of_le lc (Nat.le_add_right _ _))
  exact hk c o (g 5) (g 4) (g 3) (g 0) (g 1) (k20 _ _ (zk _ _ e))
 ·unfold zKV
  rw [List.length_map,List.length_zip,← hl,Nat.min_self]
  exact Nat.le_of_lt (jz hz)
open PySem PySem.Spec PyProof.Rows
structure MkFn (P:Program) (w:World) (K:W.Frag) (mg:Str→Option Value) (base:Heap) (k:Nat) (x:Str) (C:Addr) (ps:List Str) (sp:Sp):Prop where
 ex:∃ f fd,Mk K C f∧FnOk P w K mg base CX0 k f fd ps sp∧Binds K fd ps []∧mg x=some (.ref C)
theorem jg6 {X:Cx} {k k':Nat} {x:Str} {C:Addr} {ps:List Str} {sp:Sp} {e:Expr} {es:List Expr} {t:TA} {p pos:Pos} (F:MkFn X.prog X.w X.K X.mg X.base k x C ps sp) (hr:Room k' X.A) (ha:PA X (e :: es) t) (hk:k+1≤k':=by decide) (hg:Gl X x:=by rfl)
  (hd:(x == ("__debug__" : Str))=false:=by decide) (hp:(e :: es).all qj=true:=by rfl):PE X (.Call (.Name x p) (e :: es) [] pos) (jdb C sp [] E0 t):=by
 obtain ⟨f,fd,M,G,b,m⟩:=F.ex
 rw [List.all_cons,Bool.and_eq_true] at hp
 exact jeO M G (hr.mono hk) hg m b .nil jfE ha hd (zm hp.1 es X.env) (Jw pos X.env es hp.2)
open PySem PySem.Spec PyProof.Rows
theorem KI {env:Env} (kx vx gens scope pos):eval (.DictComp kx vx gens scope pos) env=comprehension (.DictComp kx vx gens scope pos) scope env (firstIterPos gens pos) newDict (firstAsync gens) (firstIter gens env):=rfl
theorem Yd {prog:Program} {w:World} {A:Around} {s:Shared} {kx vx target iter:Expr} {ifs:List Expr} {scope:Scope} {pos:Pos} {it:Value} {D:Addr} {env:Env} {R:Result→Shared→Prop} (I:Nat→Shared→Prop)
  (turn:∀ n s,I n s→wpAny (model prog w) A (pyNext it) (fun r s1=>match r with
   | none=>R (.ok .next) s1
   | some v=>wpAny (model prog w) A (letOwnedTupleGo target it v) (fun _ s1'=>wpAny (model prog w) A (assign target env v) (fun _ s2=>
     wpAny (model prog w) A (forIn ifs true fun c r=>if r=true then do let ok ← isTrue c env (eval c env);pure (ForInStep.yield ok) else pure (ForInStep.yield r)) (fun ok s3=>
      if ok=true then wpAny (model prog w) A (eval kx env) (fun kv s4=>wpAny (model prog w) A (eval vx env) (fun vv s5=>
       wpAny (model prog w) A (dictSet D kv vv) (fun _ s6=>∃ m,m < n∧I m s6) (fun _ _=>False) s5) (fun _ _=>False) s4) (fun _ _=>False) s3
      else ∃ m,m < n∧I m s3) (fun _ _=>False) s2) (fun _ _=>False) s1') (fun _ _=>False) s1) (fun _ _=>False) s)
  (n:Nat) (h:I n s):codeAny (model prog w) A (.compLoop (.DictComp kx vx [⟨target,iter,ifs,0⟩] scope pos) 0 it (.ref D) env) R s:=by
 have no:∀ (x:Value) (s':Shared),False→notedBy (model prog w) A env (fun e s'=>R (.error e) s') x s':=fun _ _ z=>z.elim
 refine codeAny_loop rfl I (fun n s hI=>?_) n h
 show wpAny _ A ((compTurn (.DictComp kx vx [⟨target,iter,ifs,0⟩] scope pos) 0 it (.ref D) env).onRaise (fun x=>do noteFrame x env;theTreesLotGoes x)) _ _ s
 refine wpAny_noted ?_
 rw [compTurn_dict]
 refine wpAny_bind (wpAny_standAt (wpAny_bind (wpAny_mono (turn n s hI) (fun r s1 h1=>?_) no)))
 cases r with
 | none=>exact wpAny_pure h1
 | some v=>
  refine wpAny_bind (wpAny_mono h1 (fun _ s1' h1'=>?_) no)
  refine wpAny_bind (wpAny_mono h1' (fun _ s2 h2=>wpAny_bind (wpAny_mono h2 (fun ok s3 h3=>?_) no)) no)
  cases ok with
  | false=>exact wpAny_pure ⟨rfl,h3⟩
  | true=>
   exact wpAny_bind (wpAny_bind (wpAny_mono h3 (fun kv s4 h4=>wpAny_bind (wpAny_holding (wpAny_mono h4 (fun vv s5 h5=>wpAny_bind (wpAny_standAt (wpAny_holding (wpAny_mono h5 (fun _ s6 h6=>wpAny_pure ⟨rfl,h6⟩) no)))) no))) no))
def jb0 (J:It) (p:Addr) (g:TG) (tt:TT) (tk tv:TE) (Q:VK) (σ:St) (H:Hp):Prop:=∃ W:Nat→Nat→St→Hp→Prop,(∃ m,W 0 m σ H)∧
 ∀ i m σ' H',W i m σ' H'→(J.stop i H'∧Q (.ref p) H')∨(J.go i H'∧∃ N:St→Hp→Prop,(∀ σ3 H3,N σ3 H3→∃ m',m' < m∧W (i+1) m' σ3 H3)∧∀ x H2,J.yld i H' x H2→g x σ' H2 fun σ3 H3=>tt σ3 H3 fun c H4=>
  if c=true then tk σ3 H4 fun ky H5=>tv σ3 H5 fun y H6=>∃ kvs k,ky=kV k∧H6 p=some (.dK kvs)∧kvs.length < sizeLine∧N σ3 (upd H6 p (.dK (qE kvs k y))) else N σ3 H4)
def jaD (own:List Str) (fr:List Nat) (wi:TI) (g:TG) (tt:TT) (tk tv:TE):TE:=fun σ H Q=>wi σ H fun J H1=>∀ p,H1 p=none→jb0 J p g tt tk tv Q (jcY own fr σ) (upd H1 p (.dK []))
theorem jcR {X:Cx} {scope:Scope} {own:List Str} {fr:List Nat} {kx vx tg iter:Expr} {ifs:List Expr} {pos:Pos} {wi:TI} {g:TG} {tt:TT} {tk tv:TE} {use:Option (Value→Sem Unit)} (hc:X.calm=true) (O:CompOk X scope fr) (hi:PI X tg iter wi)
  (hb:∀ s H ex,PG (blk X scope own fr s H ex) tg g∧PTs (blk X scope own fr s H ex) ifs tt∧PE (blk X scope own fr s H ex) kx tk∧PE (blk X scope own fr s H ex) vx tv)
  (hs:∀ x,foldedSetIterable iter X.env x=pure x) {pins:List (Addr×Obj)} {s:Shared} {σ:St} {H:Hp} {Q:VK} {R:Value→Shared→Prop} (I:Inv X pins σ H s) (h:jaD own fr wi g tt tk tv σ H Q) (hx:∀ e s',X.xe e s'↔False)
  (fin:∀ (p C:Addr) (H':Hp) (s':Shared) (m:Str→Option Value),s'.heap.Ns C m→H' C=none→C≠X.env.locals→(∀ x c,X.env.cells.lookup x=some c→c≠C)→Inv X pins σ H' s'→(∀ h',Heap.SameBut C s'.heap h'→Inv X pins σ H' { s' with heap:=h' })→Q (.ref p) H'→
   compPost (model X.prog X.w) X.A X.xe use R (.ref p) C (.ok .next) s') :
  wpAny (model X.prog X.w) X.A (comprehension (.DictComp kx vx [⟨tg,iter,ifs,0⟩] scope pos) scope X.env (firstIterPos [⟨tg,iter,ifs,0⟩] pos) newDict false (eval iter X.env) use) R X.xe s:=by
 have hsome:∀ x∈scope.names,x.2=.free→(X.env.cells.lookup x.1).isSome=true:=fun x hx' e=>by
  obtain ⟨c,hc⟩:=I.ok.has x.1 (O.frees x hx' e)
  rw [hc];rfl
 have no:∀ (E:Value→Shared→Prop) (x:Value) (s':Shared),X.xe x s'→E x s':=fun E x s' z=>((hx x s').mp z).elim
 refine wpAny_comprehension_free (cl:=yi X.env.cells scope.names []) rfl hs (yX hsome) O.kind O.loc ?_
 refine thn (hi pins s σ H _ I h) fun v s1 h1=>thn h1 fun itv s2 h2=>?_
 obtain ⟨it,fp,tn,J,H2,e,I2,T,st2,f2,q2⟩:=h2
 subst e
 unfold newDict
 refine wpAny_newObj_type ?_
 have nw:H2 s2.heap.objs.size=none:=I2.fresh
 obtain ⟨W,⟨m0,w0⟩,turn⟩:=q2 _ nw
 generalize hp:s2.heap.objs.size=p at *
 have I3:Inv X pins σ (upd H2 p (.dK [])) { s2 with heap:=s2.heap.push { cls:=.type "dict",data:=.dict #[] } }:=by
  have:=I2.laid (a:=s2.heap.objs.size) (o:=.dK []) (t':=s2.toks) (fun _ _ q=>Heap.get?_push_of_some { cls:=.type "dict",data:=.dict #[] } q) (Nat.le_refl _) (jea s2.heap I2.big)
  rw [hp] at this
  exact this
 have lt2:∀ b∈fp,b < s2.heap.objs.size:=fun b hb=>by
  obtain ⟨o,ho,_⟩:=T.obj _ _ st2 b hb
  exact Heap.lt_size ho
 have fpn:∀ b∈fp,(upd H2 p (.dK [])) b=none:=fun b hb=>by
  rw [jg (by rw [← hp];exact Nat.ne_of_lt (lt2 b hb))]
  exact (f2 b hb).1
 generalize hs3:({ s2 with heap:=s2.heap.push { cls:=.type "dict",data:=.dict #[] } }:Shared)=s3 at *
 have sz3:s3.heap.objs.size=p+1:=by
  rw [← hs3]
  show (s2.heap.push _).objs.size=_
  rw [Heap.size_push,hp]
 have st3:tn 0 s3.heap:=T.keep 0 _ _ st2 fun b hb o e=>by
  rw [← hs3]
  exact Heap.get?_push_of_some _ e
 refine wpAny_newFunctionEnv O.nocell (by intro y hy;simp at hy) (fun h4 hns4 hsb4=>?_) O.kind
 have k4:∀ b o,s3.heap.get? b=some o→h4.get? b=some o:=fun b o e=>hsb4.extBut b o (Nat.ne_of_lt (Heap.lt_size e)) (Heap.get?_push_of_some _ e)
 have hns4':h4.Ns s3.heap.objs.size fun _=>none:=by
  have z:(fun x:Str=>([]:List (Str×Value)).reverse.lookup x)=fun _=>none:=by funext x;rfl
  rw [z] at hns4
  exact hns4
 have fo:∀ b∈fp,Jn X pins (upd H2 p (.dK [])) b∧b < s3.heap.objs.size:=fun b hb=>⟨⟨fpn b hb,(f2 b hb).2⟩,by rw [sz3,← hp];exact Nat.lt_succ_of_lt (lt2 b hb)⟩
 have I4:=Zg (own:=own) (fr:=fr) (t1:=s3.toks+([]:List (Str×Value)).length) I3 O fo hns4' k4
 have st4:tn 0 h4:=T.keep 0 _ _ st3 fun b hb o e=>k4 b o e
 obtain ⟨hg,ht,hk',hv'⟩:=hb s3 (upd H2 p (.dK [])) fp
 have stat:∀ {H':Hp} {pn:List (Addr×Obj)} {s':Shared} {σ':St},Inv (blk X scope own fr s3 (upd H2 p (.dK [])) fp) [] σ' H' s'→(∀ b∈fp,H' b=none)→∀ b∈fp,Jn (blk X scope own fr s3 (upd H2 p (.dK [])) fp) [] H' b:=fun {H' pn s' σ'} J hn b hb'=>
  ⟨hn b hb',(J.ok.exf b hb').1,J.ok.exfs b hb',.inl hb',(J.ok.exf b hb').2,fun p hp=>absurd hp (by simp [blk])⟩
 have nocells:∀ x c,X.env.cells.lookup x=some c→c≠s3.heap.objs.size:=fun x c e=>by
  obtain ⟨v,q⟩:=I3.cell x c e
  exact Nat.ne_of_lt q.lt
 have loop:∀ s5:Shared,s5={ s3 with heap:=h4,toks:=s3.toks+([]:List (Str×Value)).length }→
   codeAny (model X.prog X.w) X.A (.compLoop (.DictComp kx vx [⟨tg,iter,ifs,0⟩] scope pos) 0 (.ref it) (.ref p) (blk X scope own fr s3 (upd H2 p (.dK [])) fp).env) (compPost (model X.prog X.w) X.A X.xe use R (.ref p) s3.heap.objs.size) s5:=by
  rintro s5 rfl
  refine Yd (fun n s'=>∃ i σ' H',Inv (blk X scope own fr s3 (upd H2 p (.dK [])) fp) [] σ' H' s'∧tn i s'.heap∧(∀ b∈fp,H' b=none)∧W i n σ' H') ?_ m0 ⟨0,_,_,I4,st4,fpn,w0⟩
  rintro n s6 ⟨i,σ6,H6,I6,st6,fr6,w6⟩
  rcases turn i n σ6 H6 w6 with ⟨stop,qn⟩ | ⟨go,N,hN,step⟩
  ·refine thn (T.done (blk X scope own fr s3 (upd H2 p (.dK [])) fp) rfl rfl rfl hc i [] s6 σ6 H6 _ I6 (stat (pn:=[]) I6 fr6) st6 stop) fun r s7 ⟨hr,I7⟩=>?_
   subst hr
   obtain ⟨m,hm,_⟩:=I7.loc
   exact fin p _ H6 s7 m hm I7.free (Nat.ne_of_gt I3.lt) nocells (zX I3 fo I7 (Heap.SameBut.refl ..)) (fun h' hs'=>zX I3 fo I7 hs') qn
  ·refine thn (T.item (blk X scope own fr s3 (upd H2 p (.dK [])) fp) rfl rfl rfl hc i [] s6 σ6 H6 _ I6 (stat (pn:=[]) I6 fr6) st6 go) fun r s7 ⟨u,hr,h7⟩=>?_
   subst hr
   refine thn h7 fun _ s8 ⟨x,H8,I8,r8,y8,st8,fr8⟩=>?_
   have I8':=I8.pinned (stat (pn:=[]) I8 fr8) (T.obj _ _ st8)
   refine thn (hg _ s8 σ6 H8 x u _ I8' r8 (step x H8 y8)) fun _ s9 ⟨σ9,H9,I9,q9⟩=>?_
   refine thn (ht _ s9 σ9 H9 _ I9 q9) fun ok s10 ⟨H10,I10,q10⟩=>?_
   have again:∀ {H11:Hp} {s11:Shared},Inv (blk X scope own fr s3 (upd H2 p (.dK [])) fp) ([]++yb fp s8.heap) σ9 H11 s11→(∃ m',m' < n∧W (i+1) m' σ9 H11)→
     ∃ m,m < n∧∃ i σ' H',Inv (blk X scope own fr s3 (upd H2 p (.dK [])) fp) [] σ' H' s11∧tn i s11.heap∧(∀ b∈fp,H' b=none)∧W i m σ' H':=fun {H11 s11} I11 ⟨m',hm,w11⟩=>by
    refine ⟨m',hm,i+1,σ9,H11,I11.unpinned,T.keep _ _ _ st8 fun b hb' o e=>(I11.pin (b,o) (List.mem_append_right _ (List.mem_append_right _ (qk hb' e)))).1,fun b hb'=>?_,w11⟩
    obtain ⟨o,e,d⟩:=T.obj _ _ st8 b hb'
    exact (I11.pin (b,o) (List.mem_append_right _ (List.mem_append_right _ (qk hb' e)))).2.1
   cases ok with
   | false=>
    rw [if_neg Bool.false_ne_true] at q10 ⊢
    exact again I10 (hN _ _ q10)
   | true=>
    rw [if_pos rfl] at q10 ⊢
    refine thn (hk' _ s10 σ9 H10 _ I10 q10) fun kv s11 ⟨ky,H11,I11,r11,q11⟩=>?_
    refine thn (hv' _ s11 σ9 H11 _ I11 q11) fun vv s12 ⟨y,H12,I12,r12,kvs,k,ek,hkv,hlen,q12⟩=>?_
    subst ek
    obtain ⟨z,hd,vs,rel,dd⟩:=jbQ I12.hok hkv
    have hl:(qE kvs k y).length≤sizeLine:=by have:=yu kvs k y;omega
    refine wpAny_dictSet_pairs (YA r11) dd (fun h' dd' hs'=>?_) (by rw [← rel.length];exact z)
    have hex':∃ q,h'.get? p=some q:=let ⟨q,_,_,hq,_⟩:=dd';⟨q,hq⟩
    exact again (J7 (t':=s12.toks+1) I12 (by rw [hkv];exact True.intro) hs' hex' (Zo hl hd (rel.put k r12) dd')) (hN _ _ q12)
 refine codeAny_compStart_dict (loop _ rfl) (T.self X.A 0 _ _ _ st4 (loop _ rfl))
theorem jdz {X:Cx} {scope:Scope} {kx vx tg iter:Expr} {ifs:List Expr} {pos:Pos} {wi:TI} {g:TG} {tt:TT} {tk tv:TE} (own:List Str) (fr:List Nat) (hc:X.calm=true) (O:CompOk X scope fr) (hi:PI X.nox tg iter wi)
  (hb:∀ s H ex,PG (blk X.nox scope own fr s H ex) tg g∧PTs (blk X.nox scope own fr s H ex) ifs tt∧PE (blk X.nox scope own fr s H ex) kx tk∧PE (blk X.nox scope own fr s H ex) vx tv)
  (hs:∀ x,foldedSetIterable iter X.env x=pure x:=by intro _;rfl):PE X.nox (.DictComp kx vx [⟨tg,iter,ifs,0⟩] scope pos) (jaD own fr wi g tt tk tv):=by
 intro pins s σ H Q I h
 rw [KI]
 refine jcR (X:=X.nox) (use:=none) (Q:=Q) hc ⟨O.kind,O.nocell,O.loc,O.frees,O.fr⟩ hi hb hs I h (fun _ _=>Iff.rfl) fun p C H' s' m hm hC _ _ I' back q=>?_
 exact ⟨m,hm,fun h' hs'=>⟨.ref p,H',back h' hs',rfl,q⟩⟩
section
variable {p:Addr} {g:TG} {tt:TT} {tk tv:TE} {σ:St} {H:Hp} {Q:VK}
theorem YJ {K:W.Frag} {a:Addr} {xs:List V} (Pv:Nat→St→Hp→Prop) (h0:Pv 0 σ H) (hl:∀ i σ' H',i≤xs.length→Pv i σ' H'→SqT K H' a xs)
  (hs:∀ i x σ' H',xs[i]?=some x→Pv i σ' H'→g x σ' H' fun σ3 H3=>tt σ3 H3 fun c H4=>if c=true then tk σ3 H4 fun ky H5=>tv σ3 H5 fun y H6=>∃ kvs k,ky=kV k∧H6 p=some (.dK kvs)∧kvs.length < sizeLine∧Pv (i+1) σ3 (upd H6 p (.dK (qE kvs k y))) else Pv (i+1) σ3 H4)
  (hd:∀ σ' H',Pv xs.length σ' H'→Q (.ref p) H'):jb0 (Itt K a) p g tt tk tv Q σ H:=by
 refine ⟨fun i m σ H=>m=xs.length - i∧i≤xs.length∧Pv i σ H,⟨xs.length,by simp,Nat.zero_le _,h0⟩,?_⟩
 rintro i m σ1 H1 ⟨rfl,hi,pv⟩
 have q:=hl i σ1 H1 hi pv
 by_cases hlt:i < xs.length
 ·refine .inr ⟨⟨xs,xs[i],q,by simp [hlt]⟩,Pv (i+1),fun σ3 H3 q=>⟨xs.length - (i+1),by omega,rfl,hlt,q⟩,fun x H2 y=>?_⟩
  obtain ⟨e1,e2⟩:=y
  subst e1
  exact hs i x σ1 _ (e2 xs q) pv
 ·have e:i=xs.length:=by omega
  subst e
  exact .inl ⟨⟨xs,q,Nat.le_refl _⟩,hd σ1 H1 pv⟩
end
end L2
namespace HT
open PySem PySem.Spec PyProof.Rows L2
open PySem.SeqAt
open PySem.AutoSeq1 (wpAny_loadPart')
open PySem.MeetsSeq PySem.MeetsSeq2 PySem.MeetsSeq3
section
variable {prog:Program} {w:World} {A:Around} {E:Value→Shared→Prop} {s:Shared}
theorem getItem_tuple_whole {t sl:Addr} {items:Array Value} {vl vu:Value} {lo hi:Option Int} {Q:Value→Shared→Prop} (ht:IsTup s.heap t items) (hs:s.heap.IsSliceOf sl vl vu .none) (pl:IsPart vl lo) (pu:IsPart vu hi)
  (hw:sIx items.size 0 lo=0∧sIx items.size items.size hi=items.size) (h:Q (.ref t) s):wpAny (model prog w) A (getItem (.ref t) (.ref sl)) Q E s:=by
 obtain ⟨os,hos,hcs,hds⟩:=id hs
 have hTs:s.TypeIs (.ref sl) "slice":=⟨os,hos,hcs⟩
 unfold getItem
 try with_reducible refine wpAny_holding ?_
 first | refine wpAny_bind (wpAny_pure ?_) | skip
 refine wpAny_bind (wpAny_sequenceKey ht.typeIs (by decide) ?_)
 refine wpAny_bind (wpAny_callSpecial?_slot (name:=Str.ofString "__getitem__") ht.typeIs PyProof.Rows.slot_tuple_getitem
  (wpAny_call_entry PyProof.Rows.slot_tuple_getitem ht.typeIs entry_tuple_getitem ?_ (args_tuple_getitem _ _)))
 show wpAny _ _ (Builtin.Tuple.tupleItemsOf (.ref t) >>= _) _ _ s
 refine wpAny_bind (tupleItemsOf_ ht ?_)
 refine wpAny_bind (wpAny_typeOf hTs ?_)
 rw [if_pos (by decide)]
 refine wpAny_bind (zK hs pl pu ?_)
 have hyes:(((sIx items.size 0 lo:Nat):Int) == 0 && (1:Int) == 1 && (sIx items.size items.size hi - sIx items.size 0 lo) == items.size)=true:=by
  rw [hw.1,hw.2]
  simp
 show wpAny _ _ (if (((sIx items.size 0 lo:Nat):Int) == 0 && (1:Int) == 1 && (sIx items.size items.size hi - sIx items.size 0 lo) == items.size)=true then _ else _) _ _ s
 rw [if_pos hyes]
 refine wpAny_bind ?_
 unfold Builtin.Tuple.tupleIsExact
 first
  | refine wpAny_bind (wpAny_typeOf ht.typeIs (wpAny_pure ?_))
  | trace_state
 rw [if_pos (by decide)]
 refine wpAny_bind (wpAny_rule ?_)
 exact wpAny_pure ⟨_,rfl,wpAny_pure h⟩
end
end HT
namespace L2
open PySem PySem.Spec PyProof.Rows
def jgZ (K:W.Frag):V→Option Int→Option Int→Hp→VK→Prop:=fun x lo hi H Q=>∃ a xs,x=.ref a∧SqT K H a xs∧
 ((HT.sIx xs.length 0 lo=0∧HT.sIx xs.length xs.length hi=xs.length)→Q (.ref a) H)∧(¬ (HT.sIx xs.length 0 lo=0∧HT.sIx xs.length xs.length hi=xs.length)→∀ p,H p=none→Q (.ref p) (upd H p (.tup (qZ xs lo hi))))
theorem jey {X:Cx}:SlR X (jgZ X.K):=by
 intro pins s σ H x v vl vu lo hi sl Q I rx hs pl pu h
 obtain ⟨a,xs,rfl,hx,q1,q2⟩:=h
 by_cases hw:HT.sIx xs.length 0 lo=0∧HT.sIx xs.length xs.length hi=xs.length
 ·cases rx
  obtain ⟨its,r,ht,hz⟩:=I.tuple hx
  have hlen:its.toArray.size=xs.length:=by rw [List.size_toArray];exact r.length.symm
  refine ⟨"tuple",_,PyProof.Rows.slot_tuple_getitem.lookup,ht.typeIs,?_⟩
  exact HT.getItem_tuple_whole ht hs pl pu (by rw [hlen];exact hw) ⟨.ref a,H,I,rfl,q1 hw⟩
 ·exact zj pins s σ H (.ref a) v vl vu lo hi sl Q I rx hs pl pu ⟨a,xs,rfl,hx,hw,q2 hw⟩
open PySem PySem.Spec PyProof.Rows
theorem jbb {xs:List V} {lo hi:Option Int} (h:HT.sIx xs.length 0 lo=0∧HT.sIx xs.length xs.length hi=xs.length):qZ xs lo hi=xs:=by
 unfold qZ
 rw [h.1,h.2,List.drop_zero,Nat.sub_zero,List.take_length]
def jgY (K:W.Frag):V→Option Int→Option Int→Hp→VK→Prop:=fun x lo hi H Q=>∃ a xs,x=.ref a∧SqT K H a xs∧∀ p H',Same H H'→SqT K H' p (qZ xs lo hi)→Q (.ref p) H'
theorem jbw {X:Cx}:SlR X (jgY X.K):=by
 intro pins s σ H x v vl vu lo hi sl Q I rx hs pl pu h
 obtain ⟨a,xs,e,hx,q⟩:=h
 refine jey pins s σ H x v vl vu lo hi sl Q I rx hs pl pu ⟨a,xs,e,hx,fun hw=>q a H (Same.refl _) (by rw [jbb hw];exact hx),fun _ p hp=>q p _ (fun b u z=>by rw [jg (jl z hp)];exact z) (SqT.of ja)⟩
open PySem PySem.Spec PyProof.Rows
variable {X:Cx}
open PySem PySem.Spec PyProof.Rows
variable {X:Cx} {pos:Pos}
def jfu (i j l:Nat) (ta:TA):TS:=fun D σ H=>ta σ H fun vs H1=>∃ v w u,vs=[v,w,u]∧D.nx (((σ.set i (some v)).set j (some w)).set l (some u)) H1
theorem jeK {i j l:Nat} {x y z:Str} {a b c:Expr} {ta:TA} {px py pz pt:Pos} {kt k2 pt2} (hc:X.calm=true) (hN:X.N.Nodup) (hi:X.N[i]?=some x) (hj:X.N[j]?=some y) (hl:X.N[l]?=some z) (hij:i≠j) (hil:i≠l) (hjl:j≠l)
  (hx:Loc X.env.scope x) (hy:Loc X.env.scope y) (hz:Loc X.env.scope z) (ha:PA X [a,b,c] ta)
  (hw:swappedStores [.Tuple [.Name x px,.Name y py,.Name z pz] kt pt] (.Tuple [a,b,c] k2 pt2) X.env=pure (some [x,y,z]))
  (fx:X.fn x=true∨X.env.scope.names.lookup x=some .local) (fy:X.fn y=true∨X.env.scope.names.lookup y=some .local) (fz:X.fn z=true∨X.env.scope.names.lookup z=some .local)
  (hs:swapsWithSole [.Tuple [.Name x px,.Name y py,.Name z pz] kt pt] (.Tuple [a,b,c] k2 pt2) pos.line X.env=pure false:=by rfl) :
  PS X (.Assign [.Tuple [.Name x px,.Name y py,.Name z pz] kt pt] (.Tuple [a,b,c] k2 pt2) pos) (jfu i j l ta):=by
 intro pins s σ H D I h
 rw [exec_Assign_arm]
 refine wpAny_bind (wpAny_standAt ?_)
 rw [hs]
 refine wpAny_bind (wpAny_pure ?_)
 rw [if_neg (by decide)]
 refine wpAny_bind (Tuple_ (thn (ha _ pins s σ H _ I h) fun us s1 ⟨vs,H1,I1,r1,q1⟩=>?_))
 obtain ⟨v,w,u,e1,q1⟩:=q1
 subst e1
 obtain ⟨u1,u2,u3,rfl,rv,rw',ru⟩:∃ u1 u2 u3,us=[u1,u2,u3]∧RelV v u1∧RelV w u2∧RelV u u3:=by
  cases r1 with
  | cons p q=>
   cases q with
   | cons p' q'=>
    cases q' with
    | cons p2 q2=>
     cases q2
     exact ⟨_,_,_,rfl,p,p',p2⟩
 refine wpAny_newObj_type ?_ (by show 3≤sizeLine;decide)
 have I2:Inv X pins σ H1 { s1 with heap:=s1.heap.push { cls:=.type "tuple",data:=.seq [u1,u2,u3].toArray } }:=I1.kept (t':=s1.toks) fun b o e=>Heap.get?_push_of_some _ e
 rw [hw]
 refine wpAny_bind (wpAny_pure ?_)
 show wpAny (model X.prog X.w) X.A (do rule "assign.swapped-stores";let items ← unpackItems (.ref s1.heap.objs.size) 3 none;assignInOrder [fun v=>bindName X.env z v,fun v=>bindName X.env y v,fun v=>bindName X.env x v] items.reverse;pure Flow.next) _ _ _
 refine wpAny_bind (wpAny_rule (wpAny_bind (unpackItems_tuple (items:=#[u1,u2,u3]) (I.ok.hd hc) (IsTup.new s1.heap _) fun h' hx'=>?_)))
 have I3:=I2.kept (h':=h') (t':=s1.toks) fun b o e=>hx' b o (Nat.ne_of_lt (Heap.lt_size e)) e
 show wpAny _ _ (assignInOrder [fun v=>bindName X.env z v,fun v=>bindName X.env y v,fun v=>bindName X.env x v] [u3,u2,u1] >>= fun _=>pure Flow.next) _ _ _
 refine wpAny_bind (assignInOrder_cons (wpAny_bindName (ym I3 hN hl hz ru (fun s2 I4=>?_) fz)))
 refine assignInOrder_cons (wpAny_bindName (ym I4 hN hj hy rw' (fun s3 I5=>?_) fy))
 refine assignInOrder_cons (wpAny_bindName (ym I5 hN hi hx rv (fun s4 I6=>assignInOrder_nil (wpAny_pure ?_)) fx))
 have e:((σ.set l (some u)).set j (some w)).set i (some v)=((σ.set i (some v)).set j (some w)).set l (some u):=by
  rw [List.set_comm _ _ (Ne.symm hjl),List.set_comm _ _ (Ne.symm hil),List.set_comm _ _ (Ne.symm hij)]
 rw [e] at I6
 exact ⟨_,H1,I6,q1⟩
open PySem PySem.Spec PyProof.Rows
def ZD (kvs more:List (Key×V)):List (Key×V):=more.foldl (fun l q=>qE l q.1 q.2) kvs
theorem Kn (kvs:List (Key×V)) (k:Key) (v:V):(qE kvs k v).length≤kvs.length+1:=by
 unfold qE
 split
 ·rw [List.length_map];omega
 ·rw [List.length_append];simp
theorem ZC:∀ (more kvs:List (Key×V)),(ZD kvs more).length≤kvs.length+more.length
 | [],kvs=>Nat.le_refl _
 | q :: r,kvs=>by
  have h1:=ZC r (qE kvs q.1 q.2)
  have h2:=Kn kvs q.1 q.2
  unfold ZD at h1 ⊢
  rw [List.foldl_cons,List.length_cons]
  omega
theorem jdV:∀ {more:List (Key×V)} {ms:List (Key×Value)} {kvs:List (Key×V)} {vs:List (Key×Value)},KV more ms→KV kvs vs→KV (ZD kvs more) (merged vs ms)
 | [],[],kvs,vs,_,r=>r
 | q :: m,p :: t,kvs,vs,h,r=>by
  unfold KV at h
  cases h with
  | cons h1 h2=>
   unfold ZD merged
   rw [List.foldl_cons,List.foldl_cons]
   have e:KV (qE kvs q.1 q.2) (stored vs p.1 p.2):=by rw [← h1.1];exact r.put q.1 h1.2
   exact jdV (more:=m) (ms:=t) h2 e
theorem jcx {X:Cx}:MtR X "dict.update" (fun x xs H Q=>∃ (d o:Addr) (kvs more:List (Key×V)),x=.ref d∧xs=[.ref o]∧d≠o∧H d=some (.dK kvs)∧H o=some (.dK more)∧kvs.length+more.length≤1000∧Q .non (upd H d (.dK (ZD kvs more)))):=by
 intro pins s σ H x xs v us Q I rx rs h
 obtain ⟨d,o,kvs,more,rfl,rfl,hne,hd,ho,hz,q⟩:=h
 cases rx
 obtain ⟨u,rfl,ru⟩:=yk rs
 cases ru
 obtain ⟨z,hsd,vs,rel,dd⟩:=jbQ I.hok hd
 obtain ⟨z2,hso,ms,rel2,dd2⟩:=jbQ I.hok ho
 refine call_meetsIn PySem.F.slot_dict_update dd.typeIs PySem.F.entry_dict_update (PySem.F.args_dict_update_2 _ _) (meets_dict_update (kj X.prog X.w) d o hne hso) ⟨vs,ms,dd,dd2,by rw [← rel.length,← rel2.length];exact Nat.le_of_lt (jz hz),fun h' dd' _ hs=>?_⟩
 have he:∃ q,h'.get? d=some q:=let ⟨q,_,_,hq,_⟩:=dd';⟨q,hq⟩
 refine ⟨.non,_,J7 (t':=s.toks) I (by rw [hd];exact True.intro) hs he (Zo (kvs:=ZD kvs more) ?_ hsd (jdV rel2 rel) dd'),rfl,q⟩
 exact Nat.le_trans (ZC more kvs) (Nat.le_of_lt (jz hz))
theorem jeP {X:Cx} {K:W.Frag} {e:Expr} {f:Str} {pos:Pos} {ta:TE} (h:PE X e ta) (hb:attributeBase e f X.env (eval e X.env)=eval e X.env) (hK:X.K=K:=by rfl):PE X (.Attribute e f pos) (jev K ta f):=by subst hK;exact jdy h hb
open PySem PySem.Spec PyProof.Rows
structure QT (X:Cx) (e:Expr) (t:TT):Prop where
 h:PT X e t
structure QW (X:Cx) (e:Expr) (t:TT):Prop where
 h:PW X e t
structure QG (X:Cx) (e:Expr) (t:TG):Prop where
 h:PG X e t
structure QGs (X:Cx) (e:List Expr) (t:TGs):Prop where
 h:PGs X e t
structure QI (X:Cx) (tg e:Expr) (t:TI):Prop where
 h:PI X tg e t
structure QO (X:Cx) (e:Option Expr) (t:TO):Prop where
 h:PO X e t
structure QTs (X:Cx) (e:List Expr) (t:TT):Prop where
 h:PTs X e t
theorem QW.pt {X:Cx} {e:Expr} {t:TT} (h:QW X e t):QT X e t:=⟨h.h.pt⟩
theorem YR {X:Cx} {e:Expr} {t:TE} (h:QE X e t) (he:∀ whole,isTrue e X.env whole=(do let v ← whole;standAt e.pos;holding [v] (truthy v)):=by intro _;rfl):QT X e (tB t):=⟨jf4 h.h he⟩
theorem jbl {X:Cx} {pos:Pos} {o i:Expr} {to ti:TE} {t:jfr} (ho:QE X o to) (hi:QE X i ti) (hs:jgE X t)
  (ha:∀ v,assign (.Subscript o i pos) X.env v=(do
   let ov ← holding [v] (eval o X.env)
   let iv ← holding [v,ov] (eval i X.env)
   standAt pos
   holding [v,ov,iv] (setItem ov iv v)
   release [v,ov,iv] []):=by intro _;rfl):QG X (.Subscript o i pos) (jhj to ti t):=⟨Kq ho.h hi.h hs ha⟩
theorem zpv {X:Cx} (i:Nat) {x:Str} {pos:Pos} (h1:(Cx.N X)[i]?=some x:=by rfl) (h2:Vis (Env.scope (Cx.env X)) x:=by first | exact Or.inl rfl | exact Or.inr (Or.inl rfl) | exact Or.inr (Or.inr rfl)) (h3:(x == Str.ofString "__debug__")=false:=by decide) (h4:(x == Str.ofString "__classdict__")=false:=by decide):QE X (Expr.Name x pos) (jfS i):=
 ⟨@pv _ i _ _ h1 h2 h3 h4⟩
theorem jh {X:Cx} {i:Int} {j:Nat} {pos:Pos}:QE X (Expr.Constant (Const.int i) j pos) (tC (V.int i)):=
 ⟨@jm _ _ _ _⟩
theorem ke {X:Cx} {x:Str} {j:Nat} {pos:Pos}:QE X (Expr.Constant (Const.str x) j pos) (tC (V.str x)):=
 ⟨@kJ _ _ _ _⟩
theorem jfO {X:Cx} {b:Bool} {j:Nat} {pos:Pos}:QE X (Expr.Constant (Const.bool b) j pos) (tC (V.bl b)):=
 ⟨@jg7 _ _ _ _⟩
theorem kA {X:Cx} {j:Nat} {pos:Pos}:QE X (Expr.Constant Const.none j pos) (tC V.non):=
 ⟨@jdx _ _ _⟩
theorem jc2 {X:Cx} {x:Str} {v:V} {u:Value} {pos:Pos} (h1:Gl X x) (h2:Cx.mg X x=none) (h3:bootBuiltins x=some u) (h4:RelV v u) (h5:x≠Str.ofString "__name__":=by decide) (h6:(x == Str.ofString "__debug__")=false:=by decide):QE X (Expr.Name x pos) (tC v):=
 ⟨@jeT _ _ _ _ _ h1 h2 h3 h4 h5 h6⟩
theorem jG {X:Cx} {a b:Expr} {ta tb:TE} {pos:Pos} {op:Operator} {r:R2} (h1:OpR X (binaryOp op) r) (h2:QE X a ta) (h3:QE X b tb):QE X (Expr.BinOp a op b pos) (tOp r ta tb):=
 ⟨@jx _ _ _ _ _ _ _ _ h1 h2.h h3.h⟩
theorem jep {X:Cx} {a:Expr} {ta:TE} {pos:Pos} (h1:QE X a ta):QE X (Expr.UnaryOp UnaryOp.Not a pos) (jfv ta):=
 ⟨@jf9 _ _ _ _ h1.h⟩
theorem Kc {X:Cx} {a:Expr} {ta:TE} {pos:Pos} {op:UnaryOp} {r:V→Hp→VK→Prop} (h1:UnR X (unaryOp op) r) (h2:QE X a ta):QE X (Expr.UnaryOp op a pos) (tUn r ta):=
 ⟨@jg5 _ _ _ _ _ _ h1 h2.h⟩
theorem y6 {X:Cx} {a b:Expr} {ta tb:TE} {pos:Pos} {op:CmpOp} {r:R2} (h1:OpR X (compareOp op) r) (h2:QE X a ta) (h3:QE X b tb) (h4:behindInMarks op b=false):QE X (Expr.Compare a [op] [b] pos) (tOp r ta tb):=
 ⟨@J4 _ _ _ _ _ _ _ _ h1 h2.h h3.h h4⟩
theorem jeo {X:Cx} {a:Expr} {pos:Pos} {op:BoolOp} {t:TE} (h1:QE X a t):QE X (Expr.BoolOp op [a] pos) t:=
 ⟨@jf8 _ _ _ _ _ h1.h⟩
theorem jbm {X:Cx} {a b:Expr} {ta tb:TE} {pos:Pos} {jv:List Expr} (h1:QE X a ta) (h2:QE X (Expr.BoolOp BoolOp.And (b :: jv) pos) tb):QE X (Expr.BoolOp BoolOp.And (a :: b :: jv) pos) (jfA ta tb):=
 ⟨@jgb _ _ _ _ _ _ _ h1.h h2.h⟩
theorem qN {X:Cx} {e:Expr} {te:TE} {lo hi:Option Expr} {tl th:TO} {pos p2:Pos} {r:V→Option Int→Option Int→Hp→VK→Prop} (h1:SlR X r) (h2:QE X e te) (h3:QO X lo tl) (h4:QO X hi th):QE X (Expr.Subscript e (Expr.Slice lo hi none p2) pos) (tSl r te tl th):=
 ⟨@zS _ _ _ _ _ _ _ _ _ _ h1 h2.h h3.h h4.h⟩
theorem zI {X:Cx} {o i:Expr} {pos:Pos} {td ty:TE} (h1:Around.units (Cx.A X)+1 < cLine) (h2:QE X o td) (h3:QE X i ty) (h4:jgG i):QE X (Expr.Subscript o i pos) (jfz td ty):=
 ⟨@jeR _ _ _ _ _ _ h1 h2.h h3.h h4⟩
theorem jX {X:Cx} {a b:Expr} {ta tb:TE} {pos:Pos} {r:R2} (h1:IxR X r) (h2:QE X a ta) (h3:QE X b tb) (h4:jbZ b):QE X (Expr.Subscript a b pos) (tOp r ta tb):=
 ⟨@kF _ _ _ _ _ _ _ h1 h2.h h3.h h4⟩
theorem zB {X:Cx} {es:List Expr} {t:TA} {pos:Pos} (h1:QA X es t):QE X (Expr.List es pos) (jfU t):=
 ⟨@zr _ _ _ _ h1.h⟩
theorem kQ {X:Cx} {es:List Expr} {t:TA} {pos:Pos} {x1:Nat} (h1:QA X es t):QE X (Expr.Tuple es x1 pos) (jgN t):=
 ⟨@ku _ _ _ _ _ h1.h⟩
theorem Kf {X:Cx} {scope:Scope} {elt tg iter:Expr} {ifs:List Expr} {pos:Pos} {wi:TI} {g:TG} {tt:TT} {te:TE} (own:List Str) (fr:List Nat) (h1:Cx.calm X=true) (h2:CompOk X scope fr) (h3:QI (Cx.nox X) tg iter wi) (h4:∀ (s:PySem.Shared) (H:Hp) (ex:List PySem.Addr),QG (blk (Cx.nox X) scope own fr s H ex) tg g∧QTs (blk (Cx.nox X) scope own fr s H ex) ifs tt∧QE (blk (Cx.nox X) scope own fr s H ex) elt te) (h5:∀ (x:Value),foldedSetIterable iter (Cx.env X) x=pure x:=by intro _;rfl):QE (Cx.nox X) (Expr.ListComp elt [{ target:=tg,iter:=iter,ifs:=ifs,is_async:=0 }] scope pos) (Yi own fr wi g tt te):=
 ⟨@J3 _ _ _ _ _ _ _ _ _ _ _ own fr h1 h2 h3.h (fun s H ex=>⟨(h4 s H ex).1.h,(h4 s H ex).2.1.h,(h4 s H ex).2.2.h⟩) h5⟩
theorem Yg {X:Cx} {scope:Scope} {kx vx tg iter:Expr} {ifs:List Expr} {pos:Pos} {wi:TI} {g:TG} {tt:TT} {tk tv:TE} (own:List Str) (fr:List Nat) (h1:Cx.calm X=true) (h2:CompOk X scope fr) (h3:QI (Cx.nox X) tg iter wi) (h4:∀ (s:PySem.Shared) (H:Hp) (ex:List PySem.Addr),QG (blk (Cx.nox X) scope own fr s H ex) tg g∧QTs (blk (Cx.nox X) scope own fr s H ex) ifs tt∧QE (blk (Cx.nox X) scope own fr s H ex) kx tk∧QE (blk (Cx.nox X) scope own fr s H ex) vx tv) (h5:∀ (x:Value),foldedSetIterable iter (Cx.env X) x=pure x:=by intro _;rfl):QE (Cx.nox X) (Expr.DictComp kx vx [{ target:=tg,iter:=iter,ifs:=ifs,is_async:=0 }] scope pos) (jaD own fr wi g tt tk tv):=
 ⟨@jdz _ _ _ _ _ _ _ _ _ _ _ _ _ own fr h1 h2 h3.h (fun s H ex=>⟨(h4 s H ex).1.h,(h4 s H ex).2.1.h,(h4 s H ex).2.2.1.h,(h4 s H ex).2.2.2.h⟩) h5⟩
theorem jD {X:Cx} {e:Expr} {f:Str} {pos:Pos} {ta:TE} (h1:QE X e ta) (h2:attributeBase e f (Cx.env X) (eval e (Cx.env X))=eval e (Cx.env X)):QE X (Expr.Attribute e f pos) (jev (Cx.K X) ta f):=
 ⟨@jdy _ _ _ _ _ h1.h h2⟩
theorem jau {X:Cx} {k k':Nat} {x:Str} {C:Addr} {ps:List Str} {sp:Sp} {e:Expr} {es:List Expr} {t:TA} {p pos:Pos} (h1:MkFn (Cx.prog X) (Cx.w X) (Cx.K X) (Cx.mg X) (Cx.base X) k x C ps sp) (h2:Room k' (Cx.A X)) (h3:QA X (e :: es) t) (h4:k+1≤k':=by decide) (h5:Gl X x:=by rfl) (h6:(x == Str.ofString "__debug__")=false:=by decide) (h7:List.all (e :: es) qj=true:=by rfl):QE X (Expr.Call (Expr.Name x p) (e :: es) [] pos) (jdb C sp [] E0 t):=
 ⟨@jg6 _ _ _ _ _ _ _ _ _ _ _ _ h1 h2 h3.h h4 h5 h6 h7⟩
theorem jL {X:Cx} {k k':Nat} {x:Str} {ps:List Str} {sp:Sp} {e:Expr} {es:List Expr} {t:TA} {p pos:Pos} (h1:Fn (Cx.prog X) (Cx.w X) (Cx.K X) (Cx.mg X) (Cx.base X) k x ps sp) (h2:Room k' (Cx.A X)) (h3:QA X (e :: es) t) (h4:k≤k':=by decide) (h5:Gl X x:=by rfl) (h6:(x == Str.ofString "__debug__")=false:=by decide) (h7:List.all (e :: es) qj=true:=by rfl):QE X (Expr.Call (Expr.Name x p) (e :: es) [] pos) (jdc sp [] E0 t):=
 ⟨@kO _ _ _ _ _ _ _ _ _ _ _ h1 h2 h3.h h4 h5 h6 h7⟩
theorem yO {X:Cx} {x:Str} {p pos:Pos} {e:Expr} {es:List Expr} {t:TA} {id:String} {r:List V→Hp→VK→Prop} (h1:q5 X (Value.builtin id) r) (h2:Gl X x) (h3:Cx.mg X x=none) (h4:bootBuiltins x=some (Value.builtin id)) (h5:QA X (e :: es) t) (h6:List.all (e :: es) qj=true:=by rfl) (h7:x≠Str.ofString "__name__":=by decide) (h8:(x == Str.ofString "__debug__")=false:=by decide):QE X (Expr.Call (Expr.Name x p) (e :: es) [] pos) (tCB r t):=
 ⟨@Jh _ _ _ _ _ _ _ _ _ h1 h2 h3 h4 h5.h h6 h7 h8⟩
theorem yN {X:Cx} {x:Str} {p pos:Pos} {e:Expr} {es:List Expr} {t:TA} {T:String} {r:List V→Hp→VK→Prop} (h1:q5 X (Value.type T) r) (h2:Gl X x) (h3:Cx.mg X x=none) (h4:bootBuiltins x=some (Value.type T)) (h5:QA X (e :: es) t) (h6:List.all (e :: es) qj=true:=by rfl) (h7:x≠Str.ofString "__name__":=by decide) (h8:(x == Str.ofString "__debug__")=false:=by decide):QE X (Expr.Call (Expr.Name x p) (e :: es) [] pos) (tCB r t):=
 ⟨@Jg _ _ _ _ _ _ _ _ _ h1 h2 h3 h4 h5.h h6 h7 h8⟩
theorem jav {X:Cx} {o e:Expr} {es:List Expr} {to:TE} {t:TA} {name:Str} {apos cpos:Pos} {T id:String} {r:V→List V→Hp→VK→Prop} (h1:PlainAttrs T) (h2:Slot T name id) (h3:typeOf (Value.builtin id)=pure (Value.type "method_descriptor")) (h4:MtR X id r) (h5:QE X o to) (h6:QA X (e :: es) t) (h7:attributeBase o name (Cx.env X) (eval o (Cx.env X))=eval o (Cx.env X):=by rfl) (h8:(((List.all (backTo cpos (starEach (e :: es) (Cx.env X))) fun x=>!Prod.fst x) && List.all (backToKw cpos (keywordEach [] (Cx.env X))) fun x=>Option.isSome (Prod.fst x)) && decide ((List.length (e :: es)+List.length ([]:List PySem.Keyword)+if List.isEmpty ([]:List PySem.Keyword)=true then 0 else 1) < 30))=true:=by rfl) (h9:(Pos.endLine apos == Pos.line cpos)=true:=by rfl) (h10:starEach (e :: es) (Cx.env X)=(false,eval e (Cx.env X)) :: starEach es (Cx.env X):=by rfl) (h11:(List.any (backTo cpos (starEach es (Cx.env X))) fun x=>Prod.fst x)=false:=by rfl):QE X (Expr.Call (Expr.Attribute o name apos) (e :: es) [] cpos) (tBM (Cx.K X) T r to t):=
 ⟨@yK _ _ _ _ _ _ _ _ _ _ _ _ h1 h2 h3 h4 h5.h h6.h h7 h8 h9 h10 h11⟩
theorem jeq {X:Cx} {o:Expr} {to:TE} {name:Str} {apos cpos:Pos} {T id:String} {r:V→List V→Hp→VK→Prop} (h1:PlainAttrs T) (h2:Slot T name id) (h3:typeOf (Value.builtin id)=pure (Value.type "method_descriptor")) (h4:MtR X id r) (h5:QE X o to) (h6:attributeBase o name (Cx.env X) (eval o (Cx.env X))=eval o (Cx.env X):=by rfl) (h7:(Pos.endLine apos == Pos.line cpos)=true:=by rfl):QE X (Expr.Call (Expr.Attribute o name apos) [] [] cpos) (jgS (Cx.K X) T r to):=
 ⟨@jga _ _ _ _ _ _ _ _ _ h1 h2 h3 h4 h5.h h6 h7⟩
theorem Ke {X:Cx} {p pos p2 pos2:Pos} {e1 e2:Expr} {t:TA} (h1:Cx.calm X=true) (h2:Gl X (Str.ofString "dict")) (h3:Cx.mg X (Str.ofString "dict")=none) (h4:bootBuiltins (Str.ofString "dict")=some (Value.type "dict")) (h5:Gl X (Str.ofString "zip")) (h6:Cx.mg X (Str.ofString "zip")=none) (h7:bootBuiltins (Str.ofString "zip")=some (Value.type "zip")) (h8:QA X [e1,e2] t) (h9:qj e1=true:=by rfl) (h10:qj e2=true:=by rfl):QE X (Expr.Call (Expr.Name (Str.ofString "dict") p) [Expr.Call (Expr.Name (Str.ofString "zip") p2) [e1,e2] [] pos2] [] pos) (tDZ (Cx.K X) t):=
 ⟨@jeQ _ _ _ _ _ _ _ _ h1 h2 h3 h4 h5 h6 h7 h8.h h9 h10⟩
theorem jbk {X:Cx} {a:Expr} {pos:Pos} {tA:TT} (h1:QT X a tA):QT X (Expr.UnaryOp UnaryOp.Not a pos) (jgP tA):=
 ⟨@jf5 _ _ _ _ h1.h⟩
theorem jW {X:Cx} {a b:Expr} {ta tb:TE} {pos:Pos} {op:CmpOp} {r:R2} (h1:OpR X (compareOp op) r) (h2:QE X a ta) (h3:QE X b tb) (h4:behindInMarks op b=false):QT X (Expr.Compare a [op] [b] pos) (jfs (tOp r ta tb)):=
 ⟨@kB _ _ _ _ _ _ _ _ h1 h2.h h3.h h4⟩
theorem jbj {X:Cx} {a b:Expr} {pos:Pos} {tA tB':TT} {jv:List Expr} (h1:QT X a tA) (h2:QW X (Expr.BoolOp BoolOp.And (b :: jv) pos) tB'):QW X (Expr.BoolOp BoolOp.And (a :: b :: jv) pos) (jgT tA tB'):=
 ⟨@jf3 _ _ _ _ _ _ _ h1.h h2.h⟩
theorem Zy {X:Cx} {a:Expr} {pos:Pos} {tA:TT} (h1:QT X a tA):QW X (Expr.BoolOp BoolOp.And [a] pos) tA:=
 ⟨@jeI _ _ _ _ h1.h⟩
theorem zH {X:Cx}:QO X none jbp:=
 ⟨@yE _⟩
theorem qU {X:Cx} {e:Expr} {te:TE} (h1:QE X e te):QO X (some e) (jft te):=
 ⟨@yD _ _ _ h1.h⟩
theorem Ka {X:Cx} {tg a:Expr} {ta:TA} {p pos:Pos} (h1:Gl X (Str.ofString "range")) (h2:Cx.mg X (Str.ofString "range")=none) (h3:QA X [a] ta) (h4:starEach [a] (Cx.env X)=[(false,eval a (Cx.env X))]:=by rfl):QI X tg (Expr.Call (Expr.Name (Str.ofString "range") p) [a] [] pos) (jfH ta):=
 ⟨@ze _ _ _ _ _ _ h1 h2 h3.h h4⟩
theorem J9 {X:Cx} {tg a b:Expr} {ta:TA} {p pos:Pos} (h1:Gl X (Str.ofString "range")) (h2:Cx.mg X (Str.ofString "range")=none) (h3:QA X [a,b] ta) (h4:starEach [a,b] (Cx.env X)=[(false,eval a (Cx.env X)),(false,eval b (Cx.env X))]:=by rfl) (h5:starEach [b] (Cx.env X)=[(false,eval b (Cx.env X))]:=by rfl):QI X tg (Expr.Call (Expr.Name (Str.ofString "range") p) [a,b] [] pos) (jfG ta):=
 ⟨@jck _ _ _ _ _ _ _ h1 h2 h3.h h4 h5⟩
theorem Kb {X:Cx} {tg l:Expr} {tl:TE} (h1:QE X l tl):QI X tg l (jfI (Cx.K X) tl):=
 ⟨@J2 _ _ _ _ h1.h⟩
theorem y0 {X:Cx} {tg l:Expr} {tl:TE} (h1:QE X l tl):QI X tg l (jhh (Cx.K X) tl):=
 ⟨@Kp _ _ _ _ h1.h⟩
theorem jb2 {X:Cx} {elts:List Expr} {x1:Nat} {tp:Pos} {a:Expr} {ta:TA} {p pos:Pos} (h1:Gl X (Str.ofString "enumerate")) (h2:Cx.mg X (Str.ofString "enumerate")=none) (h3:QA X [a] ta) (h4:starEach [a] (Cx.env X)=[(false,eval a (Cx.env X))]:=by rfl):QI X (Expr.Tuple elts x1 tp) (Expr.Call (Expr.Name (Str.ofString "enumerate") p) [a] [] pos) (jdZ (Cx.K X) ta):=
 ⟨@ZT _ _ _ _ _ _ _ _ h1 h2 h3.h h4⟩
theorem jF {X:Cx} {pos:Pos} {i:Nat} {x:Str} {e:Expr} {te:TE} {pos':Pos} (h1:List.Nodup (Cx.N X)) (h2:(Cx.N X)[i]?=some x) (h3:L2.Loc (Env.scope (Cx.env X)) x) (h4:QE X e te) (h5:swapsWith e (some (Expr.Name x pos')) (Pos.line pos) (Cx.env X)=pure false:=by rfl) (h6:Cx.fn X x=true∨List.lookup x (Scope.names (Env.scope (Cx.env X)))=some NameKind.local:=by first | exact .inl rfl | exact .inr rfl | assumption):QS X (Stmt.Assign [Expr.Name x pos'] e pos) (jaE te (qg i)):=
 ⟨@jT _ _ _ _ _ _ _ h1 h2 h3 h4.h h5 h6⟩
theorem qT {X:Cx} {scope:Scope} {elt tg iter:Expr} {ifs:List Expr} {pos:Pos} {wi:TI} {g:TG} {tt:TT} {te:TE} {i:Nat} {y:Str} {py spos:Pos} (h1:List.Nodup (Cx.N X)) (h2:(Cx.N X)[i]?=some y) (h3:L2.Loc (Env.scope (Cx.env X)) y) (own:List Str) (fr:List Nat) (h4:Cx.calm X=true) (h5:CompOk X scope fr) (h6:QI (Cx.nox X) tg iter wi) (h7:∀ (s:PySem.Shared) (H:Hp) (ex:List PySem.Addr),QG (blk (Cx.nox X) scope own fr s H ex) tg g∧QTs (blk (Cx.nox X) scope own fr s H ex) ifs tt∧QE (blk (Cx.nox X) scope own fr s H ex) elt te) (h8:∀ (x:Value),foldedSetIterable iter (Cx.env X) x=pure x:=by intro _;rfl) (h9:swapsWith (Expr.ListComp elt [{ target:=tg,iter:=iter,ifs:=ifs,is_async:=0 }] scope pos) (some (Expr.Name y py)) (Pos.line spos) (Cx.env X)=pure true:=by rfl) (h10:Cx.fn X y=true∨List.lookup y (Scope.names (Env.scope (Cx.env X)))=some NameKind.local:=by first | exact .inl rfl | exact .inr rfl | assumption):QS (Cx.nox X) (Stmt.Assign [Expr.Name y py] (Expr.ListComp elt [{ target:=tg,iter:=iter,ifs:=ifs,is_async:=0 }] scope pos) spos) (jaE (Yi own fr wi g tt te) (qg i)):=
 ⟨@yR _ _ _ _ _ _ _ _ _ _ _ _ _ _ _ h1 h2 h3 own fr h4 h5 h6.h (fun s H ex=>⟨(h7 s H ex).1.h,(h7 s H ex).2.1.h,(h7 s H ex).2.2.h⟩) h8 h9 h10⟩
theorem yZ {X:Cx} {o i value:Expr} {pos pos':Pos} {td ty tv:TE} (h1:Around.units (Cx.A X)+1 < cLine) (h2:QE X o td) (h3:QE X i ty) (h4:QE X value tv) (h5:swapsWith value (some (Expr.Subscript o i pos')) (Pos.line pos) (Cx.env X)=pure false):QS X (Stmt.Assign [Expr.Subscript o i pos'] value pos) (jfC td ty tv):=
 ⟨@jeM _ _ _ _ _ _ _ _ _ h1 h2.h h3.h h4.h h5⟩
theorem kP {X:Cx} {o value:Expr} {f:Str} {pos pos':Pos} {ta tv:TE} (h1:QE X o ta) (h2:QE X value tv) (h3:swapsWith value (some (Expr.Attribute o f pos')) (Pos.line pos) (Cx.env X)=pure false):QS X (Stmt.Assign [Expr.Attribute o f pos'] value pos) (jgX (Cx.K X) ta tv f):=
 ⟨@jf6 _ _ _ _ _ _ _ _ h1.h h2.h h3⟩
theorem qF {X:Cx} {pos:Pos} {tg e:Expr} {te:TE} {g:TG} (h1:QE X e te) (h2:QG X tg g) (h3:swapsWithSole [tg] e (Pos.line pos) (Cx.env X)=pure false:=by rfl) (h4:swappedStores [tg] e (Cx.env X)=pure none:=by rfl) (h5:List.map (fun x=>Prod.snd x) (assignEach [tg] (Cx.env X))=[assign tg (Cx.env X)]:=by rfl):QS X (Stmt.Assign [tg] e pos) (jaE te g):=
 ⟨@zq _ _ _ _ _ _ h1.h h2.h h3 h4 h5⟩
theorem jN {X:Cx} {e:Expr} {te:TE} {pos:Pos} (h1:QE X e te):QS X (Stmt.Return (some e) pos) (jgO te):=
 ⟨@kh _ _ _ _ h1.h⟩
theorem kn {X:Cx} {t u:TS} {pos:Pos} {c:Expr} {a b:List Stmt} {tc:TT} (h1:QT X c tc) (h2:QSs X a t) (h3:QSs X b u):QS X (Stmt.If c a b pos) (jgQ tc t u):=
 ⟨@qX _ _ _ _ _ _ _ _ h1.h h2.h h3.h⟩
theorem YS {X:Cx} {tg iter:Expr} {body:List Stmt} {wi:TI} {g:TG} {tb:TS} {pos:Pos} (h1:PassesOwn (model (Cx.prog X) (Cx.w X)) (Cx.A X) (Cx.env X) (Cx.xe X)) (h2:Cx.calm X=true) (h3:QI X tg iter wi) (h4:QG X tg g) (h5:QSs X body tb) (h6:∀ (x:Value),foldedSetIterable iter (Cx.env X) x=pure x:=by intro _;rfl):QS X (Stmt.For tg iter body [] pos) (jgR wi g tb):=
 ⟨@zZ _ _ _ _ _ _ _ _ h1 h2 h3.h h4.h h5.h h6⟩
theorem yM {X:Cx} {o value:Expr} {f:Str} {pos tpos:Pos} {ta tv:TE} {op:Operator} {rd:V→V→Hp→VK→Prop} (h1:QE X o ta) (h2:QE X value tv) (h3:jgH X op rd):QS X (Stmt.AugAssign (Expr.Attribute o f tpos) op value pos) (jbx (Cx.K X) ta tv rd f):=
 ⟨@jcg _ _ _ _ _ _ _ _ _ _ h1.h h2.h h3⟩
theorem jb1 {X:Cx} {pos:Pos} {c:Expr} {body:List Stmt} {tc:TT} {tb:TS} (h1:PassesOwn (model (Cx.prog X) (Cx.w X)) (Cx.A X) (Cx.env X) (Cx.xe X)) (h2:QT X c tc) (h3:QSs X body tb):QS X (Stmt.While c body [] pos) (jaC tc tb):=
 ⟨@ZR _ _ _ _ _ _ h1 h2.h h3.h⟩
theorem yj {X:Cx} {e:Expr} {te:TE} {pos:Pos} (h1:QE X e te) (h2:swapsWith e none (Pos.line pos) (Cx.env X)=pure false:=by rfl):QS X (Stmt.Expr e pos) (jfy te):=
 ⟨@kS _ _ _ _ h1.h h2⟩
theorem jr {X:Cx} {pos:Pos} {i:Nat} {x:Str} (h1:List.Nodup (Cx.N X)) (h2:(Cx.N X)[i]?=some x) (h3:L2.Loc (Env.scope (Cx.env X)) x) (h4:Cx.fn X x=true∨List.lookup x (Scope.names (Env.scope (Cx.env X)))=some NameKind.local:=by first | exact .inl rfl | exact .inr rfl | assumption):QG X (Expr.Name x pos) (qg i):=
 ⟨@jO _ _ _ _ h1 h2 h3 h4⟩
theorem q8 {X:Cx} {pos:Pos} {es:List Expr} {k:Nat} {t:TGs} {n:Nat} (h1:Cx.calm X=true) (h2:QGs X es t) (h3:List.length (assignEach es (Cx.env X))=n:=by rfl) (h4:List.findIdx? (fun x=>Prod.fst x) (assignEach es (Cx.env X))=none:=by rfl):QG X (Expr.Tuple es k pos) (jgv (Cx.K X) n t):=
 ⟨@qS _ _ _ _ _ _ h1 h2.h h3 h4⟩
theorem jen {X:Cx} {pos:Pos} {es:List Expr} {k:Nat} {t:TGs} {n:Nat} (h1:Cx.calm X=true) (h2:QGs X es t) (h3:List.length (assignEach es (Cx.env X))=n:=by rfl) (h4:List.findIdx? (fun x=>Prod.fst x) (assignEach es (Cx.env X))=none:=by rfl):QG X (Expr.Tuple es k pos) (jhl (Cx.K X) n t):=
 ⟨@jf7 _ _ _ _ _ _ h1 h2.h h3 h4⟩
theorem qv {X:Cx}:QGs X [] jhk:=
 ⟨@qo _⟩
theorem jw {X:Cx} {e:Expr} {es:List Expr} {t:TG} {u:TGs} (h1:QG X e t) (h2:QGs X es u) (h3:List.map (fun x=>Prod.snd x) (assignEach (e :: es) (Cx.env X))=assign e (Cx.env X) :: List.map (fun x=>Prod.snd x) (assignEach es (Cx.env X)):=by rfl):QGs X (e :: es) (jfK t u):=
 ⟨@jR _ _ _ _ _ h1.h h2.h h3⟩
theorem jZ {X:Cx}:QSs X [] jfw:=
 ⟨@qf _⟩
theorem ju {X:Cx} {st:Stmt} {t:TS} (h1:QS X st t):QSs X [st] t:=
 ⟨@jB _ _ _ h1.h⟩
theorem jc {X:Cx} {st:Stmt} {jv:List Stmt} {t u:TS} (h1:QS X st t) (h2:QSs X jv u):QSs X (st :: jv) (jfT t u):=
 ⟨@jn _ _ _ _ _ h1.h h2.h⟩
theorem qu {X:Cx}:QTs X [] yl:=
 ⟨@yC _⟩
theorem jk {X:Cx}:QA X [] jet:=
 ⟨@jp _⟩
theorem jd {X:Cx} {e:Expr} {es:List Expr} {te:TE} {t:TA} (h1:QE X e te) (h2:QA X es t) (h3:qj e=true:=by rfl):QA X (e :: es) (jbq te t):=
 ⟨@jt _ _ _ _ _ h1.h h2.h h3⟩
theorem Kd {X:Cx} {K:W.Frag} {e:Expr} {f:Str} {pos:Pos} {ta:TE} (h1:QE X e ta) (h2:attributeBase e f (Cx.env X) (eval e (Cx.env X))=eval e (Cx.env X)) (h3:Cx.K X=K:=by rfl):QE X (Expr.Attribute e f pos) (jev K ta f):=
 ⟨@jeP _ _ _ _ _ _ h1.h h2 h3⟩
theorem jc0 {X:Cx} {pos:Pos} {i j l:Nat} {x y z:Str} {a b c:Expr} {ta:TA} {px py pz pt:Pos} {kt k2:Nat} {pt2:Pos} (h1:Cx.calm X=true) (h2:List.Nodup (Cx.N X)) (h3:(Cx.N X)[i]?=some x) (h4:(Cx.N X)[j]?=some y) (h5:(Cx.N X)[l]?=some z) (h6:i≠j) (h7:i≠l) (h8:j≠l) (h9:L2.Loc (Env.scope (Cx.env X)) x) (h10:L2.Loc (Env.scope (Cx.env X)) y) (h11:L2.Loc (Env.scope (Cx.env X)) z) (h12:QA X [a,b,c] ta) (h13:swappedStores [Expr.Tuple [Expr.Name x px,Expr.Name y py,Expr.Name z pz] kt pt] (Expr.Tuple [a,b,c] k2 pt2) (Cx.env X)=pure (some [x,y,z])) (h14:Cx.fn X x=true∨List.lookup x (Scope.names (Env.scope (Cx.env X)))=some NameKind.local) (h15:Cx.fn X y=true∨List.lookup y (Scope.names (Env.scope (Cx.env X)))=some NameKind.local) (h16:Cx.fn X z=true∨List.lookup z (Scope.names (Env.scope (Cx.env X)))=some NameKind.local) (h17:swapsWithSole [Expr.Tuple [Expr.Name x px,Expr.Name y py,Expr.Name z pz] kt pt] (Expr.Tuple [a,b,c] k2 pt2) (Pos.line pos) (Cx.env X)=pure false:=by rfl):QS X (Stmt.Assign [Expr.Tuple [Expr.Name x px,Expr.Name y py,Expr.Name z pz] kt pt] (Expr.Tuple [a,b,c] k2 pt2) pos) (jfu i j l ta):=
 ⟨@jeK _ _ _ _ _ _ _ _ _ _ _ _ _ _ _ _ _ _ _ h1 h2 h3 h4 h5 h6 h7 h8 h9 h10 h11 h12.h h13 h14 h15 h16 h17⟩
theorem jc1 {X:Cx} {x:Str} {v:V} {u:Value} {pos:Pos} (h1:Gl X x) (h2:Cx.mg X x=some u) (h3:RelV v u) (h4:(x == Str.ofString "__debug__")=false:=by decide):QE X (Expr.Name x pos) (tC v):=
 ⟨@jby _ _ _ _ _ h1 h2 h3 h4⟩
theorem J8 {X:Cx} {st:Stmt} {t:TS} (h:QS X st t):QS X st (jfx t):=⟨jeL h.h⟩
theorem Fun.okZ {P:Program} {w:World} {K:W.Frag} {mg:Str→Option Value} {base:Heap} {x qual:Str} {st:Stmt} {f:Addr} {fd:FuncData} {N ps:List Str} {k:Nat} {sp:Sp} (F:Fun K x qual st f fd) (S:FnScope N ps (jf st)) (len:∀ vs H Q E,sp vs H Q E→vs.length=ps.length)
  (hbody:∀ (cdv:Value) (A:Around) (outer:List Env) (s:Shared) (H:Hp) (vs:List V) (Q:VK) (E:XK),Room k (A.deeper (envOfC qual (jf st) s.heap.objs.size f cdv))→sp vs H Q E→
   ∃ t,QSs (jba CX0 P w K mg base N qual (jf st) f cdv A outer s H E).nox (jC st) t∧t { nx:=fun _ H'=>Q .non H',rt:=Q } (Jc N vs) H):FnOk P w K mg base CX0 (k+1) f fd ps sp:=
 F.ok S len fun cdv A outer s H vs Q E hr h=>let ⟨t,a,b⟩:=hbody cdv A outer s H vs Q E hr h;⟨t,a.h,b⟩
theorem zY {X:Cx} {e:Expr} {t:TE} (h:QE X e t):PD X e (rE t):=jg8 h.h
theorem zpd {X:Cx} {e:Expr} {R:RD} (h:PD X e R):QE X e (tHD R):=⟨h.h⟩
end L2
namespace Tim
open PySem PyProof.Rows
section
variable {prog:Program} {w:World} {A:Around} {E:Value→Shared→Prop} {s:Shared} {κ:KeyKind}
def kq (κ:KeyKind) (p:Keyed):κ.α:=(κ.keyOf p.1).getD κ.dflt
def K3 (κ:KeyKind) (p:Keyed):Prop:=∃ a,κ.keyOf p.1=some a
end
open PySem PyProof.Rows
abbrev SL (κ:KeyKind) (l:List Keyed):Prop:=l.Pairwise fun p q=>κ.kle (kq κ p) (kq κ q)
abbrev Le (κ:KeyKind) (p q:Keyed):Prop:=κ.kle (kq κ p) (kq κ q)
section
variable {κ:KeyKind} {A B L:List Keyed} {ia ib:Nat}
structure LoI (κ:KeyKind) (A B L:List Keyed) (ia ib:Nat):Prop where
 perm:L.Perm (A.take ia++B.take ib)
 srt:SL κ L
 ba:∀ x∈L,∀ y∈A.drop ia,Le κ x y
 bb:∀ x∈L,∀ y∈B.drop ib,Le κ x y
theorem LoI.swap (I:LoI κ A B L ia ib):LoI κ B A L ib ia:=⟨I.perm.trans List.perm_append_comm,I.srt,I.bb,I.ba⟩
def YQ (κ:KeyKind) (A B M:List Keyed):Prop:=M.Perm (A++B)∧SL κ M
theorem LoI.done (I:LoI κ A B L ia ib) (sa:SL κ A) (sb:SL κ B) (h:∀ x∈A.drop ia,∀ y∈B.drop ib,Le κ x y):YQ κ A B (L++A.drop ia++B.drop ib):=by
 refine ⟨?_,?_⟩
 ·have e1:=List.take_append_drop ia A
  have e2:=List.take_append_drop ib B
  have h1:(L++A.drop ia++B.drop ib).Perm ((A.take ia++B.take ib)++(A.drop ia++B.drop ib)):=by
   rw [List.append_assoc]
   exact I.perm.append_right _
  refine h1.trans ?_
  have h2:((A.take ia++B.take ib)++(A.drop ia++B.drop ib)).Perm ((A.take ia++A.drop ia)++(B.take ib++B.drop ib)):=by
   rw [List.append_assoc,List.append_assoc]
   refine List.Perm.append_left _ ?_
   rw [← List.append_assoc,← List.append_assoc]
   exact List.perm_append_comm.append_right _
  rw [e1,e2] at h2
  exact h2
 ·refine List.pairwise_append.mpr ⟨List.pairwise_append.mpr ⟨I.srt,sa.drop,I.ba⟩,sb.drop,fun x hx y hy=>?_⟩
  rcases List.mem_append.mp hx with hx | hx
  ·exact I.bb x hx y hy
  ·exact h x hx y hy
theorem LoI.last (I:LoI κ A B L ia ib) (sa:SL κ A) (sb:SL κ B) (h:∀ x∈B.drop ib,∀ y∈A.drop ia,Le κ x y):YQ κ A B (L++B.drop ib++A.drop ia):=by
 obtain ⟨h1,h2⟩:=I.swap.done sb sa h
 exact ⟨h1.trans List.perm_append_comm,h2⟩
end
theorem jag {a:Array Keyed} {i j:Nat}:(a.extract i j).toList=(a.toList.drop i).take (j - i):=by
 simp
theorem jbO {a:Array Keyed} {i:Nat}:(a.extract i a.size).toList=a.toList.drop i:=by
 rw [jag,List.take_of_length_le (by rw [List.length_drop];simp)]
abbrev ja8 (a b out:Array Keyed) (ia ib:Nat):Array Keyed:=out++a.extract ia a.size++b.extract ib b.size
section
variable {prog:Program} {w:World} {A:Around} {E:Value→Shared→Prop} {s:Shared} {κ:KeyKind} {a b:Array Keyed}
structure MC (κ:KeyKind) (a b:Array Keyed):Prop where
 ka:∀ i (h:i < a.size),K3 κ a[i]
 kb:∀ i (h:i < b.size),K3 κ b[i]
 sa:SL κ a.toList
 sb:SL κ b.toList
 last:∀ j (h:j < b.size) (h':a.size - 1 < a.size),Le κ b[j] a[a.size - 1]
structure Alive (κ:KeyKind) (a b:Array Keyed) (N:Nat) (out:Array Keyed) (ia ib:Nat):Prop where
 inv:LoI κ a.toList b.toList out.toList ia ib
 la:ia+1 < a.size
 lb:ib < b.size
 many:N≤ia+ib
theorem jcQ {out:Array Keyed} {ia ib:Nat}:(ja8 a b out ia ib).toList=out.toList++a.toList.drop ia++b.toList.drop ib:=by
 unfold ja8
 rw [Array.toList_append,Array.toList_append,jbO,jbO]
theorem MC.fin {out:Array Keyed} {ia ib:Nat} (C:MC κ a b) (I:LoI κ a.toList b.toList out.toList ia ib) (h:ia=a.size∨ib=b.size):YQ κ a.toList b.toList (ja8 a b out ia ib).toList:=by
 rw [jcQ]
 refine I.done C.sa C.sb fun x hx y hy=>?_
 rcases h with rfl | rfl
 ·rw [List.drop_eq_nil_of_le (by simp)] at hx;cases hx
 ·rw [List.drop_eq_nil_of_le (by simp)] at hy;cases hy
variable {st:SortSt} {N:Nat}
theorem Alive.le {M:Nat} {out:Array Keyed} {ia ib:Nat} (h:Alive κ a b N out ia ib) (hm:M≤N):Alive κ a b M out ia ib:=⟨h.inv,h.la,h.lb,Nat.le_trans hm h.many⟩
end
open PySem PyProof.Rows
section
variable {κ:KeyKind} {A B L:List Keyed} {na nb:Nat}
structure HiI (κ:KeyKind) (A B L:List Keyed) (na nb:Nat):Prop where
 perm:L.Perm (A.drop na++B.drop nb)
 srt:L.Pairwise fun p q=>Le κ q p
 ba:∀ x∈L,∀ y∈A.take na,Le κ y x
 bb:∀ x∈L,∀ y∈B.take nb,Le κ y x
theorem HiI.swap (I:HiI κ A B L na nb):HiI κ B A L nb na:=⟨I.perm.trans List.perm_append_comm,I.srt,I.bb,I.ba⟩
theorem HiI.done (I:HiI κ A B L na nb) (sa:SL κ A) (sb:SL κ B) (h:∀ x∈A.take na,∀ y∈B.take nb,Le κ x y):YQ κ A B (A.take na++B.take nb++L.reverse):=by
 refine ⟨?_,?_⟩
 ·have e1:=List.take_append_drop na A
  have e2:=List.take_append_drop nb B
  have h1:(A.take na++B.take nb++L.reverse).Perm ((A.take na++B.take nb)++(A.drop na++B.drop nb)):=((List.reverse_perm L).trans I.perm).append_left _
  refine h1.trans ?_
  have h2:((A.take na++B.take nb)++(A.drop na++B.drop nb)).Perm ((A.take na++A.drop na)++(B.take nb++B.drop nb)):=by
   rw [List.append_assoc,List.append_assoc]
   refine List.Perm.append_left _ ?_
   rw [← List.append_assoc,← List.append_assoc]
   exact List.perm_append_comm.append_right _
  rw [e1,e2] at h2
  exact h2
 ·refine List.pairwise_append.mpr ⟨List.pairwise_append.mpr ⟨sa.take,sb.take,h⟩,List.pairwise_reverse.mpr I.srt,fun x hx y hy=>?_⟩
  have hy':=List.mem_reverse.mp hy
  rcases List.mem_append.mp hx with hx | hx
  ·exact I.ba y hy' x hx
  ·exact I.bb y hy' x hx
theorem HiI.first (I:HiI κ A B L na nb) (sa:SL κ A) (sb:SL κ B) (h:∀ x∈B.take nb,∀ y∈A.take na,Le κ x y):YQ κ A B (B.take nb++A.take na++L.reverse):=by
 obtain ⟨h1,h2⟩:=I.swap.done sb sa h
 exact ⟨h1.trans List.perm_append_comm,h2⟩
end
abbrev ja9 (a b out:Array Keyed) (na nb:Nat):Array Keyed:=a.extract 0 na++b.extract 0 nb++out.reverse
section
variable {prog:Program} {w:World} {A:Around} {E:Value→Shared→Prop} {s:Shared} {κ:KeyKind} {a b:Array Keyed}
theorem jae {l:Array Keyed} {n:Nat}:(l.extract 0 n).toList=l.toList.take n:=by
 rw [jag,List.drop_zero,Nat.sub_zero]
theorem jaj {out:Array Keyed} {na nb:Nat}:(ja9 a b out na nb).toList=a.toList.take na++b.toList.take nb++out.toList.reverse:=by
 unfold ja9
 rw [Array.toList_append,Array.toList_append,jae,jae,Array.toList_reverse]
structure MD (κ:KeyKind) (a b:Array Keyed):Prop where
 ka:∀ i (h:i < a.size),K3 κ a[i]
 kb:∀ i (h:i < b.size),K3 κ b[i]
 sa:SL κ a.toList
 sb:SL κ b.toList
 first:∀ i (h:i < a.size) (h':0 < b.size),Le κ b[0] a[i]
structure AliveH (κ:KeyKind) (a b:Array Keyed) (N:Nat) (out:Array Keyed) (na nb:Nat):Prop where
 inv:HiI κ a.toList b.toList out.toList na nb
 la:0 < na
 la2:na≤a.size
 lb:1 < nb
 lb2:nb≤b.size
 many:N+na+nb≤a.size+b.size
theorem MD.fin {out:Array Keyed} {na nb:Nat} (C:MD κ a b) (I:HiI κ a.toList b.toList out.toList na nb) (h:na=0∨nb=0):YQ κ a.toList b.toList (ja9 a b out na nb).toList:=by
 rw [jaj]
 refine I.done C.sa C.sb fun x hx y hy=>?_
 rcases h with rfl | rfl
 ·cases hx
 ·cases hy
variable {st:SortSt} {N:Nat}
theorem AliveH.le {M:Nat} {out:Array Keyed} {na nb:Nat} (h:AliveH κ a b N out na nb) (hm:M≤N):AliveH κ a b M out na nb:=⟨h.inv,h.la,h.la2,h.lb,h.lb2,by have:=h.many;omega⟩
end
open PySem PyProof.Rows
open PySem PyProof.Rows
def jgD (lo a nrem:Nat):StateT SortSt Sem AscSt:=
 forIn [a:nrem] ((none,a):AscSt) fun _ c=>do
  let x ← ltAt' (lo+c.snd) (lo+c.snd - 1)
  match x with
  | some smaller=>if smaller=true then pure (ForInStep.done (none,c.snd)) else pure (ForInStep.yield (none,c.snd+1))
  | _=>pure (ForInStep.done (some none,c.snd))
def jda (lo n nrem:Nat):StateT SortSt Sem (Option Nat):=do
 reverseSlice' lo (lo+n)
 let c ← jgD lo n nrem
 match c.fst with
 | some r=>pure r
 | none=>pure (some c.snd)
def jfM (lo n nrem:Nat):StateT SortSt Sem DescSt:=
 forIn [n:nrem] ((none,n,0):DescSt) fun _ c=>do
  let x ← ltAt' (lo+c.snd.fst) (lo+c.snd.fst - 1)
  match x with
  | some smaller=>
   if smaller=true then
    if c.snd.snd > 0 then do
     reverseSlice' (lo+c.snd.fst - (c.snd.snd+1)) (lo+c.snd.fst)
     pure (ForInStep.yield (none,c.snd.fst+1,0))
    else pure (ForInStep.yield (none,c.snd.fst+1,0))
   else do
    let x ← ltAt' (lo+c.snd.fst - 1) (lo+c.snd.fst)
    match x with
    | some larger=>
     if larger=true then pure (ForInStep.done (none,c.snd.fst,c.snd.snd))
     else pure (ForInStep.yield (none,c.snd.fst+1,c.snd.snd+1))
    | _=>pure (ForInStep.done (some none,c.snd.fst,c.snd.snd))
  | _=>pure (ForInStep.done (some none,c.snd.fst,c.snd.snd))
def jdB (lo n nrem:Nat):StateT SortSt Sem (Option Nat):=do
 liftM (rule "list.sort.descending-run")
 let c ← jfM lo (n+1) nrem
 match c.fst with
 | some r=>pure r
 | none=>
  if c.snd.snd > 0 then do
   reverseSlice' (lo+c.snd.fst - (c.snd.snd+1)) (lo+c.snd.fst)
   jda lo c.snd.fst nrem
  else jda lo c.snd.fst nrem
theorem Zp (lo nrem:Nat):countRun' lo nrem=(do
  let c ← jgD lo 1 nrem
  match c.fst with
  | some r=>pure r
  | none=>
   if (c.snd == nrem)=true then pure (some c.snd)
   else if c.snd > 1 then do
    let x ← ltAt' lo (lo+c.snd - 1)
    match x with
    | some rose=>if rose=true then pure (some c.snd) else do
      reverseSlice' lo (lo+c.snd)
      jdB lo c.snd nrem
    | _=>pure none
   else jdB lo c.snd nrem):=by
 rw [countRun'_eq]
 dsimp only
 unfold jdB jda jfM jgD
 congr 1
 funext c
 obtain ⟨r,n⟩:=c
 cases r with
 | some r=>rfl
 | none=>
  dsimp only
  split
  ·rfl
  ·split
   ·congr 1
    funext x
    cases x with
    | none=>rfl
    | some rose=>
     dsimp only
     split
     ·rfl
     ·congr 1
      funext _r
      congr 1
      funext u1
      congr 1
      congr 1
      funext d
      obtain ⟨d1,d2,d3⟩:=d
      cases d1 with
      | some _=>rfl
      | none=>
       dsimp only
       split
       ·congr 1
        funext u2
        congr 1
        funext u3
        congr 1
        funext e
        obtain ⟨e1,e2⟩:=e
        cases e1 <;> rfl
       ·congr 1
        funext u3
        congr 1
        funext e
        obtain ⟨e1,e2⟩:=e
        cases e1 <;> rfl
   ·congr 1
    funext u1
    congr 1
    congr 1
    funext d
    obtain ⟨d1,d2,d3⟩:=d
    cases d1 with
    | some _=>rfl
    | none=>
     dsimp only
     split
     ·congr 1
      funext u2
      congr 1
      funext u3
      congr 1
      funext e
      obtain ⟨e1,e2⟩:=e
      cases e1 <;> rfl
     ·congr 1
      funext u3
      congr 1
      funext e
      obtain ⟨e1,e2⟩:=e
      cases e1 <;> rfl
section
variable {prog:Program} {w:World} {A:Around} {E:Value→Shared→Prop} {s:Shared} {a₀ ar0:Array Keyed} {κ:KeyKind} {P:Array (Nat×Nat×Nat)} {lo:Nat}
structure TB (a₀:Array Keyed) (P:Array (Nat×Nat×Nat)) (lo:Nat) (ar0:Array Keyed) (st:SortSt):Prop where
 perm:(arrOf st).Perm a₀
 kind:kindOf st=oneType'
 failed:failedOf st=none
 pend:pendingOf st=P
 low:∀ k,k < lo→(arrOf st)[k]?=ar0[k]?
theorem TB.size {st:SortSt} (h:TB a₀ P lo ar0 st):(arrOf st).size=a₀.size:=h.perm.size_eq
theorem TB.key {st:SortSt} (T:TB a₀ P lo ar0 st) (keys:KeysOf κ a₀) {i:Nat} (below:i < a₀.size):∃ li:i < (arrOf st).size,K3 κ ((arrOf st)[i]):=
 ⟨by rw [T.size];exact below,keys _ ((Array.perm_iff_toList_perm.mp T.perm).mem_iff.mp (Array.getElem_mem_toList _))⟩
theorem grown {R:Nat→Nat→Prop} (refl:∀ i,R i i) (trans:∀ i j k,R i j→R j k→R i k) {lo top:Nat} (low:lo < top) (old:∀ i j,lo≤i→i≤j→j < top→R i j) (new:R (top - 1) top):∀ i j,lo≤i→i≤j→j < top+1→R i j:=fun i j a b c=>by
 rcases Nat.lt_or_ge j top with d | d
 ·exact old i j a b d
 have ej:j=top:=by omega
 rcases Nat.lt_or_ge i j with f | f
 ·rw [ej];exact trans _ _ _ (old i (top - 1) a (by omega) (by omega)) new
 ·rw [show i=j by omega];exact refl j
end
open PySem PyProof.Rows
open PySem PyProof.Rows
section
variable {prog:Program} {w:World} {A:Around} {E:Value→Shared→Prop} {s:Shared}
theorem wpS_ltP {st:SortSt} {i j:Nat} {x y:Keyed} {v:Bool} {Q:Option Bool→SortSt→Prop} (hi:(arrOf st)[i]?=some x) (hj:(arrOf st)[j]?=some y)
  (ask:wpAny (model prog w) A (keyLt' (kindOf st) x.1 y.1) (fun b s'=>s'=s∧b=v) (fun _ _=>False) s) (q:Q (some v) st):wpS (model prog w) A E s (ltAt' i j) Q st:=by
 rw [ltAt'_eq]
 refine wpS_bind (wpS_get ?_)
 dsimp only
 rw [elem'_eq,hi]
 refine wpS_bind (wpS_pure ?_)
 rw [elem'_eq,hj]
 refine wpS_bind (wpS_pure ?_)
 rw [lt'_eq]
 refine wpS_bind (wpS_get ?_)
 refine wpS_bind (wpS_lift (wpAny_attempt (wpAny_mono ask (fun b s' h=>?_) (fun _ _ h=>h.elim))))
 obtain ⟨h1,h2⟩:=h
 subst h2
 exact ⟨h1,wpS_pure q⟩
theorem YT {st:SortSt} {N:Nat} {Q:Option Nat→SortSt→Prop} (h1:1≤N)
  (asks:∀ i,1≤i→i < N→∀ Q':Option Bool→SortSt→Prop,Q' (some false) st→wpS (model prog w) A E s (ltAt' i (i - 1)) Q' st) (q:Q (some N) st):wpS (model prog w) A E s (countRun' 0 N) Q st:=by
 rw [Zp]
 refine wpS_bind (wpS_forRange (I:=fun n c sn=>sn=st∧c=(none,n)) (fun n c sn an bn J=>?_) (fun c sn J=>?_) ⟨rfl,rfl⟩)
 ·obtain ⟨rfl,rfl⟩:=J
  dsimp only
  rw [Nat.zero_add]
  refine wpS_bind (asks n an bn _ ?_)
  exact wpS_pure ⟨rfl,rfl⟩
 ·obtain ⟨rfl,rfl⟩:=J
  have e:max 1 N=N:=by omega
  rw [e]
  dsimp only
  rw [if_pos (by simp)]
  exact wpS_pure q
theorem Zz {st:SortSt} {n:Nat} {Q:Bool→SortSt→Prop} (h1:1≤n) (q:Q true st):wpS (model prog w) A E s (binarySort' 0 n n) Q st:=by
 rw [binarySort'_eq]
 refine wpS_bind (wpS_forRange (I:=fun _ c sn=>sn=st∧c=(none,())) (fun k c sn ak bk J=>?_) (fun c sn J=>?_) ⟨rfl,rfl⟩)
 ·omega
 ·obtain ⟨rfl,rfl⟩:=J
  exact wpS_pure q
theorem wpS_sortAsc {st:SortSt} {N:Nat} {Q:Unit→SortSt→Prop} (hN:(arrOf st).size=N) (h1:1≤N) (hp:pendingOf st=#[])
  (asks:∀ i,1≤i→i < N→∀ Q':Option Bool→SortSt→Prop,Q' (some false) st→wpS (model prog w) A E s (ltAt' i (i - 1)) Q' st)
  (q:∀ sn,arrOf sn=arrOf st→failedOf sn=failedOf st→Q () sn):wpS (model prog w) A E s sortRuns' Q st:=by
 rw [sortRuns'_eq]
 refine wpS_bind (wpS_get ?_)
 dsimp only
 rw [hN]
 generalize minRun' N N 0=mr
 refine wpS_bind (wpS_mono (wpS_forRange (I:=fun (x:Nat) (c:Option Unit×Nat) (st':SortSt)=>(x=0∧c=(none,0)∧st'=st)∨(1≤x∧c=(none,N)∧arrOf st'=arrOf st∧failedOf st'=failedOf st∧(pendingOf st').size=1))
  (Q:=fun (c:Option Unit×Nat) (st':SortSt)=>c=(none,N)∧arrOf st'=arrOf st∧failedOf st'=failedOf st∧(pendingOf st').size=1) ?step ?fin (.inl ⟨rfl,rfl,rfl⟩)) ?post)
 case fin=>
  rintro c st' (⟨h,_⟩ | ⟨_,h2,h3,h4,h5⟩)
  ·omega
  ·exact ⟨h2,h3,h4,h5⟩
 case step=>
  rintro x c st' _ hx (⟨rfl,rfl,rfl⟩ | ⟨_,rfl,h3,h4,h5⟩)
  ·dsimp only
   rw [if_neg (by omega)]
   refine wpS_bind ?_
   rw [Nat.sub_zero]
   refine YT h1 asks ?_
   dsimp only
   split
   ·rename_i hm
    refine wpS_bind (wpS_lift (wpAny_rule ⟨rfl,?_⟩))
    have e:min N mr=N:=by omega
    rw [e]
    refine wpS_bind (Zz h1 ?_)
    simp only [Bool.not_true,Bool.false_eq_true,if_false]
    refine wpS_bind (wpS_get ?_)
    rw [hp]
    refine wpS_bind (wpS_modify (wpS_pure (.inr ⟨by omega,?_,rfl,rfl,?_⟩)))
    ·rw [Nat.zero_add]
    ·show ((pendingOf st').push _).size=1
     rw [hp]
     rfl
   ·refine wpS_bind (wpS_get ?_)
    rw [hp]
    refine wpS_bind (wpS_modify (wpS_pure (.inr ⟨by omega,?_,rfl,rfl,?_⟩)))
    ·rw [Nat.zero_add]
    ·show ((pendingOf st').push _).size=1
     rw [hp]
     rfl
  ·dsimp only
   rw [if_pos (Nat.le_refl _)]
   exact wpS_pure ⟨rfl,h3,h4,h5⟩
 case post=>
  rintro c st' ⟨rfl,h3,h4,h5⟩
  dsimp only
  refine wpS_bind (wpS_mono (wpS_forRange (I:=fun (x:Nat) (c:Option Unit×Unit) (st4:SortSt)=>c=(none,())∧st4=st')
   (Q:=fun (c:Option Unit×Unit) (st4:SortSt)=>c=(none,())∧st4=st') ?step4 (fun _ _ h=>h) ⟨rfl,rfl⟩) ?post4)
  case step4=>
   rintro x c st4 _ hx ⟨rfl,rfl⟩
   refine wpS_bind (wpS_get ?_)
   rw [if_pos (by omega)]
   exact wpS_pure ⟨rfl,rfl⟩
  case post4=>
   rintro c st4 ⟨rfl,rfl⟩
   exact wpS_pure (q _ h3 h4)
end
end Tim
namespace L2
open PySem PySem.Spec PyProof.Rows PySem.W
theorem JC:1000≤(sizeLine:Nat):=by rw [sizeLine_eq];decide
section
variable {prog:Program} {w:World} {A:Around} {E:Value→Shared→Prop} {s:Shared}
theorem Y8 {ps:List (Int×Int)} (h:ps.Pairwise fun x y=>x.1 < y.1):(ps.map (·.1)).Nodup:=by
 unfold List.Nodup
 rw [List.pairwise_map]
 exact h.imp fun z=>Int.ne_of_lt z
theorem ZM {a:Addr} {vs:List Value} {ps:List (Int×Int)} {n:Nat} {P:Fin→Shared→Prop} (ho:s.heap.get? a=some (seqObj "list" vs.toArray n)) (hl:vs.length=ps.length)
  (hv:∀ i (h:i < ps.length),PairAt s.heap (vs.getD i Value.none) ps[i]) (asc:ps.Pairwise fun x y=>x.1 < y.1) (most:ps.length≤1000)
  (h:P (.done (.ret .none)) { s with heap:=sortedHeap s.heap a vs vs.toArray }) :
  wpAny (model prog w) A (Builtin.«list.sort» ⟨[.ref a],[]⟩) P E s:=by
 have ha:a < s.heap.objs.size:=Heap.lt_size ho
 have nd:=Y8 asc
 have hsz:vs.toArray.size=vs.length:=by simp
 have line:vs.length≤sizeLine:=by
  have:=JC
  omega
 obtain ⟨e1,ho1⟩:∃ e1,(s.heap.update a (Obj.mapSeq fun _=>#[])).get? a=some (seqObj "list" #[] e1):=⟨_,get?_update_seq ho (fun _=>#[])⟩
 have ho2:(((s.heap.update a (Obj.mapSeq fun _=>#[])).push (seqObj "tuple" vs.toArray 0)).push (seqObj "list" #[] 0)).get? a=some (seqObj "list" #[] e1):=Heap.get?_push_of_some _ (Heap.get?_push_of_some _ ho1)
 have hv2:∀ i (h:i < ps.length),PairAt (((s.heap.update a (Obj.mapSeq fun _=>#[])).push (seqObj "tuple" vs.toArray 0)).push (seqObj "list" #[] 0)) (vs.getD i Value.none) ps[i]:=fun i hi=>(hv i hi).kept fun b o e c=>by
  have hb:b≠a:=fun z=>by
   rw [z,ho] at e
   cases e
   exact absurd c (by simp)
  exact Heap.get?_push_of_some _ (Heap.get?_push_of_some _ ((Heap.get?_update_ne _ _ _ _ hb).trans e))
 rw [list_sort_plain]
 refine wpAny_bind (listItems_at ho rfl (wpAny_bind (listUpdate_at ho rfl ?_ (by rw [hsz];omega) (Nat.zero_le _))))
 refine wpAny_bind (seqEpoch_at ho1 rfl (wpAny_bind (wpAny_newTuple ?_ line)))
 refine wpAny_bind (wpAny_newList (wpAny_holding ?_) (Nat.zero_le _))
 generalize hh:(((s.heap.update a (Obj.mapSeq fun _=>#[])).push (seqObj "tuple" vs.toArray 0)).push (seqObj "list" #[] 0))=h2 at *
 show wpAny (model prog w) A _ P E { s with heap:=h2 }
 dsimp only
 have hout:((vs.toArray.zip vs.toArray).map (·.2))=vs.toArray:=by
  apply Array.ext
  ·simp
  ·intro i h1 h2
   simp
 by_cases h2':vs.toArray.size < 2
 ·rw [if_pos h2',if_pos h2']
  refine wpAny_bind (wpAny_pure ?_)
  rw [StateT.run_pure]
  refine wpAny_bind (wpAny_pure ?_)
  dsimp only
  refine wpAny_bind (seqEpoch_at ho2 rfl (wpAny_bind (listUpdate_at ho2 rfl ?_ (Nat.zero_le _) ?_)))
  ·simp only [bne_self_eq_false,Bool.false_eq_true,if_false]
   refine wpAny_pure ?_
   have g:=h
   unfold sortedHeap at g
   rw [hh] at g
   rw [← hout] at g
   exact g
  ·show ((vs.toArray.zip vs.toArray).map (·.2)).size≤_
   rw [hout,hsz]
   omega
 ·rw [if_neg h2',if_neg h2']
  obtain ⟨fs,t1,t2,t3⟩:=Kr (h:=h2) hl hv2
  refine wpAny_bind (kat_kind (s:={ s with heap:=h2 }) (T:=.type "int") t1 (by omega) (fun v hv=>?_) (by decide) ?_)
  ·obtain ⟨x,t,rfl⟩:=t3 v hv
   exact Looks.of_pure rfl
  have hk:(Value.type "int" != Value.type "tuple")=true:=by decide
  rw [hk]
  have zsz:(vs.toArray.zip vs.toArray).size=ps.length:=by simp [hl]
  have hat:∀ i,i < ps.length→(vs.toArray.zip vs.toArray)[i]?=some (vs.getD i Value.none,vs.getD i Value.none):=fun i hi=>by
   have hi':i < vs.length:=by omega
   rw [Array.getElem?_eq_getElem (by rw [zsz];exact hi)]
   simp [hi']
  refine wpAny_bind (wpAny_mono (Tim.wpS_sortAsc (prog:=prog) (w:=w) (A:=A) (E:=E) (s:={ s with heap:=h2 }) (st:=SortSt.mk' (tuples' true) (vs.toArray.zip vs.toArray) #[] 7 none) (N:=ps.length) (Q:=fun _ sn=>arrOf sn=vs.toArray.zip vs.toArray∧failedOf sn=none) zsz (by omega) rfl (fun i a1 a2 Q' q'=>?_) (fun sn b1 b2=>⟨b1,b2⟩)) (fun o sh J=>?_) fun _ _ e=>e)
  ·refine Tim.wpS_ltP (hat i a2) (hat (i - 1) (by omega)) (v:=false) ?_ q'
   have g:=jcZ (prog:=prog) (w:=w) (A:=A) (s:={ s with heap:=h2 }) (C:=fun b s'=>s'={ s with heap:=h2 }∧b=false) hl hv2 nd a2 (show i - 1 < ps.length by omega) (by
    refine ⟨rfl,decide_eq_false ?_⟩
    have pw:=List.pairwise_iff_getElem.mp asc (i - 1) i (by omega) a2 (by omega)
    have gi:ps.getD i (0,0)=ps[i]:=by simp [a2]
    have gj:ps.getD (i - 1) (0,0)=ps[i - 1]:=by
     have:i - 1 < ps.length:=by omega
     simp [this]
    rw [gi,gj]
    omega)
   exact g
  obtain ⟨⟨⟩,st'⟩:=o
  obtain ⟨rfl,b1,b2⟩:=J
  dsimp only at b1 b2 ⊢
  rw [b1,hout]
  refine wpAny_bind (seqEpoch_at ho2 rfl (wpAny_bind (listUpdate_at ho2 rfl ?_ (Nat.zero_le _) ?_)))
  ·rw [b2]
   simp only [bne_self_eq_false,Bool.false_eq_true,if_false]
   refine wpAny_pure ?_
   have g:=h
   unfold sortedHeap at g
   rw [hh] at g
   exact g
  ·rw [hsz]
   omega
end
theorem yY {X:Cx}:q5 X (.builtin "sorted") (fun xs H Q=>∃ (p:Addr) (qs:List V) (ps:List (Int×Int)),xs=[.ref p]∧SqL X.K H p qs∧PairsL X.K H qs ps∧(ps.Pairwise fun x y=>x.1 < y.1)∧ps.length≤1000∧
  ∀ (l:Addr),H l=none→Q (.ref l) (upd H l (.lst qs))):=by
 intro pins s σ H xs us Q I r h
 obtain ⟨b,qs,ps,rfl,hq,hp,asc,most,q⟩:=h
 obtain ⟨u,rfl,rx⟩:=yk r
 cases rx
 obtain ⟨its,rv,pl,hz⟩:=I.list hq
 have hl1:=rv.length
 have hl:its.length=ps.length:=by rw [← hl1,hp.1]
 have hv:∀ i (h:i < ps.length),PairAt s.heap (its.getD i Value.none) ps[i]:=fun i hi=>by
  obtain ⟨c,e1,e2⟩:=hp.2 i hi
  obtain ⟨v,e3,e4⟩:=rv.get e1
  cases e4
  obtain ⟨ic,rc,⟨o,k1,k2,n,k3⟩,_⟩:=I.tuple e2
  obtain ⟨u1,u2,rfl,⟨t,rfl⟩,⟨t',rfl⟩⟩:=jbn rc
  exact ⟨c,o,t,t',n,by rw [List.getD_eq_getElem?_getD,e3];rfl,k1,k2,k3⟩
 refine Calls.call_function_entry kind_sorted plain_sorted entry_sorted (args_sorted1 _) ?_
 unfold Builtin.«sorted»
 refine wpAny_bind (m:=checkCount "sorted" 1 1 _) (wpAny_pure (wpAny_bind (collect_list pl.isList (wpAny_bind (wpAny_newList ?_ ?_)) ?_)))
 ·have old:∀ b o,s.heap.get? b=some o→((s.heap.push (seqObj "list" #[] 0)).update s.heap.objs.size (Obj.mapSeq (·++its.toArray))).get? b=some o:=fun b o e=>by
   rw [Heap.get?_update_ne _ _ _ _ (Nat.ne_of_lt (Heap.lt_size e))]
   exact Heap.get?_push_of_some _ e
  generalize ((s.heap.push (seqObj "list" #[] 0)).update s.heap.objs.size (Obj.mapSeq (·++its.toArray)))=h1 at *
  have I1:Inv X pins σ H { s with heap:=h1 }:=I.kept (t':=s.toks) old
  have hoL:(h1.push (seqObj "list" its.toArray 0)).get? h1.objs.size=some (seqObj "list" its.toArray 0):=Heap.get?_push_size _ rfl
  refine wpAny_bind (wpAny_holding (wpAny_call_entry slot_list_sort ⟨_,hoL,rfl⟩ entry_list_sort (ZM (s:={ s with heap:=h1.push (seqObj "list" its.toArray 0) }) hoL hl (fun i hi=>(hv i hi).kept fun b o e _=>Heap.get?_push_of_some _ (old b o e)) asc most ⟨_,rfl,?_⟩) (args_list_sort _)))
  refine wpAny_pure ⟨_,rfl,?_⟩
  obtain ⟨e,he⟩:=sortedHeap_at (out:=its.toArray) hoL
  refine ⟨.ref _,_,I1.laid (t':=s.toks) (fun b o hb=>?_) (Nat.le_refl _) (show ObjOk X.prog X.w _ _ _ (.lst qs) from ⟨hz,_,e,rv,he⟩),rfl,q _ (I1.hok.fresh (Nat.le_refl _))⟩
  have hlt:=Heap.lt_size hb
  rw [sortedHeap_old (Nat.ne_of_lt hlt) (by rw [size_push'];exact Nat.lt_succ_of_lt hlt)]
  exact Heap.get?_push_of_some _ hb
 ·rw [hl];exact Nat.le_trans most JC
 ·rw [hl];exact Nat.le_trans most JC
end L2
namespace Tim
open PySem PyProof.Rows
def jgm:Value→Option Int
 | .int n _=>some n
 | _=>none
@[reducible] def intKind:PyProof.Rows.KeyKind where
 α:=Int
 blt a b:=decide (a < b)
 irrefl a:=decide_eq_false (Int.lt_irrefl a)
 trans a b c h1 h2:=decide_eq_true (Int.lt_trans (of_decide_eq_true h1) (of_decide_eq_true h2))
 negTrans a b c h:=by
  have:=of_decide_eq_true h
  by_cases x:a < b
  ·exact .inl (decide_eq_true x)
  ·exact .inr (decide_eq_true (by omega))
 total a b h1 h2:=by
  have:=of_decide_eq_false h1
  have:=of_decide_eq_false h2
  omega
 keyOf:=jgm
 dflt:=0
end Tim
namespace L2
open PySem PySem.Spec PyProof.Rows PySem.W
open PySem PySem.Spec PyProof.Rows PySem.W
open PySem PySem.Spec PyProof.Rows
theorem LikeV.tup {K:W.Frag} {H:Hp} {n:Nat} {a b:Addr} {xs ys:List V} (ha:H a=some (.tup xs)) (hb:H b=some (.tup ys)) (hl:xs.length=ys.length) (h:∀ (j:Nat) x' y',xs[j]?=some x'→ys[j]?=some y'→LikeV K H n x' y'):LikeV K H (n+1) (.ref a) (.ref b):=.inr (.inl ⟨a,b,xs,ys,rfl,rfl,SqT.of ha,SqT.of hb,hl,h⟩)
theorem LikeV.lst {K:W.Frag} {H:Hp} {n:Nat} {a b:Addr} {xs ys:List V} (ha:H a=some (.lst xs)) (hb:H b=some (.lst ys)) (hl:xs.length=ys.length) (h:∀ (j:Nat) x' y',xs[j]?=some x'→ys[j]?=some y'→LikeV K H n x' y'):LikeV K H (n+1) (.ref a) (.ref b):=.inr (.inr ⟨a,b,xs,ys,rfl,rfl,SqL.of ha,SqL.of hb,hl,h⟩)
def LikeL (K:W.Frag) (H:Hp) (n:Nat) (xs ys:List V):Prop:=xs.length=ys.length∧∀ (j:Nat) x' y',xs[j]?=some x'→ys[j]?=some y'→LikeV K H n x' y'
theorem LikeL.nil {K:W.Frag} {H:Hp} {n:Nat}:LikeL K H n [] []:=⟨rfl,fun j x y h _=>by simp at h⟩
theorem LikeL.cons {K:W.Frag} {H:Hp} {n:Nat} {x y:V} {xs ys:List V} (h:LikeV K H n x y) (t:LikeL K H n xs ys):LikeL K H n (x :: xs) (y :: ys):=⟨by rw [List.length_cons,List.length_cons,t.1],fun j x' y' e1 e2=>by
 cases j with
 | zero=>simp at e1 e2;subst e1 e2;exact h
 | succ j=>exact t.2 j x' y' (by simpa using e1) (by simpa using e2)⟩
mutual
theorem held_like {K:W.Frag} {H:Hp}:∀ {n:Nat} {d:D} {x y:V},d.depth≤n→Held H d x→Held H d y→LikeV K H n x y
 | n,.int i,x,y,_,h,h'=>by unfold Held at h h';subst h h';exact qJ _ _
 | n,.str i,x,y,_,h,h'=>by unfold Held at h h';subst h h';exact qx _ _
 | n,.tup ds,x,y,hn,h,h'=>by
  unfold Held at h h'
  obtain ⟨a,xs,rfl,ha,h1⟩:=h
  obtain ⟨b,ys,rfl,hb,h2⟩:=h'
  unfold D.depth at hn
  cases n with
  | zero=>omega
  | succ n=>
   have hl:=heldL_like (K:=K) (n:=n) (by omega) h1 h2
   exact LikeV.tup ha hb hl.1 hl.2
theorem heldL_like {K:W.Frag} {H:Hp}:∀ {n:Nat} {ds:List D} {xs ys:List V},D.depthL ds≤n→HeldL H ds xs→HeldL H ds ys→LikeL K H n xs ys
 | n,[],xs,ys,_,h,h'=>by unfold HeldL at h h';subst h h';exact .nil
 | n,d :: ds,xs,ys,hn,h,h'=>by
  unfold HeldL at h h'
  obtain ⟨v,r,rfl,e1,e2⟩:=h
  obtain ⟨v',r',rfl,e1',e2'⟩:=h'
  unfold D.depthL at hn
  exact .cons (held_like (by omega) e1 e1') (heldL_like (by omega) e2 e2')
end
section
variable {X:Cx}
theorem jeV (n:Nat) (hu:X.A.units+1+n < cLine):OpR X (compareOp .Eq) (fun x y H Q=>∃ a b xs ys,x=.ref a∧y=.ref b∧SqT X.K H a xs∧SqT X.K H b ys∧LikeL X.K H n xs ys∧Q (.bl true) H):=by
 intro pins s σ H x y v u Q I rx ry h
 obtain ⟨a,b,xs,ys,rfl,rfl,ha,hb,⟨hl,hj⟩,q⟩:=h
 cases rx;cases ry
 obtain ⟨its,rva,ta,_⟩:=I.tuple ha
 obtain ⟨its2,rvb,tb,_⟩:=I.tuple hb
 have l3:=rva.length
 have l4:=rvb.length
 have key:=SeqAt.RcAt.tuples (A:=X.A) (s:=s) (e:=fun _=>true) (show s.heap.IsTuple a its.toArray from ta) (show s.heap.IsTuple b its2.toArray from tb) (by omega) (YU hl rva rvb fun j x' y' u' v' e1 e2 r1 r2=>yH I n X.A.in1 x' y' u' v' (by show X.A.units+1+n < cLine;exact hu) (hj j x' y' e1 e2) r1 r2)
 have e:((List.range (min its.toArray.size its2.toArray.size)).all (fun _=>true) && its.toArray.size == its2.toArray.size)=true:=by
  have:its.toArray.size=its2.toArray.size:=by simp;omega
  rw [this];simp
 rw [e] at key
 exact key X.prog X.w X.xe _ ⟨.bl true,H,I,rfl,q⟩
end
end L2
namespace LW
open PySem L2
theorem jj {H:Hp} {p:Addr} (h:H p=none) (o:HO):Same H (upd H p o):=fun b u q=>by rw [jg (jl q h)];exact q
theorem yo {n:Nat} (h:n≤1000):n≤sizeLine:=Nat.le_of_lt (jz h)
theorem sm {n:Nat} (h:n.ble 1000=true):n≤sizeLine:=yo (Nat.le_of_ble_eq_true h)
theorem KF {n j:Nat} (h:j < n):ixN n (j:Int)=some j:=by
 unfold ixN
 rw [if_pos (by omega),if_pos (by omega)];simp
def YY:Sp:=fun vs H Q _=>∃ (sl:Addr) (ss:List V),vs=[.ref sl]∧H sl=some (.lst ss)∧ss.length≤900∧Q (.int ss.length) (upd H sl (.lst (ss++[.non])))
def Kj (f:Nat):Sp:=fun vs H Q _=>∃ (sl:Addr) (vb va:V) (ss:List V) (os:List (Option D)) (body:List D) (ar:List Int),vs=[.ref sl,vb,va]∧H sl=some (.lst ss)∧SO H os ss∧Held H (.tup body) vb∧Held H (qw ar) va∧(∀ st∈body,Jo f st)∧os.length+(kD (kT f) os.length body ar 0).length≤900∧ar.length+2 * f≤500∧
 ∀ H' ss',(∀ b o,b≠sl→H b=some o→H' b=some o)→H' sl=some (.lst ss')→SO H' (os++(kD (kT f) os.length body ar 0).map some) ss'→Q .non H'
def Jt (k:Str) (f:Nat):Sp:=fun vs H Q _=>∃ (sl:Addr) (vb va:V) (ss:List V) (os:List (Option D)) (st:D) (r:List D) (p:List Int),vs=[.ref sl,vb,va]∧st=.tup (.str k :: r)∧H sl=some (.lst ss)∧SO H os ss∧Held H st vb∧Held H (qw p) va∧Jo f st∧os.length+(kT f os.length st p).length≤900∧p.length+2 * f≤501∧
 ∀ H' ss',(∀ b o,b≠sl→H b=some o→H' b=some o)→H' sl=some (.lst ss')→SO H' (os++(kT f os.length st p).map some) ss'→Q .non H'
section
variable {P:Program} {w:World} {K:W.Frag} {mg:Str→Option Value} {base:Heap}
theorem Ji {S:Nat→D→List Int→List D}:∀ (n:Nat) (a b:List D) (ar:List Int) (k:Nat),kD S n (a++b) ar k=kD S n a ar k++kD S (n+(kD S n a ar k).length) b ar (k+a.length)
 | n,[],b,ar,k=>by simp [kD]
 | n,st :: a,b,ar,k=>by
  have e:∀ (c:List D),kD S n (st :: c) ar k=S n st (ar++[(k:Int)])++kD S (n+(S n st (ar++[(k:Int)])).length) c ar (k+1):=fun c=>rfl
  rw [List.cons_append,e,e,Ji _ a b ar (k+1),List.append_assoc,List.length_append,List.length_cons,Nat.add_assoc n,Nat.add_assoc k,Nat.add_comm 1 a.length]
theorem JG {H:Hp} {k:Str} {r:List D} {v:V} (h:Held H (.tup (.str k :: r)) v):∃ a xs,v=.ref a∧H a=some (.tup (.str k :: xs))∧HeldL H r xs:=by
 unfold Held at h
 obtain ⟨a,xs,e1,e2,e3⟩:=h
 unfold HeldL at e3
 obtain ⟨v,r',rfl,h1,h2⟩:=e3
 unfold Held at h1
 subst h1
 exact ⟨a,r',e1,e2,h2⟩
theorem jbY {x:V} {xs:List V}:atI (x :: xs) 0=some x:=zD (j:=0) rfl
theorem jd6 {f:Nat} {st:D} (h:Jo f st):∃ k r,st=.tup (.str k :: r):=by
 cases f with
 | zero=>exact h.elim
 | succ f=>
  rcases h with ⟨k,r,rfl,_⟩ | ⟨l,b,o,rfl,_⟩ | ⟨l,ks,b,rfl,_⟩
  ·exact ⟨_,_,rfl⟩
  ·exact ⟨_,_,rfl⟩
  ·exact ⟨_,_,rfl⟩
theorem ZG {α:Type} {l:List α} {i:Nat} {x:α} (h:l[i]?=some x):l.take (i+1)=l.take i++[x]:=by
 rw [List.take_succ,h]
 rfl
theorem Z6 {S:Nat→D→List Int→List D} {n:Nat} {st:D} {ar:List Int} {k:Nat}:kD S n [st] ar k=S n st (ar++[(k:Int)]):=by
 unfold kD
 unfold kD
 rw [List.append_nil]
theorem Ze {S:Nat→D→List Int→List D} {n:Nat} {b:List D} {ar:List Int} {i:Nat} {st:D} (h:b[i]?=some st):(kD S n (b.take i) ar 0).length+(S (n+(kD S n (b.take i) ar 0).length) st (ar++[(i:Int)])).length≤(kD S n b ar 0).length:=by
 have hi:=(List.getElem?_eq_some_iff.mp h).1
 have e2:=Ji (S:=S) n (b.take (i+1)) (b.drop (i+1)) ar 0
 rw [List.take_append_drop] at e2
 rw [e2,ZG h,Ji,Z6,List.length_append,List.length_append,List.length_take,Nat.zero_add,Nat.min_eq_left (by omega)]
 omega
end
theorem J1 {α:Type} {a b:List α} {x y:α} {n:Nat} (h:n=a.length):(a++x :: b).set n y=a++y :: b:=by
 subst h
 rw [List.set_append_right _ _ (Nat.le_refl _),Nat.sub_self]
 rfl
theorem jgw {f:Nat} {r:List D} (h:Jo (f+1) (.tup (.str "if" :: r))):∃ least b o,r=[least,.tup b,.tup o]∧(∀ s∈b,Jo f s)∧∀ s∈o,Jo f s:=by
 rcases h with ⟨k,r',e,h1,_⟩ | ⟨l,b,o,e,h1,h2⟩ | ⟨l,ks,b,e,_⟩
 ·injection e with e;injection e with e1 e2;injection e1 with e1;exact absurd e1.symm h1
 ·injection e with e;injection e with e1 e2;exact ⟨l,b,o,e2,h1,h2⟩
 ·injection e with e;injection e with e1 e2;injection e1 with e1;exact absurd e1 (by decide)
theorem jcM {f:Nat} {r:List D} (h:Jo (f+1) (.tup (.str "while" :: r))):∃ least ks b,r=[least,.tup ks,.tup b]∧∀ s∈b,Jo f s:=by
 rcases h with ⟨k,r',e,_,h1⟩ | ⟨l,b,o,e,_⟩ | ⟨l,ks,b,e,h1⟩
 ·injection e with e;injection e with e1 e2;injection e1 with e1;exact absurd e1.symm h1
 ·injection e with e;injection e with e1 e2;injection e1 with e1;exact absurd e1 (by decide)
 ·injection e with e;injection e with e1 e2;exact ⟨l,ks,b,e2,h1⟩
theorem jfJ {H:Hp} {a b c:D} {xs:List V} (h:HeldL H [a,b,c] xs):∃ x y z,xs=[x,y,z]∧Held H a x∧Held H b y∧Held H c z:=by
 unfold HeldL at h
 obtain ⟨x,r,rfl,h1,h⟩:=h
 unfold HeldL at h
 obtain ⟨y,r,rfl,h2,h⟩:=h
 unfold HeldL at h
 obtain ⟨z,r,rfl,h3,h⟩:=h
 unfold HeldL at h
 subst h
 exact ⟨x,y,z,rfl,h1,h2,h3⟩
def jbt (f:Nat):Sp:=fun vs H Q _=>∃ (pr:Addr) (x0 x1 x2 x3 x4 x5 vb:V) (body:List D),vs=[.ref pr]∧H pr=some (.tup [x0,x1,x2,x3,x4,x5,vb])∧Held H (.tup body) vb∧(∀ st∈body,Jo f st)∧(kD (kT f) 0 body [] 0).length≤900∧2 * f≤500∧
 ∀ sl ss H',Same H H'→H sl=none→H' sl=some (.lst ss)→HeldL H' (kD (kT f) 0 body [] 0) ss→Q (.ref sl) H'
def jI (base:Int) (ps:List (Int×Int)) (p:Int):Int:=ps.foldl (fun f q=>if q.1≤p then q.2 else f) base
theorem YE (b p:Int):jI b [] p=b:=rfl
theorem yd (b:Int) (ps:List (Int×Int)) (q:Int×Int) (p:Int):jI b (ps++[q]) p=if q.1≤p then q.2 else jI b ps p:=by unfold jI;rw [List.foldl_append];rfl
theorem ko {p:Int}:∀ {ps:List (Int×Int)} {b:Int},(∀ q∈ps,¬ q.1≤p)→jI b ps p=b
 | [],_,_=>rfl
 | q :: r,b,h=>by
  show jI (if q.1≤p then q.2 else b) r p=b
  rw [if_neg (h q List.mem_cons_self)]
  exact ko fun q hq=>h q (List.mem_cons_of_mem _ hq)
theorem zV {p:Int}:∀ {ps:List (Int×Int)} {b:Int},(∀ q∈ps,q.1≤p)→jI b ps p=((ps.getLast?).map (·.2)).getD b
 | [],_,_=>rfl
 | [q],b,h=>by
  show (if q.1≤p then q.2 else b)=q.2
  rw [if_pos (h q List.mem_cons_self)]
 | q :: q' :: r,b,h=>by
  show jI (if q.1≤p then q.2 else b) (q' :: r) p=_
  rw [zV fun q hq=>h q (List.mem_cons_of_mem _ hq),List.getLast?_cons_cons]
  cases e:(q' :: r).getLast? with
  | none=>simp at e
  | some z=>rfl
theorem qL (b:Int) (ps qs:List (Int×Int)) (p:Int):jI b (ps++qs) p=jI (jI b ps p) qs p:=by unfold jI;rw [List.foldl_append]
def Cut (ps:List (Int×Int)) (p:Int) (c:Nat):Prop:=c≤ps.length∧(∀ i (h:i < ps.length),i < c→ps[i].1≤p)∧∀ i (h:i < ps.length),c≤i→p < ps[i].1
theorem jd2 {b p:Int} {ps:List (Int×Int)} {c:Nat} (h:Cut ps p c):jI b ps p=if c=0 then b else (ps.getD (c - 1) (0,0)).2:=by
 obtain ⟨h1,h2,h3⟩:=h
 have e:ps=ps.take c++ps.drop c:=(List.take_append_drop c ps).symm
 have a1:∀ q∈ps.take c,q.1≤p:=fun q hq=>by
  obtain ⟨i,hi,rfl⟩:=List.mem_iff_getElem.mp hq
  rw [List.length_take] at hi
  rw [List.getElem_take]
  exact h2 i (by omega) (by omega)
 have a2:∀ q∈ps.drop c,¬ q.1≤p:=fun q hq=>by
  obtain ⟨i,hi,rfl⟩:=List.mem_iff_getElem.mp hq
  rw [List.length_drop] at hi
  rw [List.getElem_drop]
  have:=h3 (c+i) (by omega) (by omega)
  omega
 have e2:jI b ps p=jI b (ps.take c++ps.drop c) p:=congrArg (fun z=>jI b z p) e
 rw [e2,qL,ko a2,zV a1]
 by_cases h0:c=0
 ·subst h0
  rfl
 ·rw [if_neg h0,List.getLast?_eq_getElem?,List.length_take,Nat.min_eq_left h1,List.getElem?_take,if_pos (by omega),List.getElem?_eq_getElem (by omega),List.getD_eq_getElem?_getD,List.getElem?_eq_getElem (by omega)]
  rfl
abbrev j7 (ps:List (Int×Int)):Prop:=ps.Pairwise (fun x y=>x.1 < y.1)
theorem Yt {ps:List (Int×Int)} (h:j7 ps) {i j:Nat} (hi:i < ps.length) (hj:j < ps.length) (l:i≤j):ps[i].1≤ps[j].1:=by
 rcases Nat.lt_or_ge i j with k | k
 ·exact Int.le_of_lt (List.pairwise_iff_getElem.mp h i j hi hj k)
 ·have:i=j:=by omega
  subst this
  exact Int.le_refl _
def StepsAt (K:W.Frag) (H:Hp) (qs:List V) (ps:List (Int×Int)):Prop:=qs.length=ps.length∧∀ i (h:i < ps.length),∃ c,qs[i]?=some (.ref c)∧SqT K H c [.int ps[i].1,.int ps[i].2]
structure RowAt (K:W.Frag) (H:Hp) (v:V) (r:Int×List (Int×Int)):Prop where
 ex:∃ a b qs,v=.ref a∧SqT K H a [.int r.1,.ref b]∧SqT K H b qs∧StepsAt K H qs r.2
theorem StepsAt.mono {K:W.Frag} {H H':Hp} {qs:List V} {ps:List (Int×Int)} (e:Same H H') (h:StepsAt K H qs ps):StepsAt K H' qs ps:=⟨h.1,fun i hi=>by
 obtain ⟨c,e1,e2⟩:=h.2 i hi
 exact ⟨c,e1,e.sqT e2⟩⟩
theorem RowAt.mono {K:W.Frag} {H H':Hp} {v:V} {r:Int×List (Int×Int)} (e:Same H H') (h:RowAt K H v r):RowAt K H' v r:=by
 obtain ⟨a,b,qs,e1,e2,e3,e4⟩:=h.ex
 exact ⟨a,b,qs,e1,e.sqT e2,e.sqT e3,e4.mono e⟩
def jhr (r:Int×List (Int×Int)):Prop:=j7 r.2∧r.2.length≤600
def stN (base:Int) (ps:List (Int×Int)):Int×List (Int×Int):=ps.foldl (fun st q=>if q.2=st.1 then st else (q.2,st.2++[q])) (base,[])
theorem zh (base:Int) (ps:List (Int×Int)) (q:Int×Int):stN base (ps++[q])=if q.2=(stN base ps).1 then stN base ps else (q.2,(stN base ps).2++[q]):=by unfold stN;rw [List.foldl_append];rfl
theorem jdd {base:Int} {ps:List (Int×Int)} {i:Nat} (h:i < ps.length):stN base (ps.take (i+1))=if ps[i].2=(stN base (ps.take i)).1 then stN base (ps.take i) else (ps[i].2,(stN base (ps.take i)).2++[ps[i]]):=by
 rw [List.take_succ,List.getElem?_eq_getElem h]
 exact zh _ _ _
theorem J0 (base:Int) (ps:List (Int×Int)):(stN base ps).2.length≤ps.length:=by
 have key:∀ (ps:List (Int×Int)) (st:Int×List (Int×Int)),(ps.foldl (fun st q=>if q.2=st.1 then st else (q.2,st.2++[q])) st).2.length≤st.2.length+ps.length:=by
  intro ps
  induction ps with
  | nil=>intro st;exact Nat.le_refl _
  | cons q r ih=>
   intro st
   rw [List.foldl_cons]
   refine Nat.le_trans (ih _) ?_
   split
   ·simp
   ·simp;omega
 have:=key ps (base,[])
 simpa [stN] using this
def Km (base:Int) (ps:List (Int×Int)):D:=.tup [.int base,.tup (ps.map pD)]
def JQ (b:Int) (L:List (Int×Int)):Int:=((L.getLast?).map (·.2)).getD b
theorem KD (b:Int) (L:List (Int×Int)) (x:Int×Int):JQ b (L++[x])=x.2:=by
 unfold JQ
 rw [List.getLast?_concat]
 rfl
theorem zi {P:List (Int×Int)→Prop} (h0:P []) (h1:∀ L x,P L→P (L++[x])) (L:List (Int×Int)):P L:=by
 have key:∀ M:List (Int×Int),P M.reverse:=by
  intro M
  induction M with
  | nil=>exact h0
  | cons x r ih=>rw [List.reverse_cons];exact h1 _ _ ih
 have:=key L.reverse
 rwa [List.reverse_reverse] at this
theorem jex (b:Int) (L:List (Int×Int)):(stN b L).1=JQ b L:=by
 refine zi (P:=fun L=>(stN b L).1=JQ b L) rfl (fun L x ih=>?_) L
 rw [KD,zh]
 split
 ·next h=>exact h.symm
 ·rfl
theorem jfW (b:Int) (L:List (Int×Int)):(stN b L).2.Sublist L:=by
 refine zi (P:=fun L=>(stN b L).2.Sublist L) (List.Sublist.refl _) (fun L x ih=>?_) L
 rw [zh]
 split
 ·exact ih.trans (List.sublist_append_left _ _)
 ·exact ih.append (List.Sublist.refl _)
theorem JL {L:List (Int×Int)} {x:Int×Int} (h:j7 (L++[x])):j7 L∧∀ y∈L,y.1 < x.1:=by
 obtain ⟨h1,_,h3⟩:=List.pairwise_append.mp h
 exact ⟨h1,fun y hy=>h3 y hy x (by simp)⟩
theorem jbL (b:Int) (L:List (Int×Int)) (h:j7 L) (p:Int):jI b (stN b L).2 p=jI b L p:=by
 refine zi (P:=fun L=>j7 L→jI b (stN b L).2 p=jI b L p) (fun _=>rfl) (fun L x ih h=>?_) L h
 obtain ⟨h1,h2⟩:=JL h
 rw [zh,yd]
 split
 ·next e=>
  rw [ih h1]
  split
  ·next hp=>
   rw [zV fun q hq=>by have:=h2 q hq;omega]
   rw [jex] at e
   exact e.symm
  ·rfl
 ·show jI b ((stN b L).2++[x]) p=_
  rw [yd,ih h1]
def Yw:Int→List (Int×Int)→Prop
 | _,[]=>True
 | b,q :: r=>q.2≠b∧Yw q.2 r
theorem Kv:∀ {L:List (Int×Int)} {b:Int} {x:Int×Int},Yw b L→x.2≠JQ b L→Yw b (L++[x])
 | [],b,x,_,h=>⟨h,trivial⟩
 | q :: r,b,x,h,hx=>by
  refine ⟨h.1,Kv h.2 ?_⟩
  intro e
  apply hx
  rw [e]
  unfold JQ
  cases r with
  | nil=>rfl
  | cons q' r'=>
   rw [List.getLast?_cons_cons]
   cases e':(q' :: r').getLast? with
   | none=>simp at e'
   | some z=>rfl
theorem jdU (b:Int) (L:List (Int×Int)):JQ b (stN b L).2=(stN b L).1:=by
 refine zi (P:=fun L=>JQ b (stN b L).2=(stN b L).1) rfl (fun L x ih=>?_) L
 rw [zh]
 split
 ·exact ih
 ·exact KD _ _ _
theorem jdL (b:Int) (L:List (Int×Int)):Yw b (stN b L).2:=by
 refine zi (P:=fun L=>Yw b (stN b L).2) trivial (fun L x ih=>?_) L
 rw [zh]
 split
 ·exact ih
 ·next h=>
  refine Kv ih ?_
  rw [jdU]
  exact h
structure Canon (b:Int) (L:List (Int×Int)):Prop where
 up:j7 L
 no:Yw b L
theorem jar (b:Int) {L:List (Int×Int)} (h:j7 L):Canon b (stN b L).2:=⟨h.sublist (jfW b L),jdL b L⟩
theorem kK (b:Int) (q:Int×Int) (r:List (Int×Int)) (p:Int):jI b (q :: r) p=jI (if q.1≤p then q.2 else b) r p:=rfl
theorem zC {q:Int×Int} {r:List (Int×Int)} (h:j7 (q :: r)):j7 r∧∀ y∈r,q.1 < y.1:=⟨(List.pairwise_cons.mp h).2,(List.pairwise_cons.mp h).1⟩
theorem KS:∀ {L M:List (Int×Int)} {b:Int},Canon b L→Canon b M→(∀ p,jI b L p=jI b M p)→L=M
 | [],[],_,_,_,_=>rfl
 | [],y :: M,b,_,hM,h=>by
  have e:=h y.1
  rw [YE,kK,if_pos (Int.le_refl _),ko fun q hq=>by have:=(zC hM.up).2 q hq;omega] at e
  exact absurd e.symm hM.no.1
 | x :: L,[],b,hL,_,h=>by
  have e:=h x.1
  rw [YE,kK,if_pos (Int.le_refl _),ko fun q hq=>by have:=(zC hL.up).2 q hq;omega] at e
  exact absurd e hL.no.1
 | x :: L,y :: M,b,hL,hM,h=>by
  have rL:=zC hL.up
  have rM:=zC hM.up
  have nL:∀ {c:Int} (p:Int),p≤x.1→jI c L p=c:=fun p hp=>ko fun q hq=>by have:=rL.2 q hq;omega
  have nM:∀ {c:Int} (p:Int),p≤y.1→jI c M p=c:=fun p hp=>ko fun q hq=>by have:=rM.2 q hq;omega
  rcases Int.lt_trichotomy x.1 y.1 with c | c | c
  ·have e:=h x.1
   rw [kK,kK,if_pos (Int.le_refl _),if_neg (by omega),nL _ (Int.le_refl _),nM _ (by omega)] at e
   exact absurd e hL.no.1
  ·have e:=h x.1
   rw [kK,kK,if_pos (Int.le_refl _),if_pos (by omega),nL _ (Int.le_refl _),nM _ (by omega)] at e
   have exy:x=y:=Prod.ext c e
   subst exy
   have:=KS (L:=L) (M:=M) (b:=x.2) ⟨rL.1,hL.no.2⟩ ⟨rM.1,hM.no.2⟩ fun p=>by
    by_cases hp:x.1≤p
    ·have e:=h p
     rw [kK,kK,if_pos hp] at e
     exact e
    ·rw [nL p (by omega),nM p (by omega)]
   rw [this]
  ·have e:=h y.1
   rw [kK,kK,if_pos (Int.le_refl _),if_neg (by omega),nM _ (Int.le_refl _),nL _ (by omega)] at e
   exact absurd e.symm hM.no.1
theorem KG (b:Int) (L:List (Int×Int)) (h:j7 L) (p:Int):((∀ y∈L,¬ y.1≤p)∧jI b L p=b)∨∃ x∈L,x.1≤p∧(∀ y∈L,y.1≤p→y.1≤x.1)∧jI b L p=x.2:=by
 refine zi (P:=fun L=>j7 L→((∀ y∈L,¬ y.1≤p)∧jI b L p=b)∨∃ x∈L,x.1≤p∧(∀ y∈L,y.1≤p→y.1≤x.1)∧jI b L p=x.2) (fun _=>.inl ⟨fun y hy=>(by cases hy),rfl⟩) (fun L x ih h=>?_) L h
 obtain ⟨h1,h2⟩:=JL h
 rw [yd]
 by_cases hp:x.1≤p
 ·rw [if_pos hp]
  refine .inr ⟨x,by simp,hp,fun y hy _=>?_,rfl⟩
  rcases List.mem_append.mp hy with hy | hy
  ·have:=h2 y hy;omega
  ·rw [List.mem_singleton.mp hy];exact Int.le_refl _
 ·rw [if_neg hp]
  rcases ih h1 with ⟨a,e⟩ | ⟨z,hz,a1,a2,e⟩
  ·refine .inl ⟨fun y hy=>?_,e⟩
   rcases List.mem_append.mp hy with hy | hy
   ·exact a y hy
   ·rw [List.mem_singleton.mp hy];exact hp
  ·refine .inr ⟨z,List.mem_append_left _ hz,a1,fun y hy hyp=>?_,e⟩
   rcases List.mem_append.mp hy with hy | hy
   ·exact a2 y hy hyp
   ·rw [List.mem_singleton.mp hy] at hyp;exact absurd hyp hp
theorem Yb {L:List (Int×Int)} (h:j7 L) {x y:Int×Int} (hx:x∈L) (hy:y∈L) (e:x.1=y.1):x=y:=by
 obtain ⟨i,hi,rfl⟩:=List.mem_iff_getElem.mp hx
 obtain ⟨j,hj,rfl⟩:=List.mem_iff_getElem.mp hy
 have pw:=List.pairwise_iff_getElem.mp h
 rcases Nat.lt_trichotomy i j with c | c | c
 ·have:=pw i j hi hj c;omega
 ·subst c;rfl
 ·have:=pw j i hj hi c;omega
theorem held_like {b:Int} {L:List (Int×Int)} (h:j7 L) {p q:Int} (hpq:p≤q) (no:∀ y∈L,¬ (p < y.1∧y.1≤q)):jI b L q=jI b L p:=by
 rcases KG b L h q with ⟨a,e⟩ | ⟨z,hz,a1,a2,e⟩
 ·rw [e,ko fun y hy=>by have:=a y hy;omega]
 ·rcases KG b L h p with ⟨a,_⟩ | ⟨z',hz',b1,b2,e'⟩
  ·exact absurd ⟨by have:=a z hz;omega,a1⟩ (no z hz)
  ·rw [e,e']
   have hzp:z.1≤p:=by have:=no z hz;omega
   have c1:=b2 z hz hzp
   have c2:=a2 z' hz' (by omega)
   rw [Yb h hz hz' (by omega)]
def wrN (b:Int) (ps:List (Int×Int)) (c1 c2:Nat) (p v:Int):List (Int×Int):=ps.take c1++[(p,v),(p+1,jI b ps (p+1))]++ps.drop c2
theorem Jj {ps:List (Int×Int)} {p:Int} {c:Nat} (h:Cut ps p c):(∀ y∈ps.take c,y.1≤p)∧∀ y∈ps.drop c,p < y.1:=by
 obtain ⟨h1,h2,h3⟩:=h
 refine ⟨fun q hq=>?_,fun q hq=>?_⟩
 ·obtain ⟨i,hi,rfl⟩:=List.mem_iff_getElem.mp hq
  rw [List.length_take] at hi
  rw [List.getElem_take]
  exact h2 i (by omega) (by omega)
 ·obtain ⟨i,hi,rfl⟩:=List.mem_iff_getElem.mp hq
  rw [List.length_drop] at hi
  rw [List.getElem_drop]
  exact h3 (c+i) (by omega) (by omega)
theorem jfP {b:Int} {ps:List (Int×Int)} {c1 c2:Nat} {p v:Int} (h1:Cut ps (p - 1) c1) (h2:Cut ps (p+1) c2):(wrN b ps c1 c2 p v).length≤ps.length+2:=by
 have:c1≤c2:=by
  rcases Nat.lt_or_ge c2 c1 with c | c
  ·have:=h1.1
   have a:=h1.2.1 c2 (by omega) c
   have b:=h2.2.2 c2 (by omega) (Nat.le_refl _)
   omega
  ·exact c
 have:=h1.1
 have:=h2.1
 unfold wrN
 simp only [List.length_append,List.length_take,List.length_drop,List.length_cons,List.length_nil]
 omega
theorem jgJ {b:Int} {ps:List (Int×Int)} {c1 c2:Nat} {p v:Int} (h:j7 ps) (h1:Cut ps (p - 1) c1) (h2:Cut ps (p+1) c2):j7 (wrN b ps c1 c2 p v):=by
 have t1:=(Jj h1).1
 have t2:=(Jj h2).2
 unfold wrN
 refine List.pairwise_append.mpr ⟨List.pairwise_append.mpr ⟨h.sublist (List.take_sublist _ _),?_,fun x hx y hy=>?_⟩,h.sublist (List.drop_sublist _ _),fun x hx y hy=>?_⟩
 ·refine List.pairwise_cons.mpr ⟨fun y hy=>?_,List.pairwise_singleton _ _⟩
  rw [List.mem_singleton.mp hy]
  show p < p+1
  omega
 ·have:=t1 x hx
  rcases List.mem_cons.mp hy with rfl | hy
  ·show x.1 < p;omega
  ·rw [List.mem_singleton.mp hy];show x.1 < p+1;omega
 ·have:=t2 y hy
  rcases List.mem_append.mp hx with hx | hx
  ·have:=t1 x hx;omega
  ·rcases List.mem_cons.mp hx with rfl | hx
   ·show p < y.1;omega
   ·rw [List.mem_singleton.mp hx];show p+1 < y.1;omega
theorem jes {b:Int} {ps:List (Int×Int)} {c1 c2:Nat} {p v:Int} (h1:Cut ps (p - 1) c1) (h2:Cut ps (p+1) c2) (q:Int):jI b (wrN b ps c1 c2 p v) q=if q=p then v else jI b ps q:=by
 have t1:=Jj h1
 have t2:=Jj h2
 have a1:∀ z,jI b ps z=jI (jI b (ps.take c1) z) (ps.drop c1) z:=fun z=>by rw [← qL,List.take_append_drop]
 have a2:∀ z,jI b ps z=jI (jI b (ps.take c2) z) (ps.drop c2) z:=fun z=>by rw [← qL,List.take_append_drop]
 have e:jI b (wrN b ps c1 c2 p v) q=jI (if p+1≤q then jI b ps (p+1) else if p≤q then v else jI b (ps.take c1) q) (ps.drop c2) q:=by
  unfold wrN
  rw [qL,qL]
  rfl
 rw [e]
 rcases Int.lt_trichotomy q p with c | c | c
 ·rw [if_neg (by omega),if_neg (by omega),if_neg (by omega),ko (fun y hy=>by have:=t2.2 y hy;omega),a1 q,ko (ps:=ps.drop c1) (fun y hy=>by have:=t1.2 y hy;omega)]
 ·rw [if_neg (by omega),if_pos (by omega),if_pos c,ko (fun y hy=>by have:=t2.2 y hy;omega)]
 ·rw [if_pos (by omega),if_neg (by omega),a2 q,a2 (p+1),ko (p:=p+1) (ps:=ps.drop c2) (fun y hy=>by have:=t2.2 y hy;omega),zV (p:=p+1) (ps:=ps.take c2) t2.1,zV (p:=q) (ps:=ps.take c2) fun y hy=>by have:=t2.1 y hy;omega]
def lk (ps:List (Int×Int)) (p:Int):Option Int:=(ps.find? fun q=>decide (q.1=p)).map (·.2)
structure EndsOk (ps pl:List (Int×Int)) (ms:List Int):Prop where
 up:ms.Pairwise (· < ·)
 mem:∀ m,m∈ms↔(∃ q∈ps,q.1=m)∨∃ q∈pl,q.1=m∨q.1+1=m
def jaF (K:W.Frag):Sp:=fun vs H Q _=>∃ (b:Addr) (p:Int) (qs:List V) (ps:List (Int×Int)),vs=[.ref b,.int p]∧SqT K H b qs∧StepsAt K H qs ps∧j7 ps∧ps.length≤600∧∀ c:Nat,Cut ps p c→Q (.int c) H
def Y1 (K:W.Frag):Sp:=fun vs H Q _=>∃ (v:V) (p:Int) (r:Int×List (Int×Int)),vs=[v,.int p]∧RowAt K H v r∧jhr r∧Q (.int (jI r.1 r.2 p)) H
def ZI (K:W.Frag):Sp:=fun vs H Q _=>∃ (base:Int) (p:Addr) (qs:List V) (ps:List (Int×Int)),vs=[.int base,.ref p]∧SqL K H p qs∧PairsL K H qs ps∧j7 ps∧ps.length≤1000∧
 ∀ r H',Same H H'→Held H' (Km base (stN base ps).2) r→Q r H'
def Yk (K:W.Frag):Sp:=fun vs H Q _=>∃ (v:V) (p x b:Int) (ps:List (Int×Int)),vs=[v,.int p,.int x]∧RowAt K H v (b,ps)∧j7 ps∧ps.length≤400∧
 ∀ ps' r H',Same H H'→Canon b ps'→(∀ q,jI b ps' q=if q=p then x else jI b ps q)→ps'.length≤ps.length+2→Held H' (Km b ps') r→Q r H'
theorem jeE {H:Hp} {b:Int} {ps:List (Int×Int)} {v:V} (h:Held H (Km b ps) v):∃ a c qs,v=.ref a∧H a=some (.tup [.int b,.ref c])∧H c=some (.tup qs)∧HeldL H (ps.map pD) qs:=by
 obtain ⟨a,xs,rfl,ha,h1⟩:=jo h
 obtain ⟨v1,r1,rfl,e1,h2⟩:=jb h1
 obtain ⟨v2,r2,rfl,e2,h3⟩:=jb h2
 cases js h3
 cases j3 e1
 obtain ⟨c,qs,rfl,hb,h4⟩:=jo e2
 exact ⟨a,c,qs,rfl,ha,hb,h4⟩
theorem jgc {H:Hp} {q:Int×Int} {v:V} (h:Held H (pD q) v):∃ a,v=.ref a∧H a=some (.tup [.int q.1,.int q.2]):=by
 obtain ⟨a,xs,rfl,ha,h1⟩:=jo h
 obtain ⟨v1,r1,rfl,e1,h2⟩:=jb h1
 obtain ⟨v2,r2,rfl,e2,h3⟩:=jb h2
 cases js h3
 cases j3 e1
 cases j3 e2
 exact ⟨a,rfl,ha⟩
theorem zg {K:W.Frag} {H:Hp} {ps:List (Int×Int)} {qs:List V} (hq:HeldL H (ps.map pD) qs):StepsAt K H qs ps:=by
 have hl:=hq.length
 rw [List.length_map] at hl
 refine ⟨hl.symm,fun i hi=>?_⟩
 obtain ⟨v,e1,e2⟩:=hq.get (j:=i) (d:=pD ps[i]) (by rw [List.getElem?_map,List.getElem?_eq_getElem hi];rfl)
 obtain ⟨c,rfl,hc⟩:=jgc e2
 exact ⟨c,e1,SqT.of hc⟩
theorem yp {K:W.Frag} {H:Hp} {b:Int} {ps:List (Int×Int)} {v:V} (h:Held H (Km b ps) v):RowAt K H v (b,ps):=by
 obtain ⟨a,c,qs,rfl,ha,hb,hq⟩:=jeE h
 exact ⟨a,c,qs,rfl,SqT.of ha,SqT.of hb,zg hq⟩
theorem Yv {K:W.Frag} {H:Hp} {qs qs':List V} {ps ps':List (Int×Int)} (h:PairsL K H qs ps) (h':PairsL K H qs' ps'):PairsL K H (qs++qs') (ps++ps'):=by
 refine ⟨by rw [List.length_append,List.length_append,h.1,h'.1],fun i hi=>?_⟩
 rw [List.length_append] at hi
 by_cases c:i < ps.length
 ·obtain ⟨a,e1,e2⟩:=h.2 i c
  refine ⟨a,?_,?_⟩
  ·rw [List.getElem?_append_left (by rw [h.1];exact c)];exact e1
  ·rw [List.getElem_append_left c];exact e2
 ·obtain ⟨a,e1,e2⟩:=h'.2 (i - ps.length) (by omega)
  refine ⟨a,?_,?_⟩
  ·rw [List.getElem?_append_right (by rw [h.1];omega),h.1];exact e1
  ·rw [List.getElem_append_right (by omega)];exact e2
theorem jaN {K:W.Frag} {H:Hp} {qs:List V} {ps:List (Int×Int)} (h:PairsL K H qs ps) (n:Nat):PairsL K H (qs.take n) (ps.take n):=by
 refine ⟨by rw [List.length_take,List.length_take,h.1],fun i hi=>?_⟩
 rw [List.length_take] at hi
 obtain ⟨a,e1,e2⟩:=h.2 i (by omega)
 exact ⟨a,by rw [List.getElem?_take,if_pos (by omega)];exact e1,by rw [List.getElem_take];exact e2⟩
theorem jaO {K:W.Frag} {H:Hp} {qs:List V} {ps:List (Int×Int)} (h:PairsL K H qs ps) (n:Nat):PairsL K H (qs.drop n) (ps.drop n):=by
 refine ⟨by rw [List.length_drop,List.length_drop,h.1],fun i hi=>?_⟩
 rw [List.length_drop] at hi
 obtain ⟨a,e1,e2⟩:=h.2 (n+i) (by omega)
 exact ⟨a,by rw [List.getElem?_drop];exact e1,by rw [List.getElem_drop];exact e2⟩
theorem jcn {K:W.Frag} {H:Hp} {a b:Addr} {x y x' y':Int} (h1:H a=some (.tup [.int x,.int y])) (h2:H b=some (.tup [.int x',.int y'])):PairsL K H [.ref a,.ref b] [(x,y),(x',y')]:=by
 refine ⟨rfl,fun i hi=>?_⟩
 match i,hi with
 | 0,_=>exact ⟨a,rfl,SqT.of h1⟩
 | 1,_=>exact ⟨b,rfl,SqT.of h2⟩
theorem jcm {K:W.Frag} {G:Hp} {l:Addr} {ys:List V} {o:HO} {qs:List V} {ps:List (Int×Int)} (hl:G l=some (.lst ys)) (h:PairsL K G qs ps):PairsL K (upd G l o) qs ps:=⟨h.1,fun i hi=>by
 obtain ⟨c,e1,e2⟩:=h.2 i hi
 refine ⟨c,e1,?_⟩
 rcases e2 with (e2 | ⟨u,e2⟩) | e2
 ·exact .inl (.inl (by rw [jg (j4 e2 hl (by intro z;cases z))];exact e2))
 ·exact .inl (.inr ⟨u,by rw [jg (j4 e2 hl (by intro z;cases z))];exact e2⟩)
 ·exact .inr e2⟩
abbrev jK:=Int×List (Int×Int)×List (Int×Int)
def ki (q:jK) (p:Int):Int:=q.2.2.foldl (fun f z=>if z.1=p then z.2 else f) (jI q.1 q.2.1 p)
theorem yV (b:Int) (ps ws:List (Int×Int)) (p v z:Int):ki (b,ps,ws++[(p,v)]) z=if z=p then v else ki (b,ps,ws) z:=by
 unfold ki
 dsimp only
 rw [List.foldl_append]
 show (if p=z then v else _)=_
 by_cases h:p=z
 ·rw [if_pos h,if_pos h.symm]
 ·rw [if_neg h,if_neg (fun t=>h t.symm)]
def qh (L:List (Str×jK)) (r:Str):jK:=(lkA L r).getD (0,[],[])
def RowIs (K:W.Frag) (H:Hp) (q:jK) (v:V):Prop:=∃ R,RowAt K H v (q.1,R)∧Canon q.1 R∧R.length≤40+2 * q.2.2.length∧∀ z,jI q.1 R z=ki q z
theorem jb8 {K:W.Frag} {H H':Hp} {qs:List V} {ps:List (Int×Int)} (t:TKF H H') (h:StepsAt K H qs ps):StepsAt K H' qs ps:=⟨h.1,fun i hi=>by
 obtain ⟨c,e1,e2⟩:=h.2 i hi
 exact ⟨c,e1,t.sqT e2⟩⟩
theorem jeD {K:W.Frag} {H H':Hp} {v:V} {r:Int×List (Int×Int)} (t:TKF H H') (h:RowAt K H v r):RowAt K H' v r:=by
 obtain ⟨a,b,qs,e1,e2,e3,e4⟩:=h.ex
 exact ⟨a,b,qs,e1,t.sqT e2,t.sqT e3,jb8 t e4⟩
theorem RowIs.tk {K:W.Frag} {H H':Hp} {q:jK} {v:V} (t:TKF H H') (h:RowIs K H q v):RowIs K H' q v:=by
 obtain ⟨R,h1,h2⟩:=h
 exact ⟨R,jeD t h1,h2⟩
def RV (K:W.Frag) (H:Hp) (n:Nat):List (Key×V)→List (Str×jK)→Prop
 | [],[]=>True
 | p :: r,q :: t=>(p.1=Sum.inr q.1∧RowIs K H q.2 p.2∧q.2.2.2.length≤n)∧RV K H n r t
 | _,_=>False
theorem RV.tk {K:W.Frag} {H H':Hp} {n:Nat} (t:TKF H H'):∀ {rvs:List (Key×V)} {L:List (Str×jK)},RV K H n rvs L→RV K H' n rvs L
 | [],[],_=>trivial
 | _ :: _,_ :: _,⟨⟨h1,h2,h3⟩,h4⟩=>⟨⟨h1,h2.tk t,h3⟩,RV.tk t h4⟩
theorem RV.up {K:W.Frag} {H:Hp} {n m:Nat} (hm:n≤m):∀ {rvs:List (Key×V)} {L:List (Str×jK)},RV K H n rvs L→RV K H m rvs L
 | [],[],_=>trivial
 | _ :: _,_ :: _,⟨⟨h1,h2,h3⟩,h4⟩=>⟨⟨h1,h2,Nat.le_trans h3 hm⟩,RV.up hm h4⟩
theorem RV.len {K:W.Frag} {H:Hp} {n:Nat}:∀ {rvs:List (Key×V)} {L:List (Str×jK)},RV K H n rvs L→rvs.length=L.length
 | [],[],_=>rfl
 | _ :: _,_ :: _,⟨_,h4⟩=>by rw [List.length_cons,List.length_cons,RV.len h4]
theorem RV.val {K:W.Frag} {H:Hp} {n:Nat} (r:Str):∀ {rvs:List (Key×V)} {L:List (Str×jK)},RV K H n rvs L→(qi rvs (Sum.inr r)=none∧lkA L r=none)∨∃ v q,qi rvs (Sum.inr r)=some v∧lkA L r=some q∧RowIs K H q v∧q.2.2.length≤n
 | [],[],_=>.inl ⟨rfl,rfl⟩
 | p :: rvs,q :: L,⟨⟨h1,h2,h3⟩,h4⟩=>by
  by_cases h:q.1=r
  ·refine .inr ⟨p.2,q.2,kX (by rw [h1,h]),?_,h2,h3⟩
   unfold lkA
   rw [List.find?_cons,decide_eq_true h]
   rfl
  ·have e1:qi (p :: rvs) (Sum.inr r)=qi rvs (Sum.inr r):=kY (by rw [h1];exact fun z=>h (Sum.inr.inj z))
   have e2:lkA (q :: L) r=lkA L r:=by
    unfold lkA
    rw [List.find?_cons,decide_eq_false h]
   rw [e1,e2]
   exact RV.val r h4
theorem RV.any {K:W.Frag} {H:Hp} {n:Nat} (r:Str):∀ {rvs:List (Key×V)} {L:List (Str×jK)},RV K H n rvs L→(rvs.any fun kv=>decide (kv.1=(Sum.inr r:Key)))=L.any fun q=>decide (q.1=r)
 | [],[],_=>rfl
 | p :: rvs,q :: L,⟨⟨h1,_,_⟩,h4⟩=>by rw [List.any_cons,List.any_cons,RV.any r h4,h1,Zi]
theorem RV.snoc {K:W.Frag} {H:Hp} {n:Nat} {r:Str} {v:V} {q:jK} (hq:RowIs K H q v) (hn:q.2.2.length≤n):∀ {rvs:List (Key×V)} {L:List (Str×jK)},RV K H n rvs L→RV K H n (rvs++[(Sum.inr r,v)]) (L++[(r,q)])
 | [],[],_=>⟨⟨rfl,hq,hn⟩,trivial⟩
 | _ :: _,_ :: _,⟨h1,h4⟩=>⟨h1,RV.snoc hq hn h4⟩
theorem RV.repl {K:W.Frag} {H:Hp} {n:Nat} {r:Str} {v:V} {q:jK} (hq:RowIs K H q v) (hn:q.2.2.length≤n):∀ {rvs:List (Key×V)} {L:List (Str×jK)},RV K H n rvs L→RV K H n (rvs.map fun kv=>if kv.1=(Sum.inr r:Key) then (kv.1,v) else kv) (L.map fun z=>if z.1=r then (z.1,q) else z)
 | [],[],_=>trivial
 | p :: rvs,z :: L,⟨⟨h1,h2,h3⟩,h4⟩=>by
  refine ⟨?_,RV.repl hq hn h4⟩
  dsimp only
  by_cases h:z.1=r
  ·rw [if_pos h,if_pos (by rw [h1,h])]
   exact ⟨h1,hq,hn⟩
  ·rw [if_neg h,if_neg (by rw [h1];exact fun t=>h (Sum.inr.inj t))]
   exact ⟨h1,h2,h3⟩
theorem RV.put {K:W.Frag} {H:Hp} {n:Nat} {rvs:List (Key×V)} {L:List (Str×jK)} (h:RV K H n rvs L) {r:Str} {v:V} {q:jK} (hq:RowIs K H q v) (hn:q.2.2.length≤n):RV K H n (qE rvs (Sum.inr r) v) (kE L r q):=by
 unfold qE kE
 rw [h.any r]
 split
 ·exact h.repl hq hn
 ·exact h.snoc hq hn
inductive Tm where
 | is (x:Str) | at_ (r x:Str) (d:Int)
def plD (x:Str) (d:Int):D:=.tup [.str x,.int d]
def Tm.toD:Tm→D
 | .is x=>.tup [.str "is",.str x]
 | .at_ r x d=>.tup [.str "at",.str r,plD x d]
def Tm.val (N:List (Str×Int)) (L:List (Str×jK)):Tm→Int
 | .is x=>kH N x
 | .at_ r x d=>ki (qh L r) (kH N x+d)
theorem jdu {H:Hp} {x:Str} {d:Int} {v:V} (h:Held H (plD x d) v):∃ a,v=.ref a∧H a=some (.tup [.str x,.int d]):=by
 obtain ⟨a,xs,rfl,ha,h1⟩:=jo h
 obtain ⟨v1,r1,rfl,e1,h2⟩:=jb h1
 obtain ⟨v2,r2,rfl,e2,h3⟩:=jb h2
 cases js h3
 cases jq e1
 cases j3 e2
 exact ⟨a,rfl,ha⟩
theorem jgC {H:Hp} {r x:Str} {d:Int} {v:V} (h:Held H (Tm.at_ r x d).toD v):∃ a b,v=.ref a∧H a=some (.tup [.str "at",.str r,.ref b])∧H b=some (.tup [.str x,.int d]):=by
 obtain ⟨a,xs,rfl,ha,h1⟩:=jo h
 obtain ⟨v1,r1,rfl,e1,h2⟩:=jb h1
 obtain ⟨v2,r2,rfl,e2,h3⟩:=jb h2
 obtain ⟨v3,r3,rfl,e3,h4⟩:=jb h3
 cases js h4
 cases jq e1
 cases jq e2
 obtain ⟨b,rfl,hb⟩:=jdu e3
 exact ⟨a,b,rfl,ha,hb⟩
inductive Rw where
 | set (x:Str) (t:Tm) (c:Int) | put (r x:Str) (d:Int) (t:Tm) (c:Int) | any (x:Str) | lose (r:Str)
def Rw.toD:Rw→D
 | .set x t c=>.tup [.str "set",.str x,t.toD,.int c]
 | .put r x d t c=>.tup [.str "put",.str r,plD x d,t.toD,.int c]
 | .any x=>.tup [.str "any",.str x]
 | .lose r=>.tup [.str "lose",.str r]
theorem jeA {H:Hp} {x:Str} {t:Tm} {c:Int} {v:V} (h:Held H (Rw.set x t c).toD v):∃ a u,v=.ref a∧H a=some (.tup [.str "set",.str x,u,.int c])∧Held H t.toD u:=by
 obtain ⟨a,xs,rfl,ha,h1⟩:=jo h
 obtain ⟨v1,r1,rfl,e1,h2⟩:=jb h1
 obtain ⟨v2,r2,rfl,e2,h3⟩:=jb h2
 obtain ⟨v3,r3,rfl,e3,h4⟩:=jb h3
 obtain ⟨v4,r4,rfl,e4,h5⟩:=jb h4
 cases js h5
 cases jq e1
 cases jq e2
 cases j3 e4
 exact ⟨a,v3,rfl,ha,e3⟩
theorem jeJ {H:Hp} {r x:Str} {d c:Int} {t:Tm} {v:V} (h:Held H (Rw.put r x d t c).toD v):∃ a b u,v=.ref a∧H a=some (.tup [.str "put",.str r,.ref b,u,.int c])∧H b=some (.tup [.str x,.int d])∧Held H t.toD u:=by
 obtain ⟨a,xs,rfl,ha,h1⟩:=jo h
 obtain ⟨v1,r1,rfl,e1,h2⟩:=jb h1
 obtain ⟨v2,r2,rfl,e2,h3⟩:=jb h2
 obtain ⟨v3,r3,rfl,e3,h4⟩:=jb h3
 obtain ⟨v4,r4,rfl,e4,h5⟩:=jb h4
 obtain ⟨v5,r5,rfl,e5,h6⟩:=jb h5
 cases js h6
 cases jq e1
 cases jq e2
 cases j3 e5
 obtain ⟨b,rfl,hb⟩:=jdu e3
 exact ⟨a,b,v4,rfl,ha,hb,e4⟩
def qV:Sp:=fun vs H Q _=>∃ (x:Str) (m:Addr) (N:List (Str×Int)),vs=[.str x,.ref m]∧H m=some (.dK (nKV N))∧Q (.int (kH N x)) H
def yP:Sp:=fun vs H Q _=>∃ (a:Addr) (x:Str) (d:Int) (m:Addr) (N:List (Str×Int)),vs=[.ref a,.ref m]∧H a=some (.tup [.str x,.int d])∧H m=some (.dK (nKV N))∧Q (.int (kH N x+d)) H
def ZJ (K:W.Frag):Sp:=fun vs H Q _=>∃ (r:Str) (n:Addr) (k:Nat) (rvs:List (Key×V)) (L:List (Str×jK)),vs=[.str r,.ref n]∧H n=some (.dK rvs)∧RV K H k rvs L∧
 ∀ v R,RowAt K H v ((qh L r).1,R)→Canon (qh L r).1 R→R.length≤40+2 * (qh L r).2.2.length→(qh L r).2.2.length≤k→(∀ z,jI (qh L r).1 R z=ki (qh L r) z)→Q v H
def Jr (K:W.Frag):Sp:=fun vs H Q _=>∃ (v:V) (t:Tm) (m n:Addr) (k:Nat) (N:List (Str×Int)) (rvs:List (Key×V)) (L:List (Str×jK)),vs=[v,.ref m,.ref n]∧Held H t.toD v∧H m=some (.dK (nKV N))∧H n=some (.dK rvs)∧RV K H k rvs L∧k≤100∧Q (.int (t.val N L)) H
structure Bare (K:W.Frag) (mg:Str→Option Value):Prop where
 ex:∃ ba eb:Addr,mg "BARE_ROW" = some (.ref ba)∧(∀ H,SqT K H ba [.int 0,.ref eb])∧∀ H,SqT K H eb []
theorem jef {K:W.Frag} {H:Hp} {a b:Addr} (h1:SqT K H a [.int 0,.ref b]) (h2:SqT K H b []):RowAt K H (.ref a) (0,[]):=⟨a,b,[],rfl,h1,h2,rfl,fun i h=>absurd h (by simp)⟩
inductive Cl where
 | least (a b:Tm) (c:Int)
def Cl.toD:Cl→D
 | .least a b c=>.tup [.str "least",a.toD,b.toD,.int c]
def bnd (way:Str) (v b:Int):Bool:=if way = ">=" then decide (b≤v) else decide (v≤b)
def Cl.Tru (N:List (Str×Int)) (L:List (Str×jK)):Cl→Prop
 | .least a b c=>b.val N L+c≤a.val N L
theorem jbF {H:Hp} {a b:Tm} {c:Int} {v:V} (h:Held H (Cl.least a b c).toD v):∃ p u w,v=.ref p∧H p=some (.tup [.str "least",u,w,.int c])∧Held H a.toD u∧Held H b.toD w:=by
 obtain ⟨p,xs,rfl,ha,h1⟩:=jo h
 obtain ⟨v1,r1,rfl,e1,h2⟩:=jb h1
 obtain ⟨v2,r2,rfl,e2,h3⟩:=jb h2
 obtain ⟨v3,r3,rfl,e3,h4⟩:=jb h3
 obtain ⟨v4,r4,rfl,e4,h5⟩:=jb h4
 cases js h5
 cases jq e1
 cases j3 e4
 exact ⟨p,v2,v3,rfl,ha,e2,e3⟩
def yn (ok:Cl→Prop) (K:W.Frag):Sp:=fun vs H Q _=>∃ (v:V) (C:Cl) (m n:Addr) (i:Nat) (N:List (Str×Int)) (rvs:List (Key×V)) (L:List (Str×jK)),vs=[v,.ref m,.ref n]∧Held H C.toD v∧ok C∧H m=some (.dK (nKV N))∧H n=some (.dK rvs)∧RV K H i rvs L∧i≤100∧
 ∀ b H',Same H H'→(b=true↔C.Tru N L)→Q (.bl b) H'
def jhg:Cl→Prop | .least ..=>True
open PySem L2
def top (i:Nat):Stmt:=PySem.Challenge.pw_outlineward_k74_calls_within_calls.main.body.getD i (.Pass ⟨0,0,0,0⟩)
abbrev zc:Stmt:=top 21
abbrev qQ:Stmt:=top 22
abbrev zb:Stmt:=top 23
abbrev kR:Stmt:=top 24
abbrev Yo:Stmt:=top 25
section
variable {P:Program} {w:World} {K:W.Frag} {mg:Str→Option Value} {base:Heap}
theorem jeZ {f:Addr} {fd:FuncData} (F:Fun K "room" "room" Yo f fd) (B:Free0 mg):FnOk P w K mg base CX0 1 f fd ["steps"] YY:=by
 have sc:FnScope ["steps"] ["steps"] (jf Yo):=fs
 refine F.ok sc (fun vs H Q E h=>?_) (fun cdv A outer s H vs Q E hr h=>?_)
 ·obtain ⟨sl,ss,rfl,_⟩:=h
  rfl
 obtain ⟨sl,ss,rfl,hs,hl,q⟩:=h
 refine ⟨_,(jn (kS (yK PySem.F.plainAttrs_list PySem.F.slot_list_append PySem.F.type_list_append kN (pv 0) (jt jdx jp)))
   (jB (kh (jx qt (Jh kf (by rfl) B.len_ zx (jt (pv 0) jp)) jm)))),?_⟩
 refine ⟨_,rfl,.inl ⟨rfl,_,SqL.of hs⟩,sl,_,_,rfl,rfl,hs,jz (by omega),?_⟩
 refine ⟨_,rfl,sl,_,rfl,.inl (SqL.of ja),_,_,rfl,rfl,?_⟩
 show Q (.int ((((ss++[V.non]).length:Nat):Int) - 1)) _
 rw [show ((((ss++[V.non]).length:Nat):Int) - 1)=(ss.length:Int) by rw [List.length_append,List.length_singleton];omega]
 exact q
theorem JN {k f':Nat} {f:Addr} {fd:FuncData} (F:Fun K "lay_body" "lay_body" qQ f fd) (B:Free0 mg) (Z_enumerate:mg "enumerate" = none) (F_lay_if:Fn P w K mg base k "lay_if" ["steps","statement","path"] (Jt "if" f')) (F_lay_while:Fn P w K mg base k "lay_while" ["steps","statement","path"] (Jt "while" f')):FnOk P w K mg base CX0 (k+1) f fd ["steps","body","around"] (Kj f'):=by
 have sc:FnScope ["steps","body","around","k","statement","path"] ["steps","body","around"] (jf qQ):=fs
 refine F.ok sc (fun vs H Q E h=>?_) (fun cdv A outer s H vs Q E hr h=>?_)
 ·obtain ⟨sl,vb,va,ss,os,body,ar,rfl,_⟩:=h
  rfl
 obtain ⟨sl,vb,va,ss,os,body,ar,rfl,hs,hO,hb,ha,hfit,hlen,har,q⟩:=h
 refine ⟨_,(jB (zZ PassesOwn.never rfl (ZT (by rfl) Z_enumerate (jt (pv 1) jp)) (qS rfl (jR (jO (i:=3) sc.nd rfl ol) (jR (jO (i:=4) sc.nd rfl ol) qo))) (jn (jT (i:=5) sc.nd rfl ol (jx zT (pv 2) (ku (jt (pv 3) jp))))
   (jB (qX (kB kZ (kF jS (pv 4) jm (fun _ _=>rfl)) kJ (jJ _)) (jB (kS (kO F_lay_if hr (jt (pv 0) (jt (pv 4) (jt (pv 5) jp))) (hk:=Nat.le_refl _)))) (jB (qX (kB kZ (kF jS (pv 4) jm (fun _ _=>rfl)) kJ (jJ _)) (jB (kS (kO F_lay_while hr (jt (pv 0) (jt (pv 4) (jt (pv 5) jp))) (hk:=Nat.le_refl _)))) (jB (kS (yK PySem.F.plainAttrs_list PySem.F.slot_list_append PySem.F.type_list_append kN (pv 0) (jt (ku (jt kJ (jt (pv 4) (jt (pv 5) jp)))) jp))))))))))),?_⟩
 obtain ⟨ba,bs,rfl,eb,hbs⟩:=(show ∃ a xs,vb=.ref a∧H a=some (.tup xs)∧HeldL H body xs by unfold Held at hb;exact hb)
 obtain ⟨pa,rfl,epa⟩:=JA ha
 have hbl:=hbs.length
 refine ⟨_,rfl,ba,rfl,⟨_,SqT.of eb⟩,?_⟩
 refine YG (xs:=bs) (fun i σ G=>∃ (u3 u4 u5:Option V) (ss':List V),σ=[some (.ref sl),some (.ref ba),some (.ref pa),u3,u4,u5]∧(∀ b o,b≠sl→H b=some o→G b=some o)∧G sl=some (.lst ss')∧SO G (os++(kD (kT f') os.length (body.take i) ar 0).map some) ss') ⟨none,none,none,ss,rfl,fun b o _ e=>e,hs,by rw [List.take_zero];unfold kD;rw [List.map_nil,List.append_nil];exact hO⟩ ?_ ?_ ?_
 ·rintro i σ G _ ⟨u3,u4,u5,ss',rfl,kG,_⟩
  exact SqT.of (kG _ _ (j4 eb hs (by intro z;cases z)) eb)
 ·rintro i y σ G t hy ⟨u3,u4,u5,ss',rfl,kG,eS,hSO⟩ ht
  have hi:i < body.length:=by have:=(List.getElem?_eq_some_iff.mp hy).1;omega
  have hst:body[i]?=some body[i]:=List.getElem?_eq_getElem hi
  have hF:=hfit _ (List.getElem_mem hi)
  obtain ⟨y',hy',hyH⟩:=hbs.get hst
  rw [hy] at hy'
  cases hy'
  have htake:=ZG hst
  have hle:=Ze (S:=kT f') (n:=os.length) (ar:=ar) hst
  generalize body[i]=st at *
  obtain ⟨kd,r,rfl⟩:=jd6 hF
  have s1:=jj ht (.tup [V.int i,y])
  have tkG:TK H G:=fun b xs e=>kG _ _ (j4 e hs (by intro z;cases z)) e
  have e1:upd G t (.tup [V.int i,y]) t=some (.tup [V.int i,y]):=ja
  have eS1:=s1 _ _ eS
  have hy1:=(tkG.held hyH).mono s1
  have hSO1:=hSO.tk (TK.same s1)
  have hpa1:=s1 _ _ (tkG _ _ epa)
  have k1:∀ b o,b≠sl→H b=some o→upd G t (.tup [V.int i,y]) b=some o:=fun b o hb e=>s1 _ _ (kG b o hb e)
  generalize upd G t (.tup [V.int i,y])=G1 at *
  obtain ⟨ya,xs,rfl,eya,hr'⟩:=JG hy1
  refine ⟨t,_,rfl,SqT.of e1,rfl,_,_,rfl,_,_,rfl,rfl,?_⟩
  refine ⟨_,rfl,_,rfl,sm rfl,fun c hc=>?_⟩
  have s2:=jj hc (.tup [V.int i])
  have e2:upd G1 c (.tup [V.int i]) c=some (.tup [V.int i]):=ja
  generalize upd G1 c (.tup [V.int i])=G2 at *
  refine ⟨pa,c,_,_,rfl,rfl,s2 _ _ hpa1,e2,yo (by rw [List.length_map,List.length_singleton];omega),fun pp G3 s3 epp=>?_⟩
  have s13:=s2.trans s3
  have hpp:Held G3 (qw (ar++[(i:Int)])) (.ref pp):=qC (by rw [List.map_append];exact epp)
  have eya3:=s13 _ _ eya
  have eS3:=s13 _ _ eS1
  have hst3:=hy1.mono s13
  have hSO3:=hSO1.tk (TK.same s13)
  have k3:∀ b o,b≠sl→H b=some o→G3 b=some o:=fun b o hb e=>s13 _ _ (k1 b o hb e)
  have hl3:(os++(kD (kT f') os.length (body.take i) ar 0).map some).length=os.length+(kD (kT f') os.length (body.take i) ar 0).length:=by rw [List.length_append,List.length_map]
  clear s1 s2 s3 s13 e1 e2 eS1 hy1 hSO1 hpa1 k1 hr' eya epp
  have fin:∀ G4 ss4,(∀ b o,b≠sl→G3 b=some o→G4 b=some o)→G4 sl=some (.lst ss4)→SO G4 ((os++(kD (kT f') os.length (body.take i) ar 0).map some)++(kT f' (os++(kD (kT f') os.length (body.take i) ar 0).map some).length (.tup (.str kd :: r)) (ar++[(i:Int)])).map some) ss4→∀ σ,σ=[some (.ref sl),some (.ref ba),some (.ref pa),some (.int i),some (.ref ya),some (.ref pp)]→∃ (u3 u4 u5:Option V) (ss':List V),σ=[some (.ref sl),some (.ref ba),some (.ref pa),u3,u4,u5]∧(∀ b o,b≠sl→H b=some o→G4 b=some o)∧G4 sl=some (.lst ss')∧SO G4 (os++(kD (kT f') os.length (body.take (i+1)) ar 0).map some) ss':=by
   intro G4 ss4 k4 e4 h4 σ hσ
   refine ⟨_,_,_,ss4,hσ,fun b o hb e=>k4 b o hb (k3 b o hb e),e4,?_⟩
   rw [htake,Ji,Z6,List.map_append,← List.append_assoc,Nat.zero_add,List.length_take,Nat.min_eq_left (by omega)]
   rw [hl3] at h4
   exact h4
  refine ⟨_,rfl,ya,_,_,_,rfl,rfl,SqT.of eya3,jbY,rfl,_,rfl,j9 (fun d=>?_) (fun d=>?_)⟩
  ·have hk:kd = "if":=by have:=of_decide_eq_true d;injection this
   subst hk
   refine ⟨_,rfl,_,rfl,_,rfl,sl,_,_,ss',_,_,r,ar++[(i:Int)],rfl,rfl,eS3,hSO3,hst3,hpp,hF,by rw [hl3];omega,by rw [List.length_append,List.length_singleton];omega,fun G4 ss4 k4 e4 h4=>?_⟩
   exact fin G4 ss4 k4 e4 h4 _ rfl
  ·have hk1:kd≠"if":=fun e=>d (decide_eq_true (by rw [e]))
   refine ⟨_,rfl,ya,_,_,_,rfl,rfl,SqT.of eya3,jbY,rfl,_,rfl,j9 (fun d=>?_) (fun d=>?_)⟩
   ·have hk:kd = "while":=by have:=of_decide_eq_true d;injection this
    subst hk
    refine ⟨_,rfl,_,rfl,_,rfl,sl,_,_,ss',_,_,r,ar++[(i:Int)],rfl,rfl,eS3,hSO3,hst3,hpp,hF,by rw [hl3];omega,by rw [List.length_append,List.length_singleton];omega,fun G4 ss4 k4 e4 h4=>?_⟩
    exact fin G4 ss4 k4 e4 h4 _ rfl
   ·have hk2:kd≠"while":=fun e=>d (decide_eq_true (by rw [e]))
    obtain ⟨f'',rfl⟩:∃ f'',f'=f''+1:=by
     cases f' with
     | zero=>exact hF.elim
     | succ f''=>exact ⟨f'',rfl⟩
    refine ⟨_,rfl,.inl ⟨rfl,_,SqL.of eS3⟩,_,rfl,_,rfl,sm rfl,fun nw hnw=>?_⟩
    have s4:=jj hnw (.tup [V.str "do",V.ref ya,V.ref pp])
    have e4:upd G3 nw (.tup [V.str "do",V.ref ya,V.ref pp]) nw=some (.tup [V.str "do",V.ref ya,V.ref pp]):=ja
    have eS4:=s4 _ _ eS3
    have hst4:=hst3.mono s4
    have hpp4:=hpp.mono s4
    have hSO4:=hSO3.tk (TK.same s4)
    have hll:=hSO3.length
    generalize upd G3 nw (.tup [V.str "do",V.ref ya,V.ref pp])=G4 at *
    refine ⟨sl,_,_,rfl,rfl,eS4,jz (by omega),?_⟩
    have tk5:TK G4 (upd G4 sl (.lst (ss'++[.ref nw]))):=TK.upd eS4 (fun _ z=>by cases z)
    refine fin _ (ss'++[.ref nw]) (fun b o hb e=>by rw [jg hb];exact s4 _ _ e) ja ?_ _ rfl
    rw [jbH hk1 hk2]
    refine (hSO4.tk tk5).append (.tree ?_ .nil)
    exact jQ (tk5 _ _ e4) (ji jA (ji (tk5.held hst4) (ji (tk5.held hpp4) jy)))
 ·rintro σ G ⟨u3,u4,u5,ss',rfl,kG,eS,hSO⟩
  rw [← hbl,List.take_length] at hSO
  exact q G ss' kG eS hSO
end
open PySem L2
section
variable {P:Program} {w:World} {K:W.Frag} {mg:Str→Option Value} {base:Heap}
theorem jcq {k f':Nat} {f:Addr} {fd:FuncData} (F:Fun K "lay_if" "lay_if" zb f fd) (B:Free0 mg) (hk1:1≤k) (F_room:Fn P w K mg base 1 "room" ["steps"] YY) (F_lay_body:Fn P w K mg base k "lay_body" ["steps","body","around"] (Kj f')):FnOk P w K mg base CX0 (k+1) f fd ["steps","statement","path"] (Jt "if" (f'+1)):=by
 have sc:FnScope ["steps","statement","path","least","body","other","ask","go"] ["steps","statement","path"] (jf zb):=fs
 refine F.ok sc (fun vs H Q E h=>?_) (fun cdv A outer s H vs Q E hr h=>?_)
 ·obtain ⟨sl,vb,va,ss,os,st,r,p,rfl,_⟩:=h
  rfl
 obtain ⟨sl,vb,va,ss,os,st,r,p,rfl,rfl,hs,hO,hb,ha,hF,hlen,hp,q⟩:=h
 obtain ⟨least,b,o,rfl,hfb,hfo⟩:=jgw hF
 rw [jbG] at hlen q
 obtain ⟨sa,xs,rfl,esa,hxs⟩:=JG hb
 obtain ⟨vl,vb,vo,rfl,hl,hvb,hvo⟩:=jfJ hxs
 obtain ⟨pa,rfl,epa⟩:=JA ha
 refine ⟨_,(jn (zq (zS zj (pv 1) (yD jm) yE) (qS rfl (jR (jO (i:=3) sc.nd rfl ol) (jR (jO (i:=4) sc.nd rfl ol) (jR (jO (i:=5) sc.nd rfl ol) qo)))))
   (jn (jT (i:=6) sc.nd rfl ol (kO F_room hr (jt (pv 0) jp) (hk:=hk1)))
   (jn (kS (kO F_lay_body hr (jt (pv 0) (jt (pv 4) (jt (jx zT (pv 2) (ku (jt jm jp))) jp))) (hk:=Nat.le_refl _)))
   (jn (jT (i:=7) sc.nd rfl ol (kO F_room hr (jt (pv 0) jp) (hk:=hk1)))
   (jn (kS (kO F_lay_body hr (jt (pv 0) (jt (pv 5) (jt (jx zT (pv 2) (ku (jt jm jp))) jp))) (hk:=Nat.le_refl _)))
   (jn (zq (ku (jt kJ (jt (pv 3) (jt (ku jp) (jt kJ (jt (pv 2) (jt (jx j6 (pv 6) jm) (jt (jx j6 (pv 7) jm) jp)))))))) (Kq (pv 0) (pv 6) zL))
   (jB (zq (ku (jt kJ (jt (Jh kf (by rfl) B.len_ zx (jt (pv 0) jp)) jp))) (Kq (pv 0) (pv 7) zL))))))))),?_⟩
 have hos:=hO.length
 refine ⟨_,rfl,_,rfl,sa,_,rfl,SqT.of esa,(fun h=>absurd h.1 (by show ¬ (HT.sIx 4 0 (some 1)=0);decide)),fun t ht=>?_⟩
 rw [show qZ [V.str "if",vl,vb,vo] (some 1) none=[vl,vb,vo] from rfl]
 have s1:=jj ht (.tup [vl,vb,vo])
 have e1:upd H t (.tup [vl,vb,vo]) t=some (.tup [vl,vb,vo]):=ja
 have eS1:=s1 _ _ hs
 have hO1:=hO.tk (TK.same s1)
 have epa1:=s1 _ _ epa
 have hl1:=hl.mono s1
 have hvb1:=hvb.mono s1
 have hvo1:=hvo.mono s1
 have k1:∀ b o,b≠sl→H b=some o→upd H t (.tup [vl,vb,vo]) b=some o:=fun b o _ e=>s1 _ _ e
 generalize upd H t (.tup [vl,vb,vo])=H1 at *
 clear s1
 refine ⟨t,_,rfl,SqT.of e1,rfl,_,_,rfl,_,_,rfl,_,_,rfl,rfl,?_⟩
 clear e1
 refine ⟨_,rfl,sl,ss,rfl,eS1,by omega,?_⟩
 have tk2:TK H1 (upd H1 sl (.lst (ss++[.non]))):=TK.upd eS1 (fun _ z=>by cases z)
 have eS2:upd H1 sl (.lst (ss++[.non])) sl=some (.lst (ss++[.non])):=ja
 have k2:∀ b o,b≠sl→H b=some o→upd H1 sl (.lst (ss++[.non])) b=some o:=fun b o hb e=>by rw [jg hb];exact k1 b o hb e
 have hO2:=(hO1.tk tk2).append (.non .nil)
 have epa2:=tk2 _ _ epa1
 have hl2:=tk2.held hl1
 have hvb2:=tk2.held hvb1
 have hvo2:=tk2.held hvo1
 generalize upd H1 sl (.lst (ss++[.non]))=H2 at *
 clear tk2 eS1 hO1 epa1 hl1 hvb1 hvo1 k1
 refine ⟨_,rfl,_,rfl,_,rfl,sm rfl,fun c hc=>?_⟩
 have s3:=jj hc (.tup [V.int 0])
 have e3:upd H2 c (.tup [V.int 0]) c=some (.tup [V.int 0]):=ja
 generalize upd H2 c (.tup [V.int 0])=H3 at *
 refine ⟨pa,c,_,_,rfl,rfl,s3 _ _ epa2,e3,yo (by rw [List.length_map,List.length_singleton];omega),fun pp H4 s4 epp=>?_⟩
 have s24:=s3.trans s4
 have hpp:Held H4 (qw (p++[0])) (.ref pp):=qC (by rw [List.map_append];exact epp)
 have hlo:(os++[none]).length=os.length+1:=by rw [List.length_append,List.length_singleton]
 have hlif:(Yy (kT f') os.length least b o p).length=1+(kD (kT f') (os.length+1) b (p++[0]) 0).length+1+(kD (kT f') (os.length+1+(kD (kT f') (os.length+1) b (p++[0]) 0).length+1) o (p++[1]) 0).length:=by
  unfold Yy
  rw [List.length_append,List.length_cons,List.length_cons]
  omega
 refine ⟨sl,_,_,ss++[.non],os++[none],b,p++[0],rfl,s24 _ _ eS2,hO2.tk (TK.same s24),hvb2.mono s24,hpp,hfb,by rw [hlo];omega,by rw [List.length_append,List.length_singleton];omega,fun H5 ss5 k5 eS5 hO5=>?_⟩
 rw [hlo] at hO5
 have k5':∀ b o,b≠sl→H2 b=some o→H5 b=some o:=fun b o hb e=>k5 b o hb (s24 _ _ e)
 have tk5:TK H2 H5:=fun b xs e=>k5' b _ (j4 e eS2 (by intro z;cases z)) e
 have kH5:∀ b o,b≠sl→H b=some o→H5 b=some o:=fun b o hb e=>k5' b o hb (k2 b o hb e)
 have epa5:=tk5 _ _ epa2
 have hl5:=tk5.held hl2
 have hvo5:=tk5.held hvo2
 clear s3 s4 s24 e3 hpp epp k5 k5' tk5 hO2 eS2 epa2 hl2 hvb2 hvo2 k2 hc
 generalize hB:kD (kT f') (os.length+1) b (p++[0]) 0=Bs at *
 have hl5n:=hO5.length
 rw [List.length_append,hlo,List.length_map] at hl5n
 refine ⟨_,rfl,sl,ss5,rfl,eS5,by omega,?_⟩
 have tk6:TK H5 (upd H5 sl (.lst (ss5++[.non]))):=TK.upd eS5 (fun _ z=>by cases z)
 have eS6:upd H5 sl (.lst (ss5++[.non])) sl=some (.lst (ss5++[.non])):=ja
 have k6:∀ b o,b≠sl→H b=some o→upd H5 sl (.lst (ss5++[.non])) b=some o:=fun b o hb e=>by rw [jg hb];exact kH5 b o hb e
 have hO6:=(hO5.tk tk6).append (.non .nil)
 have epa6:=tk6 _ _ epa5
 have hl6:=tk6.held hl5
 have hvo6:=tk6.held hvo5
 generalize upd H5 sl (.lst (ss5++[.non]))=H6 at *
 clear tk6 eS5 hO5 epa5 hl5 hvo5 kH5
 refine ⟨_,rfl,_,rfl,_,rfl,sm rfl,fun c hc=>?_⟩
 have s7:=jj hc (.tup [V.int 1])
 have e7:upd H6 c (.tup [V.int 1]) c=some (.tup [V.int 1]):=ja
 generalize upd H6 c (.tup [V.int 1])=H7 at *
 refine ⟨pa,c,_,_,rfl,rfl,s7 _ _ epa6,e7,yo (by rw [List.length_map,List.length_singleton];omega),fun pp H8 s8 epp=>?_⟩
 have s68:=s7.trans s8
 have hpp:Held H8 (qw (p++[1])) (.ref pp):=qC (by rw [List.map_append];exact epp)
 have hlo2:(os++[none]++Bs.map some++[none]).length=os.length+1+Bs.length+1:=by rw [List.length_append,List.length_append,hlo,List.length_map,List.length_singleton]
 refine ⟨sl,_,_,ss5++[.non],os++[none]++Bs.map some++[none],o,p++[1],rfl,s68 _ _ eS6,hO6.tk (TK.same s68),hvo6.mono s68,hpp,hfo,by rw [hlo2];omega,by rw [List.length_append,List.length_singleton];omega,fun H9 ss9 k9 eS9 hO9=>?_⟩
 rw [hlo2] at hO9
 have k9':∀ b o,b≠sl→H6 b=some o→H9 b=some o:=fun b o hb e=>k9 b o hb (s68 _ _ e)
 have tk9:TK H6 H9:=fun b xs e=>k9' b _ (j4 e eS6 (by intro z;cases z)) e
 have kH9:∀ b o,b≠sl→H b=some o→H9 b=some o:=fun b o hb e=>k9' b o hb (k6 b o hb e)
 have epa9:=tk9 _ _ epa6
 have hl9:=tk9.held hl6
 clear s7 s8 s68 e7 hpp epp k9 k9' tk9 hO6 eS6 epa6 hl6 hvo6 k6 hc
 generalize hOs:kD (kT f') (os.length+1+Bs.length+1) o (p++[1]) 0=Os at *
 have hl9n:=hO9.length
 rw [List.length_append,hlo2,List.length_map] at hl9n
 refine ⟨_,rfl,sm rfl,fun e he=>?_⟩
 have sa1:=jj he (.tup [])
 have ee:upd H9 e (.tup []) e=some (.tup []):=ja
 generalize upd H9 e (.tup [])=G1 at *
 refine ⟨_,rfl,_,rfl,_,_,rfl,rfl,_,rfl,_,_,rfl,rfl,sm rfl,fun nw hnw=>?_⟩
 have sa2:=jj hnw (.tup [V.str "ask",vl,.ref e,V.str "",.ref pa,V.int (ss.length+1),V.int (ss5.length+1)])
 have en:upd G1 nw (.tup [V.str "ask",vl,.ref e,V.str "",.ref pa,V.int (ss.length+1),V.int (ss5.length+1)]) nw=some (.tup [V.str "ask",vl,.ref e,V.str "",.ref pa,V.int (ss.length+1),V.int (ss5.length+1)]):=ja
 generalize upd G1 nw (.tup [V.str "ask",vl,.ref e,V.str "",.ref pa,V.int (ss.length+1),V.int (ss5.length+1)])=G2 at *
 have s92:=sa1.trans sa2
 have eS2:=s92 _ _ eS9
 refine ⟨_,rfl,_,rfl,sl,_,_,ss.length,rfl,rfl,eS2,KF (by omega),?_⟩
 have hask:Held G2 (Zx least (.tup []) "" p (os.length+1) (os.length+1+Bs.length+1)) (.ref nw):=by
  refine jQ en (ji jA (ji (hl9.mono s92) (ji (jQ (sa2 _ _ ee) jy) (ji jA (ji (qC (s92 _ _ epa9)) (ji ?_ (ji ?_ jy)))))))
  ·rw [hos];exact jM
  ·rw [hl5n];exact jM
 have tk3:TK G2 (upd G2 sl (.lst (ss9.set ss.length (.ref nw)))):=TK.upd eS2 (fun _ z=>by cases z)
 have eS3:upd G2 sl (.lst (ss9.set ss.length (.ref nw))) sl=some (.lst (ss9.set ss.length (.ref nw))):=ja
 have k3:∀ b o,b≠sl→H b=some o→upd G2 sl (.lst (ss9.set ss.length (.ref nw))) b=some o:=fun b o hb z=>by rw [jg hb];exact s92 _ _ (kH9 b o hb z)
 have hO3:=((hO9.tk (TK.same s92)).tk tk3).set (tk3.held hask) ss.length
 generalize upd G2 sl (.lst (ss9.set ss.length (.ref nw)))=G3 at *
 clear sa1 sa2 s92 ee en eS2 hask tk3 hO9 eS9 kH9 hl9 epa9
 refine ⟨_,rfl,sl,_,rfl,.inl (SqL.of eS3),sm rfl,fun nw2 hnw2=>?_⟩
 rw [List.length_set]
 have sa4:=jj hnw2 (.tup [V.str "go",V.int ss9.length])
 have en4:upd G3 nw2 (.tup [V.str "go",V.int ss9.length]) nw2=some (.tup [V.str "go",V.int ss9.length]):=ja
 generalize upd G3 nw2 (.tup [V.str "go",V.int ss9.length])=G4 at *
 have eS4:=sa4 _ _ eS3
 refine ⟨_,rfl,_,rfl,sl,_,_,ss5.length,rfl,rfl,eS4,KF (by rw [List.length_set];omega),?_⟩
 have tk5:TK G4 (upd G4 sl (.lst ((ss9.set ss.length (.ref nw)).set ss5.length (.ref nw2)))):=TK.upd eS4 (fun _ z=>by cases z)
 have hgo:Held G4 (.tup [.str "go",.int ((os.length+1+Bs.length+1+Os.length:Nat):Int)]) (.ref nw2):=jQ en4 (ji jA (ji (by rw [hl9n];exact jM) jy))
 have hO5:=((hO3.tk (TK.same sa4)).tk tk5).set (tk5.held hgo) ss5.length
 refine q _ _ (fun b o hb z=>?_) ja ?_
 ·rw [jg hb];exact sa4 _ _ (k3 b o hb z)
 ·unfold Yy
  rw [hB]
  dsimp only
  rw [hOs]
  have e1:os++[none]++Bs.map some++[none]++Os.map some=os++none :: (Bs.map some++none :: Os.map some):=by simp
  rw [e1,J1 hos.symm] at hO5
  have e2:∀ x:Option D,os++x :: (Bs.map some++none :: Os.map some)=(os++x :: Bs.map some)++none :: Os.map some:=fun x=>by simp
  rw [e2,J1 (by rw [List.length_append,List.length_cons,List.length_map];omega)] at hO5
  rw [List.map_append,List.map_cons,List.map_cons,← List.append_assoc]
  exact hO5
end
open PySem L2
section
variable {P:Program} {w:World} {K:W.Frag} {mg:Str→Option Value} {base:Heap}
theorem Y4 {k f':Nat} {f:Addr} {fd:FuncData} (F:Fun K "lay_while" "lay_while" kR f fd) (B:Free0 mg) (hk1:1≤k) (F_room:Fn P w K mg base 1 "room" ["steps"] YY) (F_lay_body:Fn P w K mg base k "lay_body" ["steps","body","around"] (Kj f')):FnOk P w K mg base CX0 (k+1) f fd ["steps","statement","path"] (Jt "while" (f'+1)):=by
 have sc:FnScope ["steps","statement","path","least","keeps","body","enter","again"] ["steps","statement","path"] (jf kR):=fs
 refine F.ok sc (fun vs H Q E h=>?_) (fun cdv A outer s H vs Q E hr h=>?_)
 ·obtain ⟨sl,vb,va,ss,os,st,r,p,rfl,_⟩:=h
  rfl
 obtain ⟨sl,vb,va,ss,os,st,r,p,rfl,rfl,hs,hO,hb,ha,hF,hlen,hp,q⟩:=h
 obtain ⟨least,ks,b,rfl,hfb⟩:=jcM hF
 rw [jfa] at hlen q
 obtain ⟨sa,xs,rfl,esa,hxs⟩:=JG hb
 obtain ⟨vl,vk,vb,rfl,hl,hvk,hvb⟩:=jfJ hxs
 obtain ⟨pa,rfl,epa⟩:=JA ha
 refine ⟨_,(jn (zq (zS zj (pv 1) (yD jm) yE) (qS rfl (jR (jO (i:=3) sc.nd rfl ol) (jR (jO (i:=4) sc.nd rfl ol) (jR (jO (i:=5) sc.nd rfl ol) qo)))))
   (jn (kS (yK PySem.F.plainAttrs_list PySem.F.slot_list_append PySem.F.type_list_append kN (pv 0) (jt (ku (jt kJ jp)) jp)))
   (jn (jT (i:=6) sc.nd rfl ol (kO F_room hr (jt (pv 0) jp) (hk:=hk1)))
   (jn (kS (kO F_lay_body hr (jt (pv 0) (jt (pv 5) (jt (jx zT (pv 2) (ku (jt jm jp))) jp))) (hk:=Nat.le_refl _)))
   (jn (jT (i:=7) sc.nd rfl ol (kO F_room hr (jt (pv 0) jp) (hk:=hk1)))
   (jn (zq (ku (jt kJ (jt (pv 3) (jt (pv 4) (jt kJ (jt (pv 2) (jt (jx j6 (pv 6) jm) (jt (jx j6 (pv 7) jm) jp)))))))) (Kq (pv 0) (pv 6) zL))
   (jB (zq (ku (jt kJ (jt (pv 3) (jt (pv 4) (jt kJ (jt (pv 2) (jt (jx j6 (pv 6) jm) (jt (jx j6 (pv 7) jm) jp)))))))) (Kq (pv 0) (pv 7) zL))))))))),?_⟩
 have hos:=hO.length
 have h3:3≤(KC (kT f') os.length least (.tup ks) b p).length:=by
  unfold KC
  rw [List.length_append,List.length_cons,List.length_cons,List.length_singleton]
  omega
 refine ⟨_,rfl,_,rfl,sa,_,rfl,SqT.of esa,(fun h=>absurd h.1 (by show ¬ (HT.sIx 4 0 (some 1)=0);decide)),fun t ht=>?_⟩
 rw [show qZ [V.str "while",vl,vk,vb] (some 1) none=[vl,vk,vb] from rfl]
 have s1:=jj ht (.tup [vl,vk,vb])
 have e1:upd H t (.tup [vl,vk,vb]) t=some (.tup [vl,vk,vb]):=ja
 have eS1:=s1 _ _ hs
 have hO1:=hO.tk (TK.same s1)
 have epa1:=s1 _ _ epa
 have hl1:=hl.mono s1
 have hvk1:=hvk.mono s1
 have hvb1:=hvb.mono s1
 have k1:∀ b o,b≠sl→H b=some o→upd H t (.tup [vl,vk,vb]) b=some o:=fun b o _ e=>s1 _ _ e
 generalize upd H t (.tup [vl,vk,vb])=H1 at *
 clear s1
 refine ⟨t,_,rfl,SqT.of e1,rfl,_,_,rfl,_,_,rfl,_,_,rfl,rfl,?_⟩
 clear e1
 refine ⟨_,rfl,.inl ⟨rfl,_,SqL.of eS1⟩,sm rfl,fun cm hcm=>?_⟩
 have sc1:=jj hcm (.tup [V.str "come"])
 have ecm:upd H1 cm (.tup [V.str "come"]) cm=some (.tup [V.str "come"]):=ja
 generalize upd H1 cm (.tup [V.str "come"])=G1 at *
 have eSc:=sc1 _ _ eS1
 refine ⟨sl,_,_,rfl,rfl,eSc,jz (by omega),?_⟩
 have tkc:TK G1 (upd G1 sl (.lst (ss++[.ref cm]))):=TK.upd eSc (fun _ z=>by cases z)
 have tkc2:TK H1 (upd G1 sl (.lst (ss++[.ref cm]))):=(TK.same sc1).trans tkc
 have eS1':upd G1 sl (.lst (ss++[.ref cm])) sl=some (.lst (ss++[.ref cm])):=ja
 have k1':∀ b o,b≠sl→H b=some o→upd G1 sl (.lst (ss++[.ref cm])) b=some o:=fun b o hb e=>by rw [jg hb];exact sc1 _ _ (k1 b o hb e)
 have hO1':=(hO1.tk tkc2).append (.tree (jQ (tkc _ _ ecm) (ji (jA (x:="come")) jy)) .nil)
 have epa1':=tkc2 _ _ epa1
 have hl1':=tkc2.held hl1
 have hvk1':=tkc2.held hvk1
 have hvb1':=tkc2.held hvb1
 generalize upd G1 sl (.lst (ss++[.ref cm]))=G2 at *
 clear sc1 ecm eSc tkc tkc2 eS1 hO1 epa1 hl1 hvk1 hvb1 k1
 have hls1:(ss++[V.ref cm]).length=ss.length+1:=by rw [List.length_append,List.length_singleton]
 refine ⟨_,rfl,sl,_,rfl,eS1',by rw [hls1];omega,?_⟩
 have tk2:TK G2 (upd G2 sl (.lst (ss++[.ref cm]++[.non]))):=TK.upd eS1' (fun _ z=>by cases z)
 have eS2:upd G2 sl (.lst (ss++[.ref cm]++[.non])) sl=some (.lst (ss++[.ref cm]++[.non])):=ja
 have k2:∀ b o,b≠sl→H b=some o→upd G2 sl (.lst (ss++[.ref cm]++[.non])) b=some o:=fun b o hb e=>by rw [jg hb];exact k1' b o hb e
 have hO2:=(hO1'.tk tk2).append (.non .nil)
 have epa2:=tk2 _ _ epa1'
 have hl2:=tk2.held hl1'
 have hvk2:=tk2.held hvk1'
 have hvb2:=tk2.held hvb1'
 generalize upd G2 sl (.lst (ss++[.ref cm]++[.non]))=H2 at *
 clear tk2 eS1' hO1' epa1' hl1' hvk1' hvb1' k1'
 refine ⟨_,rfl,_,rfl,_,rfl,sm rfl,fun c hc=>?_⟩
 have s3:=jj hc (.tup [V.int 0])
 have e3:upd H2 c (.tup [V.int 0]) c=some (.tup [V.int 0]):=ja
 generalize upd H2 c (.tup [V.int 0])=H3 at *
 refine ⟨pa,c,_,_,rfl,rfl,s3 _ _ epa2,e3,yo (by rw [List.length_map,List.length_singleton];omega),fun pp H4 s4 epp=>?_⟩
 have s24:=s3.trans s4
 have hpp:Held H4 (qw (p++[0])) (.ref pp):=qC (by rw [List.map_append];exact epp)
 have hlo:(os++[some (D.tup [.str "come"])]++[none]).length=os.length+2:=by rw [List.length_append,List.length_append,List.length_singleton,List.length_singleton]
 have hlwh:(KC (kT f') os.length least (.tup ks) b p).length=2+(kD (kT f') (os.length+2) b (p++[0]) 0).length+1:=by
  unfold KC
  rw [List.length_append,List.length_cons,List.length_cons,List.length_singleton]
  omega
 refine ⟨sl,_,_,_,os++[some (D.tup [.str "come"])]++[none],b,p++[0],rfl,s24 _ _ eS2,hO2.tk (TK.same s24),hvb2.mono s24,hpp,hfb,by rw [hlo];omega,by rw [List.length_append,List.length_singleton];omega,fun H5 ss5 k5 eS5 hO5=>?_⟩
 rw [hlo] at hO5
 have k5':∀ b o,b≠sl→H2 b=some o→H5 b=some o:=fun b o hb e=>k5 b o hb (s24 _ _ e)
 have tk5:TK H2 H5:=fun b xs e=>k5' b _ (j4 e eS2 (by intro z;cases z)) e
 have kH5:∀ b o,b≠sl→H b=some o→H5 b=some o:=fun b o hb e=>k5' b o hb (k2 b o hb e)
 have epa5:=tk5 _ _ epa2
 have hl5:=tk5.held hl2
 have hvk5:=tk5.held hvk2
 clear s3 s4 s24 e3 hpp epp k5 k5' tk5 hO2 eS2 epa2 hl2 hvb2 hvk2 k2 hc
 generalize hB:kD (kT f') (os.length+2) b (p++[0]) 0=Bs at *
 have hl5n:=hO5.length
 rw [List.length_append,hlo,List.length_map] at hl5n
 refine ⟨_,rfl,sl,ss5,rfl,eS5,by omega,?_⟩
 have tk6:TK H5 (upd H5 sl (.lst (ss5++[V.non]))):=TK.upd eS5 (fun _ z=>by cases z)
 have eS9:upd H5 sl (.lst (ss5++[V.non])) sl=some (.lst (ss5++[V.non])):=ja
 have kH9:∀ b o,b≠sl→H b=some o→upd H5 sl (.lst (ss5++[V.non])) b=some o:=fun b o hb e=>by rw [jg hb];exact kH5 b o hb e
 have hO9:=(hO5.tk tk6).append (.non .nil)
 have epa9:=tk6 _ _ epa5
 have hl9:=tk6.held hl5
 have hvk9:=tk6.held hvk5
 generalize upd H5 sl (.lst (ss5++[V.non]))=H9 at *
 clear tk6 eS5 hO5 epa5 hl5 hvk5 kH5
 have hl9n:(ss5++[V.non]).length=ss5.length+1:=by rw [List.length_append,List.length_singleton]
 refine ⟨_,rfl,_,rfl,_,rfl,_,rfl,_,_,rfl,rfl,_,rfl,_,_,rfl,rfl,sm rfl,fun nw hnw=>?_⟩
 rw [hls1]
 have sa2:=jj hnw (.tup [V.str "ask",vl,vk,V.str "enter",.ref pa,V.int (((ss.length+1:Nat):Int)+1),V.int (ss5.length+1)])
 have en:upd H9 nw (.tup [V.str "ask",vl,vk,V.str "enter",.ref pa,V.int (((ss.length+1:Nat):Int)+1),V.int (ss5.length+1)]) nw=some (.tup [V.str "ask",vl,vk,V.str "enter",.ref pa,V.int (((ss.length+1:Nat):Int)+1),V.int (ss5.length+1)]):=ja
 generalize upd H9 nw (.tup [V.str "ask",vl,vk,V.str "enter",.ref pa,V.int (((ss.length+1:Nat):Int)+1),V.int (ss5.length+1)])=G2 at *
 have eS2:=sa2 _ _ eS9
 refine ⟨_,rfl,_,rfl,sl,_,_,ss.length+1,rfl,rfl,eS2,KF (by rw [hl9n];omega),?_⟩
 have hask:Held G2 (Zx least (.tup ks) "enter" p (os.length+2) (os.length+2+Bs.length+1)) (.ref nw):=by
  refine jQ en (ji jA (ji (hl9.mono sa2) (ji (hvk9.mono sa2) (ji jA (ji (qC (sa2 _ _ epa9)) (ji ?_ (ji ?_ jy)))))))
  ·rw [hos];exact jM
  ·rw [hl5n];exact jM
 have tk3:TK G2 (upd G2 sl (.lst ((ss5++[V.non]).set (ss.length+1) (.ref nw)))):=TK.upd eS2 (fun _ z=>by cases z)
 have eS3:upd G2 sl (.lst ((ss5++[V.non]).set (ss.length+1) (.ref nw))) sl=some (.lst ((ss5++[V.non]).set (ss.length+1) (.ref nw))):=ja
 have k3:∀ b o,b≠sl→H b=some o→upd G2 sl (.lst ((ss5++[V.non]).set (ss.length+1) (.ref nw))) b=some o:=fun b o hb z=>by rw [jg hb];exact sa2 _ _ (kH9 b o hb z)
 have hO3:=((hO9.tk (TK.same sa2)).tk tk3).set (tk3.held hask) (ss.length+1)
 have tk93:=(TK.same sa2).trans tk3
 have hl3:=tk93.held hl9
 have hvk3:=tk93.held hvk9
 have epa3:=tk93 _ _ epa9
 generalize upd G2 sl (.lst ((ss5++[V.non]).set (ss.length+1) (.ref nw)))=G3 at *
 clear sa2 en eS2 hask tk3 tk93 hO9 eS9 kH9 hl9 hvk9 epa9
 refine ⟨_,rfl,_,rfl,_,rfl,_,rfl,_,_,rfl,rfl,_,rfl,_,_,rfl,rfl,sm rfl,fun nw2 hnw2=>?_⟩
 have sa4:=jj hnw2 (.tup [V.str "ask",vl,vk,V.str "keep",.ref pa,V.int (((ss.length+1:Nat):Int)+1),V.int (ss5.length+1)])
 have en4:upd G3 nw2 (.tup [V.str "ask",vl,vk,V.str "keep",.ref pa,V.int (((ss.length+1:Nat):Int)+1),V.int (ss5.length+1)]) nw2=some (.tup [V.str "ask",vl,vk,V.str "keep",.ref pa,V.int (((ss.length+1:Nat):Int)+1),V.int (ss5.length+1)]):=ja
 generalize upd G3 nw2 (.tup [V.str "ask",vl,vk,V.str "keep",.ref pa,V.int (((ss.length+1:Nat):Int)+1),V.int (ss5.length+1)])=G4 at *
 have eS4:=sa4 _ _ eS3
 refine ⟨_,rfl,_,rfl,sl,_,_,ss5.length,rfl,rfl,eS4,KF (by rw [List.length_set,hl9n];omega),?_⟩
 have tk5:TK G4 (upd G4 sl (.lst (((ss5++[V.non]).set (ss.length+1) (.ref nw)).set ss5.length (.ref nw2)))):=TK.upd eS4 (fun _ z=>by cases z)
 have hkeep:Held G4 (Zx least (.tup ks) "keep" p (os.length+2) (os.length+2+Bs.length+1)) (.ref nw2):=by
  refine jQ en4 (ji jA (ji (hl3.mono sa4) (ji (hvk3.mono sa4) (ji jA (ji (qC (sa4 _ _ epa3)) (ji ?_ (ji ?_ jy)))))))
  ·rw [hos];exact jM
  ·rw [hl5n];exact jM
 have hO5:=((hO3.tk (TK.same sa4)).tk tk5).set (tk5.held hkeep) ss5.length
 refine q _ _ (fun b o hb z=>?_) ja ?_
 ·rw [jg hb];exact sa4 _ _ (k3 b o hb z)
 ·unfold KC
  rw [hB]
  dsimp only
  have e1:os++[some (D.tup [.str "come"])]++[none]++Bs.map some++[none]=(os++[some (D.tup [.str "come"])])++none :: (Bs.map some++[none]):=by simp
  have e2:∀ x:Option D,(os++[some (D.tup [.str "come"])])++x :: (Bs.map some++[none])=(os++some (D.tup [.str "come"]) :: x :: Bs.map some)++none :: []:=fun x=>by simp
  have eD:∀ x y:Option D,((os++[some (D.tup [.str "come"])]++[none]++Bs.map some++[none]).set (ss.length+1) x).set ss5.length y=(os++some (D.tup [.str "come"]) :: x :: Bs.map some)++y :: []:=fun x y=>by
   rw [e1,J1 (by rw [List.length_append,List.length_singleton];omega),e2,J1 (by rw [List.length_append,List.length_cons,List.length_cons,List.length_map];omega)]
  rw [eD] at hO5
  rw [List.map_append,List.map_cons,List.map_cons,← List.append_assoc]
  exact hO5
end
open PySem L2
section
variable {P:Program} {w:World} {K:W.Frag} {mg:Str→Option Value} {base:Heap}
theorem ZX {k f':Nat} {f:Addr} {fd:FuncData} (F:Fun K "steps_of" "steps_of" zc f fd) (F_lay_body:Fn P w K mg base k "lay_body" ["steps","body","around"] (Kj f')):FnOk P w K mg base CX0 (k+1) f fd ["proc"] (jbt f'):=by
 have sc:FnScope ["proc","steps"] ["proc"] (jf zc):=fs
 refine F.ok sc (fun vs H Q E h=>?_) (fun cdv A outer s H vs Q E hr h=>?_)
 ·obtain ⟨pr,x0,x1,x2,x3,x4,x5,vb,body,rfl,_⟩:=h
  rfl
 obtain ⟨pr,x0,x1,x2,x3,x4,x5,vb,body,rfl,epr,hb,hf,hlen,h2,q⟩:=h
 refine ⟨_,(jn (jT (i:=1) sc.nd rfl ol (zr jp))
   (jn (kS (kO F_lay_body hr (jt (pv 1) (jt (kF jS (pv 0) jm (fun _ _=>rfl)) (jt (ku jp) jp))) (hk:=Nat.le_refl _)))
   (jB (kh (pv 1))))),?_⟩
 refine ⟨sm rfl,fun sl hsl=>?_⟩
 have s1:=jj hsl (.lst [])
 have e1:upd H sl (.lst []) sl=some (.lst []):=ja
 generalize upd H sl (.lst [])=H1 at *
 refine ⟨_,rfl,_,rfl,pr,_,_,_,rfl,rfl,SqT.of (s1 _ _ epr),rfl,sm rfl,fun e he=>?_⟩
 have s2:=jj he (.tup [])
 have e2:upd H1 e (.tup []) e=some (.tup []):=ja
 generalize upd H1 e (.tup [])=H2 at *
 refine ⟨sl,_,_,[],[],body,[],rfl,s2 _ _ e1,.nil,(hb.mono s1).mono s2,qC e2,hf,by rw [List.length_nil,Nat.zero_add];exact hlen,by rw [List.length_nil,Nat.zero_add];exact h2,fun H3 ss k3 e3 h3=>?_⟩
 exact ⟨_,rfl,q sl ss H3 (fun b o z=>k3 b o (jl z hsl) (s2 _ _ (s1 _ _ z))) hsl e3 h3.heldL⟩
theorem jaW {f:Addr} {fd:FuncData} (F:Fun K "lay_if" "lay_if" zb f fd):FnOk P w K mg base CX0 1 f fd ["steps","statement","path"] (Jt "if" 0):=by
 have sc:FnScope ["steps","statement","path","least","body","other","ask","go"] ["steps","statement","path"] (jf zb):=fs
 refine F.ok sc (fun vs H Q E h=>?_) (fun cdv A outer s H vs Q E hr h=>?_)
 ·obtain ⟨sl,vb,va,ss,os,st,r,p,rfl,_⟩:=h
  rfl
 obtain ⟨sl,vb,va,ss,os,st,r,p,rfl,rfl,hs,hO,hb,ha,hF,_⟩:=h
 exact hF.elim
theorem K9 {f:Addr} {fd:FuncData} (F:Fun K "lay_while" "lay_while" kR f fd):FnOk P w K mg base CX0 1 f fd ["steps","statement","path"] (Jt "while" 0):=by
 have sc:FnScope ["steps","statement","path","least","keeps","body","enter","again"] ["steps","statement","path"] (jf kR):=fs
 refine F.ok sc (fun vs H Q E h=>?_) (fun cdv A outer s H vs Q E hr h=>?_)
 ·obtain ⟨sl,vb,va,ss,os,st,r,p,rfl,_⟩:=h
  rfl
 obtain ⟨sl,vb,va,ss,os,st,r,p,rfl,rfl,hs,hO,hb,ha,hF,_⟩:=h
 exact hF.elim
theorem JD {f1 f2 f3:Addr} {fd1 fd2 fd3:FuncData} (B:Free0 mg) (Z_enumerate:mg "enumerate" = none) (U1:Fun K "lay_body" "lay_body" qQ f1 fd1) (b1:Binds K fd1 ["steps","body","around"] []) (m1:mg "lay_body" = some (.ref f1))
  (U2:Fun K "lay_if" "lay_if" zb f2 fd2) (b2:Binds K fd2 ["steps","statement","path"] []) (m2:mg "lay_if" = some (.ref f2)) (U3:Fun K "lay_while" "lay_while" kR f3 fd3) (b3:Binds K fd3 ["steps","statement","path"] []) (m3:mg "lay_while" = some (.ref f3))
  (F_room:Fn P w K mg base 1 "room" ["steps"] YY):∀ n,Fn P w K mg base (2 * n+2) "lay_body" ["steps","body","around"] (Kj n)
 | 0=>Fn.mk' U1 b1 m1 (JN U1 B Z_enumerate (Fn.mk' U2 b2 m2 (jaW U2)) (Fn.mk' U3 b3 m3 (K9 U3)))
 | n+1=>Fn.mk' U1 b1 m1 (JN U1 B Z_enumerate (Fn.mk' U2 b2 m2 (jcq U2 B (by omega) F_room (JD B Z_enumerate U1 b1 m1 U2 b2 m2 U3 b3 m3 F_room n))) (Fn.mk' U3 b3 m3 (Y4 U3 B (by omega) F_room (JD B Z_enumerate U1 b1 m1 U2 b2 m2 U3 b3 m3 F_room n))))
end
open PySem L2
abbrev yz:Stmt:=top 1
abbrev Jy:Stmt:=top 2
abbrev zM:Stmt:=top 3
abbrev ql:Stmt:=top 4
section
variable {P:Program} {w:World} {K:W.Frag} {mg:Str→Option Value} {base:Heap}
theorem jdE {f:Addr} {fd:FuncData} (F:Fun K "steps_up_to" "steps_up_to" ql f fd) (B:Free0 mg):FnOk P w K mg base CX0 1 f fd ["steps","p"] (jaF K):=by
 have sc:FnScope ["steps","p","low","high","middle"] ["steps","p"] (jf ql):=fs
 refine F.ok sc (fun vs H Q E h=>?_) (fun cdv A outer s H vs Q E hr h=>?_)
 ·obtain ⟨b,p,qs,ps,rfl,_⟩:=h
  rfl
 obtain ⟨b,p,qs,ps,rfl,hb,hq,hR,hl,q⟩:=h
 refine ⟨_,(jn (jT (i:=2) sc.nd rfl ol jm)
   (jn (jT (i:=3) sc.nd rfl ol (Jh kf (by rfl) B.len_ zx (jt (pv 0) jp)))
   (jn (ZR PassesOwn.never (kB jbz (pv 2) (pv 3) (jJ _)) (jn (jT (i:=4) sc.nd rfl ol (jx kz (jx j6 (pv 2) (pv 3)) jm))
   (jB (qX (kB jbA (kF jS (kF jS (pv 0) (pv 4) (fun _ _=>rfl)) jm (fun _ _=>rfl)) (pv 1) (jJ _)) (jB (jT (i:=2) sc.nd rfl ol (jx j6 (pv 4) jm))) (jB (jT (i:=3) sc.nd rfl ol (pv 4)))))))
   (jB (kh (pv 2)))))),?_⟩
 refine ⟨_,rfl,b,_,rfl,.inr hb,?_⟩
 have hlen:=hq.1
 refine jc5 (fun σ H1=>∃ (lo hi:Nat) (v:Option V),σ=[some (.ref b),some (.int p),some (.int lo),some (.int hi),v]∧H1=H∧lo≤hi∧hi≤ps.length∧(∀ i (h:i < ps.length),i < lo→ps[i].1≤p)∧∀ i (h:i < ps.length),hi≤i→p < ps[i].1)
  (fun σ _=>match σ with | [_,_,some (.int lo),some (.int hi),_]=>(hi - lo).toNat | _=>0) ?_ ?_ ?_
 ·exact ⟨0,ps.length,none,by rw [hlen];rfl,rfl,Nat.zero_le _,Nat.le_refl _,fun i _ h=>by omega,fun i h h'=>by omega⟩
 ·rintro σ H1 ⟨lo,hi,v,rfl,rfl,h1,h2,h3,h4⟩
  refine ⟨_,rfl,_,rfl,_,_,rfl,rfl,_,rfl,?_⟩
  refine j9 (fun c=>?_) (fun c=>?_)
  ·have c':lo < hi:=by
    have:=of_decide_eq_true c
    omega
   have hm:(((lo:Int)+(hi:Int)) / 2)=(((lo+hi) / 2:Nat):Int):=by omega
   refine ⟨_,rfl,_,rfl,_,_,rfl,rfl,_,_,rfl,rfl,⟨by decide,by decide⟩,?_⟩
   dsimp only
   rw [hm]
   have hmid:(lo+hi) / 2 < ps.length:=by omega
   generalize hg:(lo+hi) / 2=mid at *
   obtain ⟨c1,e1,e2⟩:=hq.2 mid hmid
   refine ⟨_,rfl,_,rfl,b,_,_,_,rfl,rfl,hb,zD e1,c1,_,_,_,rfl,rfl,e2,rfl,_,rfl,_,_,rfl,rfl,_,rfl,?_⟩
   refine j9 (fun d=>?_) (fun d=>?_)
   ·have d':=of_decide_eq_true d
    refine ⟨_,rfl,_,_,rfl,rfl,⟨mid+1,hi,_,rfl,rfl,by omega,h2,fun i hi' hlt=>?_,h4⟩,?_⟩
    ·exact Int.le_trans (Yt hR hi' hmid (by omega)) d'
    ·show ((hi:Int) - ((mid:Int)+1)).toNat < ((hi:Int) - (lo:Int)).toNat
     omega
   ·have d':p < ps[mid].1:=by
     have:¬ ps[mid].1≤p:=fun z=>d (decide_eq_true z)
     omega
    refine ⟨_,rfl,⟨lo,mid,_,rfl,rfl,by omega,by omega,h3,fun i hi' hlt=>?_⟩,?_⟩
    ·exact Int.lt_of_lt_of_le d' (Yt hR hmid hi' hlt)
    ·show ((mid:Int) - (lo:Int)).toNat < ((hi:Int) - (lo:Int)).toNat
     omega
  ·have c':¬ lo < hi:=fun z=>c (decide_eq_true (by omega))
   refine ⟨_,rfl,q lo ⟨by omega,h3,fun i h h'=>h4 i h (by omega)⟩⟩
 ·intro σ H1 Q1 Q2 hm h
  obtain ⟨v1,e1,v2,e2,i,j,e3,e4,k,e5,h⟩:=h
  exact ⟨v1,e1,v2,e2,i,j,e3,e4,k,e5,hm _ _ h⟩
theorem jdI {f:Addr} {fd:FuncData} (F:Fun K "entry" "entry" Jy f fd) (F_steps_up_to:Fn P w K mg base 1 "steps_up_to" ["steps","p"] (jaF K)):FnOk P w K mg base CX0 2 f fd ["row","p"] (Y1 K):=by
 have sc:FnScope ["row","p","base","steps","count"] ["row","p"] (jf Jy):=fs
 refine F.ok sc (fun vs H Q E h=>?_) (fun cdv A outer s H vs Q E hr h=>?_)
 ·obtain ⟨v,p,r,rfl,_⟩:=h
  rfl
 obtain ⟨v,p,r,rfl,hv,⟨hR,hl⟩,q⟩:=h
 obtain ⟨a,b,qs,rfl,ha,hb,hq⟩:=hv.ex
 refine ⟨_,(jn (zq (pv 0) (qS rfl (jR (jO (i:=2) sc.nd rfl ol) (jR (jO (i:=3) sc.nd rfl ol) qo))))
   (jn (jT (i:=4) sc.nd rfl ol (kO F_steps_up_to hr (jt (pv 3) (jt (pv 1) jp))))
   (jn (qX (kB kZ (pv 4) jm (jJ _)) (jB (kh (pv 2))) qf)
   (jB (kh (kF jS (kF jS (pv 3) (jx qt (pv 4) jm) (fun _ _=>rfl)) jm (fun _ _=>rfl))))))),?_⟩
 refine ⟨_,rfl,a,_,rfl,ha,rfl,_,_,rfl,_,_,rfl,rfl,?_⟩
 refine ⟨_,rfl,_,rfl,b,p,qs,r.2,rfl,hb,hq,hR,hl,fun c hc=>?_⟩
 rw [jd2 hc] at q
 refine ⟨_,rfl,rfl,_,rfl,j9 (fun d=>?_) (fun d=>?_)⟩
 ·have d':c=0:=by
   have:=of_decide_eq_true d
   injection this with this
   omega
  rw [if_pos d'] at q
  exact ⟨_,rfl,q⟩
 ·have d':¬ c=0:=fun z=>d (decide_eq_true (by rw [z];rfl))
  rw [if_neg d'] at q
  have hlt:c - 1 < r.2.length:=by have:=hc.1;omega
  obtain ⟨c1,e1,e2⟩:=hq.2 (c - 1) hlt
  have ei:((c:Int) - 1)=((c - 1:Nat):Int):=by omega
  rw [List.getD_eq_getElem?_getD,List.getElem?_eq_getElem hlt] at q
  refine ⟨_,rfl,_,rfl,_,_,rfl,rfl,b,_,_,_,rfl,rfl,hb,(by rw [ei];exact zD e1),c1,_,_,_,rfl,rfl,e2,rfl,?_⟩
  exact q
theorem jco {f:Addr} {fd:FuncData} (F:Fun K "stairs" "stairs" yz f fd) (B:Free0 mg):FnOk P w K mg base CX0 1 f fd ["base","pairs"] (ZI K):=by
 have sc:FnScope ["base","pairs","steps","ahead","place","value"] ["base","pairs"] (jf yz):=fs
 refine F.ok sc (fun vs H Q E h=>?_) (fun cdv A outer s H vs Q E hr h=>?_)
 ·obtain ⟨b,p,qs,ps,rfl,_⟩:=h
  rfl
 obtain ⟨b,p,qs2,ps2,rfl,hp,hq,hR,h64,q⟩:=h
 refine ⟨_,(jn (jT (i:=2) sc.nd rfl ol (zr jp))
   (jn (jT (i:=3) sc.nd rfl ol (pv 0))
   (jn (zZ PassesOwn.never rfl (J2 (Jh yY (by rfl) B.sorted_ YK (jt (pv 1) jp))) (qS rfl (jR (jO (i:=4) sc.nd rfl ol) (jR (jO (i:=5) sc.nd rfl ol) qo))) (jB (qX (kB jfF (pv 5) (pv 3) (jJ _)) (jn (kS (yK PySem.F.plainAttrs_list PySem.F.slot_list_append PySem.F.type_list_append kN (pv 2) (jt (ku (jt (pv 4) (jt (pv 5) jp))) jp)))
   (jB (jT (i:=3) sc.nd rfl ol (pv 5)))) qf)))
   (jB (kh (ku (jt (pv 0) (jt (Jg qy (by rfl) B.tuple_ zW (jt (pv 2) jp)) jp)))))))),?_⟩
 refine ⟨sm rfl,fun l hl=>?_⟩
 have s1:=jj hl (.lst [])
 have e1:upd H l (.lst []) l=some (.lst []):=ja
 generalize upd H l (.lst [])=H1 at *
 refine ⟨_,rfl,?_⟩
 refine ⟨_,rfl,p,qs2,ps2,rfl,s1.seq hp,hq.mono s1,hR,h64,fun l2 hl2=>?_⟩
 have hq2:=hq.mono s1
 have s2:=jj hl2 (.lst qs2)
 have e2:upd H1 l2 (.lst qs2) l2=some (.lst qs2):=ja
 have nll:l2≠l:=(jl e1 hl2).symm
 have hq3:=hq2.mono s2
 generalize upd H1 l2 (.lst qs2)=H2 at *
 have hl0:H2 l=some (.lst []):=s2 _ _ e1
 have s12:=s1.trans s2
 have hlen:=hq3.1
 refine ⟨l2,rfl,⟨_,SqL.of e2⟩,jac (xs:=qs2) (fun i σ G=>∃ u v xs,σ=[some (.int b),some (.ref p),some (.ref l),some (.int (stN b (ps2.take i)).1),u,v]∧Same H G∧PairsL K G qs2 ps2∧G l2=some (.lst qs2)∧G l=some (.lst xs)∧HeldL G ((stN b (ps2.take i)).2.map pD) xs) ⟨none,none,[],rfl,s12,hq3,e2,hl0,jy⟩ ?_ ?_ ?_⟩
 ·rintro i σ G _ ⟨u,v,xs,rfl,sG,hqG,hG2,hGl,hx⟩
  exact SqL.of hG2
 ·rintro i x σ G hx ⟨u,v,xs,rfl,sG,hqG,hG2,hGl,hxs⟩
  have hi:i < ps2.length:=by
   rw [← hlen]
   exact (List.getElem?_eq_some_iff.mp hx).1
  obtain ⟨c,f1,f2⟩:=hqG.2 i hi
  rw [hx] at f1
  cases f1
  have est:=jdd (base:=b) hi
  have hsl:(stN b (ps2.take i)).2.length≤i:=by
   have:=J0 b (ps2.take i)
   rw [List.length_take] at this
   omega
  generalize stN b (ps2.take i)=ST at *
  obtain ⟨ah,st⟩:=ST
  dsimp only at *
  refine ⟨c,_,rfl,f2,rfl,_,_,rfl,_,_,rfl,rfl,?_⟩
  refine ⟨_,rfl,_,rfl,rfl,_,rfl,?_⟩
  by_cases hva:ps2[i].2=ah
  ·rw [if_pos hva] at est
   rw [hva,decide_eq_true rfl]
   refine jcF ?_
   exact ⟨some (.int ps2[i].1),some (.int ah),xs,by rw [est,← hva];rfl,sG,hqG,hG2,hGl,by rw [est];exact hxs⟩
  ·rw [if_neg hva] at est
   rw [decide_eq_false (fun z=>hva (by injection z))]
   refine zy ?_
   refine ⟨_,rfl,.inl ⟨rfl,_,SqL.of hGl⟩,_,rfl,_,rfl,sm rfl,fun t ht=>?_⟩
   have s3:=jj ht (.tup [V.int ps2[i].1,V.int ps2[i].2])
   have e3:upd G t (.tup [V.int ps2[i].1,V.int ps2[i].2]) t=some (.tup [V.int ps2[i].1,V.int ps2[i].2]):=ja
   have hqG':=hqG.mono s3
   generalize upd G t (.tup [V.int ps2[i].1,V.int ps2[i].2])=G1 at *
   have hxl:=hxs.length
   rw [List.length_map] at hxl
   refine ⟨l,_,_,rfl,rfl,s3 _ _ hGl,jz (by omega),?_⟩
   have tk:TK G1 (upd G1 l (.lst (xs++[.ref t]))):=TK.upd (s3 _ _ hGl) (by intro xs z;cases z)
   refine ⟨_,rfl,some (.int ps2[i].1),some (.int ps2[i].2),xs++[.ref t],by rw [est];rfl,?_,?_,?_,ja,?_⟩
   ·intro c o e
    rw [jg (jl e hl)]
    exact s3 _ _ (sG _ _ e)
   ·exact jcm (s3 _ _ hGl) hqG'
   ·rw [jg nll]
    exact s3 _ _ hG2
   ·rw [est,List.map_append]
    exact ye (tk.heldL (hxs.mono s3)) (tk.held (jQ e3 (ji jM (ji jM jy))))
 ·rintro σ G ⟨u,v,xs,rfl,sG,hqG,hG2,hGl,hxs⟩
  rw [hlen,List.take_length] at hxs
  refine ⟨_,rfl,_,rfl,l,_,rfl,.inl ⟨SqL.of hGl,fun t ht=>?_⟩⟩
  have s3:=jj ht (.tup xs)
  have e3:upd G t (.tup xs) t=some (.tup xs):=ja
  generalize upd G t (.tup xs)=G1 at *
  refine ⟨sm rfl,fun r hr'=>?_⟩
  have s4:=jj hr' (.tup [V.int b,V.ref t])
  exact q _ _ (sG.trans (s3.trans s4)) (jQ ja (ji jM (ji (jQ (s4 _ _ e3) (hxs.mono (s3.trans s4))) jy)))
theorem jaS {f:Addr} {fd:FuncData} (F:Fun K "written" "written" zM f fd) (B:Free0 mg) (F_steps_up_to:Fn P w K mg base 1 "steps_up_to" ["steps","p"] (jaF K)) (F_entry:Fn P w K mg base 2 "entry" ["row","p"] (Y1 K)) (F_stairs:Fn P w K mg base 1 "stairs" ["base","pairs"] (ZI K)):FnOk P w K mg base CX0 3 f fd ["row","p","v"] (Yk K):=by
 have sc:FnScope ["row","p","v","base","steps","ahead","behind"] ["row","p","v"] (jf zM):=fs
 refine F.ok sc (fun vs H Q E h=>?_) (fun cdv A outer s H vs Q E hr h=>?_)
 ·obtain ⟨v,p,x,b,ps,rfl,_⟩:=h
  rfl
 obtain ⟨v,p,x,b,ps,rfl,hv,hR,hl,q⟩:=h
 have hrow:=hv
 obtain ⟨a,c,qs,rfl,ha,hc,hS⟩:=hv.ex
 dsimp only at ha hS
 have hql:qs.length=ps.length:=hS.1
 refine ⟨_,(jn (zq (pv 0) (qS rfl (jR (jO (i:=3) sc.nd rfl ol) (jR (jO (i:=4) sc.nd rfl ol) qo))))
   (jn (jT (i:=5) sc.nd rfl ol (Jg yf (by rfl) B.list_ Zt (jt (zS jbw (pv 4) yE (yD (kO F_steps_up_to hr (jt (pv 4) (jt (jx qt (pv 1) jm) jp))))) jp)))
   (jn (jT (i:=6) sc.nd rfl ol (Jg yf (by rfl) B.list_ Zt (jt (zS jbw (pv 4) (yD (kO F_steps_up_to hr (jt (pv 4) (jt (jx j6 (pv 1) jm) jp)))) yE) jp)))
   (jB (kh (kO F_stairs hr (jt (pv 3) (jt (jx JM (jx JM (pv 5) (zr (jt (ku (jt (pv 1) (jt (pv 2) jp))) (jt (ku (jt (jx j6 (pv 1) jm) (jt (kO F_entry hr (jt (pv 0) (jt (jx j6 (pv 1) jm) jp))) jp))) jp)))) (pv 6)) jp)))))))),?_⟩
 refine ⟨_,rfl,a,_,rfl,ha,rfl,_,_,rfl,_,_,rfl,rfl,?_⟩
 refine ⟨_,rfl,_,rfl,_,rfl,_,_,rfl,rfl,c,p - 1,qs,ps,rfl,hc,hS,hR,by omega,fun c1 hc1=>?_⟩
 refine ⟨_,rfl,c,qs,rfl,hc,fun t1 H1 s1 ht1=>?_⟩
 have e1:qZ qs none (some (c1:Int))=qs.take c1:=by
  unfold qZ
  rw [HT.sIx_none,HT.sIx_nat,List.drop_zero,Nat.sub_zero,Nat.min_eq_left (by rw [hql];exact hc1.1)]
 rw [e1] at ht1
 refine ⟨t1,_,rfl,.inr ht1,fun l1 hl1=>?_⟩
 have s2:=jj hl1 (.lst (qs.take c1))
 have e2:upd H1 l1 (.lst (qs.take c1)) l1=some (.lst (qs.take c1)):=ja
 generalize upd H1 l1 (.lst (qs.take c1))=H2 at *
 have s02:=s1.trans s2
 refine ⟨_,rfl,_,rfl,_,rfl,_,_,rfl,rfl,c,p+1,qs,ps,rfl,s02.sqT hc,hS.mono s02,hR,by omega,fun c2 hc2=>?_⟩
 refine ⟨_,rfl,c,qs,rfl,s02.sqT hc,fun t3 H3 s3 ht3=>?_⟩
 have e3:qZ qs (some (c2:Int)) none=qs.drop c2:=by
  unfold qZ
  rw [HT.sIx_none,HT.sIx_nat,Nat.min_eq_left (by rw [hql];exact hc2.1),List.take_of_length_le (by rw [List.length_drop];omega)]
 rw [e3] at ht3
 refine ⟨t3,_,rfl,.inr ht3,fun l4 hl4=>?_⟩
 have s4:=jj hl4 (.lst (qs.drop c2))
 have e4:upd H3 l4 (.lst (qs.drop c2)) l4=some (.lst (qs.drop c2)):=ja
 generalize upd H3 l4 (.lst (qs.drop c2))=H4 at *
 have s24:=s3.trans s4
 have s04:=s02.trans s24
 refine ⟨_,rfl,_,rfl,_,rfl,_,rfl,sm rfl,fun t5 ht5=>?_⟩
 have s5:=jj ht5 (.tup [V.int p,V.int x])
 have e5:upd H4 t5 (.tup [V.int p,V.int x]) t5=some (.tup [V.int p,V.int x]):=ja
 generalize upd H4 t5 (.tup [V.int p,V.int x])=H5 at *
 have s05:=s04.trans s5
 refine ⟨_,rfl,_,_,rfl,rfl,_,rfl,_,rfl,_,_,rfl,rfl,.ref a,p+1,(b,ps),rfl,hrow.mono s05,⟨hR,by show ps.length≤600;omega⟩,?_⟩
 refine ⟨sm rfl,fun t6 ht6=>?_⟩
 have s6:=jj ht6 (.tup [V.int (p+1),V.int (jI b ps (p+1))])
 have e6:upd H5 t6 (.tup [V.int (p+1),V.int (jI b ps (p+1))]) t6=some (.tup [V.int (p+1),V.int (jI b ps (p+1))]):=ja
 generalize upd H5 t6 (.tup [V.int (p+1),V.int (jI b ps (p+1))])=H6 at *
 refine ⟨sm rfl,fun l7 hl7=>?_⟩
 have s7:=jj hl7 (.lst [V.ref t5,V.ref t6])
 have e7:upd H6 l7 (.lst [V.ref t5,V.ref t6]) l7=some (.lst [V.ref t5,V.ref t6]):=ja
 generalize upd H6 l7 (.lst [V.ref t5,V.ref t6])=H7 at *
 have s47:=s5.trans (s6.trans s7)
 have s07:=s04.trans s47
 have hc1l:=hc1.1
 have hc2l:=hc2.1
 refine ⟨l1,l7,_,_,rfl,rfl,SqL.of (s47 _ _ (s24 _ _ e2)),SqL.of e7,yo (by rw [List.length_take];simp only [List.length_cons,List.length_nil];omega),fun l8 hl8=>?_⟩
 have s8:=jj hl8 (.lst (qs.take c1++[V.ref t5,V.ref t6]))
 have e8:upd H7 l8 (.lst (qs.take c1++[V.ref t5,V.ref t6])) l8=some (.lst (qs.take c1++[V.ref t5,V.ref t6])):=ja
 generalize upd H7 l8 (.lst (qs.take c1++[V.ref t5,V.ref t6]))=H8 at *
 have s48:=s47.trans s8
 refine ⟨_,rfl,l8,l4,_,_,rfl,rfl,SqL.of e8,SqL.of (s48 _ _ e4),yo (by rw [List.length_append,List.length_take,List.length_drop];simp only [List.length_cons,List.length_nil];omega),fun l9 hl9=>?_⟩
 have s9:=jj hl9 (.lst (qs.take c1++[V.ref t5,V.ref t6]++qs.drop c2))
 have e9:upd H8 l9 (.lst (qs.take c1++[V.ref t5,V.ref t6]++qs.drop c2)) l9=some (.lst (qs.take c1++[V.ref t5,V.ref t6]++qs.drop c2)):=ja
 generalize upd H8 l9 (.lst (qs.take c1++[V.ref t5,V.ref t6]++qs.drop c2))=H9 at *
 have s79:=s8.trans s9
 have s09:=s07.trans s79
 have hup:=jgJ (b:=b) (v:=x) hR hc1 hc2
 have hln:=jfP (b:=b) (v:=x) hc1 hc2
 have hP:PairsL K H9 (qs.take c1++[V.ref t5,V.ref t6]++qs.drop c2) (wrN b ps c1 c2 p x):=Yv (Yv (jaN (hS.mono s09) c1) (jcn ((s6.trans (s7.trans s79)) _ _ e5) ((s7.trans s79) _ _ e6))) (jaO (hS.mono s09) c2)
 refine ⟨b,l9,_,_,rfl,SqL.of e9,hP,hup,by omega,fun r H' sH hr'=>?_⟩
 refine q _ r H' (s09.trans sH) (jar b hup) (fun z=>?_) ?_ hr'
 ·rw [jbL b _ hup,jes hc1 hc2]
 ·exact Nat.le_trans (J0 b _) hln
end
open PySem L2
abbrev zd:Stmt:=top 7
abbrev zN:Stmt:=top 8
abbrev qP:Stmt:=top 10
abbrev yA:Stmt:=top 11
section
variable {P:Program} {w:World} {K:W.Frag} {mg:Str→Option Value} {base:Heap}
theorem Y3 {f:Addr} {fd:FuncData} (F:Fun K "number_at" "number_at" qP f fd):FnOk P w K mg base CX0 1 f fd ["x","numbers"] qV:=by
 have sc:FnScope ["x","numbers"] ["x","numbers"] (jf qP):=fs
 refine F.ok sc (fun vs H Q E h=>?_) (fun cdv A outer s H vs Q E hr h=>?_)
 ·obtain ⟨x,m,N,rfl,_⟩:=h
  rfl
 obtain ⟨x,m,N,rfl,hm,q⟩:=h
 have hu:=yL hr
 refine ⟨_,(jn (qX (kB kZ (pv 0) kJ (jJ _)) (jB (kh jm)) qf)
   (jB (kh (ZV hu (pv 1) (pv 0) jm ⟨rfl,rfl,rfl,rfl⟩)))),?_⟩
 unfold kH at q
 refine ⟨_,rfl,rfl,_,rfl,j9 (fun c=>?_) (fun c=>?_)⟩
 ·have c':x = "":=by
   have:=of_decide_eq_true c
   injection this
  rw [if_pos c'] at q
  exact q
 ·rw [if_neg (fun e=>c (decide_eq_true (congrArg V.str e)))] at q
  refine ⟨_,rfl,m,rfl,.inl ⟨_,.inl hm⟩,_,rfl,_,DGet.k (k:=Sum.inr x) hm,?_⟩
  rw [je6]
  cases e:lkA N x with
  | none=>rw [e] at q;exact q
  | some z=>rw [e] at q;exact q
theorem ZY {f:Addr} {fd:FuncData} (F:Fun K "place_at" "place_at" zd f fd) (F_number_at:Fn P w K mg base 1 "number_at" ["x","numbers"] qV):FnOk P w K mg base CX0 2 f fd ["place","numbers"] yP:=by
 have sc:FnScope ["place","numbers","x","d"] ["place","numbers"] (jf zd):=fs
 refine F.ok sc (fun vs H Q E h=>?_) (fun cdv A outer s H vs Q E hr h=>?_)
 ·obtain ⟨a,x,d,m,N,rfl,_⟩:=h
  rfl
 obtain ⟨a,x,d,m,N,rfl,ha,hm,q⟩:=h
 refine ⟨_,(jn (zq (pv 0) (qS rfl (jR (jO (i:=2) sc.nd rfl ol) (jR (jO (i:=3) sc.nd rfl ol) qo))))
   (jB (kh (jx j6 (kO F_number_at hr (jt (pv 2) (jt (pv 1) jp))) (pv 3))))),?_⟩
 refine ⟨_,rfl,a,_,rfl,SqT.of ha,rfl,_,_,rfl,_,_,rfl,rfl,?_⟩
 refine ⟨_,rfl,_,rfl,x,m,N,rfl,hm,_,rfl,_,_,rfl,rfl,q⟩
theorem jcp {f:Addr} {fd:FuncData} (F:Fun K "row_at" "row_at" yA f fd) (R:Bare K mg):FnOk P w K mg base CX0 1 f fd ["r","rows"] (ZJ K):=by
 have sc:FnScope ["r","rows"] ["r","rows"] (jf yA):=fs
 refine F.ok sc (fun vs H Q E h=>?_) (fun cdv A outer s H vs Q E hr h=>?_)
 ·obtain ⟨r,n,k,rvs,L,rfl,_⟩:=h
  rfl
 obtain ⟨r,n,k,rvs,L,rfl,hn,hV,q⟩:=h
 obtain ⟨ba,eb,hba,hb1,hb2⟩:=R.ex
 have hu:=yL hr
 refine ⟨_,(jB (kh (ZV hu (pv 1) (pv 0) (jby (v:=.ref ba) (by rfl) hba rfl) ⟨rfl,rfl,rfl,rfl⟩))),?_⟩
 refine ⟨_,rfl,n,rfl,.inl ⟨rvs,.inl hn⟩,_,rfl,_,DGet.k (k:=Sum.inr r) hn,?_⟩
 unfold qh at q
 rcases hV.val r with ⟨e1,e2⟩ | ⟨v,lq,e1,e2,h1,h2⟩
 ·rw [e1]
  rw [e2] at q
  exact q _ [] (jef (hb1 H) (hb2 H)) ⟨List.Pairwise.nil,trivial⟩ (Nat.zero_le _) (Nat.zero_le _) fun z=>rfl
 ·rw [e1]
  rw [e2] at q
  obtain ⟨R,g1,g2,g3,g4⟩:=h1
  exact q _ R g1 g2 g3 h2 g4
theorem jaT {f:Addr} {fd:FuncData} (F:Fun K "term_at" "term_at" zN f fd) (F_number_at:Fn P w K mg base 1 "number_at" ["x","numbers"] qV) (F_place_at:Fn P w K mg base 2 "place_at" ["place","numbers"] yP)
  (F_row_at:Fn P w K mg base 1 "row_at" ["r","rows"] (ZJ K)) (F_entry:Fn P w K mg base 2 "entry" ["row","p"] (Y1 K)):FnOk P w K mg base CX0 3 f fd ["term","numbers","rows"] (Jr K):=by
 have sc:FnScope ["term","numbers","rows"] ["term","numbers","rows"] (jf zN):=fs
 refine F.ok sc (fun vs H Q E h=>?_) (fun cdv A outer s H vs Q E hr h=>?_)
 ·obtain ⟨v,t,m,n,k,N,rvs,L,rfl,_⟩:=h
  rfl
 obtain ⟨v,t,m,n,k,N,rvs,L,rfl,hv,hm,hn,hV,hk,q⟩:=h
 refine ⟨_,(jn (qX (kB kZ (kF jS (pv 0) jm (fun _ _=>rfl)) kJ (jJ _)) (jB (kh (kO F_number_at hr (jt (kF jS (pv 0) jm (fun _ _=>rfl)) (jt (pv 1) jp))))) qf)
   (jB (kh (kO F_entry hr (jt (kO F_row_at hr (jt (kF jS (pv 0) jm (fun _ _=>rfl)) (jt (pv 2) jp))) (jt (kO F_place_at hr (jt (kF jS (pv 0) jm (fun _ _=>rfl)) (jt (pv 1) jp))) jp)))))),?_⟩
 cases t with
 | is x=>
  obtain ⟨a,rfl,ha⟩:=jgt hv
  refine ⟨_,rfl,a,_,_,_,rfl,rfl,SqT.of ha,rfl,rfl,_,rfl,?_⟩
  rw [decide_eq_true rfl]
  refine zy ?_
  exact ⟨_,rfl,a,_,_,_,rfl,rfl,SqT.of ha,rfl,_,rfl,x,m,N,rfl,hm,q⟩
 | at_ r x d=>
  obtain ⟨a,b,rfl,ha,hb⟩:=jgC hv
  refine ⟨_,rfl,a,_,_,_,rfl,rfl,SqT.of ha,rfl,rfl,_,rfl,?_⟩
  rw [decide_eq_false (by decide)]
  refine jcF ?_
  refine ⟨_,rfl,a,_,_,_,rfl,rfl,SqT.of ha,rfl,_,rfl,r,n,k,rvs,L,rfl,hn,hV,fun u R g1 g2 g3 g4 g5=>?_⟩
  refine ⟨_,rfl,a,_,_,_,rfl,rfl,SqT.of ha,rfl,_,rfl,b,x,d,m,N,rfl,hb,hm,?_⟩
  refine ⟨u,_,((qh L r).1,R),rfl,g1,⟨g2.up,by show R.length≤600;omega⟩,?_⟩
  dsimp only
  rw [g5]
  exact q
end
open PySem L2
abbrev qm:Stmt:=top 12
abbrev yB:Stmt:=top 9
section
variable {P:Program} {w:World} {K:W.Frag} {mg:Str→Option Value} {base:Heap}
theorem jdG {f:Addr} {fd:FuncData} (F:Fun K "least_holds" "least_holds" qm f fd) (F_term_at:Fn P w K mg base 3 "term_at" ["term","numbers","rows"] (Jr K)):FnOk P w K mg base CX0 4 f fd ["claim","numbers","rows"] (yn jhg K):=by
 have sc:FnScope ["claim","numbers","rows","a","b","c"] ["claim","numbers","rows"] (jf qm):=fs
 refine F.ok sc (fun vs H Q E h=>?_) (fun cdv A outer s H vs Q E hr h=>?_)
 ·obtain ⟨v,C,m,n,i,N,rvs,L,rfl,_⟩:=h
  rfl
 obtain ⟨v,C,m,n,i,N,rvs,L,rfl,hv,ok,hm,hn,hV,hi,q⟩:=h
 cases C with
 | least ta tb c=>
 obtain ⟨a,u,z,rfl,ha,hu',hz⟩:=jbF hv
 refine ⟨_,(jn (zq (zS zj (pv 0) (yD jm) yE) (qS rfl (jR (jO (i:=3) sc.nd rfl ol) (jR (jO (i:=4) sc.nd rfl ol) (jR (jO (i:=5) sc.nd rfl ol) qo)))))
   (jB (kh (J4 jhb (kO F_term_at hr (jt (pv 3) (jt (pv 1) (jt (pv 2) jp)))) (jx j6 (kO F_term_at hr (jt (pv 4) (jt (pv 1) (jt (pv 2) jp)))) (pv 5)) (jJ _))))),?_⟩
 refine ⟨_,rfl,_,rfl,a,_,rfl,SqT.of ha,(fun h=>absurd h.1 (by show ¬ (HT.sIx 4 0 (some 1)=0);decide)),fun p hp=>?_⟩
 have s1:=jj hp (.tup (qZ [V.str "least",u,z,V.int c] (some 1) none))
 refine ⟨p,_,rfl,SqT.of ja,rfl,_,_,rfl,_,_,rfl,_,_,rfl,rfl,?_⟩
 generalize upd H p (.tup (qZ [V.str "least",u,z,V.int c] (some 1) none))=H1 at *
 refine ⟨_,rfl,_,rfl,_,rfl,u,ta,m,n,i,N,rvs,L,rfl,hu'.mono s1,s1 _ _ hm,s1 _ _ hn,hV.tk (TKF.same s1),hi,?_⟩
 refine ⟨_,rfl,_,rfl,_,rfl,z,tb,m,n,i,N,rvs,L,rfl,hz.mono s1,s1 _ _ hm,s1 _ _ hn,hV.tk (TKF.same s1),hi,?_⟩
 exact ⟨_,rfl,_,_,rfl,rfl,_,_,rfl,rfl,q _ _ s1 decide_eq_true_iff⟩
theorem jcr {f:Addr} {fd:FuncData} (F:Fun K "holds" "holds" yB f fd) (F_least_holds:Fn P w K mg base 4 "least_holds" ["claim","numbers","rows"] (yn jhg K)):FnOk P w K mg base CX0 5 f fd ["claim","numbers","rows"] (yn (fun _=>True) K):=by
 have sc:FnScope ["claim","numbers","rows"] ["claim","numbers","rows"] (jf yB):=fs
 refine F.ok sc (fun vs H Q E h=>?_) (fun cdv A outer s H vs Q E hr h=>?_)
 ·obtain ⟨v,C,m,n,i,N,rvs,L,rfl,_⟩:=h
  rfl
 obtain ⟨v,C,m,n,i,N,rvs,L,rfl,hv,_,jv⟩:=h
 refine ⟨_,(jn (qX (kB kZ (kF jS (pv 0) jm (fun _ _=>rfl)) kJ (jJ _)) (jB (kh (kO F_least_holds hr (jt (pv 0) (jt (pv 1) (jt (pv 2) jp)))))) qf)
   (jn (qX (kB kZ (kF jS (pv 0) jm (fun _ _=>rfl)) kJ (jJ _)) (jB (kh ZU)) qf)
   (jB (kh ZU)))),?_⟩
 cases C with
 | least ta tb c=>
  obtain ⟨a,u,z,rfl,ha,_,_⟩:=jbF hv
  refine ⟨_,rfl,a,_,_,_,rfl,rfl,SqT.of ha,rfl,rfl,_,rfl,?_⟩
  rw [decide_eq_true rfl]
  refine zy ?_
  exact ⟨_,rfl,_,rfl,_,rfl,_,.least ta tb c,m,n,i,N,rvs,L,rfl,hv,trivial,jv⟩
end
open PySem L2
inductive Dx where
 | set (x:Str) (t:Tm) (c:Int) | put (r x:Str) (d:Int) (t:Tm) (c:Int) | any (x:Str) | claim (C:Cl) | call (x f:Str) (as rows:List Str)
def Dx.toD:Dx→D
 | .set x t c=>.tup [.str "set",.str x,t.toD,.int c]
 | .put r x d t c=>.tup [.str "put",.str r,plD x d,t.toD,.int c]
 | .any x=>.tup [.str "any",.str x]
 | .claim C=>.tup [.str "claim",C.toD]
 | .call x f as rows=>.tup [.str "call",.str x,.str f,.tup (as.map D.str),.tup (rows.map D.str)]
inductive Sx where
 | go (n:Nat) | ask (le:Cl) (cs:List Cl) (kd:Str) (p:List Int) (yes no:Nat) | do_ (s:Dx) (p:List Int) | come
def Sx.toD:Sx→D
 | .go n=>.tup [.str "go",.int n]
 | .ask le cs kd p yes no=>Zx le.toD (.tup (cs.map Cl.toD)) kd p yes no
 | .do_ s p=>.tup [.str "do",s.toD,qw p]
 | .come=>.tup [.str "come"]
structure Pr where
 f:Str
 ps:List Str
 rs:List Str
 needs:List Cl
 gives:List Cl
 body:List D
 sx:List Sx
def Pr.toD (p:Pr):D:=.tup [.str "proc",.str p.f,.tup (p.ps.map D.str),.tup (p.rs.map D.str),.tup (p.needs.map Cl.toD),.tup (p.gives.map Cl.toD),.tup p.body]
structure Cb where
 x:Str
 f:Str
 as:List Str
 rows:List Str
structure Fm where
 pr:Pr
 cb:Option Cb
 N:List (Str×Int)
 L:List (Str×jK)
 i:Nat
structure Mc where
 fr:List Fm
 used:Nat
 tk:Nat
 w:Nat
inductive En where
 | done (out:Int) (held:List jK) | spent | untrue (f kd:Str) (p:List Int) (k:Nat) | asks | deep | stuck
open Classical in
noncomputable def Jb (N:List (Str×Int)) (L:List (Str×jK)) (C:Cl):Bool:=decide (C.Tru N L)
open Classical in
theorem Ja {N:List (Str×Int)} {L:List (Str×jK)} {C:Cl} {b:Bool} (h:b=true↔C.Tru N L):b=Jb N L C:=by
 unfold Jb
 cases b with
 | true=>exact (decide_eq_true (h.mp rfl)).symm
 | false=>exact (decide_eq_false (fun z=>by have:=h.mpr z;cases this)).symm
noncomputable def qz (N:List (Str×Int)) (L:List (Str×jK)) (cs:List Cl):Option Nat:=cs.findIdx? fun C=>!Jb N L C
def jha:Option Nat→V
 | none=>.non
 | some k=>.int k
def K6 (L:List (Str×jK)) (ps:List (Str×jK)):List (Str×jK):=ps.foldl (fun l q=>kE l q.1 q.2) L
def kl (L:List (Str×jK)) (rs:List Str):List jK:=rs.map (qh L)
def qp (L:List (Str×jK)) (rs:List Str):Bool:=rs.all fun r=>(lkA L r).isSome
noncomputable def zG (P:Pr) (c:Cb) (F:Fm):Fm:=⟨P,some c,P.ps.zip (c.as.map (kH F.N)),P.rs.zip (kl F.L c.rows),0⟩
structure CallOk (P:Pr) (c:Cb) (F:Fm):Prop where
 as:P.ps.length=c.as.length
 rows:P.rs.length=c.rows.length
 nps:P.ps.Nodup
 nrs:P.rs.Nodup
 nrows:c.rows.Nodup
 has:qp F.L c.rows=true
 lps:P.ps.length≤100
 lrs:P.rs.length≤100
open Classical in
noncomputable def JR (prog:List Pr) (inp:List Int) (m:Mc) (F:Fm) (jv:List Fm) (d:Dx) (p:List Int):(En×Nat) ⊕ Mc:=
 match d with
 | .set x t c=>.inr ⟨{ F with N:=kE F.N x (t.val F.N F.L+c),i:=F.i+1 } :: jv,m.used+1,m.tk,m.w⟩
 | .put r x d t c=>if (lkA F.L r).isSome=true∧m.w < 60 then .inr ⟨{ F with L:=kE F.L r ((qh F.L r).1,(qh F.L r).2.1,(qh F.L r).2.2++[(kH F.N x+d,t.val F.N F.L+c)]),i:=F.i+1 } :: jv,m.used+1,m.tk,m.w+1⟩ else .inl (.stuck,0)
 | .any x=>match inp[m.tk]? with
  | none=>.inl (.asks,m.used+1)
  | some v=>.inr ⟨{ F with N:=kE F.N x v,i:=F.i+1 } :: jv,m.used+1,m.tk+1,m.w⟩
 | .claim C=>match qz F.N F.L [C] with
  | some k=>.inl (.untrue F.pr.f "claim" p k,m.used+1)
  | none=>.inr ⟨{ F with i:=F.i+1 } :: jv,m.used+1,m.tk,m.w⟩
 | .call x f as rows=>match prog.find? fun P=>decide (P.f=f) with
  | none=>.inl (.stuck,0)
  | some P=>if CallOk P ⟨x,f,as,rows⟩ F then match qz (zG P ⟨x,f,as,rows⟩ F).N (zG P ⟨x,f,as,rows⟩ F).L P.needs with
    | some k=>.inl (.untrue F.pr.f "need" p k,m.used+1)
    | none=>if 20 < jv.length+1 then .inl (.deep,m.used+1) else .inr ⟨zG P ⟨x,f,as,rows⟩ F :: { F with i:=F.i+1 } :: jv,m.used+1,m.tk,m.w⟩
   else .inl (.stuck,0)
open Classical in
noncomputable def kc (prog:List Pr) (inp:List Int) (most:Int) (m:Mc):(En×Nat) ⊕ Mc:=
 match m.fr with
 | []=>.inl (.stuck,0)
 | F :: jv=>match F.pr.sx[F.i]? with
  | none=>match qz F.N F.L F.pr.gives with
   | some k=>.inl (.untrue F.pr.f "give" [] k,m.used)
   | none=>if qp F.L F.pr.rs=true then match F.cb with
     | none=>.inl (.done (kH F.N "out") (kl F.L F.pr.rs),m.used)
     | some c=>match jv with
      | []=>.inl (.stuck,0)
      | G :: rest'=>if c.rows.Nodup∧c.rows.length=F.pr.rs.length∧c.rows.length≤100∧qp G.L c.rows=true then .inr ⟨{ G with N:=kE G.N c.x (kH F.N "out"),L:=K6 G.L (c.rows.zip (kl F.L F.pr.rs)) } :: rest',m.used,m.tk,m.w⟩ else .inl (.stuck,0)
    else .inl (.stuck,0)
  | some (.go n)=>.inr ⟨{ F with i:=n } :: jv,m.used,m.tk,m.w⟩
  | some s=>if (m.used:Int)=most then .inl (.spent,m.used) else match s with
   | .ask le cs kd p yes no=>match qz F.N F.L cs with
    | some k=>.inl (.untrue F.pr.f kd p k,m.used+1)
    | none=>.inr ⟨{ F with i:=if Jb F.N F.L le=true then yes else no } :: jv,m.used+1,m.tk,m.w⟩
   | .do_ d p=>JR prog inp m F jv d p
   | _=>.inr ⟨{ F with i:=F.i+1 } :: jv,m.used+1,m.tk,m.w⟩
def zA (pr:Addr) (cb:V) (nm rw:Addr) (i:Nat):List (Str×V):=[("proc",.ref pr),("called_by",cb),("numbers",.ref nm),("rows",.ref rw),("at",.int i)]
def qd (d1 d2:Addr) (vi:V) (tk:Nat) (most:Int) (used:Nat) (fl:Addr):List (Str×V):=[("procs",.ref d1),("steps",.ref d2),("inputs",vi),("taken",.int tk),("most",.int most),("used",.int used),("frames",.ref fl)]
structure ClsF (K:W.Frag) (C:Addr):Prop where
 c:Cls K C
 n1:NoAttr K C "proc"
 n2:NoAttr K C "called_by"
 n3:NoAttr K C "numbers"
 n4:NoAttr K C "rows"
 n5:NoAttr K C "at"
structure ClsC (K:W.Frag) (C:Addr):Prop where
 c:Cls K C
 n1:NoAttr K C "procs"
 n2:NoAttr K C "steps"
 n3:NoAttr K C "inputs"
 n4:NoAttr K C "taken"
 n5:NoAttr K C "most"
 n6:NoAttr K C "used"
 n7:NoAttr K C "frames"
def jgI (H:Hp):Option Cb→V→Prop
 | none,v=>v=.non
 | some c,v=>Held H (Dx.call c.x c.f c.as c.rows).toD v
structure FA where
 fa:Addr
 dx:Addr
 nm:Addr
 rw:Addr
 pra:Addr
 cbv:V
def FA.own (A:FA):List Addr:=[A.fa,A.nm,A.rw]
structure FrD (K:W.Frag) (CF:Addr) (H:Hp) (n:Nat) (A:FA) (F:Fm):Prop where
 fa:H A.fa=some (.ins CF A.dx (zA A.pra A.cbv A.nm A.rw F.i))
 nm:H A.nm=some (.dK (nKV F.N))
 rw:∃ rvs,H A.rw=some (.dK rvs)∧RV K H n rvs F.L
structure FrAt (K:W.Frag) (CF:Addr) (Hs H:Hp) (n:Nat) (A:FA) (F:Fm):Prop extends FrD K CF H n A F where
 pr:Held Hs F.pr.toD (.ref A.pra)
 cb:jgI Hs F.cb A.cbv
def Stk (K:W.Frag) (CF:Addr) (Hs H:Hp) (n:Nat):List FA→List Fm→Prop
 | [],[]=>True
 | A :: As,F :: Fs=>FrAt K CF Hs H n A F∧Stk K CF Hs H n As Fs
 | _,_=>False
theorem FrD.keep {K:W.Frag} {CF:Addr} {H H':Hp} {n n':Nat} {A:FA} {F:Fm} (h:FrD K CF H n A F) (hn:n≤n') (t:TKF H H') (k:∀ b∈A.own,∀ o,H b=some o→H' b=some o):FrD K CF H' n' A F:=by
 obtain ⟨rvs,h1,h2⟩:=h.rw
 exact ⟨k _ (by simp [FA.own]) _ h.fa,k _ (by simp [FA.own]) _ h.nm,rvs,k _ (by simp [FA.own]) _ h1,(h2.tk t).up hn⟩
theorem FrAt.keep {K:W.Frag} {CF:Addr} {Hs H H':Hp} {n n':Nat} {A:FA} {F:Fm} (h:FrAt K CF Hs H n A F) (hn:n≤n') (t:TKF H H') (k:∀ b∈A.own,∀ o,H b=some o→H' b=some o):FrAt K CF Hs H' n' A F:=⟨h.toFrD.keep hn t k,h.pr,h.cb⟩
theorem Stk.keep {K:W.Frag} {CF:Addr} {Hs H H':Hp} {n n':Nat} (hn:n≤n') (t:TKF H H'):∀ {As:List FA} {Fs:List Fm},Stk K CF Hs H n As Fs→(∀ b∈As.flatMap FA.own,∀ o,H b=some o→H' b=some o)→Stk K CF Hs H' n' As Fs
 | [],[],_,_=>trivial
 | A :: As,F :: Fs,⟨h1,h2⟩,k=>⟨h1.keep hn t fun b hb=>k b (by rw [List.flatMap_cons];exact List.mem_append_left _ hb),Stk.keep hn t h2 fun b hb=>k b (by rw [List.flatMap_cons];exact List.mem_append_right _ hb)⟩
theorem Stk.len {K:W.Frag} {CF:Addr} {Hs H:Hp} {n:Nat}:∀ {As:List FA} {Fs:List Fm},Stk K CF Hs H n As Fs→As.length=Fs.length
 | [],[],_=>rfl
 | _ :: _,_ :: _,⟨_,h⟩=>by rw [List.length_cons,List.length_cons,Stk.len h]
structure CA where
 co:Addr
 dc:Addr
 d1:Addr
 d2:Addr
 il:Addr
 fl:Addr
def WfS (sx:List Sx):Prop:=∀ (i:Nat) s,sx[i]?=some s→match s with
 | .go n=>n≤sx.length
 | .ask _ _ _ _ y n=>y≤sx.length∧n≤sx.length
 | _=>True
structure Sta (Hs:Hp) (C:CA) (prog:List Pr) (inp:List Int):Prop where
 d1:∃ kv,Hs C.d1=some (.dK kv)∧∀ P∈prog,∃ pra,qi kv (Sum.inr P.f)=some (.ref pra)∧Held Hs P.toD (.ref pra)
 d2:∃ kv,Hs C.d2=some (.dK kv)∧∀ P∈prog,∃ sl ss,qi kv (Sum.inr P.f)=some (.ref sl)∧Hs sl=some (.lst ss)∧HeldL Hs (P.sx.map Sx.toD) ss
 il:Hs C.il=some (.lst (inp.map V.int))
 sz:∀ P∈prog,P.sx.length≤900
 wf:∀ P∈prog,WfS P.sx
 rs:∀ P∈prog,P.rs.length≤100
def jhI (u:Nat):List Fm→Prop
 | []=>True
 | F :: jv=>F.N.length≤100+2 * u∧∀ G∈jv,G.N.length+1≤100+2 * u
structure Conf (K:W.Frag) (CC CF:Addr) (Hs:Hp) (C:CA) (prog:List Pr) (inp:List Int) (most:Int) (As:List FA) (H:Hp) (m:Mc):Prop where
 sub:Same Hs H
 co:H C.co=some (.ins CC C.dc (qd C.d1 C.d2 (.ref C.il) m.tk most m.used C.fl))
 fl:H C.fl=some (.lst ((As.map fun A=>V.ref A.fa).reverse))
 st:Stk K CF Hs H m.w As m.fr
 nd:(C.co :: C.fl :: As.flatMap FA.own).Nodup
 new:∀ b∈C.co :: C.fl :: As.flatMap FA.own,Hs b=none
 inP:∀ F∈m.fr,F.pr∈prog
 tk:m.tk≤inp.length
 w:m.w≤60
 bnd:jhI m.used m.fr
 deep:m.fr.length≤21
 ix:∀ F∈m.fr,F.i≤F.pr.sx.length
 lb:∀ F∈m.fr,F.L.length≤100
def RowsAt (K:W.Frag) (H:Hp):List jK→List V→Prop
 | [],[]=>True
 | q :: qs,v :: vs=>RowIs K H q v∧RowsAt K H qs vs
 | _,_=>False
def EndAt (K:W.Frag) (H:Hp):En→V→Prop
 | .done out held,v=>∃ t hl vs,v=.ref t∧H t=some (.tup [.str "done",.int out,.ref hl])∧H hl=some (.lst vs)∧RowsAt K H held vs
 | .spent,v=>∃ t,v=.ref t∧H t=some (.tup [.str "spent"])
 | .asks,v=>∃ t,v=.ref t∧H t=some (.tup [.str "asks"])
 | .deep,v=>∃ t,v=.ref t∧H t=some (.tup [.str "deep"])
 | .untrue f kd p k,v=>∃ t vp,v=.ref t∧H t=some (.tup [.str "untrue",.str f,.str kd,vp,.int k])∧Held H (qw p) vp
 | .stuck,_=>False
theorem FrD.same {K:W.Frag} {CF:Addr} {H H':Hp} {n:Nat} {A:FA} {F:Fm} (h:FrD K CF H n A F) (e:Same H H'):FrD K CF H' n A F:=h.keep (Nat.le_refl _) (TKF.same e) fun b _ o z=>e b o z
theorem Jf {pr nm rw:Addr} {cb:V} {i j:Nat}:jV "at" (.int j) (zA pr cb nm rw i)=zA pr cb nm rw j:=by
 unfold zA
 simp only [jV]
 rw [if_neg (by decide),if_neg (by decide),if_neg (by decide),if_neg (by decide)]
 rfl
def Y0 (K:W.Frag) (CF:Addr):Sp:=fun vs H Q _=>∃ (vc:V) (cs:List Cl) (A:FA) (F:Fm) (n:Nat),vs=[vc,.ref A.fa]∧Held H (.tup (cs.map Cl.toD)) vc∧FrD K CF H n A F∧n≤100∧∀ H',Same H H'→Q (jha (qz F.N F.L cs)) H'
def Ki (K:W.Frag) (CF:Addr):Sp:=fun vs H Q _=>∃ (vf vk vp vc:V) (cs:List Cl) (A:FA) (F:Fm) (n:Nat),vs=[vf,vk,vp,vc,.ref A.fa]∧Held H (.tup (cs.map Cl.toD)) vc∧FrD K CF H n A F∧n≤100∧
 (qz F.N F.L cs=none→∀ H',Same H H'→Q .non H')∧∀ k,qz F.N F.L cs=some k→∀ t H',Same H H'→H' t=some (.tup [.str "untrue",vf,vk,vp,.int k])→Q (.ref t) H'
def jfB (K:W.Frag) (CF:Addr):Sp:=fun vs H Q _=>∃ (A:FA) (F:Fm) (n:Nat) (p0 p1 p2 p3 p4 p5 p6:V) (st:Addr) (vl vk vp:V) (kd:Str) (le:Cl) (cs:List Cl) (yes no:Nat),vs=[.ref A.fa,.ref st]∧FrD K CF H n A F∧n≤100∧H A.pra=some (.tup [p0,p1,p2,p3,p4,p5,p6])∧
 H st=some (.tup [.str "ask",vl,vk,.str kd,vp,.int yes,.int no])∧Held H le.toD vl∧Held H (.tup (cs.map Cl.toD)) vk∧
 (qz F.N F.L cs=none→∀ H',(∀ b o,b≠A.fa→H b=some o→H' b=some o)→H' A.fa=some (.ins CF A.dx (zA A.pra A.cbv A.nm A.rw (if Jb F.N F.L le=true then yes else no)))→Q .non H')∧
 ∀ k,qz F.N F.L cs=some k→∀ t H',Same H H'→H' t=some (.tup [.str "untrue",p1,.str kd,vp,.int k])→Q (.ref t) H'
theorem jdn {K:W.Frag} {H:Hp} {n:Nat}:∀ {rn:List Str} {held:List jK} {vs:List V},RowsAt K H held vs→(∀ q∈held,q.2.2.length≤n)→rn.length=vs.length→RV K H n (zKV rn vs) (rn.zip held)
 | [],[],[],_,_,_=>trivial
 | [],_ :: _,_ :: _,_,_,h=>by cases h
 | _ :: _,[],[],_,_,h=>by cases h
 | r :: rn,q :: held,v :: vs,⟨h1,h2⟩,hn,hl=>⟨⟨rfl,h1,hn q List.mem_cons_self⟩,jdn h2 (fun q' hq=>hn q' (List.mem_cons_of_mem _ hq)) (by simpa using hl)⟩
theorem RowsAt.len {K:W.Frag} {H:Hp}:∀ {held:List jK} {vs:List V},RowsAt K H held vs→held.length=vs.length
 | [],[],_=>rfl
 | _ :: _,_ :: _,⟨_,h⟩=>by rw [List.length_cons,List.length_cons,RowsAt.len h]
theorem RowsAt.tk {K:W.Frag} {H H':Hp} (t:TKF H H'):∀ {held:List jK} {vs:List V},RowsAt K H held vs→RowsAt K H' held vs
 | [],[],_=>trivial
 | _ :: _,_ :: _,⟨h1,h⟩=>⟨h1.tk t,RowsAt.tk t h⟩
theorem RowsAt.snoc {K:W.Frag} {H:Hp} {q:jK} {v:V} (hq:RowIs K H q v):∀ {held:List jK} {vs:List V},RowsAt K H held vs→RowsAt K H (held++[q]) (vs++[v])
 | [],[],_=>⟨hq,trivial⟩
 | _ :: _,_ :: _,⟨h1,h⟩=>⟨h1,RowsAt.snoc hq h⟩
theorem jer {names:List Str} {nums:List Int}:zKV names (nums.map V.int)=nKV (names.zip nums):=by
 unfold zKV nKV
 rw [List.zip_map_right,List.map_map]
 rfl
theorem jcL {pr nm rw:Addr} {cb:V}:jV "at" (.int 0) (jV "rows" (.ref rw) (jV "numbers" (.ref nm) (jV "called_by" cb (jV "proc" (.ref pr) []))))=zA pr cb nm rw 0:=by
 unfold zA
 simp only [jV]
 repeat rw [if_neg (by decide)]
 simp only [jV]
 repeat rw [if_neg (by decide)]
 simp only [jV]
 repeat rw [if_neg (by decide)]
 simp only [jV]
 repeat rw [if_neg (by decide)]
 rfl
def YZ (K:W.Frag) (CF:Addr):Sp:=fun vs H Q _=>∃ (fa dx pr pt rt nl rl:Addr) (cb p0 p1 p4 p5 p6:V) (names rns:List Str) (nums:List Int) (held:List jK) (rvs:List V) (n:Nat),vs=[.ref fa,.ref pr,.ref nl,.ref rl,cb]∧H fa=some (.ins CF dx [])∧H pr=some (.tup [p0,p1,.ref pt,.ref rt,p4,p5,p6])∧H pt=some (.tup (names.map V.str))∧H rt=some (.tup (rns.map V.str))∧H nl=some (.lst (nums.map V.int))∧H rl=some (.lst rvs)∧RowsAt K H held rvs∧(∀ q∈held,q.2.2.length≤n)∧names.length=nums.length∧names.Nodup∧names.length≤100∧rns.length=held.length∧rns.Nodup∧rns.length≤100∧
 ∀ nm rw H',(∀ b o,b≠fa→H b=some o→H' b=some o)→H nm=none→H rw=none→nm≠rw→(∀ F:Fm,F.N=names.zip nums→F.L=rns.zip held→F.i=0→FrD K CF H' n ⟨fa,dx,nm,rw,pr,cb⟩ F)→Q .non H'
structure CallAt (K:W.Frag) (CC CF:Addr) (C:CA) (H:Hp) (A:FA) (F:Fm) (n:Nat) (st:Addr) (P:Pr) (c:Cb) (fvs:List V) (p1:V) (pra2:Addr) (tk:Nat) (most:Int) (used:Nat):Prop where
 co:H C.co=some (.ins CC C.dc (qd C.d1 C.d2 (.ref C.il) tk most used C.fl))
 fl:H C.fl=some (.lst fvs)
 fr:FrD K CF H n A F
 hn:n≤100
 pr:∃ p0 p2 p3 p4 p5 p6,H A.pra=some (.tup [p0,p1,p2,p3,p4,p5,p6])
 st:Held H (Dx.call c.x c.f c.as c.rows).toD (.ref st)
 d1:∃ kv,H C.d1=some (.dK kv)∧qi kv (Sum.inr c.f)=some (.ref pra2)
 p2:Held H P.toD (.ref pra2)
 ok:CallOk P c F
 fvs:fvs.length≤900
def jaG (K:W.Frag) (CC CF:Addr):Sp:=fun vs H Q _=>∃ (C:CA) (A:FA) (F:Fm) (n:Nat) (st:Addr) (P:Pr) (c:Cb) (fvs:List V) (p1 vp:V) (pra2:Addr) (tk:Nat) (most:Int) (used:Nat),vs=[.ref C.co,.ref A.fa,.ref st,vp]∧CallAt K CC CF C H A F n st P c fvs p1 pra2 tk most used∧
 (∀ k,qz (zG P c F).N (zG P c F).L P.needs=some k→∀ t H',Same H H'→H' t=some (.tup [.str "untrue",p1,.str "need",vp,.int k])→Q (.ref t) H')∧
 (qz (zG P c F).N (zG P c F).L P.needs=none→20 < fvs.length→∀ t H',Same H H'→H' t=some (.tup [.str "deep"])→Q (.ref t) H')∧
 (qz (zG P c F).N (zG P c F).L P.needs=none→¬ 20 < fvs.length→∀ (A2:FA) H',(∀ b o,b≠C.fl→H b=some o→H' b=some o)→H' C.fl=some (.lst (fvs++[.ref A2.fa]))→FrD K CF H' n A2 (zG P c F)→A2.pra=pra2→A2.cbv=.ref st→(∀ b∈A2.own,H b=none)→A2.own.Nodup→Q .non H')
theorem zu {H:Hp}:∀ {as:List Str} {vs:List V},HeldL H (as.map D.str) vs→vs=as.map V.str
 | [],vs,h=>js h
 | a :: as,vs,h=>by
  rw [List.map_cons] at h
  obtain ⟨v,r,rfl,e1,h2⟩:=jb h
  cases jq e1
  rw [zu h2]
  rfl
theorem KW {H:Hp} {x f:Str} {as rows:List Str} {v:V} (h:Held H (Dx.call x f as rows).toD v):∃ t ta tr,v=.ref t∧H t=some (.tup [.str "call",.str x,.str f,.ref ta,.ref tr])∧H ta=some (.tup (as.map V.str))∧H tr=some (.tup (rows.map V.str)):=by
 obtain ⟨t,xs,rfl,ht,h1⟩:=jo h
 obtain ⟨v1,r1,rfl,e1,h2⟩:=jb h1
 obtain ⟨v2,r2,rfl,e2,h3⟩:=jb h2
 obtain ⟨v3,r3,rfl,e3,h4⟩:=jb h3
 obtain ⟨v4,r4,rfl,e4,h5⟩:=jb h4
 obtain ⟨v5,r5,rfl,e5,h6⟩:=jb h5
 cases js h6
 cases jq e1
 cases jq e2
 cases jq e3
 obtain ⟨ta,ya,rfl,hta,g1⟩:=jo e4
 obtain ⟨tr,yr,rfl,htr,g2⟩:=jo e5
 rw [zu g1] at hta
 rw [zu g2] at htr
 exact ⟨t,ta,tr,rfl,ht,hta,htr⟩
theorem zR {H:Hp} {P:Pr} {v:V} (h:Held H P.toD v):∃ a pt rt v4 v5 vb,v=.ref a∧H a=some (.tup [.str "proc",.str P.f,.ref pt,.ref rt,v4,v5,vb])∧H pt=some (.tup (P.ps.map V.str))∧H rt=some (.tup (P.rs.map V.str))∧Held H (.tup (P.needs.map Cl.toD)) v4∧Held H (.tup (P.gives.map Cl.toD)) v5∧Held H (.tup P.body) vb:=by
 obtain ⟨t,xs,rfl,ht,h1⟩:=jo h
 obtain ⟨v1,r1,rfl,e1,h2⟩:=jb h1
 obtain ⟨v2,r2,rfl,e2,h3⟩:=jb h2
 obtain ⟨v3,r3,rfl,e3,h4⟩:=jb h3
 obtain ⟨v4,r4,rfl,e4,h5⟩:=jb h4
 obtain ⟨v5,r5,rfl,e5,h6⟩:=jb h5
 obtain ⟨v6,r6,rfl,e6,h7⟩:=jb h6
 obtain ⟨v7,r7,rfl,e7,h8⟩:=jb h7
 cases js h8
 cases jq e1
 cases jq e2
 obtain ⟨ta,ya,rfl,hta,g1⟩:=jo e3
 obtain ⟨tr,yr,rfl,htr,g2⟩:=jo e4
 rw [zu g1] at hta
 rw [zu g2] at htr
 exact ⟨t,ta,tr,v5,v6,v7,rfl,ht,hta,htr,e5,e6,e7⟩
theorem ZQ {α:Type} {L:List (Str×α)} {r:Str} {q:α} (h:(lkA L r).isSome=true):(kE L r q).length=L.length:=by
 have ha:(L.any fun z=>decide (z.1=r))=true:=by
  unfold lkA at h
  rw [Option.isSome_map,List.find?_isSome] at h
  obtain ⟨z,hz,e⟩:=h
  exact List.any_eq_true.mpr ⟨z,hz,e⟩
 unfold kE
 rw [if_pos ha,List.length_map]
theorem jdP {α:Type} {L:List (Str×α)} {r r':Str} {q:α}:(lkA L r').isSome=true→(lkA (kE L r q) r').isSome=true:=by
 intro h
 unfold lkA at h ⊢
 rw [Option.isSome_map,List.find?_isSome] at h ⊢
 obtain ⟨z,hz,e⟩:=h
 unfold kE
 split
 ·by_cases hr:z.1=r
  ·exact ⟨(z.1,q),List.mem_map.mpr ⟨z,hz,by rw [if_pos hr]⟩,e⟩
  ·exact ⟨z,List.mem_map.mpr ⟨z,hz,by rw [if_neg hr]⟩,e⟩
 ·exact ⟨z,List.mem_append_left _ hz,e⟩
theorem jc6 {L:List (Str×jK)}:∀ {ps:List (Str×jK)},(∀ p∈ps,(lkA L p.1).isSome=true)→(K6 L ps).length=L.length:=by
 intro ps
 induction ps generalizing L with
 | nil=>intro _;rfl
 | cons p r ih=>
  intro h
  unfold K6
  rw [List.foldl_cons]
  have h1:=ih (L:=kE L p.1 p.2) fun p' hp'=>jdP (h p' (List.mem_cons_of_mem _ hp'))
  unfold K6 at h1
  rw [h1,ZQ (h p List.mem_cons_self)]
theorem jdo {K:W.Frag} {H:Hp} {n:Nat}:∀ {rn:List Str} {held:List jK} {vs:List V} {rvs:List (Key×V)} {L:List (Str×jK)},RowsAt K H held vs→(∀ q∈held,q.2.2.length≤n)→rn.length=vs.length→RV K H n rvs L→RV K H n (ZD rvs (zKV rn vs)) (K6 L (rn.zip held))
 | [],[],[],_,_,_,_,_,h=>h
 | [],_ :: _,_ :: _,_,_,_,_,h,_=>by cases h
 | _ :: _,[],[],_,_,_,_,h,_=>by cases h
 | r :: rn,q :: held,v :: vs,rvs,L,⟨h1,h2⟩,hn,hl,h=>jdo (rn:=rn) (held:=held) (vs:=vs) (rvs:=qE rvs (Sum.inr r) v) (L:=kE L r q) h2 (fun q' hq=>hn q' (List.mem_cons_of_mem _ hq)) (by simpa using hl) (h.put h1 (hn q List.mem_cons_self))
def jde (K:W.Frag) (CC CF:Addr):Sp:=fun vs H Q _=>∃ (C:CA) (A:FA) (F:Fm) (n:Nat) (x:Str) (inp:List Int) (tk:Nat) (most:Int) (used:Nat),vs=[.ref C.co,.ref A.fa,.str x]∧H C.co=some (.ins CC C.dc (qd C.d1 C.d2 (.ref C.il) tk most used C.fl))∧H C.il=some (.lst (inp.map V.int))∧FrD K CF H n A F∧F.N.length≤900∧C.co≠A.fa∧tk≤inp.length∧
 (inp[tk]?=none→∀ t H',Same H H'→H' t=some (.tup [.str "asks"])→Q (.ref t) H')∧
 ∀ v,inp[tk]?=some v→∀ H',(∀ b o,b≠A.nm→b≠C.co→H b=some o→H' b=some o)→H' A.nm=some (.dK (nKV (kE F.N x v)))→H' C.co=some (.ins CC C.dc (qd C.d1 C.d2 (.ref C.il) (tk+1) most used C.fl))→Q .non H'
def jdj (K:W.Frag) (CF:Addr):Sp:=fun vs H Q _=>∃ (A:FA) (F:Fm) (n:Nat) (st hl:Addr) (c:Cb) (out:Int) (hvs:List V) (held:List jK),vs=[.ref A.fa,.ref st,.int out,.ref hl]∧FrD K CF H n A F∧Held H (Dx.call c.x c.f c.as c.rows).toD (.ref st)∧H hl=some (.lst hvs)∧RowsAt K H held hvs∧(∀ q∈held,q.2.2.length≤n)∧c.rows.length=held.length∧c.rows.Nodup∧c.rows.length≤100∧F.N.length≤900∧F.L.length≤100∧A.nm≠A.rw∧
 ∀ H',(∀ b o,b≠A.nm→b≠A.rw→H b=some o→H' b=some o)→H' A.nm=some (.dK (nKV (kE F.N c.x out)))→(∃ rvs,H' A.rw=some (.dK rvs)∧RV K H' n rvs (K6 F.L (c.rows.zip held)))→Q .non H'
structure DoAt (K:W.Frag) (CC CF:Addr) (C:CA) (H:Hp) (A:FA) (F:Fm) (n:Nat) (st:Addr) (d:Dx) (inp:List Int) (p1:V) (tk:Nat) (most:Int) (used:Nat):Prop where
 co:H C.co=some (.ins CC C.dc (qd C.d1 C.d2 (.ref C.il) tk most used C.fl))
 il:H C.il=some (.lst (inp.map V.int))
 fr:FrD K CF H n A F
 hn:n≤60
 pr:∃ p0 p2 p3 p4 p5 p6,H A.pra=some (.tup [p0,p1,p2,p3,p4,p5,p6])
 st:Held H d.toD (.ref st)
 N:F.N.length≤900
 L:F.L.length≤100
 cf:C.co≠A.fa
 tk:tk≤inp.length
 nr:A.nm≠A.rw
def jht (K:W.Frag) (CC CF:Addr) (C:CA) (H:Hp) (A:FA) (F:Fm) (n:Nat) (st:Addr) (inp:List Int) (p1 vp:V) (tk:Nat) (most:Int) (used:Nat) (Q:VK) (E:XK):Dx→Prop
 | .set x t c=>∀ H',(∀ b o,b≠A.nm→H b=some o→H' b=some o)→H' A.nm=some (.dK (nKV (kE F.N x (t.val F.N F.L+c))))→Q .non H'
 | .put r x d t c=>(lkA F.L r).isSome=true∧∀ H',(∀ b o,b≠A.rw→H b=some o→H' b=some o)→(∃ rvs,H' A.rw=some (.dK rvs)∧RV K H' (n+1) rvs (kE F.L r ((qh F.L r).1,(qh F.L r).2.1,(qh F.L r).2.2++[(kH F.N x+d,t.val F.N F.L+c)])))→Q .non H'
 | .any x=>(inp[tk]?=none→∀ t H',Same H H'→H' t=some (.tup [.str "asks"])→Q (.ref t) H')∧
  ∀ v,inp[tk]?=some v→∀ H',(∀ b o,b≠A.nm→b≠C.co→H b=some o→H' b=some o)→H' A.nm=some (.dK (nKV (kE F.N x v)))→H' C.co=some (.ins CC C.dc (qd C.d1 C.d2 (.ref C.il) (tk+1) most used C.fl))→Q .non H'
 | .claim D=>(qz F.N F.L [D]=none→∀ H',Same H H'→Q .non H')∧∀ k,qz F.N F.L [D]=some k→∀ t H',Same H H'→H' t=some (.tup [.str "untrue",p1,.str "claim",vp,.int k])→Q (.ref t) H'
 | .call _ _ _ _=>jaG K CC CF [.ref C.co,.ref A.fa,.ref st,vp] H Q E
def jgV (K:W.Frag) (CC CF:Addr):Sp:=fun vs H Q E=>∃ (C:CA) (A:FA) (F:Fm) (n:Nat) (st:Addr) (d:Dx) (inp:List Int) (p1 vp:V) (tk:Nat) (most:Int) (used:Nat),vs=[.ref C.co,.ref A.fa,.ref st,vp]∧DoAt K CC CF C H A F n st d inp p1 tk most used∧jht K CC CF C H A F n st inp p1 vp tk most used Q E d
theorem jaK {d1 d2 fl:Addr} {vi:V} {tk tk' used:Nat} {most:Int}:jV "taken" (.int tk') (qd d1 d2 vi tk most used fl)=qd d1 d2 vi tk' most used fl:=by
 unfold qd
 simp only [jV]
 rw [if_neg (by decide),if_neg (by decide),if_neg (by decide)]
 rfl
theorem Jz {d1 d2 fl:Addr} {vi:V} {tk used u':Nat} {most:Int}:jV "used" (.int u') (qd d1 d2 vi tk most used fl)=qd d1 d2 vi tk most u' fl:=by
 unfold qd
 simp only [jV]
 rw [if_neg (by decide),if_neg (by decide),if_neg (by decide),if_neg (by decide),if_neg (by decide)]
 rfl
theorem jeh {H:Hp} {le ks:D} {kd:Str} {p:List Int} {yes no:Nat} {v:V} (h:Held H (Zx le ks kd p yes no) v):∃ a vl vk vp,v=.ref a∧H a=some (.tup [.str "ask",vl,vk,.str kd,vp,.int yes,.int no])∧Held H le vl∧Held H ks vk∧Held H (qw p) vp:=by
 obtain ⟨a,xs,rfl,ha,h1⟩:=jo h
 obtain ⟨v1,r1,rfl,e1,h2⟩:=jb h1
 obtain ⟨v2,r2,rfl,e2,h3⟩:=jb h2
 obtain ⟨v3,r3,rfl,e3,h4⟩:=jb h3
 obtain ⟨v4,r4,rfl,e4,h5⟩:=jb h4
 obtain ⟨v5,r5,rfl,e5,h6⟩:=jb h5
 obtain ⟨v6,r6,rfl,e6,h7⟩:=jb h6
 obtain ⟨v7,r7,rfl,e7,h8⟩:=jb h7
 cases js h8
 cases jq e1
 cases jq e4
 cases j3 e6
 cases j3 e7
 exact ⟨a,v2,v3,v5,rfl,ha,e2,e3,e5⟩
theorem jfk {H:Hp} {d:Dx} {p:List Int} {v:V} (h:Held H (Sx.do_ d p).toD v):∃ a st vp,v=.ref a∧H a=some (.tup [.str "do",.ref st,vp])∧Held H d.toD (.ref st)∧Held H (qw p) vp:=by
 obtain ⟨a,xs,rfl,ha,h1⟩:=jo h
 obtain ⟨v1,r1,rfl,e1,h2⟩:=jb h1
 obtain ⟨v2,r2,rfl,e2,h3⟩:=jb h2
 obtain ⟨v3,r3,rfl,e3,h4⟩:=jb h3
 cases js h4
 cases jq e1
 have:∃ st,v2=.ref st:=by
  cases d <;> (obtain ⟨st,_,e,_⟩:=jo e2;exact ⟨st,e⟩)
 obtain ⟨st,rfl⟩:=this
 exact ⟨a,st,v3,rfl,ha,e2,e3⟩
open PySem L2
abbrev qe:Stmt:=top 32
abbrev Yr:Stmt:=top 33
abbrev jce:Stmt:=top 36
section
variable {P:Program} {w:World} {K:W.Frag} {mg:Str→Option Value} {base:Heap}
theorem JT {CF:Addr} {f:Addr} {fd:FuncData} (T:ClsF K CF) (Z_enumerate:mg "enumerate" = none) (F:Fun K "first_untrue" "first_untrue" qe f fd) (F_holds:Fn P w K mg base 5 "holds" ["claim","numbers","rows"] (yn (fun _=>True) K)):FnOk P w K mg base CX0 6 f fd ["claims","frame"] (Y0 K CF):=by
 have sc:FnScope ["claims","frame","k","claim"] ["claims","frame"] (jf qe):=fs
 refine F.okZ sc (fun vs H Q E h=>?_) (fun cdv A outer s H vs Q E hr h=>?_)
 ·obtain ⟨vc,cs,B,Fm,n,rfl,_⟩:=h
  rfl
 obtain ⟨vc,cs,Ad,Fm,n,rfl,hc,hD,hn,q⟩:=h
 obtain ⟨ca,xs,rfl,eca,hxs⟩:=jo hc
 have hl:=hxs.length
 rw [List.length_map] at hl
 refine ⟨_,(jc (YS PassesOwn.never rfl (jb2 (by rfl) Z_enumerate (jd (zpv 0) jk)) (q8 rfl (jw (jr (i:=2) sc.nd rfl ol) (jw (jr (i:=3) sc.nd rfl ol) qv))) (ju (kn (jbk (YR (jL F_holds hr (jd (zpv 3) (jd (jD (zpv 1) rfl) (jd (jD (zpv 1) rfl) jk)))))) (ju (jN (zpv 2))) jZ)))
   (ju (jN kA))),?_⟩
 refine zJ (σ':=[some (.ref ca),some (.ref Ad.fa),none,none]) rfl ?_
 refine ⟨_,rfl,ca,rfl,⟨_,SqT.of eca⟩,?_⟩
 refine YG (xs:=xs) (fun j σ G=>∃ u2 u3,σ=[some (.ref ca),some (.ref Ad.fa),u2,u3]∧Same H G∧∀ j' c,j' < j→cs[j']?=some c→Jb Fm.N Fm.L c=true) ⟨none,none,rfl,Same.refl _,fun j' c h=>absurd h (Nat.not_lt_zero _)⟩ ?_ ?_ ?_
 ·rintro j σ G _ ⟨u2,u3,rfl,sG,_⟩
  exact SqT.of (sG _ _ eca)
 ·rintro j y σ G t hy ⟨u2,u3,rfl,sG,hall⟩ ht
  have hj:j < cs.length:=by have:=(List.getElem?_eq_some_iff.mp hy).1;omega
  have hcj:cs[j]?=some cs[j]:=List.getElem?_eq_getElem hj
  obtain ⟨y',hy',hyH⟩:=hxs.get (show (cs.map Cl.toD)[j]?=some (Cl.toD cs[j]) by rw [List.getElem?_map,hcj];rfl)
  rw [hy] at hy'
  cases hy'
  have s1:=jj ht (.tup [V.int j,y])
  have e1:upd G t (.tup [V.int j,y]) t=some (.tup [V.int j,y]):=ja
  have sG1:=sG.trans s1
  generalize upd G t (.tup [V.int j,y])=G1 at *
  refine ⟨t,_,rfl,SqT.of e1,rfl,_,_,rfl,?_⟩
  refine gs ?_
  refine ⟨_,_,rfl,?_⟩
  refine gs ?_
  refine ⟨rfl,?_⟩
  have hD1:=hD.same sG1
  obtain ⟨rvs,hrw,hRV⟩:=hD1.rw
  refine ⟨_,rfl,_,rfl,Ad.fa,CF,Ad.dx,_,_,rfl,hD1.fa,T.c,T.n3,rfl,_,rfl,Ad.fa,CF,Ad.dx,_,_,rfl,hD1.fa,T.c,T.n4,rfl,?_⟩
  refine ⟨y,cs[j],Ad.nm,Ad.rw,n,Fm.N,rvs,Fm.L,rfl,hyH.mono sG1,trivial,hD1.nm,hrw,hRV,hn,fun b G2 s2 hb=>⟨_,rfl,?_⟩⟩
  have hb':=Ja hb
  subst hb'
  refine j9 (fun d=>?_) (fun d=>?_)
  ·have hfalse:Jb Fm.N Fm.L cs[j]=false:=by simpa using d
   have hfi:qz Fm.N Fm.L cs=some j:=by
    unfold qz
    rw [List.findIdx?_eq_some_iff_getElem]
    refine ⟨hj,by rw [hfalse];rfl,fun j' hj'=>?_⟩
    rw [hall j' cs[j'] hj' (List.getElem?_eq_getElem (by omega))]
    simp
   refine ⟨_,rfl,?_⟩
   have:=q G2 (sG1.trans s2)
   rw [hfi] at this
   exact this
  ·have htrue:Jb Fm.N Fm.L cs[j]=true:=by simpa using d
   refine ⟨_,_,rfl,sG1.trans s2,fun j' c h1 h2=>?_⟩
   rcases Nat.lt_or_ge j' j with g | g
   ·exact hall j' c g h2
   ·have:j'=j:=by omega
    subst this
    rw [hcj] at h2
    cases h2
    exact htrue
 ·rintro σ G ⟨u2,u3,rfl,sG,hall⟩
  have hfi:qz Fm.N Fm.L cs=none:=by
   unfold qz
   rw [List.findIdx?_eq_none_iff]
   intro c hc
   obtain ⟨j,hj⟩:=List.mem_iff_getElem?.mp hc
   rw [hall j c (by have:=(List.getElem?_eq_some_iff.mp hj).1;omega) hj]
   rfl
  have:=q G sG
  rw [hfi] at this
  exact this
theorem je2 {CF:Addr} {f:Addr} {fd:FuncData} (F:Fun K "look" "look" Yr f fd) (F_first_untrue:Fn P w K mg base 6 "first_untrue" ["claims","frame"] (Y0 K CF)):FnOk P w K mg base CX0 7 f fd ["f","kind","path","claims","frame"] (Ki K CF):=by
 have sc:FnScope ["f","kind","path","claims","frame","k"] ["f","kind","path","claims","frame"] (jf Yr):=fs
 refine F.okZ sc (fun vs H Q E h=>?_) (fun cdv A outer s H vs Q E hr h=>?_)
 ·obtain ⟨vf,vk,vp,vc,cs,Ad,Fm,n,rfl,_⟩:=h
  rfl
 obtain ⟨vf,vk,vp,vc,cs,Ad,Fm,n,rfl,hc,hD,hn,q1,q2⟩:=h
 refine ⟨_,(jc (jF (i:=5) sc.nd rfl ol (jL F_first_untrue hr (jd (zpv 3) (jd (zpv 4) jk))))
   (jc (kn (jW jaQ (zpv 5) kA (jJ _)) (ju (jN kA)) jZ)
   (ju (jN (kQ (jd ke (jd (zpv 0) (jd (zpv 1) (jd (zpv 2) (jd (zpv 5) jk)))))))))),?_⟩
 refine ⟨_,rfl,_,rfl,vc,cs,Ad,Fm,n,rfl,hc,hD,hn,fun G sG=>?_⟩
 cases hu:qz Fm.N Fm.L cs with
 | none=>
  refine ⟨_,rfl,rfl,_,rfl,j9 (fun d=>?_) (fun d=>absurd (decide_eq_true (show jha none=V.non from rfl)) d)⟩
  exact q1 hu G sG
 | some k=>
  refine ⟨_,rfl,rfl,_,rfl,j9 (fun d=>?_) (fun d=>?_)⟩
  ·have:=of_decide_eq_true d
   cases this
  ·exact ⟨_,rfl,_,rfl,_,rfl,_,rfl,sm rfl,fun t ht=>q2 k hu t _ (sG.trans (jj ht _)) ja⟩
theorem jgl {CF:Addr} {f:Addr} {fd:FuncData} (T:ClsF K CF) (F:Fun K "ask" "ask" jce f fd) (F_look:Fn P w K mg base 7 "look" ["f","kind","path","claims","frame"] (Ki K CF)) (F_holds:Fn P w K mg base 5 "holds" ["claim","numbers","rows"] (yn (fun _=>True) K)):FnOk P w K mg base CX0 8 f fd ["frame","step"] (jfB K CF):=by
 have sc:FnScope ["frame","step","least","claims","kind","path","yes","no","end"] ["frame","step"] (jf jce):=fs
 refine F.okZ sc (fun vs H Q E h=>?_) (fun cdv A outer s H vs Q E hr h=>?_)
 ·obtain ⟨Ad,Fm,n,p0,p1,p2,p3,p4,p5,p6,st,vl,vk,vp,kd,le,cs,yes,no,rfl,_⟩:=h
  rfl
 obtain ⟨Ad,Fm,n,p0,p1,p2,p3,p4,p5,p6,st,vl,vk,vp,kd,le,cs,yes,no,rfl,hD,hn,hpr,hst,hl,hk,q1,q2⟩:=h
 refine ⟨_,(jc (qF (qN zj (zpv 1) (qU jh) zH) (q8 rfl (jw (jr (i:=2) sc.nd rfl ol) (jw (jr (i:=3) sc.nd rfl ol) (jw (jr (i:=4) sc.nd rfl ol) (jw (jr (i:=5) sc.nd rfl ol) (jw (jr (i:=6) sc.nd rfl ol) (jw (jr (i:=7) sc.nd rfl ol) qv))))))))
   (jc (jF (i:=8) sc.nd rfl ol (jL F_look hr (jd (jX jS (jD (zpv 0) rfl) jh (fun _ _=>rfl)) (jd (zpv 4) (jd (zpv 5) (jd (zpv 3) (jd (zpv 0) jk)))))))
   (jc (kn (jW J5 (zpv 8) kA (jJ _)) (ju (jN (zpv 8))) jZ)
   (jc (kP (zpv 0) (zpv 7) rfl)
   (jc (kn (YR (jL F_holds hr (jd (zpv 2) (jd (jD (zpv 0) rfl) (jd (jD (zpv 0) rfl) jk))))) (ju (kP (zpv 0) (zpv 6) rfl)) jZ)
   (ju (jN kA))))))),?_⟩
 refine zJ (σ':=[some (.ref Ad.fa),some (.ref st),none,none,none,none,none,none,none]) rfl ?_
 refine ⟨_,rfl,_,rfl,st,_,rfl,SqT.of hst,(fun h=>absurd h.1 (by show ¬ (HT.sIx 7 0 (some 1)=0);decide)),fun t ht=>?_⟩
 rw [show qZ [V.str "ask",vl,vk,V.str kd,vp,V.int yes,V.int no] (some 1) none=[vl,vk,V.str kd,vp,V.int yes,V.int no] from rfl]
 have s1:=jj ht (.tup [vl,vk,V.str kd,vp,V.int yes,V.int no])
 have e1:upd H t (.tup [vl,vk,V.str kd,vp,V.int yes,V.int no]) t=some (.tup [vl,vk,V.str kd,vp,V.int yes,V.int no]):=ja
 generalize upd H t (.tup [vl,vk,V.str kd,vp,V.int yes,V.int no])=H1 at *
 refine ⟨t,_,rfl,SqT.of e1,rfl,_,_,rfl,?_⟩
 refine gs ?_
 refine ⟨_,_,rfl,?_⟩
 refine gs ?_
 refine ⟨_,_,rfl,?_⟩
 refine gs ?_
 refine ⟨_,_,rfl,?_⟩
 refine gs ?_
 refine ⟨_,_,rfl,?_⟩
 refine gs ?_
 refine ⟨_,_,rfl,?_⟩
 refine gs ?_
 refine ⟨rfl,?_⟩
 have hD1:=hD.same s1
 refine ⟨_,rfl,Ad.fa,CF,Ad.dx,_,_,rfl,hD1.fa,T.c,T.n1,rfl,Ad.pra,_,_,_,rfl,rfl,SqT.of (s1 _ _ hpr),rfl,_,rfl,_,rfl,_,rfl,_,rfl,?_⟩
 refine ⟨p1,.str kd,vp,vk,cs,Ad,Fm,n,rfl,hk.mono s1,hD1,hn,fun hu G sG=>?_,fun k hu t2 G sG ht2=>?_⟩
 ·have sHG:=s1.trans sG
  refine ⟨_,rfl,rfl,_,rfl,j9 (fun d=>absurd d (by show ¬ ((!decide (V.non=V.non))=true);simp)) (fun _=>?_)⟩
  have hDG:=hD.same sHG
  obtain ⟨rvs,hrw,hRV⟩:=hDG.rw
  refine ⟨_,rfl,_,rfl,Ad.fa,CF,Ad.dx,_,rfl,hDG.fa,T.c,T.n5,by show 5 < 1000;decide,?_⟩
  rw [Jf]
  have t2:TKF G (upd G Ad.fa (.ins CF Ad.dx (zA Ad.pra Ad.cbv Ad.nm Ad.rw no))):=TKF.upd hDG.fa (fun _ z=>by cases z) fun _ _ z=>by cases z
  have e2:upd G Ad.fa (.ins CF Ad.dx (zA Ad.pra Ad.cbv Ad.nm Ad.rw no)) Ad.fa=some (.ins CF Ad.dx (zA Ad.pra Ad.cbv Ad.nm Ad.rw no)):=ja
  have k2:∀ b o,b≠Ad.fa→H b=some o→upd G Ad.fa (.ins CF Ad.dx (zA Ad.pra Ad.cbv Ad.nm Ad.rw no)) b=some o:=fun b o hb e=>by rw [jg hb];exact sHG _ _ e
  have tk2:TK H (upd G Ad.fa (.ins CF Ad.dx (zA Ad.pra Ad.cbv Ad.nm Ad.rw no))):=fun b xs e=>k2 _ _ (j4 e hD.fa (by intro z;cases z)) e
  have hn2:upd G Ad.fa (.ins CF Ad.dx (zA Ad.pra Ad.cbv Ad.nm Ad.rw no)) Ad.nm=some (.dK (nKV Fm.N)):=by rw [jg (j4 hDG.nm hDG.fa (by intro z;cases z))];exact hDG.nm
  have hrw2:upd G Ad.fa (.ins CF Ad.dx (zA Ad.pra Ad.cbv Ad.nm Ad.rw no)) Ad.rw=some (.dK rvs):=by rw [jg (j4 hrw hDG.fa (by intro z;cases z))];exact hrw
  have hRV2:=hRV.tk t2
  generalize upd G Ad.fa (.ins CF Ad.dx (zA Ad.pra Ad.cbv Ad.nm Ad.rw no))=G2 at *
  refine ⟨_,rfl,_,rfl,Ad.fa,CF,Ad.dx,_,_,rfl,e2,T.c,T.n3,rfl,_,rfl,Ad.fa,CF,Ad.dx,_,_,rfl,e2,T.c,T.n4,rfl,?_⟩
  refine ⟨vl,le,Ad.nm,Ad.rw,n,Fm.N,rvs,Fm.L,rfl,tk2.held hl,trivial,hn2,hrw2,hRV2,hn,fun b G3 s3 hb=>⟨_,rfl,?_⟩⟩
  have hb':=Ja hb
  subst hb'
  refine j9 (fun d=>?_) (fun d=>?_)
  ·refine ⟨_,rfl,_,rfl,Ad.fa,CF,Ad.dx,_,rfl,s3 _ _ e2,T.c,T.n5,by show 5 < 1000;decide,?_⟩
   rw [Jf]
   refine q1 hu _ (fun b o hb e=>by rw [jg hb];exact s3 _ _ (k2 b o hb e)) ?_
   rw [if_pos d]
   exact ja
  ·refine q1 hu _ (fun b o hb e=>s3 _ _ (k2 b o hb e)) ?_
   rw [if_neg d]
   exact s3 _ _ e2
 ·refine ⟨_,rfl,rfl,_,rfl,j9 (fun _=>?_) (fun d=>absurd (show (!decide (V.ref t2=V.non))=true by simp) d)⟩
  exact ⟨_,rfl,q2 k hu t2 G (s1.trans sG) ht2⟩
end
open PySem L2
abbrev kM:Stmt:=jbK (top 29) 0
abbrev JK:Stmt:=top 39
section
variable {P:Program} {w:World} {K:W.Frag} {mg:Str→Option Value} {base:Heap}
theorem jdH {CF:Addr} {f:Addr} {fd:FuncData} (T:ClsF K CF) (F:Fun K "__init__" "Frame.__init__" kM f fd) (B:Free0 mg) (Z_zip:mg "zip" = none):FnOk P w K mg base CX0 1 f fd ["self","proc","numbers","rows","called_by"] (YZ K CF):=by
 have sc:FnScope ["self","proc","numbers","rows","called_by"] ["self","proc","numbers","rows","called_by"] (jf kM):=fs
 refine F.okZ sc (fun vs H Q E h=>?_) (fun cdv A outer s H vs Q E hr h=>?_)
 ·obtain ⟨fa,dx,pr,pt,rt,nl,rl,cb,p0,p1,p4,p5,p6,names,rns,nums,held,rvs,n,rfl,_⟩:=h
  rfl
 obtain ⟨fa,dx,pr,pt,rt,nl,rl,cb,p0,p1,p4,p5,p6,names,rns,nums,held,rvs,n,rfl,hfa,hpr,hpt,hrt,hnl,hrl,hro,hwn,hln,hnd,hl,hlr,hndr,hl2,q⟩:=h
 have hrl0:=hro.len
 refine ⟨_,(jc (kP (zpv 0) (zpv 1) rfl)
   (jc (kP (zpv 0) (zpv 4) rfl)
   (jc (kP (zpv 0) (Ke rfl (by rfl) B.dict_ Zv (by rfl) Z_zip jbg (jd (jX jS (zpv 1) jh (fun _ _=>rfl)) (jd (zpv 2) jk))) rfl)
   (jc (kP (zpv 0) (Ke rfl (by rfl) B.dict_ Zv (by rfl) Z_zip jbg (jd (jX jS (zpv 1) jh (fun _ _=>rfl)) (jd (zpv 3) jk))) rfl)
   (ju (kP (zpv 0) jh rfl)))))),?_⟩
 refine ⟨_,rfl,_,rfl,fa,CF,dx,[],rfl,hfa,T.c,T.n1,by show 0 < 1000;decide,?_⟩
 refine ⟨_,rfl,_,rfl,fa,CF,dx,_,rfl,ja,T.c,T.n2,by show 1 < 1000;decide,?_⟩
 have k1:∀ b o,b≠fa→H b=some o→upd (upd H fa (.ins CF dx (jV "proc" (.ref pr) []))) fa (.ins CF dx (jV "called_by" cb (jV "proc" (.ref pr) []))) b=some o:=fun b o hb z=>by rw [jg hb,jg hb];exact z
 have c1:upd (upd H fa (.ins CF dx (jV "proc" (.ref pr) []))) fa (.ins CF dx (jV "called_by" cb (jV "proc" (.ref pr) []))) fa=some (.ins CF dx (jV "called_by" cb (jV "proc" (.ref pr) []))):=ja
 generalize upd (upd H fa (.ins CF dx (jV "proc" (.ref pr) []))) fa (.ins CF dx (jV "called_by" cb (jV "proc" (.ref pr) [])))=H1 at *
 have nf:∀ {b o},H b=some o→(∀ a b c,o≠.ins a b c)→b≠fa:=fun e n z=>by rw [z,hfa] at e;cases e;exact n _ _ _ rfl
 have hpr1:=k1 _ _ (nf hpr (fun _ _ _ z=>by cases z)) hpr
 have hpt1:=k1 _ _ (nf hpt (fun _ _ _ z=>by cases z)) hpt
 have hrt1:=k1 _ _ (nf hrt (fun _ _ _ z=>by cases z)) hrt
 have hnl1:=k1 _ _ (nf hnl (fun _ _ _ z=>by cases z)) hnl
 have hrl1:=k1 _ _ (nf hrl (fun _ _ _ z=>by cases z)) hrl
 refine ⟨_,rfl,pr,_,_,_,rfl,rfl,SqT.of hpr1,rfl,_,rfl,pt,nl,names,nums.map V.int,rfl,SqT.of hpt1,hnl1,by rw [List.length_map];exact hln,hnd,by omega,fun nm hnm=>?_⟩
 have s2:=jj hnm (.dK (zKV names (nums.map V.int)))
 have e2:upd H1 nm (.dK (zKV names (nums.map V.int))) nm=some (.dK (zKV names (nums.map V.int))):=ja
 generalize upd H1 nm (.dK (zKV names (nums.map V.int)))=H2 at *
 have hnm0:H nm=none:=by
  rcases hh:H nm with _ | o
  ·rfl
  ·by_cases z:nm=fa
   ·rw [z,c1] at hnm;cases hnm
   ·rw [k1 nm o z hh] at hnm;cases hnm
 have nnf:nm≠fa:=fun z=>by rw [z,c1] at hnm;cases hnm
 refine ⟨_,rfl,fa,CF,dx,_,rfl,s2 _ _ c1,T.c,T.n3,by show 2 < 1000;decide,?_⟩
 have k3:∀ b o,b≠fa→H2 b=some o→upd H2 fa (.ins CF dx (jV "numbers" (.ref nm) (jV "called_by" cb (jV "proc" (.ref pr) [])))) b=some o:=fun b o hb z=>by rw [jg hb];exact z
 have c3:upd H2 fa (.ins CF dx (jV "numbers" (.ref nm) (jV "called_by" cb (jV "proc" (.ref pr) [])))) fa=some (.ins CF dx (jV "numbers" (.ref nm) (jV "called_by" cb (jV "proc" (.ref pr) [])))):=ja
 generalize upd H2 fa (.ins CF dx (jV "numbers" (.ref nm) (jV "called_by" cb (jV "proc" (.ref pr) []))))=H3 at *
 have hpr3:=k3 _ _ (nf hpr (fun _ _ _ z=>by cases z)) (s2 _ _ hpr1)
 have hrt3:=k3 _ _ (nf hrt (fun _ _ _ z=>by cases z)) (s2 _ _ hrt1)
 have hrl3:=k3 _ _ (nf hrl (fun _ _ _ z=>by cases z)) (s2 _ _ hrl1)
 have e3n:=k3 _ _ nnf e2
 refine ⟨_,rfl,pr,_,_,_,rfl,rfl,SqT.of hpr3,rfl,_,rfl,rt,rl,rns,rvs,rfl,SqT.of hrt3,hrl3,by omega,hndr,by omega,fun rw hrw=>?_⟩
 have s4:=jj hrw (.dK (zKV rns rvs))
 have e4:upd H3 rw (.dK (zKV rns rvs)) rw=some (.dK (zKV rns rvs)):=ja
 generalize upd H3 rw (.dK (zKV rns rvs))=H4 at *
 have hrw0:H rw=none:=by
  rcases hh:H rw with _ | o
  ·rfl
  ·by_cases z:rw=fa
   ·rw [z,c3] at hrw;cases hrw
   ·rw [k3 rw o z (s2 _ _ (k1 rw o z hh))] at hrw;cases hrw
 have nrf:rw≠fa:=fun z=>by rw [z,c3] at hrw;cases hrw
 have nnr:nm≠rw:=fun z=>by rw [← z,e3n] at hrw;cases hrw
 refine ⟨_,rfl,fa,CF,dx,_,rfl,s4 _ _ c3,T.c,T.n4,by show 3 < 1000;decide,?_⟩
 refine ⟨_,rfl,fa,CF,dx,_,rfl,ja,T.c,T.n5,by show 4 < 1000;decide,?_⟩
 rw [jcL]
 have kk:∀ b o,b≠fa→H b=some o→upd (upd H4 fa (.ins CF dx (jV "rows" (.ref rw) (jV "numbers" (.ref nm) (jV "called_by" cb (jV "proc" (.ref pr) [])))))) fa (.ins CF dx (zA pr cb nm rw 0)) b=some o:=fun b o hb z=>by
  rw [jg hb,jg hb];exact s4 _ _ (k3 b o hb (s2 _ _ (k1 b o hb z)))
 refine q nm rw _ kk hnm0 hrw0 nnr fun F hN hL hi=>?_
 refine ⟨?_,?_,zKV rns rvs,?_,?_⟩
 ·rw [hi];exact ja
 ·rw [hN,← jer]
  show upd _ _ _ nm=_
  rw [jg nnf,jg nnf];exact s4 _ _ e3n
 ·show upd _ _ _ rw=_
  rw [jg nrf,jg nrf];exact e4
 ·rw [hL]
  refine jdn (hro.tk ⟨fun b xs z=>kk b _ (nf z (fun _ _ _ y=>by cases y)) z,fun b o u z=>kk b _ (nf z (fun _ _ _ y=>by cases y)) z⟩) hwn (by omega)
theorem je4 {CC CF:Addr} {f:Addr} {fd:FuncData} {td:Tok} (TC:ClsC K CC) (T:ClsF K CF) (F:Fun K "call" "call" JK f fd) (B:Free0 mg) (G_deep:mg "MOST_DEEP" = some (.int 20 td)) (F_number_at:Fn P w K mg base 1 "number_at" ["x","numbers"] qV) (M_Frame:MkFn P w K mg base 1 "Frame" CF ["self","proc","numbers","rows","called_by"] (YZ K CF)) (F_look:Fn P w K mg base 7 "look" ["f","kind","path","claims","frame"] (Ki K CF)):FnOk P w K mg base CX0 8 f fd ["course","frame","statement","path"] (jaG K CC CF):=by
 have sc:FnScope ["course","frame","statement","path","x","f","args","rows","numbers","called","end"] ["course","frame","statement","path"] (jf JK):=fs
 refine F.okZ sc (fun vs H Q E h=>?_) (fun cdv A outer s H vs Q E hr h=>?_)
 ·obtain ⟨C,A,F,n,st,P,c,fvs,p1,vp,pra2,tk,most,used,rfl,_⟩:=h
  rfl
 obtain ⟨C,Ad,Fr,n,st,Pp,c,fvs,p1,vp,pra2,tk,most,used,rfl,hC,q1,q2,q3⟩:=h
 have hu:=yL hr
 obtain ⟨st',ta,tr,est,hst,hta,htr⟩:=KW hC.st
 cases est
 obtain ⟨rvs,hrw,hRV⟩:=hC.fr.rw
 obtain ⟨p0,p2,p3,p4,p5,p6,hpr⟩:=hC.pr
 obtain ⟨kv,hd1,hval⟩:=hC.d1
 obtain ⟨a2,pt,rt,v4,v5,vb,ea2,hp2,hpt,hrt,hv4,hv5,hvb⟩:=zR hC.p2
 cases ea2
 refine ⟨_,(jc (qF (qN zj (zpv 2) (qU jh) zH) (q8 rfl (jw (jr (i:=4) sc.nd rfl ol) (jw (jr (i:=5) sc.nd rfl ol) (jw (jr (i:=6) sc.nd rfl ol) (jw (jr (i:=7) sc.nd rfl ol) qv))))))
   (jc (qT (i:=8) sc.nd rfl ol ["arg"] [1] rfl (kW (sc:=jf JK) (N:=["course","frame","statement","path","x","f","args","rows","numbers","called","end"]) rfl rfl (by decide +kernel)) (y0 (zpv 6)) (fun s H ex=>⟨(jr (i:=0) (show List.Nodup (["arg","frame"]:List Str) by decide +kernel) rfl ol),qu,(jL F_number_at hr (jd (zpv 0) (jd (Kd (K:=K) (zpv 1) rfl) jk)))⟩))
   (jc (jF (i:=9) sc.nd rfl ol (jau M_Frame hr (jd (zI hu (jD (zpv 0) rfl) (zpv 5) (fun _ _=>rfl)) (jd (zpv 8) (jd (Kf ["r"] [1] rfl (kW (sc:=jf JK) (N:=["course","frame","statement","path","x","f","args","rows","numbers","called","end"]) rfl rfl (by decide +kernel)) (y0 (zpv 7)) (fun s H ex=>⟨(jr (i:=0) (show List.Nodup (["r","frame"]:List Str) by decide +kernel) rfl ol),qu,(zI hu (Kd (K:=K) (zpv 1) rfl) (zpv 0) (fun _ _=>rfl))⟩)) (jd (zpv 2) jk))))))
   (jc (jF (i:=10) sc.nd rfl ol (jL F_look hr (jd (jX jS (jD (zpv 1) rfl) jh (fun _ _=>rfl)) (jd ke (jd (zpv 3) (jd (jX jS (jD (zpv 9) rfl) jh (fun _ _=>rfl)) (jd (zpv 9) jk)))))))
   (jc (kn (jW J5 (zpv 10) kA (jJ _)) (ju (jN (zpv 10))) jZ)
   (jc (kn (jW jbB (yO kf (by rfl) B.len_ zx (jd (jD (zpv 0) rfl) jk)) (jc1 (v:=.int 20) (by rfl) G_deep ⟨_,rfl⟩) (jJ _)) (ju (jN (kQ (jd ke jk)))) jZ)
   (jc (yj (jav PySem.F.plainAttrs_list PySem.F.slot_list_append PySem.F.type_list_append kN (jD (zpv 0) rfl) (jd (zpv 9) jk)))
   (ju (jN kA))))))))),?_⟩
 refine zJ (σ':=[some (.ref C.co),some (.ref Ad.fa),some (.ref st),some vp,none,none,none,none,none,none,none]) rfl ?_
 refine ⟨_,rfl,_,rfl,st,_,rfl,SqT.of hst,(fun h=>absurd h.1 (by show ¬ (HT.sIx 5 0 (some 1)=0);decide)),fun t ht=>?_⟩
 rw [show qZ [V.str "call",V.str c.x,V.str c.f,V.ref ta,V.ref tr] (some 1) none=[V.str c.x,V.str c.f,V.ref ta,V.ref tr] from rfl]
 have s1:=jj ht (.tup [V.str c.x,V.str c.f,V.ref ta,V.ref tr])
 have e1:upd H t (.tup [V.str c.x,V.str c.f,V.ref ta,V.ref tr]) t=some (.tup [V.str c.x,V.str c.f,V.ref ta,V.ref tr]):=ja
 generalize upd H t (.tup [V.str c.x,V.str c.f,V.ref ta,V.ref tr])=H1 at *
 refine ⟨t,_,rfl,SqT.of e1,rfl,_,_,rfl,?_⟩
 refine gs ?_
 refine ⟨_,_,rfl,?_⟩
 refine gs ?_
 refine ⟨_,_,rfl,?_⟩
 refine gs ?_
 refine ⟨_,_,rfl,?_⟩
 refine gs ?_
 refine ⟨rfl,?_⟩
 refine ⟨_,rfl,ta,rfl,⟨_,SqT.of (s1 _ _ hta)⟩,fun nl hnl=>?_⟩
 refine Jk (xs:=c.as.map V.str) (fun j σ' G=>∃ u,σ'=[u,some (.ref Ad.fa)]∧Same H1 G∧G nl=some (.lst (((c.as.take j).map (kH Fr.N)).map V.int))) ⟨none,rfl,jj hnl _,ja⟩ ?_ ?_ ?_
 ·rintro j σ' G _ ⟨u,rfl,sG,_⟩
  exact SqT.of (sG _ _ (s1 _ _ hta))
 ·rintro j x σ' G hx ⟨u,rfl,sG,hG⟩
  have hj:j < c.as.length:=by
   have:=(List.getElem?_eq_some_iff.mp hx).1
   rw [List.length_map] at this
   exact this
  rw [List.getElem?_map,List.getElem?_eq_getElem hj] at hx
  cases hx
  unfold qg yl
  refine zy ?_
  have hDG:=hC.fr.same (s1.trans sG)
  refine ⟨_,rfl,_,rfl,Ad.fa,CF,Ad.dx,_,_,rfl,hDG.fa,T.c,T.n3,rfl,_,Ad.nm,Fr.N,rfl,hDG.nm,?_⟩
  have hl:=hC.ok.as
  have hl1:=hC.ok.lps
  refine ⟨_,hG,jz (by rw [List.length_map,List.length_map,List.length_take];omega),_,rfl,fun b o e=>?_,?_⟩
  ·rw [jg (jl e hnl)];exact sG _ _ e
  ·rw [ja,List.take_succ,List.getElem?_eq_getElem hj,List.map_append,List.map_append];rfl
 rintro σ' H2 ⟨u,rfl,s2,hnl2⟩
 rw [List.length_map,List.take_length] at hnl2
 refine gs ?_
 have s12:=s1.trans s2
 have hg:DGet H2 C.d1 (kV (Sum.inr c.f)) (some (.ref pra2)):=by
  have h:=DGet.k (k:=Sum.inr c.f) (s12 _ _ hd1)
  rw [hval] at h
  exact h
 refine ⟨_,rfl,C.co,CC,C.dc,_,_,rfl,s12 _ _ hC.co,TC.c,TC.n1,rfl,_,rfl,C.d1,.ref pra2,rfl,hg,_,rfl,_,rfl,tr,rfl,⟨_,SqT.of (s12 _ _ htr)⟩,fun rl hrl=>?_⟩
 refine Jk (xs:=c.rows.map V.str) (fun j σ' G=>∃ u vs,σ'=[u,some (.ref Ad.fa)]∧Same H2 G∧G rl=some (.lst vs)∧RowsAt K G ((c.rows.take j).map (qh Fr.L)) vs∧vs.length=j) ⟨none,[],rfl,jj hrl _,ja,trivial,rfl⟩ ?_ ?_ ?_
 ·rintro j σ' G _ ⟨u,vs,rfl,sG,_⟩
  exact SqT.of (sG _ _ (s12 _ _ htr))
 ·rintro j x σ' G hx ⟨u,vs,rfl,sG,hG,hR,hvl⟩
  have hj:j < c.rows.length:=by
   have:=(List.getElem?_eq_some_iff.mp hx).1
   rw [List.length_map] at this
   exact this
  rw [List.getElem?_map,List.getElem?_eq_getElem hj] at hx
  cases hx
  unfold qg yl
  refine zy ?_
  have sHG:=s12.trans sG
  have hDG:=hC.fr.same sHG
  have hsome:(lkA Fr.L c.rows[j]).isSome=true:=by
   have:=hC.ok.has
   unfold qp at this
   exact List.all_eq_true.mp this _ (List.getElem_mem hj)
  rcases hRV.val c.rows[j] with ⟨_,hno⟩ | ⟨v,q,hv1,hv2,hv3,hv4⟩
  ·rw [hno] at hsome;cases hsome
  have hgr:DGet G Ad.rw (kV (Sum.inr c.rows[j])) (some v):=by
   have h:=DGet.k (k:=Sum.inr c.rows[j]) (sHG _ _ hrw)
   rw [hv1] at h
   exact h
  refine ⟨_,rfl,Ad.fa,CF,Ad.dx,_,_,rfl,hDG.fa,T.c,T.n4,rfl,_,rfl,Ad.rw,v,rfl,hgr,?_⟩
  have hl:=hC.ok.rows
  have hl1:=hC.ok.lrs
  have tk:TKF G (upd G rl (.lst (vs++[v]))):=TKF.updL hG
  refine ⟨_,hG,jz (by omega),_,vs++[v],rfl,fun b o e=>?_,ja,?_,by rw [List.length_append,hvl];rfl⟩
  ·rw [jg (jl e hrl)];exact sG _ _ e
  ·rw [List.take_succ,List.getElem?_eq_getElem hj,List.map_append]
   have eq:qh Fr.L c.rows[j]=q:=by unfold qh;rw [hv2];rfl
   show RowsAt K _ ((c.rows.take j).map (qh Fr.L)++[qh Fr.L c.rows[j]]) (vs++[v])
   rw [eq]
   exact (hR.tk tk).snoc ((hv3.tk (TKF.same sHG)).tk tk)
 rintro σ' H3 ⟨u3,vs,rfl,s3,hrl3,hR3,hvl⟩
 rw [List.length_map,List.take_length] at hR3
 rw [List.length_map] at hvl
 have s13:=s12.trans s3
 refine ⟨_,rfl,fun fa2 dx2 hfa2 hdx2 ndx2=>?_⟩
 have s4:Same H3 (upd (upd H3 dx2 (.own fa2)) fa2 (.ins CF dx2 [])):=fun b o z=>by rw [jg (jl z hfa2),jg (jl z hdx2)];exact z
 have f4:upd (upd H3 dx2 (.own fa2)) fa2 (.ins CF dx2 []) fa2=some (.ins CF dx2 []):=ja
 generalize upd (upd H3 dx2 (.own fa2)) fa2 (.ins CF dx2 [])=H4 at *
 have s14:=s13.trans s4
 have hwn:∀ q∈kl Fr.L c.rows,q.2.2.length≤n:=fun q hq=>by
  obtain ⟨r,hr,rfl⟩:=List.mem_map.mp hq
  rcases hRV.val r with ⟨_,hno⟩ | ⟨v,q,hv1,hv2,hv3,hv4⟩
  ·unfold qh;rw [hno];exact Nat.zero_le _
  ·unfold qh;rw [hv2];exact hv4
 have hlen:(kl Fr.L c.rows).length=c.rows.length:=by unfold kl;rw [List.length_map]
 refine ⟨fa2,dx2,pra2,pt,rt,nl,rl,.ref st,.str "proc",.str Pp.f,v4,v5,vb,Pp.ps,Pp.rs,c.as.map (kH Fr.N),kl Fr.L c.rows,vs,n,rfl,f4,s14 _ _ hp2,s14 _ _ hpt,s14 _ _ hrt,(s3.trans s4) _ _ hnl2,s4 _ _ hrl3,hR3.tk (TKF.same s4),hwn,by rw [List.length_map];exact hC.ok.as,hC.ok.nps,hC.ok.lps,by rw [hlen];exact hC.ok.rows,hC.ok.nrs,hC.ok.lrs,fun nm2 rw2 H5 k5 hnm2 hrw2 nnr hF=>⟨rfl,?_⟩⟩
 have s5:Same H3 H5:=fun b o z=>k5 b o (jl z hfa2) (s4 _ _ z)
 have s15:=s13.trans s5
 have hF2:FrD K CF H5 n ⟨fa2,dx2,nm2,rw2,pra2,.ref st⟩ (zG Pp c Fr):=hF _ rfl rfl rfl
 refine gs ?_
 have hDG:=hC.fr.same s15
 refine ⟨_,rfl,Ad.fa,CF,Ad.dx,_,_,rfl,hDG.fa,T.c,T.n1,rfl,Ad.pra,_,_,_,rfl,rfl,SqT.of (s15 _ _ hpr),rfl,_,rfl,_,rfl,fa2,CF,dx2,_,_,rfl,hF2.fa,T.c,T.n1,rfl,pra2,_,_,_,rfl,rfl,SqT.of (s15 _ _ hp2),rfl,_,rfl,?_⟩
 refine ⟨p1,.str "need",vp,v4,Pp.needs,⟨fa2,dx2,nm2,rw2,pra2,.ref st⟩,zG Pp c Fr,n,rfl,hv4.mono s15,hF2,hC.hn,fun hun G6 s6=>?_,fun k hun t6 G6 s6 ht6=>?_⟩
 ·refine gs ?_
  refine ⟨_,rfl,rfl,_,rfl,j9 (fun d=>absurd d (by show ¬ ((!decide (V.non=V.non))=true);simp)) (fun _=>?_)⟩
  have s16:=s15.trans s6
  have hfl6:=s16 _ _ hC.fl
  refine ⟨_,rfl,C.co,CC,C.dc,_,_,rfl,s16 _ _ hC.co,TC.c,TC.n7,rfl,C.fl,_,rfl,.inl (SqL.of hfl6),_,_,rfl,rfl,_,rfl,j9 (fun d=>?_) (fun d=>?_)⟩
  ·have d':20 < fvs.length:=by have:=of_decide_eq_true d;omega
   exact ⟨sm rfl,fun t7 ht7=>q2 hun d' t7 _ (s16.trans (jj ht7 _)) ja⟩
  ·have d':¬ 20 < fvs.length:=fun z=>d (decide_eq_true (by omega))
   refine ⟨_,rfl,C.co,CC,C.dc,_,_,rfl,s16 _ _ hC.co,TC.c,TC.n7,rfl,.inl ⟨rfl,_,SqL.of hfl6⟩,_,rfl,C.fl,_,_,rfl,rfl,hfl6,jz (by have:=hC.fvs;omega),?_⟩
   have fr0:∀ b,H3 b=none→H b=none:=fun b hb=>s13.free hb
   refine q3 hun d' ⟨fa2,dx2,nm2,rw2,pra2,.ref st⟩ _ (fun b o hb e=>by rw [jg hb];exact s16 _ _ e) ja ?_ rfl rfl (fun b hb=>?_) ?_
   ·have hF6:=hF2.same s6
    refine hF6.keep (Nat.le_refl _) (TKF.updL hfl6) fun b hb o e=>?_
    rw [jg]
    ·exact e
    ·intro z
     subst z
     have hH:H C.fl=none:=by
      simp only [FA.own,List.mem_cons,List.mem_nil_iff,or_false] at hb
      rcases hb with z | z | z
      ·rw [z];exact s13.free hfa2
      ·rw [z];exact s13.free (s4.free hnm2)
      ·rw [z];exact s13.free (s4.free hrw2)
     rw [hC.fl] at hH
     cases hH
   ·simp only [FA.own,List.mem_cons,List.mem_nil_iff,or_false] at hb
    rcases hb with z | z | z
    ·rw [z];exact s13.free hfa2
    ·rw [z];exact s13.free (s4.free hnm2)
    ·rw [z];exact s13.free (s4.free hrw2)
   ·have n1:fa2≠nm2:=fun z=>by rw [← z,f4] at hnm2;cases hnm2
    have n2:fa2≠rw2:=fun z=>by rw [← z,f4] at hrw2;cases hrw2
    simp [FA.own,n1,n2,nnr]
 ·refine gs ?_
  refine ⟨_,rfl,rfl,_,rfl,j9 (fun _=>?_) (fun d=>absurd (show (!decide (V.ref t6=V.non))=true by simp) d)⟩
  exact ⟨_,rfl,q1 k hun t6 G6 (s15.trans s6) ht6⟩
end
open PySem L2
abbrev qB:Stmt:=top 38
abbrev qR:Stmt:=top 35
abbrev sDo:Stmt:=top 37
section
variable {P:Program} {w:World} {K:W.Frag} {mg:Str→Option Value} {base:Heap}
theorem K8 {CC CF:Addr} {f:Addr} {fd:FuncData} (TC:ClsC K CC) (T:ClsF K CF) (F:Fun K "take_input" "take_input" qB f fd) (B:Free0 mg):FnOk P w K mg base CX0 1 f fd ["course","frame","x"] (jde K CC CF):=by
 have sc:FnScope ["course","frame","x"] ["course","frame","x"] (jf qB):=fs
 refine F.okZ sc (fun vs H Q E h=>?_) (fun cdv A outer s H vs Q E hr h=>?_)
 ·obtain ⟨C,A,F,n,x,inp,tk,most,used,rfl,_⟩:=h
  rfl
 obtain ⟨C,Ad,Fr,n,x,inp,tk,most,used,rfl,hco,hil,hD,hN,hcf,htk,q1,q2⟩:=h
 have hu:=yL hr
 refine ⟨_,(jc (kn (jW kZ (jD (zpv 0) rfl) (yO kf (by rfl) B.len_ zx (jd (jD (zpv 0) rfl) jk)) (jJ _)) (ju (jN (kQ (jd ke jk)))) jZ)
   (jc (yZ hu (jD (zpv 1) rfl) (zpv 2) (jX km (jD (zpv 0) rfl) (jD (zpv 0) rfl) (fun _ _=>rfl)) rfl)
   (jc (yM (zpv 0) jh ja5)
   (ju (jN kA))))),?_⟩
 refine ⟨_,rfl,C.co,CC,C.dc,_,_,rfl,hco,TC.c,TC.n4,rfl,_,rfl,C.co,CC,C.dc,_,_,rfl,hco,TC.c,TC.n3,rfl,C.il,_,rfl,.inl (SqL.of hil),rfl,_,rfl,j9 (fun d=>?_) (fun d=>?_)⟩
 ·have d':tk=inp.length:=by
   have:=of_decide_eq_true d
   injection this with this
   rw [List.length_map] at this
   omega
  refine ⟨sm rfl,fun t ht=>q1 (List.getElem?_eq_none (by omega)) t _ (jj ht _) ja⟩
 ·have d':tk < inp.length:=by
   rcases Nat.lt_or_ge tk inp.length with g | g
   ·exact g
   ·exact absurd (decide_eq_true (by rw [List.length_map,show tk=inp.length by omega])) d
  have hat:atI (inp.map V.int) (tk:Int)=some (.int inp[tk]):=zD (by rw [List.getElem?_map,List.getElem?_eq_getElem d'];rfl)
  refine ⟨_,rfl,C.co,CC,C.dc,_,_,rfl,hco,TC.c,TC.n3,rfl,_,rfl,C.co,CC,C.dc,_,_,rfl,hco,TC.c,TC.n4,rfl,C.il,_,_,_,rfl,rfl,SqL.of hil,hat,?_⟩
  refine ⟨_,rfl,Ad.fa,CF,Ad.dx,_,_,rfl,hD.fa,T.c,T.n3,rfl,_,rfl,Ad.nm,_,rfl,DPut.k (k:=Sum.inr x) hD.nm (jz (by unfold nKV;rw [List.length_map];omega)),?_⟩
  rw [Y9]
  have hne:C.co≠Ad.nm:=j4 hco hD.nm (by intro z;cases z)
  have hco2:upd H Ad.nm (.dK (nKV (kE Fr.N x inp[tk]))) C.co=some (.ins CC C.dc (qd C.d1 C.d2 (.ref C.il) tk most used C.fl)):=by rw [jg hne];exact hco
  refine ⟨_,rfl,C.co,CC,C.dc,_,_,rfl,hco2,TC.c,TC.n4,rfl,_,_,rfl,rfl,_,_,hco2,by show 7 < 1000;decide,?_⟩
  rw [show ((tk:Int)+1)=((tk+1:Nat):Int) by omega,jaK]
  refine q2 inp[tk] (List.getElem?_eq_getElem d') _ (fun b o b1 b2 e=>by rw [jg b2,jg b1];exact e) ?_ ja
  rw [jg (Ne.symm hne),ja]
theorem Y5 {CF:Addr} {f:Addr} {fd:FuncData} (T:ClsF K CF) (F:Fun K "hand_back" "hand_back" qR f fd) (B:Free0 mg) (Z_zip:mg "zip" = none):FnOk P w K mg base CX0 1 f fd ["caller","statement","out","held"] (jdj K CF):=by
 have sc:FnScope ["caller","statement","out","held","x","f","args","rows"] ["caller","statement","out","held"] (jf qR):=fs
 refine F.okZ sc (fun vs H Q E h=>?_) (fun cdv A outer s H vs Q E hr h=>?_)
 ·obtain ⟨A,F,n,st,hl,c,out,hvs,held,rfl,_⟩:=h
  rfl
 obtain ⟨Ad,Fr,n,st,hl,c,out,hvs,held,rfl,hD,hst,hhl,hR,hwn,hlr,hnd,hl1,hN,hL,hnr,q⟩:=h
 have hu:=yL hr
 obtain ⟨st',ta,tr,est,hstt,hta,htr⟩:=KW hst
 cases est
 have hrl:=hR.len
 obtain ⟨rvs,hrw,hRV⟩:=hD.rw
 have hrvl:=hRV.len
 refine ⟨_,(jc (qF (qN zj (zpv 1) (qU jh) zH) (q8 rfl (jw (jr (i:=4) sc.nd rfl ol) (jw (jr (i:=5) sc.nd rfl ol) (jw (jr (i:=6) sc.nd rfl ol) (jw (jr (i:=7) sc.nd rfl ol) qv))))))
   (jc (yZ hu (jD (zpv 0) rfl) (zpv 4) (zpv 2) rfl)
   (ju (yj (jav PySem.F.plainAttrs_dict PySem.F.slot_dict_update PySem.F.type_dict_update jcx (jD (zpv 0) rfl) (jd (Ke rfl (by rfl) B.dict_ Zv (by rfl) Z_zip jbg (jd (zpv 7) (jd (zpv 3) jk))) jk)))))),?_⟩
 refine zJ (σ':=[some (.ref Ad.fa),some (.ref st),some (.int out),some (.ref hl),none,none,none,none]) rfl ?_
 refine ⟨_,rfl,_,rfl,st,_,rfl,SqT.of hstt,(fun h=>absurd h.1 (by show ¬ (HT.sIx 5 0 (some 1)=0);decide)),fun t ht=>?_⟩
 rw [show qZ [V.str "call",V.str c.x,V.str c.f,V.ref ta,V.ref tr] (some 1) none=[V.str c.x,V.str c.f,V.ref ta,V.ref tr] from rfl]
 have s1:=jj ht (.tup [V.str c.x,V.str c.f,V.ref ta,V.ref tr])
 have e1:upd H t (.tup [V.str c.x,V.str c.f,V.ref ta,V.ref tr]) t=some (.tup [V.str c.x,V.str c.f,V.ref ta,V.ref tr]):=ja
 generalize upd H t (.tup [V.str c.x,V.str c.f,V.ref ta,V.ref tr])=H1 at *
 refine ⟨t,_,rfl,SqT.of e1,rfl,_,_,rfl,?_⟩
 refine gs ?_
 refine ⟨_,_,rfl,?_⟩
 refine gs ?_
 refine ⟨_,_,rfl,?_⟩
 refine gs ?_
 refine ⟨_,_,rfl,?_⟩
 refine gs ?_
 refine ⟨rfl,?_⟩
 have hD1:=hD.same s1
 refine ⟨_,rfl,_,rfl,Ad.fa,CF,Ad.dx,_,_,rfl,hD1.fa,T.c,T.n3,rfl,_,rfl,Ad.nm,_,rfl,DPut.k (k:=Sum.inr c.x) hD1.nm (jz (by unfold nKV;rw [List.length_map];omega)),?_⟩
 rw [Y9]
 have t2:TKF H1 (upd H1 Ad.nm (.dK (nKV (kE Fr.N c.x out)))):=TKF.updD hD1.nm
 have k2:∀ b o,b≠Ad.nm→H b=some o→upd H1 Ad.nm (.dK (nKV (kE Fr.N c.x out))) b=some o:=fun b o hb e=>by rw [jg hb];exact s1 _ _ e
 have e2:upd H1 Ad.nm (.dK (nKV (kE Fr.N c.x out))) Ad.nm=some (.dK (nKV (kE Fr.N c.x out))):=ja
 have t02:=(TKF.same s1).trans t2
 generalize upd H1 Ad.nm (.dK (nKV (kE Fr.N c.x out)))=H2 at *
 have hfa2:=k2 _ _ (j4 hD.fa hD.nm (by intro z;cases z)) hD.fa
 have hrw2:=k2 _ _ (Ne.symm hnr) hrw
 have hhl2:=k2 _ _ (j4 hhl hD.nm (by intro z;cases z)) hhl
 have htr2:=k2 _ _ (j4 htr hD.nm (by intro z;cases z)) htr
 refine ⟨_,rfl,Ad.fa,CF,Ad.dx,_,_,rfl,hfa2,T.c,T.n4,rfl,.inr (.inr (.inl ⟨rfl,.inl ⟨_,hrw2⟩⟩)),?_⟩
 refine ⟨_,rfl,_,rfl,tr,hl,c.rows,hvs,rfl,SqT.of htr2,hhl2,by omega,hnd,by omega,fun d2 hd2=>?_⟩
 have s3:=jj hd2 (.dK (zKV c.rows hvs))
 have e3:upd H2 d2 (.dK (zKV c.rows hvs)) d2=some (.dK (zKV c.rows hvs)):=ja
 generalize upd H2 d2 (.dK (zKV c.rows hvs))=H3 at *
 have hrw3:=s3 _ _ hrw2
 have nd2:Ad.rw≠d2:=jl hrw2 hd2
 have zl:(zKV c.rows hvs).length=c.rows.length:=by unfold zKV;rw [List.length_map,List.length_zip];omega
 refine ⟨Ad.rw,d2,rvs,zKV c.rows hvs,rfl,rfl,nd2,hrw3,e3,by omega,?_⟩
 have t4:TKF H3 (upd H3 Ad.rw (.dK (ZD rvs (zKV c.rows hvs)))):=TKF.updD hrw3
 have t04:=t02.trans ((TKF.same s3).trans t4)
 refine q _ (fun b o b1 b2 e=>by rw [jg b2];exact s3 _ _ (k2 b o b1 e)) ?_ ⟨_,ja,jdo (hR.tk t04) hwn (by omega) (hRV.tk t04)⟩
 rw [jg hnr]
 exact s3 _ _ e2
theorem jhd {CC CF:Addr} {f:Addr} {fd:FuncData} (TC:ClsC K CC) (T:ClsF K CF) (F:Fun K "do" "do" sDo f fd) (F_call:Fn P w K mg base 8 "call" ["course","frame","statement","path"] (jaG K CC CF)) (F_look:Fn P w K mg base 7 "look" ["f","kind","path","claims","frame"] (Ki K CF)) (F_take_input:Fn P w K mg base 1 "take_input" ["course","frame","x"] (jde K CC CF)) (F_term_at:Fn P w K mg base 3 "term_at" ["term","numbers","rows"] (Jr K)) (F_written:Fn P w K mg base 3 "written" ["row","p","v"] (Yk K)) (F_place_at:Fn P w K mg base 2 "place_at" ["place","numbers"] yP):FnOk P w K mg base CX0 9 f fd ["course","frame","statement","path"] (jgV K CC CF):=by
 have sc:FnScope ["course","frame","statement","path","kind","a","c","value","r","place"] ["course","frame","statement","path"] (jf sDo):=fs
 refine F.okZ sc (fun vs H Q E h=>?_) (fun cdv A outer s H vs Q E hr h=>?_)
 ·obtain ⟨C,A,F,n,st,d,inp,p1,vp,tk,most,used,rfl,_⟩:=h
  rfl
 obtain ⟨C,Ad,Fr,n,st,d,inp,p1,vp,tk,most,used,rfl,hA,q⟩:=h
 have hu:=yL hr
 obtain ⟨rvs,hrw,hRV⟩:=hA.fr.rw
 obtain ⟨p0,p2,p3,p4,p5,p6,hpr⟩:=hA.pr
 refine ⟨_,(jc (jF (i:=4) sc.nd rfl ol (jX jS (zpv 2) jh (fun _ _=>rfl)))
   (jc (kn (jW kZ (zpv 4) ke (jJ _)) (ju (jN (jL F_call hr (jd (zpv 0) (jd (zpv 1) (jd (zpv 2) (jd (zpv 3) jk))))))) jZ)
   (jc (kn (jW kZ (zpv 4) ke (jJ _)) (ju (jN (jL F_look hr (jd (jX jS (jD (zpv 1) rfl) jh (fun _ _=>rfl)) (jd ke (jd (zpv 3) (jd (qN zj (zpv 2) (qU jh) zH) (jd (zpv 1) jk)))))))) jZ)
   (jc (kn (jW kZ (zpv 4) ke (jJ _)) (ju (jN (jL F_take_input hr (jd (zpv 0) (jd (zpv 1) (jd (jX jS (zpv 2) jh (fun _ _=>rfl)) jk)))))) jZ)
   (jc (qF (qN zj (zpv 2) (qU (Kc Kh jh)) zH) (q8 rfl (jw (jr (i:=5) sc.nd rfl ol) (jw (jr (i:=6) sc.nd rfl ol) qv))))
   (jc (jF (i:=7) sc.nd rfl ol (jG j6 (jL F_term_at hr (jd (zpv 5) (jd (jD (zpv 1) rfl) (jd (jD (zpv 1) rfl) jk)))) (zpv 6)))
   (jc (kn (jW kZ (zpv 4) ke (jJ _)) (ju (yZ hu (jD (zpv 1) rfl) (jX jS (zpv 2) jh (fun _ _=>rfl)) (zpv 7) rfl)) (jc (qF (qN zj (zpv 2) (qU jh) (qU jh)) (q8 rfl (jw (jr (i:=8) sc.nd rfl ol) (jw (jr (i:=9) sc.nd rfl ol) qv))))
   (ju (yZ hu (jD (zpv 1) rfl) (zpv 8) (jL F_written hr (jd (zI hu (jD (zpv 1) rfl) (zpv 8) (fun _ _=>rfl)) (jd (jL F_place_at hr (jd (zpv 9) (jd (jD (zpv 1) rfl) jk))) (jd (zpv 7) jk)))) rfl))))
   (ju (jN kA))))))))),?_⟩
 refine zJ (σ':=[some (.ref C.co),some (.ref Ad.fa),some (.ref st),some vp,none,none,none,none,none,none]) rfl ?_
 cases d with
 | set x t c=>
  obtain ⟨st',u,est,hst,hut⟩:=jeA hA.st
  cases est
  refine ⟨_,rfl,st,_,_,_,rfl,rfl,SqT.of hst,rfl,?_⟩
  refine gs ?_
  refine ⟨_,rfl,rfl,_,rfl,j9 (fun d=>absurd (of_decide_eq_true d) (by decide)) (fun _=>?_)⟩
  refine ⟨_,rfl,rfl,_,rfl,j9 (fun d=>absurd (of_decide_eq_true d) (by decide)) (fun _=>?_)⟩
  refine ⟨_,rfl,rfl,_,rfl,j9 (fun d=>absurd (of_decide_eq_true d) (by decide)) (fun _=>?_)⟩
  refine ⟨_,rfl,_,rfl,_,rfl,st,_,rfl,SqT.of hst,(fun h=>absurd h.1 (by show ¬ (HT.sIx 4 0 (some (-2))=0);decide)),fun t1 ht1=>?_⟩
  rw [show qZ [V.str "set",V.str x,u,V.int c] (some (-2)) none=[u,V.int c] from rfl]
  have s1:=jj ht1 (.tup [u,V.int c])
  have e1:upd H t1 (.tup [u,V.int c]) t1=some (.tup [u,V.int c]):=ja
  generalize upd H t1 (.tup [u,V.int c])=H1 at *
  refine ⟨t1,_,rfl,SqT.of e1,rfl,_,_,rfl,?_⟩
  refine gs ?_
  refine ⟨_,_,rfl,?_⟩
  refine gs ?_
  refine ⟨rfl,?_⟩
  have hD1:=hA.fr.same s1
  refine ⟨_,rfl,_,rfl,Ad.fa,CF,Ad.dx,_,_,rfl,hD1.fa,T.c,T.n3,rfl,_,rfl,Ad.fa,CF,Ad.dx,_,_,rfl,hD1.fa,T.c,T.n4,rfl,u,t,Ad.nm,Ad.rw,n,Fr.N,rvs,Fr.L,rfl,hut.mono s1,hD1.nm,s1 _ _ hrw,hRV.tk (TKF.same s1),by have:=hA.hn;omega,_,rfl,_,_,rfl,rfl,?_⟩
  refine gs ?_
  refine ⟨_,rfl,rfl,_,rfl,j9 (fun _=>?_) (fun d=>absurd (decide_eq_true rfl) d)⟩
  refine ⟨_,rfl,_,rfl,Ad.fa,CF,Ad.dx,_,_,rfl,hD1.fa,T.c,T.n3,rfl,_,rfl,st,_,_,_,rfl,rfl,SqT.of (s1 _ _ hst),rfl,Ad.nm,_,rfl,DPut.k (k:=Sum.inr x) hD1.nm (jz (by unfold nKV;rw [List.length_map];have:=hA.N;omega)),?_⟩
  rw [Y9]
  exact q _ (fun b o hb e=>by rw [jg hb];exact s1 _ _ e) ja
 | put r x d t c=>
  obtain ⟨st',b,u,est,hst,hb,hut⟩:=jeJ hA.st
  cases est
  obtain ⟨hsome,q⟩:=q
  rcases hRV.val r with ⟨_,hno⟩ | ⟨v,qr,hv1,hv2,hv3,hv4⟩
  ·rw [hno] at hsome;cases hsome
  have eqr:qh Fr.L r=qr:=by unfold qh;rw [hv2];rfl
  obtain ⟨R,g1,g2,g3,g5⟩:=hv3
  refine ⟨_,rfl,st,_,_,_,rfl,rfl,SqT.of hst,rfl,?_⟩
  refine gs ?_
  refine ⟨_,rfl,rfl,_,rfl,j9 (fun d=>absurd (of_decide_eq_true d) (by decide)) (fun _=>?_)⟩
  refine ⟨_,rfl,rfl,_,rfl,j9 (fun d=>absurd (of_decide_eq_true d) (by decide)) (fun _=>?_)⟩
  refine ⟨_,rfl,rfl,_,rfl,j9 (fun d=>absurd (of_decide_eq_true d) (by decide)) (fun _=>?_)⟩
  refine ⟨_,rfl,_,rfl,_,rfl,st,_,rfl,SqT.of hst,(fun h=>absurd h.1 (by show ¬ (HT.sIx 5 0 (some (-2))=0);decide)),fun t1 ht1=>?_⟩
  rw [show qZ [V.str "put",V.str r,V.ref b,u,V.int c] (some (-2)) none=[u,V.int c] from rfl]
  have s1:=jj ht1 (.tup [u,V.int c])
  have e1:upd H t1 (.tup [u,V.int c]) t1=some (.tup [u,V.int c]):=ja
  generalize upd H t1 (.tup [u,V.int c])=H1 at *
  refine ⟨t1,_,rfl,SqT.of e1,rfl,_,_,rfl,?_⟩
  refine gs ?_
  refine ⟨_,_,rfl,?_⟩
  refine gs ?_
  refine ⟨rfl,?_⟩
  have hD1:=hA.fr.same s1
  refine ⟨_,rfl,_,rfl,Ad.fa,CF,Ad.dx,_,_,rfl,hD1.fa,T.c,T.n3,rfl,_,rfl,Ad.fa,CF,Ad.dx,_,_,rfl,hD1.fa,T.c,T.n4,rfl,u,t,Ad.nm,Ad.rw,n,Fr.N,rvs,Fr.L,rfl,hut.mono s1,hD1.nm,s1 _ _ hrw,hRV.tk (TKF.same s1),by have:=hA.hn;omega,_,rfl,_,_,rfl,rfl,?_⟩
  refine gs ?_
  refine ⟨_,rfl,rfl,_,rfl,j9 (fun d=>absurd (of_decide_eq_true d) (by decide)) (fun _=>?_)⟩
  refine ⟨_,rfl,_,rfl,_,rfl,st,_,rfl,SqT.of (s1 _ _ hst),(fun h=>absurd h.1 (by show ¬ (HT.sIx 5 0 (some 1)=0);decide)),fun t2 ht2=>?_⟩
  rw [show qZ [V.str "put",V.str r,V.ref b,u,V.int c] (some 1) (some 3)=[V.str r,V.ref b] from rfl]
  have s2:=jj ht2 (.tup [V.str r,V.ref b])
  have e2:upd H1 t2 (.tup [V.str r,V.ref b]) t2=some (.tup [V.str r,V.ref b]):=ja
  generalize upd H1 t2 (.tup [V.str r,V.ref b])=H2 at *
  refine ⟨t2,_,rfl,SqT.of e2,rfl,_,_,rfl,?_⟩
  refine gs ?_
  refine ⟨_,_,rfl,?_⟩
  refine gs ?_
  refine ⟨rfl,?_⟩
  have s12:=s1.trans s2
  have hD2:=hA.fr.same s12
  have hrw2:=s12 _ _ hrw
  have hgr:DGet H2 Ad.rw (kV (Sum.inr r)) (some v):=by
   have h:=DGet.k (k:=Sum.inr r) hrw2
   rw [hv1] at h
   exact h
  refine ⟨_,rfl,Ad.fa,CF,Ad.dx,_,_,rfl,hD2.fa,T.c,T.n4,rfl,_,rfl,Ad.rw,v,rfl,hgr,_,rfl,_,rfl,Ad.fa,CF,Ad.dx,_,_,rfl,hD2.fa,T.c,T.n3,rfl,b,x,d,Ad.nm,Fr.N,rfl,s12 _ _ hb,hD2.nm,_,rfl,?_⟩
  have hn:=hA.hn
  refine ⟨v,kH Fr.N x+d,t.val Fr.N Fr.L+c,qr.1,R,rfl,g1.mono s12,g2.up,by omega,fun R' v' H3 s3 c1 c2 c3 c4=>?_⟩
  have s13:=s12.trans s3
  have hD3:=hA.fr.same s13
  have hrw3:=s13 _ _ hrw
  have hrvl:=hRV.len
  have hrvL:=hA.L
  refine ⟨_,rfl,Ad.fa,CF,Ad.dx,_,_,rfl,hD3.fa,T.c,T.n4,rfl,_,rfl,Ad.rw,_,rfl,DPut.k (k:=Sum.inr r) hrw3 (jz (by omega)),?_⟩
  have t4:TKF H3 (upd H3 Ad.rw (.dK (qE rvs (Sum.inr r) v'))):=TKF.updD hrw3
  refine q _ (fun b o hb e=>by rw [jg hb];exact s13 _ _ e) ⟨_,ja,?_⟩
  rw [eqr]
  refine RV.put (((hRV.tk (TKF.same s13)).tk t4).up (Nat.le_succ _)) ?_ ?_
  ·refine RowIs.tk t4 ⟨R',yp c4,c1,?_,fun z=>?_⟩
   ·show R'.length≤40+2 * (qr.2.2++[(kH Fr.N x+d,t.val Fr.N Fr.L+c)]).length
    rw [List.length_append]
    show R'.length≤40+2 * (qr.2.2.length+1)
    omega
   ·show jI qr.1 R' z=_
    rw [c2,g5,yV]
  ·show (qr.2.2++[(kH Fr.N x+d,t.val Fr.N Fr.L+c)]).length≤n+1
   rw [List.length_append]
   show qr.2.2.length+1≤n+1
   omega
 | any x=>
  obtain ⟨st',xs,est,hst,h1⟩:=jo hA.st
  cases est
  obtain ⟨v1,r1,rfl,e1,h2⟩:=jb h1
  obtain ⟨v2,r2,rfl,e2,h3⟩:=jb h2
  cases js h3
  cases jq e1
  cases jq e2
  refine ⟨_,rfl,st,_,_,_,rfl,rfl,SqT.of hst,rfl,?_⟩
  refine gs ?_
  refine ⟨_,rfl,rfl,_,rfl,j9 (fun d=>absurd (of_decide_eq_true d) (by decide)) (fun _=>?_)⟩
  refine ⟨_,rfl,rfl,_,rfl,j9 (fun d=>absurd (of_decide_eq_true d) (by decide)) (fun _=>?_)⟩
  refine ⟨_,rfl,rfl,_,rfl,j9 (fun _=>?_) (fun d=>absurd (decide_eq_true rfl) d)⟩
  refine ⟨_,rfl,_,rfl,_,rfl,st,_,_,_,rfl,rfl,SqT.of hst,rfl,C,Ad,Fr,n,x,inp,tk,most,used,rfl,hA.co,hA.il,hA.fr,hA.N,hA.cf,hA.tk,fun h t H' s e=>q.1 h t H' s e,fun v hv H' k1 k2 k3=>q.2 v hv H' k1 k2 k3⟩
 | claim D=>
  obtain ⟨st',xs,est,hst,h1⟩:=jo hA.st
  cases est
  obtain ⟨v1,r1,rfl,e1,h2⟩:=jb h1
  obtain ⟨v2,r2,rfl,e2,h3⟩:=jb h2
  cases js h3
  cases jq e1
  refine ⟨_,rfl,st,_,_,_,rfl,rfl,SqT.of hst,rfl,?_⟩
  refine gs ?_
  refine ⟨_,rfl,rfl,_,rfl,j9 (fun d=>absurd (of_decide_eq_true d) (by decide)) (fun _=>?_)⟩
  refine ⟨_,rfl,rfl,_,rfl,j9 (fun _=>?_) (fun d=>absurd (decide_eq_true rfl) d)⟩
  refine ⟨_,rfl,Ad.fa,CF,Ad.dx,_,_,rfl,hA.fr.fa,T.c,T.n1,rfl,Ad.pra,_,_,_,rfl,rfl,SqT.of hpr,rfl,_,rfl,_,rfl,_,rfl,st,_,rfl,SqT.of hst,(fun h=>absurd h.1 (by show ¬ (HT.sIx 2 0 (some 1)=0);decide)),fun t1 ht1=>?_⟩
  rw [show qZ [V.str "claim",v2] (some 1) none=[v2] from rfl]
  have s1:=jj ht1 (.tup [v2])
  have e1':upd H t1 (.tup [v2]) t1=some (.tup [v2]):=ja
  generalize upd H t1 (.tup [v2])=H1 at *
  refine ⟨_,rfl,p1,.str "claim",vp,.ref t1,[D],Ad,Fr,n,rfl,jQ e1' (ji (e2.mono s1) jy),hA.fr.same s1,by have:=hA.hn;omega,fun h H' s=>q.1 h H' (s1.trans s),fun k h t H' s e=>q.2 k h t H' (s1.trans s) e⟩
 | call x f' as rows=>
  obtain ⟨st',ta,tr,est,hst,hta,htr⟩:=KW hA.st
  cases est
  refine ⟨_,rfl,st,_,_,_,rfl,rfl,SqT.of hst,rfl,?_⟩
  refine gs ?_
  refine ⟨_,rfl,rfl,_,rfl,j9 (fun _=>?_) (fun d=>absurd (decide_eq_true rfl) d)⟩
  exact ⟨_,rfl,_,rfl,_,rfl,_,rfl,q⟩
end
open PySem L2
def jhs (K:W.Frag) (CC CF:Addr) (Hs:Hp) (C:CA) (prog:List Pr) (inp:List Int) (most:Int) (Q:VK):(En×Nat) ⊕ Mc→Prop
 | .inl (.stuck,_)=>False
 | .inl (e,u)=>∀ v H' tk,Same Hs H'→H' C.co=some (.ins CC C.dc (qd C.d1 C.d2 (.ref C.il) tk most u C.fl))→EndAt K H' e v→Q v H'
 | .inr m'=>∀ As' H',Conf K CC CF Hs C prog inp most As' H' m'→Q .non H'
def jgU (K:W.Frag) (CC CF:Addr):Sp:=fun vs H Q _=>∃ (Hs:Hp) (C:CA) (prog:List Pr) (inp:List Int) (most:Int) (As:List FA) (m:Mc),vs=[.ref C.co]∧Sta Hs C prog inp∧Conf K CC CF Hs C prog inp most As H m∧m.used≤390∧jhs K CC CF Hs C prog inp most Q (kc prog inp most m)
def jdm (K:W.Frag) (CC CF:Addr):Sp:=fun vs H Q _=>∃ (Hs:Hp) (C:CA) (prog:List Pr) (inp:List Int) (most:Int) (As:List FA) (m:Mc) (F:Fm) (jv:List Fm),vs=[.ref C.co]∧Sta Hs C prog inp∧Conf K CC CF Hs C prog inp most As H m∧m.used≤390∧m.fr=F :: jv∧F.pr.sx[F.i]?=none∧jhs K CC CF Hs C prog inp most Q (kc prog inp most m)
section
variable {K:W.Frag} {CC CF:Addr} {Hs H H':Hp} {C:CA} {prog:List Pr} {inp:List Int} {most:Int} {A:FA} {As:List FA} {m m':Mc} {F F':Fm} {jv:List Fm}
theorem Conf.cons (h:Conf K CC CF Hs C prog inp most As H m) (hm:m.fr=F :: jv):∃ A As',As=A :: As'∧FrAt K CF Hs H m.w A F∧Stk K CF Hs H m.w As' jv:=by
 have:=h.st
 rw [hm] at this
 cases As with
 | nil=>exact this.elim
 | cons A As'=>exact ⟨A,As',rfl,this.1,this.2⟩
theorem Conf.subK (h:Conf K CC CF Hs C prog inp most As H m) (k:∀ b o,b ∉ C.co :: C.fl :: As.flatMap FA.own→H b=some o→H' b=some o):Same Hs H':=fun b o e=>k b o (fun hb=>by rw [h.new b hb] at e;cases e) (h.sub b o e)
theorem jbr:∀ {As:List FA} {Fs:List Fm} {n:Nat},Stk K CF Hs H n As Fs→∀ b∈As.flatMap FA.own,∃ o,H b=some o∧(∀ xs,o≠.tup xs)∧∀ p z,o≠.frz p z
 | [],[],_,_,b,hb=>by simp at hb
 | A :: As,F :: Fs,n,⟨h1,h2⟩,b,hb=>by
  rw [List.flatMap_cons] at hb
  rcases List.mem_append.mp hb with g | g
  ·simp only [FA.own,List.mem_cons,List.mem_nil_iff,or_false] at g
   obtain ⟨rvs,hr,_⟩:=h1.rw
   rcases g with rfl | rfl | rfl
   ·exact ⟨_,h1.fa,(fun _ z=>by cases z),fun _ _ z=>by cases z⟩
   ·exact ⟨_,h1.nm,(fun _ z=>by cases z),fun _ _ z=>by cases z⟩
   ·exact ⟨_,hr,(fun _ z=>by cases z),fun _ _ z=>by cases z⟩
  ·exact jbr h2 b g
theorem Conf.mut (h:Conf K CC CF Hs C prog inp most As H m) {b:Addr} (hb:b∈C.co :: C.fl :: As.flatMap FA.own):∃ o,H b=some o∧(∀ xs,o≠.tup xs)∧∀ p z,o≠.frz p z:=by
 rcases List.mem_cons.mp hb with rfl | hb
 ·exact ⟨_,h.co,(fun _ z=>by cases z),fun _ _ z=>by cases z⟩
 rcases List.mem_cons.mp hb with rfl | hb
 ·exact ⟨_,h.fl,(fun _ z=>by cases z),fun _ _ z=>by cases z⟩
 ·exact jbr h.st b hb
theorem Conf.tkf (h:Conf K CC CF Hs C prog inp most As H m) (k:∀ b o,b ∉ C.co :: C.fl :: As.flatMap FA.own→H b=some o→H' b=some o):TKF H H':=
 ⟨fun b xs e=>k b _ (fun hb=>by obtain ⟨o,h1,h2,_⟩:=h.mut hb;rw [e] at h1;cases h1;exact h2 _ rfl) e,fun b o u e=>k b _ (fun hb=>by obtain ⟨o,h1,_,h2⟩:=h.mut hb;rw [e] at h1;cases h1;exact h2 _ _ rfl) e⟩
theorem Conf.step (h:Conf K CC CF Hs C prog inp most (A :: As) H m) (hm:m.fr=F :: jv) (hm':m'.fr=F' :: jv) (k:∀ b o,b≠C.co→b≠A.fa→b≠A.nm→b≠A.rw→H b=some o→H' b=some o)
  (co:H' C.co=some (.ins CC C.dc (qd C.d1 C.d2 (.ref C.il) m'.tk most m'.used C.fl))) (fr:FrD K CF H' m'.w A F') (hp:F'.pr=F.pr) (hc:F'.cb=F.cb) (hw:m.w≤m'.w) (hw6:m'.w≤60) (htk:m'.tk≤inp.length) (hu:m.used≤m'.used) (hN:F'.N.length≤100+2 * m'.used) (hi:F'.i≤F'.pr.sx.length) (hL:F'.L.length≤100) :
  Conf K CC CF Hs C prog inp most (A :: As) H' m':=by
 have k':∀ b o,b ∉ C.co :: C.fl :: (A :: As).flatMap FA.own→H b=some o→H' b=some o:=fun b o hb e=>by
  rw [List.flatMap_cons] at hb
  simp only [FA.own,List.mem_cons,List.mem_append,List.mem_nil_iff,or_false,not_or] at hb
  exact k b o hb.1 hb.2.2.1.1 hb.2.2.1.2.1 hb.2.2.1.2.2 e
 have hst:=h.st
 rw [hm] at hst
 have nd:=h.nd
 rw [List.flatMap_cons] at nd
 have nd1:=List.nodup_cons.mp nd
 have nd2:=List.nodup_cons.mp nd1.2
 have nd3:=List.nodup_append.mp nd2.2
 have mem:∀ b∈As.flatMap FA.own,b≠C.co∧b≠A.fa∧b≠A.nm∧b≠A.rw:=fun b hb=>by
  refine ⟨fun z=>nd1.1 ?_,fun z=>nd3.2.2 _ (by simp [FA.own]) _ hb z.symm,fun z=>nd3.2.2 _ (by simp [FA.own]) _ hb z.symm,fun z=>nd3.2.2 _ (by simp [FA.own]) _ hb z.symm⟩
  rw [← z]
  exact List.mem_cons_of_mem _ (List.mem_append_right _ hb)
 have flne:C.fl≠C.co∧C.fl≠A.fa∧C.fl≠A.nm∧C.fl≠A.rw:=by
  refine ⟨fun z=>nd1.1 (by rw [← z];exact List.mem_cons_self),fun z=>nd2.1 ?_,fun z=>nd2.1 ?_,fun z=>nd2.1 ?_⟩ <;> (rw [z];exact List.mem_append_left _ (by simp [FA.own]))
 refine ⟨h.subK k',co,k _ _ flne.1 flne.2.1 flne.2.2.1 flne.2.2.2 h.fl,?_,h.nd,h.new,?_,htk,hw6,?_,?_,?_,?_⟩
 ·rw [hm']
  refine ⟨⟨fr,by rw [hp];exact hst.1.pr,by rw [hc];exact hst.1.cb⟩,hst.2.keep hw (h.tkf k') fun b hb o e=>?_⟩
  obtain ⟨m1,m2,m3,m4⟩:=mem b hb
  exact k b o m1 m2 m3 m4 e
 ·intro G hG
  rw [hm'] at hG
  rcases List.mem_cons.mp hG with rfl | hG
  ·rw [hp];exact h.inP F (by rw [hm];exact List.mem_cons_self)
  ·exact h.inP G (by rw [hm];exact List.mem_cons_of_mem _ hG)
 ·have hb:=h.bnd
  rw [hm] at hb
  rw [hm']
  exact ⟨hN,fun G hG=>by have:=hb.2 G hG;omega⟩
 ·have:=h.deep
  rw [hm] at this
  rw [hm']
  simpa using this
 ·intro G hG
  rw [hm'] at hG
  rcases List.mem_cons.mp hG with rfl | hG
  ·exact hi
  ·exact h.ix G (by rw [hm];exact List.mem_cons_of_mem _ hG)
 ·intro G hG
  rw [hm'] at hG
  rcases List.mem_cons.mp hG with rfl | hG
  ·exact hL
  ·exact h.lb G (by rw [hm];exact List.mem_cons_of_mem _ hG)
theorem Conf.push {A2:FA} {G:Fm} (h:Conf K CC CF Hs C prog inp most As H m) (hm':m'.fr=G :: m.fr) (k:∀ b o,b≠C.fl→H b=some o→H' b=some o) (fl:H' C.fl=some (.lst ((As.map fun A=>V.ref A.fa).reverse++[.ref A2.fa]))) (fr:FrD K CF H' m.w A2 G) (pr:Held Hs G.pr.toD (.ref A2.pra)) (cb:jgI Hs G.cb A2.cbv) (new:∀ b∈A2.own,H b=none) (nd:A2.own.Nodup) (hP:G.pr∈prog)
  (e1:m'.used=m.used) (e2:m'.tk=m.tk) (e3:m'.w=m.w) (hN:G.N.length≤100) (hall:∀ F∈m.fr,F.N.length+1≤100+2 * m.used) (hl:m.fr.length≤20) (hi:G.i≤G.pr.sx.length) (hL:G.L.length≤100):Conf K CC CF Hs C prog inp most (A2 :: As) H' m':=by
 have inH:∀ b∈C.co :: C.fl :: As.flatMap FA.own,∃ o,H b=some o:=fun b hb=>by obtain ⟨o,h1,_⟩:=h.mut hb;exact ⟨o,h1⟩
 have dis:∀ b∈A2.own,b ∉ C.co :: C.fl :: As.flatMap FA.own:=fun b hb hb'=>by
  obtain ⟨o,ho⟩:=inH b hb'
  rw [new b hb] at ho
  cases ho
 have k':∀ b o,b ∉ C.co :: C.fl :: As.flatMap FA.own→H b=some o→H' b=some o:=fun b o hb e=>k b o (fun z=>hb (by rw [z];simp)) e
 have nd0:=h.nd
 have nd1:=List.nodup_cons.mp nd0
 have nd2:=List.nodup_cons.mp nd1.2
 refine ⟨h.subK k',?_,?_,?_,?_,?_,?_,by rw [e2];exact h.tk,by rw [e3];exact h.w,?_,?_,?_,?_⟩
 ·rw [e1,e2]
  exact k _ _ (fun z=>nd1.1 (by rw [z];exact List.mem_cons_self)) h.co
 ·rw [fl,List.map_cons,List.reverse_cons]
 ·rw [hm',e3]
  refine ⟨⟨fr,pr,cb⟩,h.st.keep (Nat.le_refl _) (h.tkf k') fun b hb o e=>k b o (fun z=>nd2.1 (by rw [← z];exact hb)) e⟩
 ·rw [List.flatMap_cons]
  refine List.nodup_cons.mpr ⟨fun hb=>?_,List.nodup_cons.mpr ⟨fun hb=>?_,List.nodup_append.mpr ⟨nd,nd2.2,fun a ha b hb z=>?_⟩⟩⟩
  ·rcases List.mem_cons.mp hb with z | hb
   ·exact nd1.1 (by rw [z];exact List.mem_cons_self)
   ·rcases List.mem_append.mp hb with hb | hb
    ·exact dis _ hb (by simp)
    ·exact nd1.1 (List.mem_cons_of_mem _ hb)
  ·rcases List.mem_append.mp hb with hb | hb
   ·exact dis _ hb (by simp)
   ·exact nd2.1 hb
  ·exact dis a ha (by rw [z];exact List.mem_cons_of_mem _ (List.mem_cons_of_mem _ hb))
 ·intro b hb
  rw [List.flatMap_cons] at hb
  rcases List.mem_cons.mp hb with rfl | hb
  ·exact h.new _ (by simp)
  rcases List.mem_cons.mp hb with rfl | hb
  ·exact h.new _ (by simp)
  rcases List.mem_append.mp hb with hb | hb
  ·exact h.sub.free (new b hb)
  ·exact h.new b (List.mem_cons_of_mem _ (List.mem_cons_of_mem _ hb))
 ·intro G' hG
  rw [hm'] at hG
  rcases List.mem_cons.mp hG with rfl | hG
  ·exact hP
  ·exact h.inP G' hG
 ·rw [hm',e1]
  exact ⟨by omega,hall⟩
 ·rw [hm',List.length_cons];omega
 ·intro G' hG
  rw [hm'] at hG
  rcases List.mem_cons.mp hG with rfl | hG
  ·exact hi
  ·exact h.ix G' hG
 ·intro G' hG
  rw [hm'] at hG
  rcases List.mem_cons.mp hG with rfl | hG
  ·exact hL
  ·exact h.lb G' hG
theorem Conf.pop (h:Conf K CC CF Hs C prog inp most (A :: As) H m) (hm:m.fr=F :: jv) (hm':m'.fr=jv) (e1:m'.used=m.used) (e2:m'.tk=m.tk) (e3:m'.w=m.w) (hne:jv≠[]) (k:∀ b o,b≠C.fl→H b=some o→H' b=some o) (fl:H' C.fl=some (.lst ((As.map fun A=>V.ref A.fa).reverse))):Conf K CC CF Hs C prog inp most As H' m':=by
 have k':∀ b o,b ∉ C.co :: C.fl :: (A :: As).flatMap FA.own→H b=some o→H' b=some o:=fun b o hb e=>k b o (fun z=>hb (by rw [z];simp)) e
 have nd0:=h.nd
 rw [List.flatMap_cons] at nd0
 have nd1:=List.nodup_cons.mp nd0
 have nd2:=List.nodup_cons.mp nd1.2
 have nd3:=List.nodup_append.mp nd2.2
 have hst:=h.st
 rw [hm] at hst
 refine ⟨h.subK k',?_,fl,?_,?_,?_,?_,by rw [e2];exact h.tk,by rw [e3];exact h.w,?_,?_,?_,?_⟩
 ·rw [e1,e2]
  exact k _ _ (fun z=>nd1.1 (by rw [z];exact List.mem_cons_self)) h.co
 ·rw [hm',e3]
  exact hst.2.keep (Nat.le_refl _) (h.tkf k') fun b hb o e=>k b o (fun z=>nd2.1 (by rw [← z];exact List.mem_append_right _ hb)) e
 ·exact List.nodup_cons.mpr ⟨fun hb=>nd1.1 ((List.mem_cons.mp hb).elim (fun z=>by rw [z];exact List.mem_cons_self) fun hb=>List.mem_cons_of_mem _ (List.mem_append_right _ hb)),List.nodup_cons.mpr ⟨fun hb=>nd2.1 (List.mem_append_right _ hb),nd3.2.1⟩⟩
 ·intro b hb
  refine h.new b ?_
  rw [List.flatMap_cons]
  rcases List.mem_cons.mp hb with rfl | hb
  ·exact List.mem_cons_self
  rcases List.mem_cons.mp hb with rfl | hb
  ·simp
  ·exact List.mem_cons_of_mem _ (List.mem_cons_of_mem _ (List.mem_append_right _ hb))
 ·intro G hG
  rw [hm'] at hG
  exact h.inP G (by rw [hm];exact List.mem_cons_of_mem _ hG)
 ·have hb:=h.bnd
  rw [hm] at hb
  rw [hm',e1]
  cases jv with
  | nil=>exact absurd rfl hne
  | cons G r=>
   exact ⟨by have:=hb.2 G List.mem_cons_self;omega,fun G' hG'=>hb.2 G' (List.mem_cons_of_mem _ hG')⟩
 ·have:=h.deep
  rw [hm,List.length_cons] at this
  rw [hm'];omega
 ·intro G hG
  rw [hm'] at hG
  exact h.ix G (by rw [hm];exact List.mem_cons_of_mem _ hG)
 ·intro G hG
  rw [hm'] at hG
  exact h.lb G (by rw [hm];exact List.mem_cons_of_mem _ hG)
end
theorem jdt {xs:List V} {y:V}:(xs++[y])[(xs++[y]).length - 1]?=some y:=by simp
theorem jab {L:List (Str×jK)} {rs:List Str} {held:List jK} (h:qp L rs=true):∀ p∈rs.zip held,(lkA L p.1).isSome=true:=fun p hp=>by
 unfold qp at h
 exact List.all_eq_true.mp h _ (List.of_mem_zip hp).1
section
variable {prog:List Pr} {inp:List Int} {most:Int} {m:Mc} {F:Fm} {jv:List Fm}
theorem Z0 {n:Nat} (hm:m.fr=F :: jv) (h:F.pr.sx[F.i]?=some (.go n)):kc prog inp most m=.inr ⟨{ F with i:=n } :: jv,m.used,m.tk,m.w⟩:=by
 unfold kc
 rw [hm]
 show (match F.pr.sx[F.i]? with | none=>_ | some (.go n)=>_ | some s=>_)=_
 rw [h]
theorem JB {le:Cl} {cs:List Cl} {kd:Str} {p:List Int} {yes no:Nat} (hm:m.fr=F :: jv) (h:F.pr.sx[F.i]?=some (.ask le cs kd p yes no)):kc prog inp most m=if (m.used:Int)=most then .inl (.spent,m.used) else match qz F.N F.L cs with
   | some k=>.inl (.untrue F.pr.f kd p k,m.used+1)
   | none=>.inr ⟨{ F with i:=if Jb F.N F.L le=true then yes else no } :: jv,m.used+1,m.tk,m.w⟩:=by
 unfold kc
 rw [hm]
 show (match F.pr.sx[F.i]? with | none=>_ | some (.go n)=>_ | some s=>_)=_
 rw [h]
 try congr
theorem zU {d:Dx} {p:List Int} (hm:m.fr=F :: jv) (h:F.pr.sx[F.i]?=some (.do_ d p)):kc prog inp most m=if (m.used:Int)=most then .inl (.spent,m.used) else JR prog inp m F jv d p:=by
 unfold kc
 rw [hm]
 show (match F.pr.sx[F.i]? with | none=>_ | some (.go n)=>_ | some s=>_)=_
 rw [h]
theorem jaZ (hm:m.fr=F :: jv) (h:F.pr.sx[F.i]?=some .come):kc prog inp most m=if (m.used:Int)=most then .inl (.spent,m.used) else .inr ⟨{ F with i:=F.i+1 } :: jv,m.used+1,m.tk,m.w⟩:=by
 unfold kc
 rw [hm]
 show (match F.pr.sx[F.i]? with | none=>_ | some (.go n)=>_ | some s=>_)=_
 rw [h]
end
inductive Runs (prog:List Pr) (inp:List Int) (most:Int):Nat→Mc→En×Nat→Prop where
 | stop {m:Mc} {r:En×Nat} (h:kc prog inp most m=.inl r):Runs prog inp most 0 m r
 | more {k:Nat} {m m':Mc} {r:En×Nat} (h:kc prog inp most m=.inr m') (t:Runs prog inp most k m' r):Runs prog inp most (k+1) m r
def RunsTo (prog:List Pr) (inp:List Int) (most:Int) (m:Mc) (r:En×Nat):Prop:=∃ k,Runs prog inp most k m r
theorem RunsTo.more {prog:List Pr} {inp:List Int} {most:Int} {m m':Mc} {r:En×Nat} (h:kc prog inp most m=.inr m') (t:RunsTo prog inp most m' r):RunsTo prog inp most m r:=by
 obtain ⟨k,t⟩:=t
 exact ⟨k+1,.more h t⟩
theorem RunsTo.stop {prog:List Pr} {inp:List Int} {most:Int} {m:Mc} {r:En×Nat} (h:kc prog inp most m=.inl r):RunsTo prog inp most m r:=⟨0,.stop h⟩
theorem KL {prog:List Pr} {inp:List Int} {m m':Mc} {F:Fm} {jv:List Fm} {d:Dx} {p:List Int} (h:JR prog inp m F jv d p=.inr m'):m'.used=m.used+1:=by
 unfold JR at h
 cases d with
 | set x t c=>cases h;rfl
 | put r x d t c=>
  dsimp only at h
  split at h
  ·cases h;rfl
  ·cases h
 | any x=>
  dsimp only at h
  split at h
  ·cases h
  ·cases h;rfl
 | claim C=>
  dsimp only at h
  split at h
  ·cases h
  ·cases h;rfl
 | call x f as rows=>
  dsimp only at h
  split at h
  ·cases h
  ·split at h
   ·split at h
    ·cases h
    ·split at h
     ·cases h
     ·cases h;rfl
   ·cases h
theorem zv {prog:List Pr} {inp:List Int} {m:Mc} {F:Fm} {jv:List Fm} {d:Dx} {p:List Int} {e:En} {u:Nat} (h:JR prog inp m F jv d p=.inl (e,u)):e=.stuck∨u=m.used+1:=by
 unfold JR at h
 cases d with
 | set x t c=>cases h
 | put r x d t c=>
  dsimp only at h
  split at h
  ·cases h
  ·cases h;exact .inl rfl
 | any x=>
  dsimp only at h
  split at h
  ·cases h;exact .inr rfl
  ·cases h
 | claim C=>
  dsimp only at h
  split at h
  ·cases h;exact .inr rfl
  ·cases h
 | call x f as rows=>
  dsimp only at h
  split at h
  ·cases h;exact .inl rfl
  ·split at h
   ·split at h
    ·cases h;exact .inr rfl
    ·split at h
     ·cases h;exact .inr rfl
     ·cases h
   ·cases h;exact .inl rfl
theorem yU {prog:List Pr} {inp:List Int} {most:Int} {m m':Mc} (h:kc prog inp most m=.inr m'):m'.used=m.used∨m'.used=m.used+1:=by
 unfold kc at h
 split at h
 ·cases h
 ·split at h
  ·split at h
   ·cases h
   ·split at h
    ·split at h
     ·cases h
     ·split at h
      ·cases h
      ·split at h
       ·cases h;exact .inl rfl
       ·cases h
    ·cases h
  ·cases h;exact .inl rfl
  ·split at h
   ·cases h
   ·split at h
    ·split at h
     ·cases h
     ·cases h;exact .inr rfl
    ·exact .inr (KL h)
    ·cases h;exact .inr rfl
theorem yt {prog:List Pr} {inp:List Int} {most:Int} {m:Mc} {e:En} {u:Nat} (h:kc prog inp most m=.inl (e,u)) (hs:e≠.stuck):m.used≤u:=by
 unfold kc at h
 split at h
 ·cases h;exact absurd rfl hs
 ·split at h
  ·split at h
   ·cases h;exact Nat.le_refl _
   ·split at h
    ·split at h
     ·cases h;exact Nat.le_refl _
     ·split at h
      ·cases h;exact absurd rfl hs
      ·split at h
       ·cases h
       ·cases h;exact absurd rfl hs
    ·cases h;exact absurd rfl hs
  ·cases h
  ·split at h
   ·cases h;exact Nat.le_refl _
   ·split at h
    ·split at h
     ·cases h;exact Nat.le_succ _
     ·cases h
    ·rcases zv h with g | g
     ·exact absurd g hs
     ·omega
    ·cases h
theorem Ys {prog:List Pr} {inp:List Int} {most:Int} {k:Nat} {m:Mc} {r:En×Nat} (h:Runs prog inp most k m r):r.1≠.stuck→m.used≤r.2:=by
 induction h with
 | @stop m r h=>intro hs;obtain ⟨e,u⟩:=r;exact yt h hs
 | @more k m m' r h t ih=>intro hs;have:=ih hs;rcases yU h with g | g <;> omega
structure PrOk (f':Nat) (P:Pr):Prop where
 fit:∀ st∈P.body,Jo f' st
 lay:kD (kT f') 0 P.body [] 0=P.sx.map Sx.toD
 sz:P.sx.length≤900
 wf:WfS P.sx
 rs:P.rs.length≤100
def jbu:Sp:=fun vs H Q _=>∃ (pg:Addr) (prog:List Pr) (pvs:List V),vs=[.ref pg]∧H pg=some (.tup pvs)∧HeldL H (prog.map Pr.toD) pvs∧(prog.map (·.f)).Nodup∧prog.length≤100∧
 ∀ d kv H',Same H H'→H d=none→H' d=some (.dK kv)→(∀ P∈prog,∃ pra,qi kv (Sum.inr P.f)=some (.ref pra)∧Held H' P.toD (.ref pra))→Q (.ref d) H'
def ZL (CC:Addr) (f':Nat):Sp:=fun vs H Q _=>∃ (co dc pg:Addr) (vi:V) (most:Int) (prog:List Pr) (pvs:List V),vs=[.ref co,.ref pg,vi,.int most]∧H co=some (.ins CC dc [])∧H pg=some (.tup pvs)∧HeldL H (prog.map Pr.toD) pvs∧(prog.map (·.f)).Nodup∧prog.length≤100∧(∀ P∈prog,PrOk f' P)∧2 * f'≤500∧
 ∀ d1 d2 fl kv1 kv2 H',(∀ b o,b≠co→H b=some o→H' b=some o)→H d1=none→H d2=none→H fl=none→H' co=some (.ins CC dc (qd d1 d2 vi 0 most 0 fl))→H' d1=some (.dK kv1)→(∀ P∈prog,∃ pra,qi kv1 (Sum.inr P.f)=some (.ref pra)∧Held H' P.toD (.ref pra))→H' d2=some (.dK kv2)→(∀ P∈prog,∃ sl ss,qi kv2 (Sum.inr P.f)=some (.ref sl)∧H' sl=some (.lst ss)∧sl≠fl∧HeldL H' (P.sx.map Sx.toD) ss)→H' fl=some (.lst [])→Q .non H'
theorem jcV {d1 d2 fl:Addr} {vi:V} {most:Int}:jV "frames" (.ref fl) (jV "used" (.int 0) (jV "most" (.int most) (jV "taken" (.int 0) (jV "inputs" vi (jV "steps" (.ref d2) (jV "procs" (.ref d1) []))))))=qd d1 d2 vi 0 most 0 fl:=by
 unfold qd
 simp only [jV]
 repeat rw [if_neg (by decide)]
 simp only [jV]
 repeat rw [if_neg (by decide)]
 simp only [jV]
 repeat rw [if_neg (by decide)]
 simp only [jV]
 repeat rw [if_neg (by decide)]
 simp only [jV]
 repeat rw [if_neg (by decide)]
 simp only [jV]
 repeat rw [if_neg (by decide)]
 rfl
theorem jhe {prog:List Pr} (nd:(prog.map (·.f)).Nodup) {i j:Nat} (hi:i < prog.length) (hj:j < prog.length) (h:i≠j):prog[i].f≠prog[j].f:=fun e=>h (jdN nd (by rw [List.length_map];exact hi) (by rw [List.length_map];exact hj) (by rw [List.getElem_map,List.getElem_map];exact e))
def kU (P:Pr) (nums:List Int) (held:List jK):Fm:=⟨P,none,P.ps.zip nums,P.rs.zip held,0⟩
structure RunAt (K:W.Frag) (f':Nat) (H:Hp) (pg nl rl il:Addr) (prog:List Pr) (P:Pr) (nums:List Int) (held:List jK) (inp:List Int):Prop where
 pg:∃ pvs,H pg=some (.tup pvs)∧HeldL H (prog.map Pr.toD) pvs
 nd:(prog.map (·.f)).Nodup
 len:prog.length≤100
 ok:∀ Q∈prog,PrOk f' Q
 f2:2 * f'≤500
 inP:P∈prog
 nl:H nl=some (.lst (nums.map V.int))
 rl:∃ rvs,H rl=some (.lst rvs)∧RowsAt K H held rvs
 il:H il=some (.lst (inp.map V.int))
 ps:P.ps.length=nums.length
 rs:P.rs.length=held.length
 nps:P.ps.Nodup
 nrs:P.rs.Nodup
 lps:P.ps.length≤100
 w0:∀ q∈held,q.2.2.length≤0
def jdf (K:W.Frag) (f':Nat):Sp:=fun vs H Q _=>∃ (pg nl rl il:Addr) (prog:List Pr) (P:Pr) (nums:List Int) (held:List jK) (inp:List Int) (most:Int),vs=[.ref pg,.str P.f,.ref nl,.ref rl,.ref il,.int most]∧RunAt K f' H pg nl rl il prog P nums held inp∧
 (∀ k,qz (kU P nums held).N (kU P nums held).L P.needs=some k→∀ t t2 H',Same H H'→H' t2=some (.tup [.str "unmet",.int k])→H' t=some (.tup [.ref t2,.int 0])→Q (.ref t) H')∧
 (qz (kU P nums held).N (kU P nums held).L P.needs=none→∃ e u,RunsTo prog inp most ⟨[kU P nums held],0,0,0⟩ (e,u)∧e≠.stuck∧u≤390∧∀ t v H',Same H H'→EndAt K H' e v→H' t=some (.tup [v,.int u])→Q (.ref t) H')
theorem EndAt.mono {K:W.Frag} {H H':Hp} (s:Same H H'):∀ {e:En} {v:V},EndAt K H e v→EndAt K H' e v
 | .done _ _,_,⟨t,hl,vs,h1,h2,h3,h4⟩=>⟨t,hl,vs,h1,s _ _ h2,s _ _ h3,h4.tk (TKF.same s)⟩
 | .spent,_,⟨t,h1,h2⟩=>⟨t,h1,s _ _ h2⟩
 | .asks,_,⟨t,h1,h2⟩=>⟨t,h1,s _ _ h2⟩
 | .deep,_,⟨t,h1,h2⟩=>⟨t,h1,s _ _ h2⟩
 | .untrue _ _ _ _,_,⟨t,vp,h1,h2,h3⟩=>⟨t,vp,h1,s _ _ h2,h3.mono s⟩
theorem EndAt.not {K:W.Frag} {H:Hp}:∀ {e:En} {v:V},EndAt K H e v→v≠.non
 | .done _ _,_,⟨t,hl,vs,h1,_⟩=>by rw [h1];intro z;cases z
 | .spent,_,⟨t,h1,_⟩=>by rw [h1];intro z;cases z
 | .asks,_,⟨t,h1,_⟩=>by rw [h1];intro z;cases z
 | .deep,_,⟨t,h1,_⟩=>by rw [h1];intro z;cases z
 | .untrue _ _ _ _,_,⟨t,vp,h1,_⟩=>by rw [h1];intro z;cases z
open Classical in
noncomputable def JX (H:Hp) (M:List Addr):Hp:=fun b=>if b∈M then none else H b
theorem jao {H:Hp} {M:List Addr} {b:Addr} {o:HO} (h:H b=some o) (hb:b ∉ M):JX H M b=some o:=by unfold JX;rw [if_neg hb];exact h
theorem jgy {H:Hp} {M:List Addr} {b:Addr} (hb:b∈M):JX H M b=none:=by unfold JX;rw [if_pos hb]
theorem jfl {H:Hp} {M:List Addr}:Same (JX H M) H:=fun b o e=>by
 unfold JX at e
 split at e
 ·cases e
 ·exact e
open PySem L2
abbrev qA:Stmt:=top 34
abbrev zP:Stmt:=top 31
section
variable {P:Program} {w:World} {K:W.Frag} {mg:Str→Option Value} {base:Heap}
theorem Y6 {CC CF:Addr} {f:Addr} {fd:FuncData} (TC:ClsC K CC) (T:ClsF K CF) (F:Fun K "come_back" "come_back" qA f fd) (F_look:Fn P w K mg base 7 "look" ["f","kind","path","claims","frame"] (Ki K CF)) (F_number_at:Fn P w K mg base 1 "number_at" ["x","numbers"] qV) (F_hand_back:Fn P w K mg base 1 "hand_back" ["caller","statement","out","held"] (jdj K CF)):FnOk P w K mg base CX0 8 f fd ["course"] (jdm K CC CF):=by
 have sc:FnScope ["course","frame","f","rows","gives","end","out","held"] ["course"] (jf qA):=fs
 refine F.okZ sc (fun vs H Q E h=>?_) (fun cdv A outer s H vs Q E hr h=>?_)
 ·obtain ⟨Hs,C,prog,inp,most,As,m,F,jv,rfl,_⟩:=h
  rfl
 obtain ⟨Hs,C,prog,inp,most,As,m,Fr,jv,rfl,hS,hC,hu390,hm,hno,q⟩:=h
 have hu:=yL hr
 obtain ⟨Ad,As',rfl,hF,hst⟩:=hC.cons hm
 obtain ⟨pra,pt,rt,v4,v5,vb,epra,hpr,hpt,hrt,hv4,hv5,hvb⟩:=zR hF.pr
 have epra':pra=Ad.pra:=by cases epra;rfl
 subst epra'
 obtain ⟨rvs,hrw,hRV⟩:=hF.rw
 have hw:=hC.w
 have hfl:H C.fl=some (.lst ((As'.map fun A=>V.ref A.fa).reverse++[.ref Ad.fa])):=by rw [hC.fl,List.map_cons,List.reverse_cons]
 unfold kc at q
 rw [hm] at q
 dsimp only at q
 rw [hno] at q
 dsimp only at q
 refine ⟨_,(jc (jF (i:=1) sc.nd rfl ol (jX km (jD (zpv 0) rfl) (Kc Kh jh) (fun _ _=>rfl)))
   (jc (jc0 (i:=2) (j:=3) (l:=4) rfl sc.nd rfl rfl rfl (by decide) (by decide) (by decide) ol ol ol (jd (jX jS (jD (zpv 1) rfl) jh (fun _ _=>rfl)) (jd (jX jS (jD (zpv 1) rfl) jh (fun _ _=>rfl)) (jd (jX jS (jD (zpv 1) rfl) jh (fun _ _=>rfl)) jk))) (by rfl) ol ol ol)
   (jc (jF (i:=5) sc.nd rfl ol (jL F_look hr (jd (zpv 2) (jd ke (jd (kQ jk) (jd (zpv 4) (jd (zpv 1) jk)))))))
   (jc (kn (jW J5 (zpv 5) kA (jJ _)) (ju (jN (zpv 5))) jZ)
   (jc (jF (i:=6) sc.nd rfl ol (jL F_number_at hr (jd ke (jd (jD (zpv 1) rfl) jk))))
   (jc (qT (i:=7) sc.nd rfl ol ["r"] [1] rfl (kW (sc:=jf qA) (N:=["course","frame","f","rows","gives","end","out","held"]) rfl rfl (by decide +kernel)) (y0 (zpv 3)) (fun s H ex=>⟨(jr (i:=0) (show List.Nodup (["r","frame"]:List Str) by decide +kernel) rfl ol),qu,(zI hu (Kd (K:=K) (zpv 1) rfl) (zpv 0) (fun _ _=>rfl))⟩))
   (jc (kn (jW jaQ (jD (zpv 1) rfl) kA (jJ _)) (ju (jN (kQ (jd ke (jd (zpv 6) (jd (zpv 7) jk)))))) jZ)
   (jc (yj (jeq PySem.F.plainAttrs_list PySem.F.slot_list_pop PySem.F.type_list_pop jgn (jD (zpv 0) rfl)))
   (jc (yj (jL F_hand_back hr (jd (jX km (jD (zpv 0) rfl) (Kc Kh jh) (fun _ _=>rfl)) (jd (jD (zpv 1) rfl) (jd (zpv 6) (jd (zpv 7) jk))))))
   (ju (jN kA))))))))))),?_⟩
 refine zJ (σ':=[some (.ref C.co),none,none,none,none,none,none,none]) rfl ?_
 refine ⟨_,rfl,C.co,CC,C.dc,_,_,rfl,hC.co,TC.c,TC.n7,rfl,_,rfl,C.fl,_,_,_,rfl,rfl,SqL.of hfl,K0 _ _,?_⟩
 refine gs ?_
 have hprH:=hC.sub _ _ hpr
 refine ⟨_,rfl,Ad.fa,CF,Ad.dx,_,_,rfl,hF.fa,T.c,T.n1,rfl,Ad.pra,_,_,_,rfl,rfl,SqT.of hprH,rfl,_,rfl,Ad.fa,CF,Ad.dx,_,_,rfl,hF.fa,T.c,T.n1,rfl,Ad.pra,_,_,_,rfl,rfl,SqT.of hprH,rfl,_,rfl,Ad.fa,CF,Ad.dx,_,_,rfl,hF.fa,T.c,T.n1,rfl,Ad.pra,_,_,_,rfl,rfl,SqT.of hprH,rfl,_,_,_,rfl,?_⟩
 refine zJ (σ':=[some (.ref C.co),some (.ref Ad.fa),some (.str Fr.pr.f),some (.ref rt),some v5,none,none,none]) rfl ?_
 refine ⟨_,rfl,sm rfl,fun e he=>?_⟩
 have s1:=jj he (.tup [])
 have e1:upd H e (.tup []) e=some (.tup []):=ja
 generalize upd H e (.tup [])=H1 at *
 refine ⟨_,rfl,_,rfl,.str Fr.pr.f,.str "give",.ref e,v5,Fr.pr.gives,Ad,Fr,m.w,rfl,(hv5.mono hC.sub).mono s1,hF.toFrD.same s1,by omega,fun hun H2 s2=>?_,fun k hun t H2 s2 ht=>?_⟩
 ·rw [hun] at q
  dsimp only at q
  refine gs ?_
  refine ⟨_,rfl,rfl,_,rfl,j9 (fun d=>absurd d (by show ¬ ((!decide (V.non=V.non))=true);simp)) (fun _=>?_)⟩
  have s12:=s1.trans s2
  have hD2:=hF.toFrD.same s12
  by_cases hhas:qp Fr.L Fr.pr.rs=true
  ·rw [if_pos hhas] at q
   refine ⟨_,rfl,Ad.fa,CF,Ad.dx,_,_,rfl,hD2.fa,T.c,T.n3,rfl,"out",Ad.nm,Fr.N,rfl,hD2.nm,?_⟩
   refine gs ?_
   have hrt2:=s12 _ _ (hC.sub _ _ hrt)
   refine ⟨_,rfl,rt,rfl,⟨_,SqT.of hrt2⟩,fun hl hhl=>?_⟩
   have lrs:Fr.pr.rs.length≤900:=(by have:=hS.rs _ (hC.inP Fr (by rw [hm];exact List.mem_cons_self));omega)
   refine Jk (xs:=Fr.pr.rs.map V.str) (fun j σ' G=>∃ u vs,σ'=[u,some (.ref Ad.fa)]∧Same H2 G∧G hl=some (.lst vs)∧RowsAt K G ((Fr.pr.rs.take j).map (qh Fr.L)) vs∧vs.length=j) ⟨none,[],rfl,jj hhl _,ja,trivial,rfl⟩ ?_ ?_ ?_
   ·rintro j σ' G _ ⟨u,vs,rfl,sG,_⟩
    exact SqT.of (sG _ _ hrt2)
   ·rintro j x σ' G hx ⟨u,vs,rfl,sG,hG,hR,hvl⟩
    have hj:j < Fr.pr.rs.length:=by
     have:=(List.getElem?_eq_some_iff.mp hx).1
     rw [List.length_map] at this
     exact this
    rw [List.getElem?_map,List.getElem?_eq_getElem hj] at hx
    cases hx
    unfold qg yl
    refine zy ?_
    have sHG:=s12.trans sG
    have hDG:=hF.toFrD.same sHG
    have hsome:(lkA Fr.L Fr.pr.rs[j]).isSome=true:=by
     unfold qp at hhas
     exact List.all_eq_true.mp hhas _ (List.getElem_mem hj)
    rcases hRV.val Fr.pr.rs[j] with ⟨_,hno⟩ | ⟨v,q',hv1,hv2,hv3,hv4'⟩
    ·rw [hno] at hsome;cases hsome
    have hgr:DGet G Ad.rw (kV (Sum.inr Fr.pr.rs[j])) (some v):=by
     have h:=DGet.k (k:=Sum.inr Fr.pr.rs[j]) (sHG _ _ hrw)
     rw [hv1] at h
     exact h
    refine ⟨_,rfl,Ad.fa,CF,Ad.dx,_,_,rfl,hDG.fa,T.c,T.n4,rfl,_,rfl,Ad.rw,v,rfl,hgr,?_⟩
    have tk:TKF G (upd G hl (.lst (vs++[v]))):=TKF.updL hG
    refine ⟨_,hG,jz (by omega),_,vs++[v],rfl,fun b o e=>?_,ja,?_,by rw [List.length_append,hvl];rfl⟩
    ·rw [jg (jl e hhl)];exact sG _ _ e
    ·rw [List.take_succ,List.getElem?_eq_getElem hj,List.map_append]
     have eq:qh Fr.L Fr.pr.rs[j]=q':=by unfold qh;rw [hv2];rfl
     show RowsAt K _ ((Fr.pr.rs.take j).map (qh Fr.L)++[qh Fr.L Fr.pr.rs[j]]) (vs++[v])
     rw [eq]
     exact (hR.tk tk).snoc ((hv3.tk (TKF.same sHG)).tk tk)
   rintro σ' H3 ⟨u3,vs,rfl,s3,hl3,hR3,hvl⟩
   rw [List.length_map,List.take_length] at hR3
   rw [List.length_map] at hvl
   refine gs ?_
   have s13:=s12.trans s3
   have hD3:=hF.toFrD.same s13
   refine ⟨_,rfl,Ad.fa,CF,Ad.dx,_,_,rfl,hD3.fa,T.c,T.n2,rfl,rfl,_,rfl,?_⟩
   have hcb:=hF.cb
   cases hcbe:Fr.cb with
   | none=>
    rw [hcbe] at q hcb
    dsimp only at q
    have hcb':Ad.cbv=.non:=hcb
    refine j9 (fun _=>?_) (fun d=>absurd (decide_eq_true hcb') d)
    refine ⟨_,rfl,_,rfl,sm rfl,fun t ht=>?_⟩
    have g:=jj ht (.tup [V.str "done",V.int (kH Fr.N "out"),V.ref hl])
    exact q (.ref t) _ m.tk (hC.sub.trans (s13.trans g)) ((s13.trans g) _ _ hC.co) ⟨t,hl,vs,rfl,ja,g _ _ hl3,hR3.tk (TKF.same g)⟩
   | some c=>
    rw [hcbe] at q hcb
    dsimp only at q
    have hcb':Held Hs (Dx.call c.x c.f c.as c.rows).toD Ad.cbv:=hcb
    have hnn:Ad.cbv≠.non:=fun z=>by rw [z] at hcb';obtain ⟨a,_,e,_⟩:=jo hcb';cases e
    refine j9 (fun d=>absurd (of_decide_eq_true d) hnn) (fun _=>?_)
    cases hrest:jv with
    | nil=>rw [hrest] at q;exact q.elim
    | cons G rest'=>
     rw [hrest] at q hst hm
     dsimp only at q
     by_cases hcond:c.rows.Nodup∧c.rows.length=Fr.pr.rs.length∧c.rows.length≤100∧qp G.L c.rows=true
     ·rw [if_pos hcond] at q
      have hfl3:=s13 _ _ hfl
      refine ⟨_,rfl,C.co,CC,C.dc,_,_,rfl,s13 _ _ hC.co,TC.c,TC.n7,rfl,.inl ⟨rfl,_,SqL.of hfl3⟩,C.fl,_,_,rfl,rfl,hfl3,jdt,?_⟩
      rw [List.dropLast_concat]
      have k4:∀ b o,b≠C.fl→H b=some o→upd H3 C.fl (.lst ((As'.map fun A=>V.ref A.fa).reverse)) b=some o:=fun b o hb e=>by rw [jg hb];exact s13 _ _ e
      have hl4:upd H3 C.fl (.lst ((As'.map fun A=>V.ref A.fa).reverse)) hl=some (.lst vs):=by
       rw [jg (fun z=>by rw [← z] at hfl;exact absurd hfl (by rw [s12.free hhl];intro y;cases y))]
       exact hl3
      have tk4:TKF H3 (upd H3 C.fl (.lst ((As'.map fun A=>V.ref A.fa).reverse))):=TKF.updL hfl3
      have hR4:=hR3.tk tk4
      have e4:upd H3 C.fl (.lst ((As'.map fun A=>V.ref A.fa).reverse)) C.fl=some (.lst ((As'.map fun A=>V.ref A.fa).reverse)):=ja
      have hfa4:upd H3 C.fl (.lst ((As'.map fun A=>V.ref A.fa).reverse)) Ad.fa=some (.ins CF Ad.dx (zA Ad.pra Ad.cbv Ad.nm Ad.rw Fr.i)):=by
       rw [jg (j4 hD3.fa hfl3 (by intro y;cases y))]
       exact hD3.fa
      generalize upd H3 C.fl (.lst ((As'.map fun A=>V.ref A.fa).reverse))=H4 at *
      have hC4:Conf K CC CF Hs C prog inp most As' H4 ⟨G :: rest',m.used,m.tk,m.w⟩:=hC.pop hm rfl rfl rfl rfl (by intro z;cases z) k4 e4
      obtain ⟨A1,As'',rfl,hG4,_⟩:=hC4.cons (F:=G) (jv:=rest') rfl
      have hfl4:H4 C.fl=some (.lst ((As''.map fun A=>V.ref A.fa).reverse++[.ref A1.fa])):=by rw [e4,List.map_cons,List.reverse_cons]
      obtain ⟨cst,ecst⟩:∃ cst,Ad.cbv=.ref cst:=by obtain ⟨a,_,e,_⟩:=jo hcb';exact ⟨a,e⟩
      have hwn:∀ q∈kl Fr.L Fr.pr.rs,q.2.2.length≤m.w:=fun q hq=>by
       obtain ⟨r,hr,rfl⟩:=List.mem_map.mp hq
       rcases hRV.val r with ⟨_,hno⟩ | ⟨v,q',hv1,hv2,hv3,hv4'⟩
       ·unfold qh;rw [hno];exact Nat.zero_le _
       ·unfold qh;rw [hv2];exact hv4'
      have hlen:(kl Fr.L Fr.pr.rs).length=Fr.pr.rs.length:=by unfold kl;rw [List.length_map]
      have hb4:=hC4.bnd
      have hL4:=hC4.lb G List.mem_cons_self
      have hN4:G.N.length≤880:=by have:=hb4.1;dsimp only at this;omega
      have hNb:G.N.length+1≤100+2 * m.used:=by
       have:=hC.bnd
       rw [hm] at this
       exact this.2 G List.mem_cons_self
      have nd4:=hC4.nd
      rw [List.flatMap_cons] at nd4
      have nd5:=(List.nodup_append.mp (List.nodup_cons.mp (List.nodup_cons.mp nd4).2).2).1
      have nnr:A1.nm≠A1.rw:=by
       simp only [FA.own,List.nodup_cons,List.mem_cons,List.mem_nil_iff,or_false,not_or] at nd5
       exact nd5.2.1
      refine ⟨_,rfl,C.co,CC,C.dc,_,_,rfl,hC4.co,TC.c,TC.n7,rfl,_,rfl,C.fl,_,_,_,rfl,rfl,SqL.of hfl4,K0 _ _,_,rfl,Ad.fa,CF,Ad.dx,_,_,rfl,hfa4,T.c,T.n2,rfl,_,rfl,_,rfl,?_⟩
      refine ⟨A1,G,m.w,cst,hl,c,kH Fr.N "out",vs,kl Fr.L Fr.pr.rs,by rw [ecst];rfl,hG4.toFrD,by rw [← ecst];exact hcb'.mono hC4.sub,hl4,hR4,hwn,by rw [hlen];exact hcond.2.1,hcond.1,hcond.2.2.1,by omega,hL4,nnr,fun H5 k5 enm erw=>?_⟩
      obtain ⟨rvs5,erw5,hRV5⟩:=erw
      refine q (A1 :: As'') H5 (hC4.step (F:=G) (jv:=rest') (m':=⟨_ :: rest',m.used,m.tk,m.w⟩) rfl rfl (fun b o b1 b2 b3 b4 e=>k5 b o b3 b4 e) (k5 _ _ ?_ ?_ hC4.co) ⟨?_,enm,rvs5,erw5,hRV5⟩ rfl rfl (Nat.le_refl _) hw hC.tk (Nat.le_refl _) ?_ (hC4.ix G List.mem_cons_self) ?_)
      ·exact j4 hC4.co hG4.nm (by intro y;cases y)
      ·obtain ⟨r1,hr1,_⟩:=hG4.rw
       exact j4 hC4.co hr1 (by intro y;cases y)
      ·obtain ⟨r1,hr1,_⟩:=hG4.rw
       exact k5 _ _ (j4 hG4.fa hG4.nm (by intro y;cases y)) (j4 hG4.fa hr1 (by intro y;cases y)) hG4.fa
      ·exact Nat.le_trans (Ko _ _ _) (by dsimp only;omega)
      ·show (K6 G.L (c.rows.zip (kl Fr.L Fr.pr.rs))).length≤100
       rw [jc6 (jab hcond.2.2.2)]
       exact hL4
     ·rw [if_neg hcond] at q
      exact q.elim
  ·rw [if_neg hhas] at q
   exact q.elim
 ·rw [hun] at q
  dsimp only at q
  refine gs ?_
  refine ⟨_,rfl,rfl,_,rfl,j9 (fun _=>?_) (fun d=>absurd (show (!decide (V.ref t=V.non))=true by simp) d)⟩
  refine ⟨_,rfl,?_⟩
  have s12:=s1.trans s2
  exact q (.ref t) _ m.tk (hC.sub.trans s12) (s12 _ _ hC.co) ⟨t,.ref e,rfl,ht,jQ (s2 _ _ e1) jy⟩
theorem jaX {CC CF:Addr} {f:Addr} {fd:FuncData} (B:Free0 mg) (TC:ClsC K CC) (T:ClsF K CF) (F:Fun K "gone_on" "gone_on" zP f fd) (F_come_back:Fn P w K mg base 8 "come_back" ["course"] (jdm K CC CF)) (F_ask:Fn P w K mg base 8 "ask" ["frame","step"] (jfB K CF)) (F_do:Fn P w K mg base 9 "do" ["course","frame","statement","path"] (jgV K CC CF)):FnOk P w K mg base CX0 10 f fd ["course"] (jgU K CC CF):=by
 have sc:FnScope ["course","frame","steps","step"] ["course"] (jf zP):=fs
 refine F.okZ sc (fun vs H Q E h=>?_) (fun cdv A outer s H vs Q E hr h=>?_)
 ·obtain ⟨Hs,C,prog,inp,most,As,m,rfl,_⟩:=h
  rfl
 obtain ⟨Hs,C,prog,inp,most,As,m,rfl,hS,hC,hu390,q⟩:=h
 have hu:=yL hr
 cases hm:m.fr with
 | nil=>unfold kc at q;rw [hm] at q;exact q.elim
 | cons Fr jv=>
 obtain ⟨Ad,As',rfl,hF,hst⟩:=hC.cons hm
 have hP:=hC.inP Fr (by rw [hm];exact List.mem_cons_self)
 obtain ⟨pra,pt,rt,v4,v5,vb,epra,hpr,hpt,hrt,hv4,hv5,hvb⟩:=zR hF.pr
 have epra':pra=Ad.pra:=by cases epra;rfl
 subst epra'
 have hw:=hC.w
 have hfl:H C.fl=some (.lst ((As'.map fun A=>V.ref A.fa).reverse++[.ref Ad.fa])):=by rw [hC.fl,List.map_cons,List.reverse_cons]
 obtain ⟨kv2,hd2,hd2v⟩:=hS.d2
 obtain ⟨sl,ss,hval,hsl,hss⟩:=hd2v Fr.pr hP
 have hssl:=hss.length
 rw [List.length_map] at hssl
 have hslH:=hC.sub _ _ hsl
 have hprH:=hC.sub _ _ hpr
 have hix:=hC.ix Fr (by rw [hm];exact List.mem_cons_self)
 have hsz:=hS.sz _ hP
 have hbnd:=hC.bnd
 rw [hm] at hbnd
 have hlb:=hC.lb Fr (by rw [hm];exact List.mem_cons_self)
 have nd:=hC.nd
 rw [List.flatMap_cons] at nd
 have nd1:=List.nodup_cons.mp nd
 have nd2:=List.nodup_cons.mp nd1.2
 have nd3:=List.nodup_append.mp nd2.2
 have ncf:C.co≠Ad.fa:=fun z=>nd1.1 (by rw [z];exact List.mem_cons_of_mem _ (List.mem_append_left _ (by simp [FA.own])))
 have nnr:Ad.nm≠Ad.rw:=by
  have:=nd3.1
  simp only [FA.own,List.nodup_cons,List.mem_cons,List.mem_nil_iff,or_false,not_or] at this
  exact this.2.1
 obtain ⟨rvs,hrw,hRV⟩:=hF.rw
 have ncn:C.co≠Ad.nm:=j4 hC.co hF.nm (by intro y;cases y)
 have ncr:C.co≠Ad.rw:=j4 hC.co hrw (by intro y;cases y)
 have nfn:Ad.fa≠Ad.nm:=j4 hF.fa hF.nm (by intro y;cases y)
 have nfr:Ad.fa≠Ad.rw:=j4 hF.fa hrw (by intro y;cases y)
 refine ⟨_,(jc (jF (i:=1) sc.nd rfl ol (jX km (jD (zpv 0) rfl) (Kc Kh jh) (fun _ _=>rfl)))
   (jc (jF (i:=2) sc.nd rfl ol (zI hu (jD (zpv 0) rfl) (jX jS (jD (zpv 1) rfl) jh (fun _ _=>rfl)) (fun _ _=>rfl)))
   (jc (kn (jW kZ (jD (zpv 1) rfl) (yO kf (by rfl) B.len_ zx (jd (zpv 2) jk)) (jJ _)) (ju (jN (jL F_come_back hr (jd (zpv 0) jk)))) jZ)
   (jc (jF (i:=3) sc.nd rfl ol (jX km (zpv 2) (jD (zpv 1) rfl) (fun _ _=>rfl)))
   (jc (kn (jW kZ (jX jS (zpv 3) jh (fun _ _=>rfl)) ke (jJ _)) (jc (kP (zpv 1) (jX jS (zpv 3) jh (fun _ _=>rfl)) rfl)
   (ju (jN kA))) jZ)
   (jc (kn (jW kZ (jD (zpv 0) rfl) (jD (zpv 0) rfl) (jJ _)) (ju (jN (kQ (jd ke jk)))) jZ)
   (jc (yM (zpv 0) jh ja5)
   (jc (kn (jW kZ (jX jS (zpv 3) jh (fun _ _=>rfl)) ke (jJ _)) (ju (jN (jL F_ask hr (jd (zpv 1) (jd (zpv 3) jk))))) jZ)
   (jc (yM (zpv 1) jh ja5)
   (jc (kn (jW kZ (jX jS (zpv 3) jh (fun _ _=>rfl)) ke (jJ _)) (ju (jN (jL F_do hr (jd (zpv 0) (jd (zpv 1) (jd (jX jS (zpv 3) jh (fun _ _=>rfl)) (jd (jX jS (zpv 3) jh (fun _ _=>rfl)) jk))))))) jZ)
   (ju (jN kA)))))))))))),?_⟩
 refine zJ (σ':=[some (.ref C.co),none,none,none]) rfl ?_
 refine ⟨_,rfl,C.co,CC,C.dc,_,_,rfl,hC.co,TC.c,TC.n7,rfl,_,rfl,C.fl,_,_,_,rfl,rfl,SqL.of hfl,K0 _ _,?_⟩
 refine gs ?_
 have hg:DGet H C.d2 (kV (Sum.inr Fr.pr.f)) (some (.ref sl)):=by
  have h:=DGet.k (k:=Sum.inr Fr.pr.f) (hC.sub _ _ hd2)
  rw [hval] at h
  exact h
 refine ⟨_,rfl,C.co,CC,C.dc,_,_,rfl,hC.co,TC.c,TC.n2,rfl,_,rfl,Ad.fa,CF,Ad.dx,_,_,rfl,hF.fa,T.c,T.n1,rfl,Ad.pra,_,_,_,rfl,rfl,SqT.of hprH,rfl,C.d2,.ref sl,rfl,hg,?_⟩
 refine gs ?_
 refine ⟨_,rfl,Ad.fa,CF,Ad.dx,_,_,rfl,hF.fa,T.c,T.n5,rfl,_,rfl,sl,_,rfl,.inl (SqL.of hslH),rfl,_,rfl,j9 (fun d=>?_) (fun d=>?_)⟩
 ·have he:Fr.i=Fr.pr.sx.length:=by
   have:=of_decide_eq_true d
   injection this with this
   omega
  exact ⟨_,rfl,Hs,C,prog,inp,most,Ad :: As',m,Fr,jv,rfl,hS,hC,hu390,hm,List.getElem?_eq_none (by omega),q⟩
 have hlt:Fr.i < Fr.pr.sx.length:=by
  rcases Nat.lt_or_ge Fr.i Fr.pr.sx.length with g | g
  ·exact g
  ·exfalso
   apply d
   apply decide_eq_true
   rw [show Fr.i=ss.length by omega]
 have hsi:Fr.pr.sx[Fr.i]?=some Fr.pr.sx[Fr.i]:=List.getElem?_eq_getElem hlt
 obtain ⟨v,hv,hvHs⟩:=hss.get (show (Fr.pr.sx.map Sx.toD)[Fr.i]?=some (Fr.pr.sx[Fr.i].toD) by rw [List.getElem?_map,hsi];rfl)
 have hvH:=hvHs.mono hC.sub
 have hwf:=hS.wf _ hP _ _ hsi
 refine ⟨_,rfl,_,rfl,Ad.fa,CF,Ad.dx,_,_,rfl,hF.fa,T.c,T.n5,rfl,sl,_,_,_,rfl,rfl,SqL.of hslH,zD hv,?_⟩
 refine gs ?_
 generalize Fr.pr.sx[Fr.i]=s0 at *
 have keepH:∀ {H':Hp} {F':Fm} {m':Mc},m'.fr=F' :: jv→(∀ b o,b≠C.co→b≠Ad.fa→b≠Ad.nm→b≠Ad.rw→H b=some o→H' b=some o)→H' C.co=some (.ins CC C.dc (qd C.d1 C.d2 (.ref C.il) m'.tk most m'.used C.fl))→FrD K CF H' m'.w Ad F'→F'.pr=Fr.pr→F'.cb=Fr.cb→m.w≤m'.w→m'.w≤60→m'.tk≤inp.length→m.used≤m'.used→F'.N.length≤100+2 * m'.used→F'.i≤F'.pr.sx.length→F'.L.length≤100→Conf K CC CF Hs C prog inp most (Ad :: As') H' m':=fun a b c d e f g h i j k l n=>hC.step hm a b c d e f g h i j k l n
 cases s0 with
 | go n=>
  rw [Z0 hm hsi] at q
  obtain ⟨st,xs,rfl,est,hx1⟩:=jo hvH
  obtain ⟨v1,r1,rfl,e1,hx2⟩:=jb hx1
  obtain ⟨v2,r2,rfl,e2,hx3⟩:=jb hx2
  cases js hx3
  cases jq e1
  cases j3 e2
  refine ⟨_,rfl,st,_,_,_,rfl,rfl,SqT.of est,rfl,rfl,_,rfl,j9 (fun _=>?_) (fun d=>absurd (decide_eq_true rfl) d)⟩
  refine ⟨_,rfl,st,_,_,_,rfl,rfl,SqT.of est,rfl,_,rfl,Ad.fa,CF,Ad.dx,_,rfl,hF.fa,T.c,T.n5,by show 5 < 1000;decide,?_⟩
  rw [Jf]
  have tk2:TKF H (upd H Ad.fa (.ins CF Ad.dx (zA Ad.pra Ad.cbv Ad.nm Ad.rw n))):=TKF.upd hF.fa (fun _ z=>by cases z) fun _ _ z=>by cases z
  refine q (Ad :: As') _ (keepH rfl (fun b o b1 b2 b3 b4 e=>by rw [jg b2];exact e) ?_ ⟨ja,?_,rvs,?_,hRV.tk tk2⟩ rfl rfl (Nat.le_refl _) hw hC.tk (Nat.le_refl _) hbnd.1 hwf hlb)
  ·rw [jg ncf];exact hC.co
  ·rw [jg (Ne.symm nfn)];exact hF.nm
  ·rw [jg (Ne.symm nfr)];exact hrw
 | ask le cs kd p yes no=>
  rw [JB hm hsi] at q
  obtain ⟨st,vl,vk,vp,rfl,est,hle,hcs,hpa⟩:=jeh hvH
  refine ⟨_,rfl,st,_,_,_,rfl,rfl,SqT.of est,rfl,rfl,_,rfl,j9 (fun d=>absurd (of_decide_eq_true d) (by decide)) (fun _=>?_)⟩
  refine ⟨_,rfl,C.co,CC,C.dc,_,_,rfl,hC.co,TC.c,TC.n6,rfl,_,rfl,C.co,CC,C.dc,_,_,rfl,hC.co,TC.c,TC.n5,rfl,rfl,_,rfl,j9 (fun d=>?_) (fun d=>?_)⟩
  ·have d':(m.used:Int)=most:=by have:=of_decide_eq_true d;injection this
   rw [if_pos d'] at q
   refine ⟨sm rfl,fun t ht=>q (.ref t) _ m.tk (hC.sub.trans (jj ht _)) ((jj ht _) _ _ hC.co) ⟨t,rfl,ja⟩⟩
  have d':¬ (m.used:Int)=most:=fun z=>d (decide_eq_true (congrArg V.int z))
  rw [if_neg d'] at q
  refine ⟨_,rfl,C.co,CC,C.dc,_,_,rfl,hC.co,TC.c,TC.n6,rfl,_,_,rfl,rfl,_,_,hC.co,by show 7 < 1000;decide,?_⟩
  rw [show ((m.used:Int)+1)=((m.used+1:Nat):Int) by omega,Jz]
  have t1:TKF H (upd H C.co (.ins CC C.dc (qd C.d1 C.d2 (.ref C.il) m.tk most (m.used+1) C.fl))):=TKF.upd hC.co (fun _ z=>by cases z) fun _ _ z=>by cases z
  have k1:∀ b o,b≠C.co→H b=some o→upd H C.co (.ins CC C.dc (qd C.d1 C.d2 (.ref C.il) m.tk most (m.used+1) C.fl)) b=some o:=fun b o hb e=>by rw [jg hb];exact e
  have c1:upd H C.co (.ins CC C.dc (qd C.d1 C.d2 (.ref C.il) m.tk most (m.used+1) C.fl)) C.co=some (.ins CC C.dc (qd C.d1 C.d2 (.ref C.il) m.tk most (m.used+1) C.fl)):=ja
  generalize upd H C.co (.ins CC C.dc (qd C.d1 C.d2 (.ref C.il) m.tk most (m.used+1) C.fl))=H1 at *
  have hD1:FrD K CF H1 m.w Ad Fr:=hF.toFrD.keep (Nat.le_refl _) t1 fun b hb o e=>k1 b o (fun z=>by
   simp only [FA.own,List.mem_cons,List.mem_nil_iff,or_false] at hb
   rcases hb with y | y | y
   ·exact ncf (z.symm.trans y)
   ·exact ncn (z.symm.trans y)
   ·exact ncr (z.symm.trans y)) e
  have tkk:TK H H1:=t1.1
  have nst:st≠C.co:=j4 est hC.co (by intro y;cases y)
  refine ⟨_,rfl,st,_,_,_,rfl,rfl,SqT.of (tkk _ _ est),rfl,rfl,_,rfl,j9 (fun _=>?_) (fun d=>absurd (decide_eq_true rfl) d)⟩
  refine ⟨_,rfl,_,rfl,Ad,Fr,m.w,_,_,_,_,_,_,_,st,vl,vk,vp,kd,le,cs,yes,no,rfl,hD1,by omega,tkk _ _ hprH,tkk _ _ est,tkk.held hle,tkk.held hcs,fun hun H2 k2 f2=>?_,fun k hun t H2 s2 ht=>?_⟩
  ·rw [hun] at q
   dsimp only at q
   obtain ⟨rvs1,hrw1,hRV1⟩:=hD1.rw
   have t2:TKF H1 H2:=⟨fun b xs e=>k2 b _ (j4 e hD1.fa (by intro y;cases y)) e,fun b o u e=>k2 b _ (j4 e hD1.fa (by intro y;cases y)) e⟩
   refine q (Ad :: As') H2 (keepH rfl (fun b o b1 b2 b3 b4 e=>k2 b o b2 (k1 b o b1 e)) (k2 _ _ ncf c1) ⟨f2,k2 _ _ (Ne.symm nfn) hD1.nm,rvs1,k2 _ _ (Ne.symm nfr) hrw1,hRV1.tk t2⟩ rfl rfl (Nat.le_refl _) hw hC.tk (Nat.le_succ _) ?_ ?_ hlb)
   ·have:=hbnd.1;dsimp only;omega
   ·show (if Jb Fr.N Fr.L le=true then yes else no)≤Fr.pr.sx.length
    split
    ·exact hwf.1
    ·exact hwf.2
  ·rw [hun] at q
   dsimp only at q
   refine q (.ref t) H2 m.tk (fun b o e=>s2 _ _ (k1 b o (fun z=>by rw [z,hC.new C.co List.mem_cons_self] at e;cases e) (hC.sub _ _ e))) (s2 _ _ c1) ⟨t,vp,rfl,ht,(tkk.held hpa).mono s2⟩
 | do_ dd p=>
  rw [zU hm hsi] at q
  obtain ⟨st,st2,vp,rfl,estHs,hdHs,hpaHs⟩:=jfk hvHs
  have est:=hC.sub _ _ estHs
  have hd:=hdHs.mono hC.sub
  have hpa:=hpaHs.mono hC.sub
  refine ⟨_,rfl,st,_,_,_,rfl,rfl,SqT.of est,rfl,rfl,_,rfl,j9 (fun d=>absurd (of_decide_eq_true d) (by decide)) (fun _=>?_)⟩
  refine ⟨_,rfl,C.co,CC,C.dc,_,_,rfl,hC.co,TC.c,TC.n6,rfl,_,rfl,C.co,CC,C.dc,_,_,rfl,hC.co,TC.c,TC.n5,rfl,rfl,_,rfl,j9 (fun d=>?_) (fun d=>?_)⟩
  ·have d':(m.used:Int)=most:=by have:=of_decide_eq_true d;injection this
   rw [if_pos d'] at q
   refine ⟨sm rfl,fun t ht=>q (.ref t) _ m.tk (hC.sub.trans (jj ht _)) ((jj ht _) _ _ hC.co) ⟨t,rfl,ja⟩⟩
  have d':¬ (m.used:Int)=most:=fun z=>d (decide_eq_true (congrArg V.int z))
  rw [if_neg d'] at q
  refine ⟨_,rfl,C.co,CC,C.dc,_,_,rfl,hC.co,TC.c,TC.n6,rfl,_,_,rfl,rfl,_,_,hC.co,by show 7 < 1000;decide,?_⟩
  rw [show ((m.used:Int)+1)=((m.used+1:Nat):Int) by omega,Jz]
  have t1:TKF H (upd H C.co (.ins CC C.dc (qd C.d1 C.d2 (.ref C.il) m.tk most (m.used+1) C.fl))):=TKF.upd hC.co (fun _ z=>by cases z) fun _ _ z=>by cases z
  have k1:∀ b o,b≠C.co→H b=some o→upd H C.co (.ins CC C.dc (qd C.d1 C.d2 (.ref C.il) m.tk most (m.used+1) C.fl)) b=some o:=fun b o hb e=>by rw [jg hb];exact e
  have c1:upd H C.co (.ins CC C.dc (qd C.d1 C.d2 (.ref C.il) m.tk most (m.used+1) C.fl)) C.co=some (.ins CC C.dc (qd C.d1 C.d2 (.ref C.il) m.tk most (m.used+1) C.fl)):=ja
  generalize upd H C.co (.ins CC C.dc (qd C.d1 C.d2 (.ref C.il) m.tk most (m.used+1) C.fl))=H1 at *
  have tkk:TK H H1:=t1.1
  have hfa1:=k1 _ _ (Ne.symm ncf) hF.fa
  refine ⟨_,rfl,st,_,_,_,rfl,rfl,SqT.of (tkk _ _ est),rfl,rfl,_,rfl,j9 (fun d=>absurd (of_decide_eq_true d) (by decide)) (fun _=>?_)⟩
  refine ⟨_,rfl,Ad.fa,CF,Ad.dx,_,_,rfl,hfa1,T.c,T.n5,rfl,_,_,rfl,rfl,_,_,hfa1,by show 5 < 1000;decide,?_⟩
  rw [show ((Fr.i:Int)+1)=((Fr.i+1:Nat):Int) by omega,Jf]
  have t2:TKF H1 (upd H1 Ad.fa (.ins CF Ad.dx (zA Ad.pra Ad.cbv Ad.nm Ad.rw (Fr.i+1)))):=TKF.upd hfa1 (fun _ z=>by cases z) fun _ _ z=>by cases z
  have e2st:=t2.1 _ _ (tkk _ _ est)
  have hC2:Conf K CC CF Hs C prog inp most (Ad :: As') (upd H1 Ad.fa (.ins CF Ad.dx (zA Ad.pra Ad.cbv Ad.nm Ad.rw (Fr.i+1)))) ⟨{ Fr with i:=Fr.i+1 } :: jv,m.used+1,m.tk,m.w⟩:=by
   refine keepH rfl (fun b o b1 b2 b3 b4 e=>by rw [jg b2];exact k1 b o b1 e) ?_ ⟨ja,?_,rvs,?_,(hRV.tk t1).tk t2⟩ rfl rfl (Nat.le_refl _) hw hC.tk (Nat.le_succ _) ?_ hlt hlb
   ·rw [jg ncf];exact c1
   ·rw [jg (Ne.symm nfn)];exact k1 _ _ (Ne.symm ncn) hF.nm
   ·rw [jg (Ne.symm nfr)];exact k1 _ _ (Ne.symm ncr) hrw
   ·have:=hbnd.1;dsimp only;omega
  have t02:=t1.trans t2
  refine ⟨_,rfl,st,_,_,_,rfl,rfl,SqT.of e2st,rfl,rfl,_,rfl,j9 (fun _=>?_) (fun d=>absurd (decide_eq_true rfl) d)⟩
  generalize upd H1 Ad.fa (.ins CF Ad.dx (zA Ad.pra Ad.cbv Ad.nm Ad.rw (Fr.i+1)))=H2 at *
  have hF2:=(show FrAt K CF Hs H2 m.w Ad { Fr with i:=Fr.i+1 }∧_ from hC2.st).1
  obtain ⟨rvs2,hrw2,hRV2⟩:=hF2.rw
  have hTK2:TK H H2:=t02.1
  refine ⟨_,rfl,_,rfl,_,rfl,st,_,_,_,rfl,rfl,SqT.of e2st,rfl,_,rfl,st,_,_,_,rfl,rfl,SqT.of e2st,rfl,?_⟩
  refine ⟨C,Ad,{ Fr with i:=Fr.i+1 },m.w,st2,dd,inp,.str Fr.pr.f,vp,m.tk,most,m.used+1,rfl,⟨hC2.co,hC2.sub _ _ hS.il,hF2.toFrD,hw,⟨_,_,_,_,_,_,hTK2 _ _ hprH⟩,hTK2.held hd,by have:=hbnd.1;dsimp only;omega,hlb,ncf,hC.tk,nnr⟩,?_⟩
  have hpa2:=hTK2.held hpa
  have step2:∀ {H':Hp} {F':Fm} {m':Mc},m'.fr=F' :: jv→(∀ b o,b≠C.co→b≠Ad.fa→b≠Ad.nm→b≠Ad.rw→H2 b=some o→H' b=some o)→H' C.co=some (.ins CC C.dc (qd C.d1 C.d2 (.ref C.il) m'.tk most m'.used C.fl))→FrD K CF H' m'.w Ad F'→F'.pr=Fr.pr→F'.cb=Fr.cb→m.w≤m'.w→m'.w≤60→m'.tk≤inp.length→m.used+1≤m'.used→F'.N.length≤100+2 * m'.used→F'.i≤F'.pr.sx.length→F'.L.length≤100→Conf K CC CF Hs C prog inp most (Ad :: As') H' m':=fun a b c d e f g h i j k l n=>hC2.step (F:={ Fr with i:=Fr.i+1 }) (jv:=jv) rfl a b c d e f g h i j k l n
  have hNb:Fr.N.length+2≤100+2 * (m.used+1):=by have:=hbnd.1;omega
  unfold JR at q
  cases dd with
  | set x t c=>
   dsimp only at q
   intro H' k' enm
   refine q (Ad :: As') H' (step2 rfl (fun b o b1 b2 b3 b4 e=>k' b o b3 e) (k' _ _ ncn hC2.co) ⟨k' _ _ nfn hF2.fa,enm,rvs2,k' _ _ (Ne.symm nnr) hrw2,hRV2.tk ⟨fun b xs e=>k' b _ (j4 e hF2.nm (by intro y;cases y)) e,fun b o u e=>k' b _ (j4 e hF2.nm (by intro y;cases y)) e⟩⟩ rfl rfl (Nat.le_refl _) hw hC.tk (Nat.le_refl _) ?_ hlt hlb)
   exact Nat.le_trans (Ko _ _ _) (by dsimp only;omega)
  | put r x d t c=>
   dsimp only at q
   by_cases hc:(lkA Fr.L r).isSome=true∧m.w < 60
   ·rw [if_pos hc] at q
    refine ⟨hc.1,fun H' k' erw=>?_⟩
    obtain ⟨rvs3,hrw3,hRV3⟩:=erw
    refine q (Ad :: As') H' (step2 rfl (fun b o b1 b2 b3 b4 e=>k' b o b4 e) (k' _ _ ncr hC2.co) ⟨k' _ _ nfr hF2.fa,k' _ _ nnr hF2.nm,rvs3,hrw3,hRV3⟩ rfl rfl (Nat.le_succ _) (by dsimp only;omega) hC.tk (Nat.le_refl _) (by dsimp only;omega) hlt ?_)
    show (kE Fr.L r _).length≤100
    rw [ZQ hc.1]
    exact hlb
   ·rw [if_neg hc] at q
    exact q.elim
  | any x=>
   dsimp only at q
   refine ⟨fun hn t H' s' ht=>?_,fun v hv H' k' enm eco=>?_⟩
   ·rw [hn] at q
    exact q (.ref t) H' m.tk (hC2.sub.trans s') (s' _ _ hC2.co) ⟨t,rfl,ht⟩
   ·rw [hv] at q
    dsimp only at q
    have htk:m.tk+1≤inp.length:=(List.getElem?_eq_some_iff.mp hv).1
    refine q (Ad :: As') H' (step2 rfl (fun b o b1 b2 b3 b4 e=>k' b o b3 b1 e) eco ⟨k' _ _ nfn (Ne.symm ncf) hF2.fa,enm,rvs2,k' _ _ (Ne.symm nnr) (Ne.symm ncr) hrw2,hRV2.tk ⟨fun b xs e=>k' b _ (j4 e hF2.nm (by intro y;cases y)) (j4 e hC2.co (by intro y;cases y)) e,fun b o u e=>k' b _ (j4 e hF2.nm (by intro y;cases y)) (j4 e hC2.co (by intro y;cases y)) e⟩⟩ rfl rfl (Nat.le_refl _) hw htk (Nat.le_refl _) ?_ hlt hlb)
    exact Nat.le_trans (Ko _ _ _) (by dsimp only;omega)
  | claim D=>
   dsimp only at q
   refine ⟨fun hn H' s'=>?_,fun k hn t H' s' ht=>?_⟩
   ·rw [hn] at q
    dsimp only at q
    exact q (Ad :: As') H' (step2 rfl (fun b o _ _ _ _ e=>s' b o e) (s' _ _ hC2.co) (hF2.toFrD.same s') rfl rfl (Nat.le_refl _) hw hC.tk (Nat.le_refl _) (by dsimp only;omega) hlt hlb)
   ·rw [hn] at q
    dsimp only at q
    exact q (.ref t) H' m.tk (hC2.sub.trans s') (s' _ _ hC2.co) ⟨t,vp,rfl,ht,hpa2.mono s'⟩
  | call x f' as rows=>
   dsimp only at q
   cases hf:prog.find? fun P=>decide (P.f=f') with
   | none=>rw [hf] at q;exact q.elim
   | some P2=>
    rw [hf] at q
    dsimp only at q
    have hP2:P2∈prog:=List.mem_of_find?_eq_some hf
    have hPf:P2.f=f':=by
     have:=List.find?_some hf
     simpa using this
    by_cases hok:CallOk P2 ⟨x,f',as,rows⟩ Fr
    ·rw [if_pos hok] at q
     obtain ⟨kv1,hd1,hd1v⟩:=hS.d1
     obtain ⟨pra2,hval2,hH2⟩:=hd1v P2 hP2
     rw [hPf] at hval2
     have hlen:=hst.len
     have hfl2:=hC2.fl
     rw [List.map_cons,List.reverse_cons] at hfl2
     have hdeep:=hC.deep
     rw [hm,List.length_cons] at hdeep
     have hfvl:((As'.map fun A=>V.ref A.fa).reverse++[V.ref Ad.fa]).length=jv.length+1:=by
      rw [List.length_append,List.length_reverse,List.length_map,hlen];rfl
     refine ⟨C,Ad,{ Fr with i:=Fr.i+1 },m.w,st2,P2,⟨x,f',as,rows⟩,_,.str Fr.pr.f,vp,pra2,m.tk,most,m.used+1,rfl,⟨hC2.co,hfl2,hF2.toFrD,by omega,⟨_,_,_,_,_,_,hTK2 _ _ hprH⟩,hTK2.held hd,⟨kv1,hC2.sub _ _ hd1,hval2⟩,hH2.mono hC2.sub,⟨hok.as,hok.rows,hok.nps,hok.nrs,hok.nrows,hok.has,hok.lps,hok.lrs⟩,by rw [hfvl];omega⟩,fun k hn t H' s' ht=>?_,fun hn h20 t H' s' ht=>?_,fun hn h20 A2 H' k' efl hFr2 epra ecbv hnew hnd=>?_⟩
     ·rw [show qz (zG P2 ⟨x,f',as,rows⟩ Fr).N (zG P2 ⟨x,f',as,rows⟩ Fr).L P2.needs=some k from hn] at q
      exact q (.ref t) H' m.tk (hC2.sub.trans s') (s' _ _ hC2.co) ⟨t,vp,rfl,ht,hpa2.mono s'⟩
     ·rw [show qz (zG P2 ⟨x,f',as,rows⟩ Fr).N (zG P2 ⟨x,f',as,rows⟩ Fr).L P2.needs=none from hn] at q
      dsimp only at q
      rw [hfvl] at h20
      rw [if_pos h20] at q
      exact q (.ref t) H' m.tk (hC2.sub.trans s') (s' _ _ hC2.co) ⟨t,rfl,ht⟩
     ·rw [show qz (zG P2 ⟨x,f',as,rows⟩ Fr).N (zG P2 ⟨x,f',as,rows⟩ Fr).L P2.needs=none from hn] at q
      dsimp only at q
      rw [hfvl] at h20
      rw [if_neg h20] at q
      have hbnd2:=hbnd.2
      refine q (A2 :: Ad :: As') H' (hC2.push (m':=⟨zG P2 ⟨x,f',as,rows⟩ Fr :: { Fr with i:=Fr.i+1 } :: jv,m.used+1,m.tk,m.w⟩) rfl k' (by rw [efl,List.map_cons,List.reverse_cons]) hFr2 (by rw [epra];exact hH2) (by rw [ecbv];exact (show jgI Hs (some (Cb.mk x f' as rows)) (.ref st2) from hdHs)) hnew hnd hP2 rfl rfl rfl ?_ ?_ ?_ (Nat.zero_le _) ?_)
      ·show (P2.ps.zip _).length≤100
       rw [List.length_zip]
       exact Nat.le_trans (Nat.min_le_left _ _) hok.lps
      ·intro G hG
       rcases List.mem_cons.mp hG with rfl | hG
       ·dsimp only;omega
       ·have:=hbnd2 G hG;dsimp only;omega
      ·rw [List.length_cons];omega
      ·show (P2.rs.zip _).length≤100
       rw [List.length_zip]
       exact Nat.le_trans (Nat.min_le_left _ _) hok.lrs
    ·rw [if_neg hok] at q
     exact q.elim
 | come=>
  rw [jaZ hm hsi] at q
  obtain ⟨st,xs,rfl,est,hx1⟩:=jo hvH
  obtain ⟨v1,r1,rfl,e1,hx2⟩:=jb hx1
  cases js hx2
  cases jq e1
  refine ⟨_,rfl,st,_,_,_,rfl,rfl,SqT.of est,rfl,rfl,_,rfl,j9 (fun d=>absurd (of_decide_eq_true d) (by decide)) (fun _=>?_)⟩
  refine ⟨_,rfl,C.co,CC,C.dc,_,_,rfl,hC.co,TC.c,TC.n6,rfl,_,rfl,C.co,CC,C.dc,_,_,rfl,hC.co,TC.c,TC.n5,rfl,rfl,_,rfl,j9 (fun d=>?_) (fun d=>?_)⟩
  ·have d':(m.used:Int)=most:=by have:=of_decide_eq_true d;injection this
   rw [if_pos d'] at q
   refine ⟨sm rfl,fun t ht=>q (.ref t) _ m.tk (hC.sub.trans (jj ht _)) ((jj ht _) _ _ hC.co) ⟨t,rfl,ja⟩⟩
  have d':¬ (m.used:Int)=most:=fun z=>d (decide_eq_true (congrArg V.int z))
  rw [if_neg d'] at q
  refine ⟨_,rfl,C.co,CC,C.dc,_,_,rfl,hC.co,TC.c,TC.n6,rfl,_,_,rfl,rfl,_,_,hC.co,by show 7 < 1000;decide,?_⟩
  rw [show ((m.used:Int)+1)=((m.used+1:Nat):Int) by omega,Jz]
  have t1:TKF H (upd H C.co (.ins CC C.dc (qd C.d1 C.d2 (.ref C.il) m.tk most (m.used+1) C.fl))):=TKF.upd hC.co (fun _ z=>by cases z) fun _ _ z=>by cases z
  have k1:∀ b o,b≠C.co→H b=some o→upd H C.co (.ins CC C.dc (qd C.d1 C.d2 (.ref C.il) m.tk most (m.used+1) C.fl)) b=some o:=fun b o hb e=>by rw [jg hb];exact e
  have c1:upd H C.co (.ins CC C.dc (qd C.d1 C.d2 (.ref C.il) m.tk most (m.used+1) C.fl)) C.co=some (.ins CC C.dc (qd C.d1 C.d2 (.ref C.il) m.tk most (m.used+1) C.fl)):=ja
  generalize upd H C.co (.ins CC C.dc (qd C.d1 C.d2 (.ref C.il) m.tk most (m.used+1) C.fl))=H1 at *
  have tkk:TK H H1:=t1.1
  have hfa1:=k1 _ _ (Ne.symm ncf) hF.fa
  refine ⟨_,rfl,st,_,_,_,rfl,rfl,SqT.of (tkk _ _ est),rfl,rfl,_,rfl,j9 (fun d=>absurd (of_decide_eq_true d) (by decide)) (fun _=>?_)⟩
  refine ⟨_,rfl,Ad.fa,CF,Ad.dx,_,_,rfl,hfa1,T.c,T.n5,rfl,_,_,rfl,rfl,_,_,hfa1,by show 5 < 1000;decide,?_⟩
  rw [show ((Fr.i:Int)+1)=((Fr.i+1:Nat):Int) by omega,Jf]
  have t2:TKF H1 (upd H1 Ad.fa (.ins CF Ad.dx (zA Ad.pra Ad.cbv Ad.nm Ad.rw (Fr.i+1)))):=TKF.upd hfa1 (fun _ z=>by cases z) fun _ _ z=>by cases z
  refine ⟨_,rfl,st,_,_,_,rfl,rfl,SqT.of (t2.1 _ _ (tkk _ _ est)),rfl,rfl,_,rfl,j9 (fun d=>absurd (of_decide_eq_true d) (by decide)) (fun _=>?_)⟩
  refine q (Ad :: As') _ (keepH rfl (fun b o b1 b2 b3 b4 e=>by rw [jg b2];exact k1 b o b1 e) ?_ ⟨ja,?_,rvs,?_,(hRV.tk t1).tk t2⟩ rfl rfl (Nat.le_refl _) hw hC.tk (Nat.le_succ _) ?_ hlt hlb)
  ·rw [jg ncf];exact c1
  ·rw [jg (Ne.symm nfn)];exact k1 _ _ (Ne.symm ncn) hF.nm
  ·rw [jg (Ne.symm nfr)];exact k1 _ _ (Ne.symm ncr) hrw
  ·have:=hbnd.1;dsimp only;omega
end
open PySem L2
abbrev kr:Stmt:=top 19
abbrev qO:Stmt:=jbK (top 28) 0
section
variable {P:Program} {w:World} {K:W.Frag} {mg:Str→Option Value} {base:Heap}
theorem jdF {f:Addr} {fd:FuncData} (F:Fun K "procs_by_name" "procs_by_name" kr f fd):FnOk P w K mg base CX0 1 f fd ["program"] jbu:=by
 have sc:FnScope ["program"] ["program"] (jf kr):=fs
 refine F.okZ sc (fun vs H Q E h=>?_) (fun cdv A outer s H vs Q E hr h=>?_)
 ·obtain ⟨pg,prog,pvs,rfl,_⟩:=h
  rfl
 obtain ⟨pg,prog,pvs,rfl,hpg,hpv,nd,hl,q⟩:=h
 have hpl:=hpv.length
 rw [List.length_map] at hpl
 refine ⟨_,(ju (jN (Yg ["proc"] [] rfl (kW (sc:=jf kr) (N:=["program"]) rfl rfl (by decide +kernel)) (y0 (zpv 0)) (fun s H ex=>⟨(jr (i:=0) (show List.Nodup (["proc"]:List Str) by decide +kernel) rfl ol),qu,(jX (jbI (K:=K)) (zpv 0) jh (fun _ _=>rfl)),(zpv 0)⟩)))),?_⟩
 refine ⟨_,rfl,pg,rfl,⟨_,SqT.of hpg⟩,fun d hd=>?_⟩
 refine YJ (xs:=pvs) (fun i σ' G=>(∃ u,σ'=[u])∧Same H G∧∃ kv,G d=some (.dK kv)∧kv.length≤i∧∀ j (hj:j < prog.length),j < i→∃ pra,qi kv (Sum.inr prog[j].f)=some (.ref pra)∧Held H prog[j].toD (.ref pra)) ⟨⟨none,rfl⟩,jj hd _,[],ja,Nat.le_refl _,fun j _ h=>absurd h (Nat.not_lt_zero _)⟩ ?_ ?_ ?_
 ·rintro i σ' G _ ⟨_,sG,_⟩
  exact SqT.of (sG _ _ hpg)
 ·rintro i x σ' G hx ⟨⟨u,rfl⟩,sG,kv,eG,hkl,hkv⟩
  have hi:i < prog.length:=by have:=(List.getElem?_eq_some_iff.mp hx).1;omega
  obtain ⟨x',hx',hxH⟩:=hpv.get (show (prog.map Pr.toD)[i]?=some prog[i].toD by rw [List.getElem?_map,List.getElem?_eq_getElem hi];rfl)
  rw [hx] at hx'
  cases hx'
  obtain ⟨pra,pt,rt,v4,v5,vb,rfl,hpr,hpt,hrt,hv4,hv5,hvb⟩:=zR hxH
  unfold qg yl
  refine zy ?_
  refine ⟨_,rfl,pra,_,_,_,rfl,rfl,SqT.of (sG _ _ hpr),rfl,_,rfl,kv,Sum.inr prog[i].f,rfl,eG,jz (by omega),⟨_,rfl⟩,fun b o e=>?_,_,ja,?_,fun j hj hji=>?_⟩
  ·rw [jg (jl e hd)];exact sG _ _ e
  ·exact Nat.le_trans (Kn _ _ _) (by omega)
  ·rw [ZA]
   by_cases g:j=i
   ·subst g
    rw [if_pos rfl]
    exact ⟨pra,rfl,hxH⟩
   ·rw [if_neg (fun z=>jhe nd hj hi g (Sum.inr.inj z))]
    exact hkv j hj (by omega)
 ·rintro σ' G ⟨_,sG,kv,eG,_,hkv⟩
  refine q d kv G sG hd eG fun P hP=>?_
  obtain ⟨j,hj,rfl⟩:=List.mem_iff_getElem.mp hP
  obtain ⟨pra,h1,h2⟩:=hkv j hj (by omega)
  exact ⟨pra,h1,h2.mono sG⟩
theorem jct {CC:Addr} {k f':Nat} {f:Addr} {fd:FuncData} (TC:ClsC K CC) (F:Fun K "__init__" "Course.__init__" qO f fd) (hk1:1≤k) (F_procs_by_name:Fn P w K mg base 1 "procs_by_name" ["program"] jbu) (F_steps_of:Fn P w K mg base k "steps_of" ["proc"] (jbt f')):FnOk P w K mg base CX0 (k+1) f fd ["self","program","inputs","most"] (ZL CC f'):=by
 have sc:FnScope ["self","program","inputs","most"] ["self","program","inputs","most"] (jf qO):=fs
 refine F.okZ sc (fun vs H Q E h=>?_) (fun cdv A outer s H vs Q E hr h=>?_)
 ·obtain ⟨co,dc,pg,vi,most,prog,pvs,rfl,_⟩:=h
  rfl
 obtain ⟨co,dc,pg,vi,most,prog,pvs,rfl,hco,hpg,hpv,nd,hl,hok,h2,q⟩:=h
 have hpl:=hpv.length
 rw [List.length_map] at hpl
 refine ⟨_,(jc (kP (zpv 0) (jL F_procs_by_name hr (jd (zpv 1) jk) (h4:=hk1)) rfl)
   (jc (kP (zpv 0) (Yg ["proc"] [] rfl (kW (sc:=jf qO) (N:=["self","program","inputs","most"]) rfl rfl (by decide +kernel)) (y0 (zpv 1)) (fun s H ex=>⟨(jr (i:=0) (show List.Nodup (["proc"]:List Str) by decide +kernel) rfl ol),qu,(jX (jbI (K:=K)) (zpv 0) jh (fun _ _=>rfl)),(jL F_steps_of hr (jd (zpv 0) jk) (h4:=Nat.le_refl _))⟩)) rfl)
   (jc (kP (zpv 0) (zpv 2) rfl)
   (jc (kP (zpv 0) jh rfl)
   (jc (kP (zpv 0) (zpv 3) rfl)
   (jc (kP (zpv 0) jh rfl)
   (ju (kP (zpv 0) (zB jk) rfl)))))))),?_⟩
 refine ⟨_,rfl,pg,prog,pvs,rfl,hpg,hpv,nd,hl,fun d1 kv1 H1 s1 hd1 e1 hkv1=>?_⟩
 refine ⟨_,rfl,co,CC,dc,[],rfl,s1 _ _ hco,TC.c,TC.n1,by show 0 < 1000;decide,?_⟩
 have nd1:d1≠co:=fun z=>by rw [z,hco] at hd1;cases hd1
 have k2:∀ b o,b≠co→H b=some o→upd H1 co (.ins CC dc (jV "procs" (.ref d1) [])) b=some o:=fun b o hb z=>by rw [jg hb];exact s1 _ _ z
 have c2:upd H1 co (.ins CC dc (jV "procs" (.ref d1) [])) co=some (.ins CC dc (jV "procs" (.ref d1) [])):=ja
 have ed2:upd H1 co (.ins CC dc (jV "procs" (.ref d1) [])) d1=some (.dK kv1):=by rw [jg nd1];exact e1
 have tk12:TK H1 (upd H1 co (.ins CC dc (jV "procs" (.ref d1) []))):=TK.upd (s1 _ _ hco) (fun _ z=>by cases z)
 generalize upd H1 co (.ins CC dc (jV "procs" (.ref d1) []))=H2 at *
 have tk2:TK H H2:=(TK.same s1).trans tk12
 have free2:∀ b,H2 b=none→H b=none:=fun b hb=>by
  rcases hh:H b with _ | o
  ·rfl
  ·by_cases z:b=co
   ·rw [z,c2] at hb;cases hb
   ·rw [k2 b o z hh] at hb;cases hb
 refine ⟨_,rfl,pg,rfl,⟨_,SqT.of (tk2 _ _ hpg)⟩,fun d2 hd2=>?_⟩
 have hd20:=free2 d2 hd2
 refine YJ (xs:=pvs) (fun i σ' G=>(∃ u,σ'=[u])∧Same H2 G∧∃ kv,G d2=some (.dK kv)∧kv.length≤i∧∀ j (hj:j < prog.length),j < i→∃ sl ss,qi kv (Sum.inr prog[j].f)=some (.ref sl)∧G sl=some (.lst ss)∧HeldL G (prog[j].sx.map Sx.toD) ss) ⟨⟨none,rfl⟩,jj hd2 _,[],ja,Nat.le_refl _,fun j _ h=>absurd h (Nat.not_lt_zero _)⟩ ?_ ?_ ?_
 ·rintro i σ' G _ ⟨_,sG,_⟩
  exact SqT.of (sG _ _ (tk2 _ _ hpg))
 ·rintro i x σ' G hx ⟨⟨u,rfl⟩,sG,kv,eG,hkl,hkv⟩
  have hi:i < prog.length:=by have:=(List.getElem?_eq_some_iff.mp hx).1;omega
  obtain ⟨x',hx',hxH⟩:=hpv.get (show (prog.map Pr.toD)[i]?=some prog[i].toD by rw [List.getElem?_map,List.getElem?_eq_getElem hi];rfl)
  rw [hx] at hx'
  cases hx'
  have hxG:Held G prog[i].toD x:=(tk2.held hxH).mono sG
  obtain ⟨pra,pt,rt,v4,v5,vb,rfl,hpr,hpt,hrt,hv4,hv5,hvb⟩:=zR hxG
  have hP:=hok prog[i] (List.getElem_mem hi)
  unfold qg yl
  refine zy ?_
  refine ⟨_,rfl,pra,_,_,_,rfl,rfl,SqT.of hpr,rfl,_,rfl,pra,_,_,_,_,_,_,_,prog[i].body,rfl,hpr,hvb,hP.fit,by rw [hP.lay,List.length_map];exact hP.sz,h2,fun sl ss G2 s2 hsl e2 hH=>?_⟩
  rw [hP.lay] at hH
  have eG2:=s2 _ _ eG
  have tk3:TK G2 (upd G2 d2 (.dK (qE kv (Sum.inr prog[i].f) (.ref sl)))):=TK.upd eG2 (fun _ z=>by cases z)
  have kd:∀ b xs,G2 b=some (.lst xs)→upd G2 d2 (.dK (qE kv (Sum.inr prog[i].f) (.ref sl))) b=some (.lst xs):=fun b xs e=>by rw [jg (j4 e eG2 (by intro y;cases y))];exact e
  refine ⟨kv,Sum.inr prog[i].f,rfl,eG2,jz (by omega),⟨_,rfl⟩,fun b o e=>?_,_,ja,?_,fun j hj hji=>?_⟩
  ·rw [jg (jl e hd2)];exact s2 _ _ (sG _ _ e)
  ·exact Nat.le_trans (Kn _ _ _) (by omega)
  ·rw [ZA]
   by_cases g:j=i
   ·subst g
    rw [if_pos rfl]
    exact ⟨sl,ss,rfl,kd _ _ e2,tk3.heldL hH⟩
   ·rw [if_neg (fun z=>jhe nd hj hi g (Sum.inr.inj z))]
    obtain ⟨sl',ss',h1,h2',h3⟩:=hkv j hj (by omega)
    exact ⟨sl',ss',h1,kd _ _ (s2 _ _ h2'),tk3.heldL (h3.mono s2)⟩
 rintro σ' G ⟨_,sG,kv2,ed,_,hkv2⟩
 have c3:=sG _ _ c2
 have ed1:=sG _ _ ed2
 have k3:∀ b o,b≠co→H b=some o→G b=some o:=fun b o hb z=>sG _ _ (k2 b o hb z)
 have nd2:d2≠co:=fun z=>by rw [z,c2] at hd2;cases hd2
 refine ⟨_,rfl,co,CC,dc,_,rfl,c3,TC.c,TC.n2,by show 1 < 1000;decide,?_⟩
 refine ⟨_,rfl,_,rfl,co,CC,dc,_,rfl,ja,TC.c,TC.n3,by show 2 < 1000;decide,?_⟩
 refine ⟨_,rfl,co,CC,dc,_,rfl,ja,TC.c,TC.n4,by show 3 < 1000;decide,?_⟩
 refine ⟨_,rfl,_,rfl,co,CC,dc,_,rfl,ja,TC.c,TC.n5,by show 4 < 1000;decide,?_⟩
 refine ⟨_,rfl,co,CC,dc,_,rfl,ja,TC.c,TC.n6,by show 5 < 1000;decide,?_⟩
 refine ⟨sm rfl,fun fl hfl=>?_⟩
 have nfc:fl≠co:=fun z=>by rw [z,ja] at hfl;cases hfl
 have inX:∀ b o,b≠co→G b=some o→b≠fl:=fun b o hb z y=>by
  rw [y] at z hb
  rw [jg hb,jg hb,jg hb,jg hb,jg hb,z] at hfl
  cases hfl
 have hfl0:H fl=none:=by
  rcases hh:H fl with _ | o
  ·rfl
  ·exact absurd rfl (inX fl o nfc (k3 fl o nfc hh))
 refine ⟨_,rfl,co,CC,dc,_,rfl,(by rw [jg (Ne.symm nfc)];exact ja),TC.c,TC.n7,by show 6 < 1000;decide,?_⟩
 rw [jcV]
 have inY:∀ (A1 A2 A3 A4 A5:HO) b o,b≠co→G b=some o→upd (upd (upd (upd (upd (upd (upd G co A1) co A2) co A3) co A4) co A5) fl (.lst [])) co (.ins CC dc (qd d1 d2 vi 0 most 0 fl)) b=some o:=fun A1 A2 A3 A4 A5 b o hb z=>by
  rw [jg hb,jg (inX b o hb z),jg hb,jg hb,jg hb,jg hb,jg hb];exact z
 refine q d1 d2 fl kv1 kv2 _ (fun b o hb z=>inY _ _ _ _ _ b o hb (k3 b o hb z)) hd1 hd20 hfl0 ja (inY _ _ _ _ _ _ _ nd1 ed1) (fun P hP=>?_) (inY _ _ _ _ _ _ _ nd2 ed) (fun P hP=>?_) ?_
 ·obtain ⟨pra,h1,h2'⟩:=hkv1 P hP
  exact ⟨pra,h1,Zk (fun b xs z=>inY _ _ _ _ _ b _ (j4 z c3 (by intro y;cases y)) z) ((tk12.held h2').mono sG)⟩
 ·obtain ⟨j,hj,rfl⟩:=List.mem_iff_getElem.mp hP
  obtain ⟨sl,ss,h1,h2',h3⟩:=hkv2 j hj (by omega)
  have nsl:sl≠co:=j4 h2' c3 (by intro y;cases y)
  exact ⟨sl,ss,h1,inY _ _ _ _ _ _ _ nsl h2',inX _ _ nsl h2',heldL_tk (fun b xs z=>inY _ _ _ _ _ b _ (j4 z c3 (by intro y;cases y)) z) h3⟩
 ·rw [jg nfc,ja]
end
open PySem L2
abbrev jcc:Stmt:=top 30
section
variable {P:Program} {w:World} {K:W.Frag} {mg:Str→Option Value} {base:Heap}
theorem jgh {CC CF:Addr} {k f':Nat} {f:Addr} {fd:FuncData} (TC:ClsC K CC) (T:ClsF K CF) (F:Fun K "run" "run" jcc f fd) (hk8:10≤k) (M_Course:MkFn P w K mg base (k - 1) "Course" CC ["self","program","inputs","most"] (ZL CC f')) (M_Frame:MkFn P w K mg base 1 "Frame" CF ["self","proc","numbers","rows","called_by"] (YZ K CF)) (F_first_untrue:Fn P w K mg base 6 "first_untrue" ["claims","frame"] (Y0 K CF)) (F_gone_on:Fn P w K mg base 10 "gone_on" ["course"] (jgU K CC CF)):FnOk P w K mg base CX0 (k+1) f fd ["program","f","numbers","rows","inputs","most"] (jdf K f'):=by
 have sc:FnScope ["program","f","numbers","rows","inputs","most","course","first","k","end"] ["program","f","numbers","rows","inputs","most"] (jf jcc):=fs
 refine F.okZ sc (fun vs H Q E h=>?_) (fun cdv A outer s H vs Q E hr h=>?_)
 ·obtain ⟨pg,nl,rl,il,prog,P,nums,held,inp,most,rfl,_⟩:=h
  rfl
 obtain ⟨pg,nl,rl,il,prog,Pp,nums,held,inp,most,rfl,hR,q1,q2⟩:=h
 have hu:=yL (hr.mono (show 1≤k by omega))
 obtain ⟨pvs,hpg,hpv⟩:=hR.pg
 obtain ⟨rvs,hrl,hrows⟩:=hR.rl
 refine ⟨_,(jc (jF (i:=6) sc.nd rfl ol (jau M_Course hr (jd (zpv 0) (jd (zpv 4) (jd (zpv 5) jk))) (h4:=by omega)))
   (jc (jF (i:=7) sc.nd rfl ol (jau M_Frame hr (jd (zI hu (jD (zpv 6) rfl) (zpv 1) (fun _ _=>rfl)) (jd (zpv 2) (jd (zpv 3) (jd kA jk)))) (h4:=by omega)))
   (jc (jF (i:=8) sc.nd rfl ol (jL F_first_untrue hr (jd (jX jS (jD (zpv 7) rfl) jh (fun _ _=>rfl)) (jd (zpv 7) jk)) (h4:=by omega)))
   (jc (kn (jW J5 (zpv 8) kA (jJ _)) (ju (jN (kQ (jd (kQ (jd ke (jd (zpv 8) jk))) (jd jh jk))))) jZ)
   (jc (yj (jav PySem.F.plainAttrs_list PySem.F.slot_list_append PySem.F.type_list_append kN (jD (zpv 6) rfl) (jd (zpv 7) jk)))
   (jc (jF (i:=9) sc.nd rfl ol kA)
   (jc (jb1 PassesOwn.never (jW jaQ (zpv 9) kA (jJ _)) (ju (jF (i:=9) sc.nd rfl ol (jL F_gone_on hr (jd (zpv 6) jk) (h4:=by omega)))))
   (ju (jN (kQ (jd (zpv 9) (jd (jD (zpv 6) rfl) jk)))))))))))),?_⟩
 refine zJ (σ':=[some (.ref pg),some (.str Pp.f),some (.ref nl),some (.ref rl),some (.ref il),some (.int most),none,none,none,none]) rfl ?_
 refine ⟨_,rfl,_,rfl,_,rfl,fun co dc hco hdc ndc=>?_⟩
 have s1:Same H (upd (upd H dc (.own co)) co (.ins CC dc [])):=fun b o z=>by rw [jg (jl z hco),jg (jl z hdc)];exact z
 have c1:upd (upd H dc (.own co)) co (.ins CC dc []) co=some (.ins CC dc []):=ja
 generalize upd (upd H dc (.own co)) co (.ins CC dc [])=H1 at *
 refine ⟨co,dc,pg,.ref il,most,prog,pvs,rfl,c1,s1 _ _ hpg,hpv.mono s1,hR.nd,hR.len,hR.ok,hR.f2,fun d1 d2 fl kv1 kv2 H2 k2 hd1 hd2 hfl c2 ed1 hkv1 ed2 hkv2 efl=>⟨rfl,?_⟩⟩
 have s2:Same H H2:=fun b o z=>k2 b o (jl z hco) (s1 _ _ z)
 refine gs ?_
 obtain ⟨pra,hval,hpra⟩:=hkv1 Pp hR.inP
 obtain ⟨pra',pt,rt,v4,v5,vb,epra,hpr,hpt,hrt,hv4,hv5,hvb⟩:=zR hpra
 have epra':pra=pra':=by cases epra;rfl
 subst epra'
 have hg:DGet H2 d1 (kV (Sum.inr Pp.f)) (some (.ref pra)):=by
  have h:=DGet.k (k:=Sum.inr Pp.f) ed1
  rw [hval] at h
  exact h
 refine ⟨_,rfl,co,CC,dc,_,_,rfl,c2,TC.c,TC.n1,rfl,_,rfl,d1,.ref pra,rfl,hg,_,rfl,_,rfl,fun fa dx hfa hdx ndx=>?_⟩
 have s3:Same H2 (upd (upd H2 dx (.own fa)) fa (.ins CF dx [])):=fun b o z=>by rw [jg (jl z hfa),jg (jl z hdx)];exact z
 have f3:upd (upd H2 dx (.own fa)) fa (.ins CF dx []) fa=some (.ins CF dx []):=ja
 generalize upd (upd H2 dx (.own fa)) fa (.ins CF dx [])=H3 at *
 have s03:=s2.trans s3
 refine ⟨fa,dx,pra,pt,rt,nl,rl,.non,.str "proc",.str Pp.f,v4,v5,vb,Pp.ps,Pp.rs,nums,held,rvs,0,rfl,f3,s3 _ _ hpr,s3 _ _ hpt,s3 _ _ hrt,s03 _ _ hR.nl,s03 _ _ hrl,hrows.tk (TKF.same s03),hR.w0,hR.ps,hR.nps,hR.lps,hR.rs,hR.nrs,(hR.ok _ hR.inP).rs,fun nm rw H4 k4 hnm hrw nnr hFD=>⟨rfl,?_⟩⟩
 have s4:Same H2 H4:=fun b o z=>k4 b o (jl z hfa) (s3 _ _ z)
 have s04:=s2.trans s4
 have hF4:FrD K CF H4 0 ⟨fa,dx,nm,rw,pra,.non⟩ (kU Pp nums held):=hFD _ rfl rfl rfl
 refine gs ?_
 refine ⟨_,rfl,fa,CF,dx,_,_,rfl,hF4.fa,T.c,T.n1,rfl,pra,_,_,_,rfl,rfl,SqT.of (s4 _ _ hpr),rfl,_,rfl,v4,Pp.needs,⟨fa,dx,nm,rw,pra,.non⟩,kU Pp nums held,0,rfl,hv4.mono s4,hF4,by decide,fun H5 s5=>?_⟩
 have s05:=s04.trans s5
 refine gs ?_
 cases hun:qz (kU Pp nums held).N (kU Pp nums held).L Pp.needs with
 | some k=>
  refine ⟨_,rfl,rfl,_,rfl,j9 (fun _=>?_) (fun d=>absurd (show (!decide (V.int (k:Int)=V.non))=true by simp) d)⟩
  refine ⟨_,rfl,sm rfl,fun t2 ht2=>⟨sm rfl,fun t ht=>?_⟩⟩
  have g1:=jj ht2 (.tup [V.str "unmet",V.int k])
  have g2:=jj ht (.tup [V.ref t2,V.int 0])
  exact q1 k hun t t2 _ (s05.trans (g1.trans g2)) (g2 _ _ ja) ja
 | none=>
  obtain ⟨e,u,⟨kk,hruns⟩,hest,hu390,q⟩:=q2 hun
  refine ⟨_,rfl,rfl,_,rfl,j9 (fun d=>absurd d (by show ¬ ((!decide (V.non=V.non))=true);simp)) (fun _=>?_)⟩
  have c5:=(s4.trans s5) _ _ c2
  have efl5:=(s4.trans s5) _ _ efl
  have hF5:=hF4.same s5
  refine ⟨_,rfl,co,CC,dc,_,_,rfl,c5,TC.c,TC.n7,rfl,.inl ⟨rfl,_,SqL.of efl5⟩,_,rfl,fl,_,_,rfl,rfl,efl5,jz (by decide),?_⟩
  have n1:co≠fl:=fun z=>by rw [z,efl] at c2;cases c2
  have n2:co≠fa:=fun z=>by rw [← z,c2] at hfa;cases hfa
  have frsh:∀ b o,H2 b=some o→b≠fa∧b≠nm∧b≠rw:=fun b o e=>⟨(fun z=>by rw [← z,e] at hfa;cases hfa),(fun z=>by have:=s3 _ _ e;rw [z,hnm] at this;cases this),fun z=>by have:=s3 _ _ e;rw [z,hrw] at this;cases this⟩
  have n3:=frsh _ _ c2
  have n4:=frsh _ _ efl
  have n5:fa≠nm:=fun z=>by rw [← z,f3] at hnm;cases hnm
  have n6:fa≠rw:=fun z=>by rw [← z,f3] at hrw;cases hrw
  have tk6:TKF H5 (upd H5 fl (.lst ([]++[.ref fa]))):=TKF.updL efl5
  have k6:∀ b o,b≠fl→H5 b=some o→upd H5 fl (.lst ([]++[.ref fa])) b=some o:=fun b o hb z=>by rw [jg hb];exact z
  have e6:upd H5 fl (.lst ([]++[.ref fa])) fl=some (.lst [.ref fa]):=ja
  have hF6:FrD K CF (upd H5 fl (.lst ([]++[.ref fa]))) 0 ⟨fa,dx,nm,rw,pra,.non⟩ (kU Pp nums held):=hF5.keep (Nat.le_refl _) tk6 fun b hb o e=>k6 b o (fun z=>by
   simp only [FA.own,List.mem_cons,List.mem_nil_iff,or_false] at hb
   rcases hb with y | y | y
   ·exact n4.1 (z.symm.trans y)
   ·exact n4.2.1 (z.symm.trans y)
   ·exact n4.2.2 (z.symm.trans y)) e
  have hfl0:H fl=none:=s1.free hfl
  have s06:Same H (upd H5 fl (.lst ([]++[.ref fa]))):=fun b o z=>k6 b o (jl z hfl0) (s05 _ _ z)
  have s26:∀ b o,b≠fl→H2 b=some o→upd H5 fl (.lst ([]++[.ref fa])) b=some o:=fun b o hb z=>k6 b o hb ((s4.trans s5) _ _ z)
  have c6:=k6 _ _ n1 c5
  generalize upd H5 fl (.lst ([]++[.ref fa]))=H6 at *
  have M0:∀ b,b∈[co,fl,fa,nm,rw]↔b=co∨b=fl∨b=fa∨b=nm∨b=rw:=fun b=>by simp
  have stat:∀ b o,b≠co→b≠fl→H2 b=some o→JX H6 [co,fl,fa,nm,rw] b=some o:=fun b o b1 b2 z=>jao (s26 b o b2 z) (fun hb=>by
   obtain ⟨g1,g2,g3⟩:=frsh b o z
   rcases (M0 b).mp hb with y | y | y | y | y
   ·exact b1 y
   ·exact b2 y
   ·exact g1 y
   ·exact g2 y
   ·exact g3 y)
  have statT:TK H2 (JX H6 [co,fl,fa,nm,rw]):=fun b xs z=>stat b _ (j4 z c2 (by intro y;cases y)) (j4 z efl (by intro y;cases y)) z
  have hSta:Sta (JX H6 [co,fl,fa,nm,rw]) ⟨co,dc,d1,d2,il,fl⟩ prog inp:=by
   refine ⟨⟨kv1,stat _ _ (j4 ed1 c2 (by intro y;cases y)) (j4 ed1 efl (by intro y;cases y)) ed1,fun P hP=>?_⟩,⟨kv2,stat _ _ (j4 ed2 c2 (by intro y;cases y)) (j4 ed2 efl (by intro y;cases y)) ed2,fun P hP=>?_⟩,?_,fun P hP=>(hR.ok P hP).sz,fun P hP=>(hR.ok P hP).wf,fun P hP=>(hR.ok P hP).rs⟩
   ·obtain ⟨pr',h1,h2⟩:=hkv1 P hP
    exact ⟨pr',h1,statT.held h2⟩
   ·obtain ⟨sl,ss,h1,h2,h3,h4⟩:=hkv2 P hP
    exact ⟨sl,ss,h1,stat _ _ (j4 h2 c2 (by intro y;cases y)) h3 h2,statT.heldL h4⟩
   ·have:=s2 _ _ hR.il
    exact stat _ _ (j4 this c2 (by intro y;cases y)) (fun z=>by have h:=hR.il;rw [show il=fl from z,hfl0] at h;cases h) this
  have hConf:Conf K CC CF (JX H6 [co,fl,fa,nm,rw]) ⟨co,dc,d1,d2,il,fl⟩ prog inp most [⟨fa,dx,nm,rw,pra,.non⟩] H6 ⟨[kU Pp nums held],0,0,0⟩:=by
   refine ⟨jfl,c6,e6,⟨⟨hF6,statT.held hpra,rfl⟩,trivial⟩,?_,fun b hb=>jgy (by simpa [FA.own] using hb),fun F hF=>?_,Nat.zero_le _,Nat.zero_le _,⟨?_,fun G hG=>by cases hG⟩,(show 1≤21 by decide),fun F hF=>?_,fun F hF=>?_⟩
   ·simp [FA.own,n1,n2,n3.2.1,n3.2.2,n4.1,n4.2.1,n4.2.2,n5,n6,nnr]
   ·rw [List.mem_singleton.mp hF];exact hR.inP
   ·show (Pp.ps.zip nums).length≤_
    rw [List.length_zip]
    exact Nat.le_trans (Nat.min_le_left _ _) (by have:=hR.lps;omega)
   ·rw [List.mem_singleton.mp hF];exact Nat.zero_le _
   ·rw [List.mem_singleton.mp hF]
    show (Pp.rs.zip held).length≤_
    rw [List.length_zip]
    exact Nat.le_trans (Nat.min_le_left _ _) (hR.ok _ hR.inP).rs
  have hHs:∀ G,Same (JX H6 [co,fl,fa,nm,rw]) G→Same H G:=fun G sG b o z=>sG b o (jao (s06 _ _ z) (fun hb=>by
   rcases (M0 b).mp hb with y | y | y | y | y
   ·rw [y,hco] at z;cases z
   ·rw [y,hfl0] at z;cases z
   ·rw [y,s2.free hfa] at z;cases z
   ·rw [y,s03.free hnm] at z;cases z
   ·rw [y,s03.free hrw] at z;cases z))
  generalize JX H6 [co,fl,fa,nm,rw]=Hs at *
  clear statT stat M0 s26 s06 hF6 e6 k6 tk6 hF5 efl5 c5 s05 hF4 s04 s4 s03 f3 s3 hg hkv1 hkv2
  refine ⟨fun m σ G=>∃ v9,σ=[some (.ref pg),some (.str Pp.f),some (.ref nl),some (.ref rl),some (.ref il),some (.int most),some (.ref co),some (.ref fa),some .non,some v9]∧((∃ k mc As,m=k+1∧v9=.non∧Conf K CC CF Hs ⟨co,dc,d1,d2,il,fl⟩ prog inp most As G mc∧Runs prog inp most k mc (e,u))∨(m=0∧Same Hs G∧EndAt K G e v9∧∃ tk,G co=some (.ins CC dc (qd d1 d2 (.ref il) tk most u fl)))),⟨kk+1,.non,rfl,.inl ⟨kk,_,_,rfl,rfl,hConf,hruns⟩⟩,?_⟩
  rintro m σ G ⟨v9,rfl,hG⟩
  rcases hG with ⟨k',mc,As,rfl,rfl,hCf,hRn⟩ | ⟨rfl,sG,hE,tk,hcoG⟩
  ·refine ⟨_,rfl,rfl,_,rfl,j9 (fun _=>?_) (fun d=>absurd (decide_eq_true rfl) d)⟩
   have hub:=Ys hRn hest
   have hub':mc.used≤u:=hub
   refine ⟨fun σ' G'=>∃ m',m' < k'+1∧∃ v9,σ'=[some (.ref pg),some (.str Pp.f),some (.ref nl),some (.ref rl),some (.ref il),some (.int most),some (.ref co),some (.ref fa),some .non,some v9]∧((∃ k mc As,m'=k+1∧v9=.non∧Conf K CC CF Hs ⟨co,dc,d1,d2,il,fl⟩ prog inp most As G' mc∧Runs prog inp most k mc (e,u))∨(m'=0∧Same Hs G'∧EndAt K G' e v9∧∃ tk,G' co=some (.ins CC dc (qd d1 d2 (.ref il) tk most u fl)))),fun σ' G' z=>z,?_⟩
   refine ⟨_,rfl,Hs,⟨co,dc,d1,d2,il,fl⟩,prog,inp,most,As,mc,rfl,hSta,hCf,by omega,?_⟩
   cases hRn with
   | stop h=>
    rw [h]
    cases e with
    | stuck=>exact absurd rfl hest
    | _=>
     intro v G' tk a b c
     refine gs ?_
     exact ⟨0,Nat.succ_pos _,v,rfl,.inr ⟨rfl,a,c,tk,b⟩⟩
   | @more k'' _ m'' _ h t=>
    rw [h]
    intro As' G' hC'
    refine gs ?_
    exact ⟨k''+1,Nat.lt_succ_self _,.non,rfl,.inl ⟨k'',m'',As',rfl,rfl,hC',t⟩⟩
  ·refine ⟨_,rfl,rfl,_,rfl,j9 (fun d=>absurd (of_decide_eq_true d) hE.not) (fun _=>?_)⟩
   refine ⟨_,rfl,_,rfl,co,CC,dc,_,_,rfl,hcoG,TC.c,TC.n6,rfl,sm rfl,fun t ht=>?_⟩
   have g:=jj ht (.tup [v9,.int u])
   exact q t v9 _ ((hHs G sG).trans g) (hE.mono g) ja
end
end LW
namespace L2
open PySem PySem.Spec PyProof.Rows PySem.W
open PySem PySem.Spec PyProof.Rows PySem.W
theorem getD_none {owner:Array (Option Nat)} {j:Nat} (h:owner.getD j (some 0)=none):owner[j]?=some none:=by
 by_cases hj:j < owner.size
 ·rw [Array.getElem?_eq_getElem hj]
  simp [Array.getD,hj] at h
  rw [h]
 ·simp [Array.getD,hj] at h
open PySem PySem.Spec PyProof.Rows PySem.W
open PySem PySem.Spec PyProof.Rows PySem.W
section
variable {prog:Program} {w:World} {K:Type} [DecidableEq K] {knd:KeyKind prog w K} {A:Around} {E:Value→Shared→Prop} {s:Shared}
def Msk (n mask:Nat):Prop:=(mask=7∧n≤4)∨(mask=31∧n≤18)∨(mask=127∧n≤76)
theorem Msk.le {n mask:Nat} (h:Msk n mask):n≤mask∧n+1≤mask∧mask≤127:=by unfold Msk at h;omega
end
open PySem PySem.Spec PyProof.Rows PySem.W
end L2
namespace PySem
end PySem
namespace L2
open PySem PySem.Spec PyProof.Rows PySem.W
end L2
namespace LW
open PySem L2
def jdl (K:W.Frag):Sp:=fun vs H Q _=>∃ (a:Addr) (ns:List Int) (k:Int),vs=[.ref a,.int k]∧SqL K H a (ns.map V.int)∧0≤k∧k≤1000∧∀ c:Int,Q (.int c) H
def jbs:Sp:=fun vs H Q _=>∃ (c:Int) (n:Nat),vs=[.int c,.int n]∧n≤14∧∀ (l:Addr) (ws:List Str) (H':Hp),WordsOk ws n→Same H H'→H l=none→H' l=some (.lst (ws.map V.str))→Q (.ref l) H'
theorem Ym {α:Type} (f:Nat→α) (i:Nat):(List.range (i+1)).map f=(List.range i).map f++[f i]:=by rw [List.range_succ,List.map_append];rfl
structure QA (X:Cx) (es:List Expr) (t:TA):Prop where
 h:PA X es t
theorem jf1 {X:Cx}:QA X [] jet:=⟨jp⟩
theorem qG {X:Cx} {es:List Expr} {t:TA} {z:Str} {j:Nat} {pos:Pos} (h:QA X es t):QA X (.Constant (.str z) j pos :: es) (jbq (tC (.str z)) t):=⟨jt kJ h.h⟩
theorem jf2 {X:Cx} {i:Nat} {x:Str} {p1 q pos:Pos} {es:List Expr} {t:TA} (hN:X.N.Nodup) (hi:X.N[i]?=some x) (hx:Loc X.env.scope x) (h:QA X es t) (hf:X.fn x=true∨X.env.scope.names.lookup x=some .local:=by first | exact .inl rfl | exact .inr rfl | assumption) :
  QS X (.Assign [.Name x p1] (.List es q) pos) (jaE (jfU t) (qg i)):=⟨jT hN hi hx (zr h.h) rfl hf⟩
def qI (q:jK):D:=.tup [.int q.1,.tup (q.2.1.map pD),.tup (q.2.2.map pD)]
theorem Kz {H:Hp} {q:jK} {v:V} (h:Held H (qI q) v):∃ a c e qs ws,v=.ref a∧H a=some (.tup [.int q.1,.ref c,.ref e])∧H c=some (.tup qs)∧HeldL H (q.2.1.map pD) qs∧H e=some (.tup ws)∧HeldL H (q.2.2.map pD) ws:=by
 obtain ⟨a,xs,rfl,ha,h1⟩:=jo h
 obtain ⟨v1,r1,rfl,e1,h2⟩:=jb h1
 obtain ⟨v2,r2,rfl,e2,h3⟩:=jb h2
 obtain ⟨v3,r3,rfl,e3,h4⟩:=jb h3
 cases js h4
 cases j3 e1
 obtain ⟨c,qs,rfl,hc,g1⟩:=jo e2
 obtain ⟨e,ws,rfl,he,g2⟩:=jo e3
 exact ⟨a,c,e,qs,ws,rfl,ha,hc,g1,he,g2⟩
def jdh:Sp:=fun vs H Q _=>∃ (s k:Int),vs=[.int s,.int k]∧∀ c:Int,Q (.int c) H
def jdi:Sp:=fun vs H Q _=>∃ (s n:Int),vs=[.int s,.int n]∧∀ (v:V) (b:Int) (ps:List (Int×Int)) (H':Hp),Same H H'→j7 ps→ps.length≤10→Held H' (qI (b,ps,[])) v→Q v H'
def ZK (K:W.Frag):Sp:=fun vs H Q _=>∃ (v:V) (p:Int) (q:jK),vs=[v,.int p]∧Held H (qI q) v∧Q (.int (ki q p)) H
theorem ZF (x y:Int) {i:Int} (h0:0≤i) (h1:i < 2):∃ v,atI [V.int x,V.int y] i=some (.int v):=by
 have:i=0∨i=1:=by omega
 rcases this with rfl | rfl
 ·exact ⟨_,rfl⟩
 ·exact ⟨_,rfl⟩
theorem ja6 {b:Int} {ps ws:List (Int×Int)} {p:Int} {i:Nat} (h:i < ws.length):ki (b,ps,ws.take (i+1)) p=if ws[i].1=p then ws[i].2 else ki (b,ps,ws.take i) p:=by
 rw [List.take_succ,List.getElem?_eq_getElem h]
 show ki (b,ps,ws.take i++[ws[i]]) p=_
 rw [show ws[i]=(ws[i].1,ws[i].2) from rfl,yV]
 by_cases c:p=ws[i].1
 ·rw [if_pos c,if_pos c.symm]
 ·rw [if_neg c,if_neg (fun z=>c z.symm)]
theorem JH {b:Int} {ps ws:List (Int×Int)} {p:Int} (h:∀ z∈ws,z.1≠p):ki (b,ps,ws) p=jI b ps p:=by
 refine zi (P:=fun ws=>(∀ z∈ws,z.1≠p)→ki (b,ps,ws) p=jI b ps p) (fun _=>rfl) (fun L x ih h=>?_) ws h
 rw [show x=(x.1,x.2) from rfl,yV,if_neg (fun z=>h x (by simp) z.symm)]
 exact ih fun z hz=>h z (List.mem_append_left _ hz)
theorem jcP {b:Int} {ps ws:List (Int×Int)} {ms:List Int} (h:j7 ps) (E:EndsOk ps ws ms) (p:Int):jI b (ms.map fun m=>(m,ki (b,ps,ws) m)) p=ki (b,ps,ws) p:=by
 have up:j7 (ms.map fun m=>(m,ki (b,ps,ws) m)):=by
  show List.Pairwise _ _
  rw [List.pairwise_map]
  exact E.up
 rcases KG b _ up p with ⟨a,e⟩ | ⟨z,hz,a1,a2,e⟩
 ·have no:∀ m∈ms,¬ m≤p:=fun m hm=>a (m,_) (List.mem_map.mpr ⟨m,hm,rfl⟩)
  rw [e,JH fun q hq z=>no p ((E.mem p).mpr (.inr ⟨q,hq,.inl z⟩)) (Int.le_refl _),ko fun q hq=>no q.1 ((E.mem q.1).mpr (.inl ⟨q,hq,rfl⟩))]
 ·obtain ⟨m,hm,rfl⟩:=List.mem_map.mp hz
  have most:∀ m'∈ms,m'≤p→m'≤m:=fun m' hm' hp=>a2 (m',_) (List.mem_map.mpr ⟨m',hm',rfl⟩) hp
  have hmp:m≤p:=a1
  rw [e]
  show ki (b,ps,ws) m=ki (b,ps,ws) p
  by_cases hpm:p=m
  ·rw [hpm]
  ·rw [JH (p:=p) fun q hq z=>by
    have:=most p ((E.mem p).mpr (.inr ⟨q,hq,.inl z⟩)) (Int.le_refl _)
    omega,JH (p:=m) fun q hq z=>by
    have:=most (m+1) ((E.mem (m+1)).mpr (.inr ⟨q,hq,.inr (by omega)⟩)) (by omega)
    omega]
   refine (held_like h hmp fun y hy c=>?_).symm
   have:=most y.1 ((E.mem y.1).mpr (.inl ⟨y,hy,rfl⟩)) c.2
   omega
def qM (ps pl:List (Int×Int)):List Int:=ps.map (·.1)++pl.flatMap fun q=>[q.1,q.1+1]
theorem KK (ps pl:List (Int×Int)):(qM ps pl).length=ps.length+2 * pl.length:=by
 unfold qM
 rw [List.length_append,List.length_map]
 congr 1
 induction pl with
 | nil=>rfl
 | cons q r ih=>rw [List.flatMap_cons,List.length_append,ih,List.length_cons];simp only [List.length_cons,List.length_nil];omega
theorem jcO {ps pl:List (Int×Int)} {i:Nat} (h:i < pl.length):qM ps (pl.take (i+1))=qM ps (pl.take i)++[pl[i].1,pl[i].1+1]:=by
 unfold qM
 rw [List.take_succ,List.getElem?_eq_getElem h,List.flatMap_append,List.append_assoc]
 simp
theorem jfi {ps pl:List (Int×Int)} {ms:List Int} (hp:ms.Perm (dedup (qM ps pl))) (hs:ms.Pairwise (·≤·)):EndsOk ps pl ms:=by
 obtain ⟨d1,d2,d3⟩:=KQ (qM ps pl)
 have nd:ms.Nodup:=hp.nodup_iff.mpr d1
 refine ⟨?_,fun m=>?_⟩
 ·have:=hs.and nd
  exact this.imp fun h=>by have h1:=h.1;have h2:_≠_:=h.2;omega
 ·rw [hp.mem_iff,d3]
  unfold qM
  rw [List.mem_append,List.mem_map,List.mem_flatMap]
  refine or_congr ⟨fun ⟨q,h1,h2⟩=>⟨q,h1,h2⟩,fun ⟨q,h1,h2⟩=>⟨q,h1,h2⟩⟩ ⟨fun ⟨q,h1,h2⟩=>⟨q,h1,?_⟩,fun ⟨q,h1,h2⟩=>⟨q,h1,?_⟩⟩
  ·rcases List.mem_cons.mp h2 with h | h
   ·exact .inl h.symm
   ·exact .inr (List.mem_singleton.mp h).symm
  ·rcases h2 with h | h
   ·rw [← h];exact List.mem_cons_self
   ·rw [← h];exact List.mem_cons_of_mem _ (List.mem_singleton.mpr rfl)
def Js (K:W.Frag):Sp:=fun vs H Q _=>∃ (v:V) (q:jK),vs=[v]∧Held H (qI q) v∧j7 q.2.1∧q.2.1.length≤10∧q.2.2.length≤20∧∀ u R H',Same H H'→Held H' (Km q.1 R) u→Canon q.1 R→R.length≤40+2 * q.2.2.length→(∀ z,jI q.1 R z=ki q z)→Q u H'
open PySem L2
abbrev jcd:Stmt:=top 42
abbrev zQ:Stmt:=top 41
abbrev zE:Stmt:=top 43
abbrev Yq:Stmt:=top 44
abbrev Jx:Stmt:=top 45
abbrev zn:Stmt:=top 46
section
variable {P:Program} {w:World} {K:W.Frag} {mg:Str→Option Value} {base:Heap}
theorem je3 {f:Addr} {fd:FuncData} (F:Fun K "_law_cell_at" "_law_cell_at" zQ f fd) (B:Free0 mg):FnOk P w K mg base CX0 1 f fd ["_law_script","_law_k"] (jdl K):=by
 have sc:FnScope ["_law_script","_law_k","_law_number"] ["_law_script","_law_k"] (jf zQ):=fs
 refine F.ok sc (fun vs H Q E h=>?_) (fun cdv A outer s H vs Q E hr h=>?_)
 ·obtain ⟨a,ns,k,rfl,_⟩:=h
  rfl
 obtain ⟨a,ns,k,rfl,hS,h0,h1,q⟩:=h
 have hl:(ns.map V.int).length=ns.length:=List.length_map _
 refine ⟨_,(jn (qX (kB jbz (pv 1) (Jh kf (by rfl) B.len_ zx (jt (pv 0) jp)) (jJ _)) (jB (kh (kF km (pv 0) (pv 1) (fun _ _=>rfl)))) qf)
   (jn (jT (i:=2) sc.nd rfl ol (jx j6 (jx kC jm (pv 1)) jm))
   (jn (qX (kB jbB (Jh kf (by rfl) B.len_ zx (jt (pv 0) jp)) jm (jJ _)) (jB (jT (i:=2) sc.nd rfl ol (jx j6 (jx kC (jx j5 (kF km (pv 0) (jx j5 (pv 1) (Jh kf (by rfl) B.len_ zx (jt (pv 0) jp))) (fun _ _=>rfl)) jm) jm) (jx kC (jx kC jm (pv 1)) (pv 1))))) qf)
   (jB (kh (jx j5 (pv 2) jm)))))),?_⟩
 refine ⟨_,rfl,_,rfl,a,_,rfl,.inl hS,_,_,rfl,rfl,_,rfl,j9 (fun c=>?_) (fun c=>?_)⟩
 ·have c':k < (ns.length:Int):=by
   have:=of_decide_eq_true c
   rw [hl] at this
   exact this
  exact ⟨_,rfl,_,rfl,a,_,_,_,rfl,rfl,hS,jeg h0 c',q _⟩
 ·refine ⟨_,rfl,_,_,rfl,rfl,.inl ⟨by decide,by decide⟩,_,_,rfl,rfl,?_⟩
  refine ⟨_,rfl,a,_,rfl,.inl hS,_,_,rfl,rfl,_,rfl,j9 (fun d=>?_) (fun d=>?_)⟩
  ·have d':0 < ns.length:=by
    have:=of_decide_eq_true d
    rw [hl] at this
    omega
   have hm0:0≤k % (ns.length:Int):=Int.emod_nonneg _ (by omega)
   have hm1:k % (ns.length:Int) < (ns.length:Int):=Int.emod_lt_of_pos _ (by omega)
   have hat:atI (ns.map V.int) (k % (((ns.map V.int).length:Nat):Int))=some (.int (ns.getD (k % (ns.length:Int)).toNat 0)):=by
    rw [hl]
    exact jeg hm0 hm1
   refine ⟨_,rfl,_,rfl,_,rfl,a,_,rfl,.inl hS,_,_,rfl,rfl,(by rw [hl];omega),a,_,_,_,rfl,rfl,hS,hat,_,_,rfl,rfl,(by show (0:Int) < _;decide),_,_,rfl,rfl,.inr ⟨by decide,by decide⟩,_,rfl,_,_,rfl,rfl,.inl ⟨by decide,by decide⟩,_,rfl,_,_,rfl,rfl,.inr ⟨by omega,by omega⟩,_,_,rfl,rfl,?_⟩
   exact ⟨_,rfl,_,_,rfl,rfl,(by show (0:Int) < _;decide),q _⟩
  ·exact ⟨_,rfl,_,_,rfl,rfl,(by show (0:Int) < _;decide),q _⟩
theorem jdD {f:Addr} {fd:FuncData} (F:Fun K "_law_words" "_law_words" zE f fd) (B:Free0 mg):FnOk P w K mg base CX0 1 f fd ["_law_cell","_law_many"] jbs:=by
 have sc:FnScope ["_law_cell","_law_many","_law_letters","_law_own","_law_size","_law_spot","_law_words_here","_law_k","_law_base"] ["_law_cell","_law_many"] (jf zE):=fs
 refine F.ok sc (fun vs H Q E h=>?_) (fun cdv A outer s H vs Q E hr h=>?_)
 ·obtain ⟨c,n,rfl,_⟩:=h
  rfl
 obtain ⟨c,n,rfl,hn,q⟩:=h
 refine ⟨_,(QSs.h (qW (qs (jT (i:=2) sc.nd rfl ol kJ))
   (qW (jf2 (i:=3) sc.nd rfl ol (qG (qG (qG (qG (qG (qG (qG (qG (qG (qG (qG (qG (qG (qG jf1)))))))))))))))
   (qW (qs (qX (kB kZ (jx j5 (pv 0) jm) jm (jJ _)) (jB (kh (J3 ["_law_k"] [0,3] rfl (kW (sc:=jf zE) (N:=["_law_cell","_law_many","_law_letters","_law_own","_law_size","_law_spot","_law_words_here","_law_k","_law_base"]) rfl rfl (by decide +kernel)) (ze (by rfl) B.range_ (jt (pv 1) jp)) (fun s H ex=>⟨(jO (i:=0) (show List.Nodup (["_law_k","_law_cell","_law_own"]:List Str) by decide +kernel) rfl ol),yC,(kF (jdW (K:=K)) (pv 2) (jx j5 (jx j6 (jx kz (pv 1) jm) (pv 0)) jm) (fun _ _=>rfl))⟩)))) qf))
   (qW (qs (jT (i:=4) sc.nd rfl ol (jx j5 (pv 0) jm)))
   (qW (qs (qX (kB kZ (pv 4) jm (jJ _)) (jB (kh (J3 ["_law_k"] [0,2] rfl (kW (sc:=jf zE) (N:=["_law_cell","_law_many","_law_letters","_law_own","_law_size","_law_spot","_law_words_here","_law_k","_law_base"]) rfl rfl (by decide +kernel)) (ze (by rfl) B.range_ (jt (pv 1) jp)) (fun s H ex=>⟨(jO (i:=0) (show List.Nodup (["_law_k","_law_cell","_law_letters"]:List Str) by decide +kernel) rfl ol),yC,(kF ja4 (pv 2) (jx j5 (jx j6 (jx kz (pv 1) jm) (pv 0)) jm) (fun _ _=>rfl))⟩)))) qf))
   (qW (qs (jT (i:=5) sc.nd rfl ol (jx j5 (jx kz (pv 0) jm) (pv 4))))
   (qW (qs (jT (i:=6) sc.nd rfl ol (zr jp)))
   (qW (qs (zZ PassesOwn.never rfl (ze (by rfl) B.range_ (jt (pv 1) jp)) (jO (i:=7) sc.nd rfl ol) (jn (yR (i:=8) sc.nd rfl ol ["_law_j"] [0,5,7] rfl (kW (sc:=jf zE) (N:=["_law_cell","_law_many","_law_letters","_law_own","_law_size","_law_spot","_law_words_here","_law_k","_law_base"]) rfl rfl (by decide +kernel)) (ze (by rfl) B.range_ (jt (pv 4) jp)) (fun s H ex=>⟨(jO (i:=0) (show List.Nodup (["_law_j","_law_cell","_law_spot","_law_k"]:List Str) by decide +kernel) rfl ol),yC,(jx j6 (jx j6 (jx kz (pv 1) jm) (jx kC (jx kC jm (pv 0)) (pv 0))) (jx kC (pv 3) (Jg zf (by rfl) B.int_ JJ (jt (J4 kZ (pv 0) (pv 2) (jJ _)) jp))))⟩))
   (jB (kS (yK PySem.F.plainAttrs_list PySem.F.slot_list_append PySem.F.type_list_append kN (pv 6) (jt (jx jaR (kF ja4 kJ (jx j5 (jx kz (pv 0) jm) jm) (fun _ _=>rfl)) (yK PySem.F.plainAttrs_str PySem.F.slot_str_join PySem.F.type_str_join je7 kJ (jt (J3 ["_law_each"] [2] rfl (kW (sc:=jf zE) (N:=["_law_cell","_law_many","_law_letters","_law_own","_law_size","_law_spot","_law_words_here","_law_k","_law_base"]) rfl rfl (by decide +kernel)) (J2 (pv 8)) (fun s H ex=>⟨(jO (i:=0) (show List.Nodup (["_law_each","_law_letters"]:List Str) by decide +kernel) rfl ol),yC,(kF ja4 (pv 1) (jx j5 (pv 0) jm) (fun _ _=>rfl))⟩)) jp))) jp)))))))
   (jeH (qs (kh (pv 6))))))))))))),?_⟩
 refine ⟨sm rfl,fun lo hlo=>?_⟩
 have s1:=jj hlo (.lst [V.str "row",V.str "is",V.str "at",V.str "set",V.str "put",V.str "know",V.str "lose",V.str "start",V.str "entry",V.str "own",V.str "nought",V.str "pick",V.str "least",V.str "lost"])
 have e1:upd H lo (.lst [V.str "row",V.str "is",V.str "at",V.str "set",V.str "put",V.str "know",V.str "lose",V.str "start",V.str "entry",V.str "own",V.str "nought",V.str "pick",V.str "least",V.str "lost"]) lo=some (.lst (Ku.map V.str)):=ja
 generalize upd H lo (.lst [V.str "row",V.str "is",V.str "at",V.str "set",V.str "put",V.str "know",V.str "lose",V.str "start",V.str "entry",V.str "own",V.str "nought",V.str "pick",V.str "least",V.str "lost"])=H1 at *
 have nonneg:∀ {x y:Int},0 < y→0≤x % y∧x % y < y:=fun h=>⟨Int.emod_nonneg _ (by omega),Int.emod_lt_of_pos _ h⟩
 have hlet:qK.length≤sizeLine:=by show 26≤sizeLine;rw [sizeLine_eq];decide
 have hqz:qzS.length≤sizeLine:=by show 2≤sizeLine;rw [sizeLine_eq];decide
 refine ⟨_,rfl,_,_,rfl,rfl,(by show (0:Int) < _;decide),rfl,_,rfl,j9 (fun d=>?_) (fun d=>?_)⟩
 ·refine ⟨_,rfl,(n:Int),rfl,by omega,by omega,fun p hp=>?_⟩
  have s2:=jj hp (.lst [])
  refine zw (fun i σ' G'=>∃ (u:Option V),σ'=[u,some (.int c),some (.ref lo)]∧Same H1 G'∧G' p=some (.lst (((List.range i).map (jdC c)).map V.str))) ?_ ?_ ?_
  ·exact ⟨none,rfl,s2,ja⟩
  ·rintro i σ' G' hi ⟨u,rfl,sG',hGp⟩
   unfold qg yl
   refine zy ?_
   have hb:=nonneg (x:=c / 7+(0+(i:Int))) (y:=14) (by decide)
   have hat:=jfo (xs:=Ku) (i:=(c / 7+(0+(i:Int))) % 14) hb.1 (by show _ < (14:Int);exact hb.2)
   refine ⟨_,rfl,_,rfl,_,_,rfl,rfl,⟨by decide,by decide⟩,_,rfl,_,_,rfl,rfl,_,_,rfl,rfl,(by show (0:Int) < _;decide),lo,_,_,_,rfl,rfl,SqL.of (sG' _ _ e1),hat,?_⟩
   have hi8:i < n:=by simpa using hi
   refine ⟨_,hGp,jz (by rw [List.length_map,List.length_map,List.length_range];omega),_,rfl,fun z o e=>?_,?_⟩
   ·rw [jg (jl e hp)];exact sG' _ _ e
   ·rw [ja,Ym,List.map_append];rfl
  ·rintro σ' G' ⟨u,rfl,sG',hGp⟩
   rw [show ((n:Int)).toNat=n from rfl] at hGp
   exact q p _ G' (jgd hn) (s1.trans sG') (s1.free hp) hGp
 refine ⟨_,rfl,_,_,rfl,rfl,(by show (0:Int) < _;decide),?_⟩
 have hsz:=nonneg (x:=c) (y:=8) (by decide)
 dsimp only
 generalize c % 8=size at *
 refine ⟨_,rfl,rfl,_,rfl,j9 (fun d2=>?_) (fun d2=>?_)⟩
 ·refine ⟨_,rfl,(n:Int),rfl,by omega,by omega,fun p hp=>?_⟩
  have s2:=jj hp (.lst [])
  refine zw (fun i σ' G'=>∃ (u:Option V),σ'=[u,some (.int c),some (.str qK)]∧Same H1 G'∧G' p=some (.lst (((List.range i).map (jgg c)).map V.str))) ?_ ?_ ?_
  ·exact ⟨none,rfl,s2,ja⟩
  ·rintro i σ' G' hi ⟨u,rfl,sG',hGp⟩
   unfold qg yl
   refine zy ?_
   have hb:=nonneg (x:=c / 8+(0+(i:Int))) (y:=26) (by decide)
   have hch:=Yx hb.1 hb.2
   refine ⟨_,rfl,_,rfl,_,_,rfl,rfl,⟨by decide,by decide⟩,_,rfl,_,_,rfl,rfl,_,_,rfl,rfl,(by show (0:Int) < _;decide),qK,_,_,rfl,rfl,hlet,hch,?_⟩
   have hi8:i < n:=by simpa using hi
   refine ⟨_,hGp,jz (by rw [List.length_map,List.length_map,List.length_range];omega),_,rfl,fun z o e=>?_,?_⟩
   ·rw [jg (jl e hp)];exact sG' _ _ e
   ·rw [ja,Ym,List.map_append];rfl
  ·rintro σ' G' ⟨u,rfl,sG',hGp⟩
   rw [show ((n:Int)).toNat=n from rfl] at hGp
   exact q p _ G' (jgf (by omega)) (s1.trans sG') (s1.free hp) hGp
 have d2':¬ size=0:=fun e=>d2 (decide_eq_true (congrArg V.int e))
 refine ⟨_,rfl,_,_,rfl,rfl,⟨by decide,by decide⟩,_,rfl,_,_,rfl,rfl,(by show (0:Int) < size;omega),?_⟩
 dsimp only
 have hsp:=nonneg (x:=c / 8) (y:=size) (by omega)
 generalize c / 8 % size=spot at *
 refine ⟨sm rfl,fun lw hlw=>?_⟩
 have s2:=jj hlw (.lst [])
 have e2:upd H1 lw (.lst []) lw=some (.lst []):=ja
 have hlw0:H lw=none:=s1.free hlw
 generalize upd H1 lw (.lst [])=H2 at *
 have s02:=s1.trans s2
 refine ⟨_,rfl,(n:Int),rfl,by omega,by omega,?_⟩
 refine yG (n:=n) (fun i σ G=>∃ (x7 x8:Option V),σ=[some (.int c),some (.int n),some (.str qK),some (.ref lo),some (.int size),some (.int spot),some (.ref lw),x7,x8]∧Same H G∧G lw=some (.lst (((List.range i).map (lgW c size spot)).map V.str))) ?_ ?_ ?_
 ·exact ⟨none,none,rfl,s02,e2⟩
 ·rintro i σ G hi ⟨x7,x8,rfl,sG,hGw⟩
  refine ⟨_,rfl,size,rfl,by omega,by omega,fun p hp=>?_⟩
  have s3:=jj hp (.lst [])
  have npw:lw≠p:=jl hGw hp
  refine zw (fun j σ' G'=>∃ (u:Option V),σ'=[u,some (.int c),some (.int spot),some (.int (0+(i:Int)))]∧Same G G'∧G' p=some (.lst (((List.range j).map (bsW c spot i)).map V.int))) ?_ ?_ ?_
  ·exact ⟨none,rfl,s3,ja⟩
  ·rintro j σ' G' hj ⟨u,rfl,sG',hGp⟩
   have hj8:j < size.toNat:=by simpa using hj
   unfold qg yl
   refine zy ?_
   refine ⟨_,rfl,_,_,rfl,rfl,⟨by decide,by decide⟩,_,rfl,_,_,rfl,rfl,.inl ⟨by decide,by decide⟩,_,rfl,_,_,rfl,rfl,.inr ⟨by omega,by omega⟩,_,_,rfl,rfl,_,rfl,_,rfl,_,rfl,rfl,.inr ⟨_,rfl,?_⟩⟩
   refine ⟨_,_,rfl,rfl,.inr ⟨by split <;> decide,by split <;> decide⟩,_,_,rfl,rfl,?_⟩
   refine ⟨_,hGp,jz (by rw [List.length_map,List.length_map,List.length_range];omega),_,rfl,fun z o e=>?_,?_⟩
   ·rw [jg (jl e hp)];exact sG' _ _ e
   ·rw [ja,Ym,List.map_append];rfl
  rintro σ' G1 ⟨u,rfl,sG1,hG1p⟩
  have hb:=nonneg (x:=c / 144) (y:=2) (by decide)
  have hqc:=jg4 hb.1 hb.2
  refine ⟨_,rfl,.inl ⟨rfl,_,SqL.of (sG1 _ _ hGw)⟩,?_⟩
  refine ⟨_,rfl,_,_,rfl,rfl,⟨by decide,by decide⟩,_,_,rfl,rfl,(by show (0:Int) < _;decide),qzS,_,_,rfl,rfl,hqz,hqc,?_⟩
  refine ⟨rfl,_,rfl,p,rfl,⟨_,SqL.of hG1p⟩,fun p2 hp2=>?_⟩
  have s4:=jj hp2 (.lst [])
  refine yJ (xs:=((List.range size.toNat).map (bsW c spot i)).map V.int) (fun j σ' G'=>∃ (u:Option V),σ'=[u,some (.str qK)]∧Same G1 G'∧G' p2=some (.lst ((((List.range j).map fun j=>yc (bsW c spot i j % 26)).map fun ch=>(⟨#[ch]⟩:Str)).map V.str))) ?_ ?_ ?_ ?_
  ·exact ⟨none,rfl,s4,ja⟩
  ·rintro j σ' G' _ ⟨u,rfl,sG',_⟩
   exact SqL.of (sG' _ _ hG1p)
  ·rintro j x σ' G' hx ⟨u,rfl,sG',hGp⟩
   have hj:j < size.toNat:=by
    have:=(List.getElem?_eq_some_iff.mp hx).1
    rw [List.length_map,List.length_map,List.length_range] at this
    exact this
   rw [List.getElem?_map,List.getElem?_map,List.getElem?_range hj] at hx
   cases hx
   unfold qg yl
   refine zy ?_
   have hb2:=nonneg (x:=bsW c spot i j) (y:=26) (by decide)
   have hch:=Yx hb2.1 hb2.2
   refine ⟨_,rfl,_,rfl,_,_,rfl,rfl,(by show (0:Int) < _;decide),qK,_,_,rfl,rfl,hlet,hch,?_⟩
   refine ⟨_,hGp,jz (by rw [List.length_map,List.length_map,List.length_map,List.length_range];omega),_,rfl,fun z o e=>?_,?_⟩
   ·rw [jg (jl e hp2)];exact sG' _ _ e
   ·rw [ja,Ym,List.map_append,List.map_append];rfl
  rintro σ' G2 ⟨u,rfl,sG2,hG2p⟩
  rw [List.length_map,List.length_map,List.length_range] at hG2p
  have hz1:∀ y∈((List.range size.toNat).map fun j=>yc (bsW c spot i j % 26)).map fun ch=>(⟨#[ch]⟩:Str),y.length=1:=fun y hy=>by
   obtain ⟨ch,_,rfl⟩:=List.mem_map.mp hy
   rfl
  have hsl:((((List.range size.toNat).map fun j=>yc (bsW c spot i j % 26)).map fun ch=>(⟨#[ch]⟩:Str)).map (·.length)).sum=size.toNat:=by
   rw [List.map_map]
   rw [show ((fun x:Str=>x.length) ∘ fun ch=>(⟨#[ch]⟩:Str))=fun _=>1 from rfl]
   generalize hL:(List.range size.toNat).map (fun j=>yc (bsW c spot i j % 26))=L
   have hl:L.length=size.toNat:=by rw [← hL];simp
   rw [← hl]
   clear hL hl hG2p
   induction L with
   | nil=>rfl
   | cons y r ih=>rw [List.map_cons,List.sum_cons,ih,List.length_cons];omega
  refine ⟨"",p2,_,rfl,rfl,SqL.of hG2p,(by rw [hsl];show size.toNat+_ * 0≤_;omega),?_⟩
  have hjl:(Txt.join "" (((List.range size.toNat).map fun j=>yc (bsW c spot i j % 26)).map fun ch=>(⟨#[ch]⟩:Str))).length≤7:=by
   show (Txt.join "" _).cps.size≤7
   rw [← Array.length_toList,Z7]
   simp
   omega
  refine ⟨_,_,rfl,rfl,?_,?_⟩
  ·have:∀ qc,(⟨#[qc]⟩:Str).length=1:=fun _=>rfl
   rw [this]
   exact Nat.le_trans (by omega:1+(Txt.join "" _).length≤1000) (yo (Nat.le_refl _))
  have hGw2:=sG2 _ _ (sG1 _ _ hGw)
  refine ⟨lw,_,_,rfl,rfl,hGw2,jz (by rw [List.length_map,List.length_map,List.length_range];omega),?_⟩
  refine ⟨some (.int (0+(i:Int))),some (.ref p),rfl,fun z o e=>?_,?_⟩
  ·rw [jg (jl e hlw0)];exact sG2 _ _ (sG1 _ _ (sG _ _ e))
  ·rw [ja,Ym,List.map_append];rfl
 ·rintro σ G ⟨x7,x8,rfl,sG,hGw⟩
  exact ⟨_,rfl,q lw _ G (jhf (by omega) hsp.1 hsp.2 (by omega)) sG hlw0 hGw⟩
theorem jgi {f:Addr} {fd:FuncData} (F:Fun K "_law_mix" "_law_mix" jcd f fd):FnOk P w K mg base CX0 1 f fd ["_law_seed","_law_k"] jdh:=by
 have sc:FnScope ["_law_seed","_law_k"] ["_law_seed","_law_k"] (jf jcd):=fs
 refine F.ok sc (fun vs H Q E h=>?_) (fun cdv A outer s H vs Q E hr h=>?_)
 ·obtain ⟨s,k,rfl,_⟩:=h
  rfl
 obtain ⟨s,k,rfl,q⟩:=h
 refine ⟨_,(jB (kh (jx j5 (jx j6 (jx j6 (jx kC (pv 0) jm) (jx kC (pv 1) jm)) jm) jm))),?_⟩
 exact ⟨_,rfl,_,_,rfl,rfl,.inr ⟨by decide,by decide⟩,_,rfl,_,_,rfl,rfl,.inr ⟨by decide,by decide⟩,_,_,rfl,rfl,_,_,rfl,rfl,_,_,rfl,rfl,(by show (0:Int) < _;decide),q _⟩
theorem je1 {f:Addr} {fd:FuncData} (F:Fun K "_law_made" "_law_made" Yq f fd) (B:Free0 mg) (F_mix:Fn P w K mg base 1 "_law_mix" ["_law_seed","_law_k"] jdh):FnOk P w K mg base CX0 2 f fd ["_law_seed","_law_near"] jdi:=by
 have sc:FnScope ["_law_seed","_law_near","_law_steps","_law_last","_law_base","_law_place","_law_k","_law_value"] ["_law_seed","_law_near"] (jf Yq):=fs
 refine F.ok sc (fun vs H Q E h=>?_) (fun cdv A outer s H vs Q E hr h=>?_)
 ·obtain ⟨s,n,rfl,_⟩:=h
  rfl
 obtain ⟨sd,nr,rfl,q⟩:=h
 refine ⟨_,(jn (jT (i:=2) sc.nd rfl ol (zr jp))
   (jn (jT (i:=3) sc.nd rfl ol (jx qt (jx j5 (jx kC (pv 1) jm) (jx zF jm jm)) (jx kC jm (jx zF jm jm))))
   (jn (jT (i:=4) sc.nd rfl ol (pv 3))
   (jn (jT (i:=5) sc.nd rfl ol (jx qt (kF km (zr (jt (pv 1) (jt (jx qt (pv 1) (jx zF jm jm)) jp))) (jx j5 (jx kz (pv 0) jm) jm) (fun _ _=>rfl)) (jx j5 (jx kz (pv 0) jm) jm)))
   (jn (zZ PassesOwn.never rfl (ze (by rfl) B.range_ (jt (jx j5 (pv 0) jm) jp)) (jO (i:=6) sc.nd rfl ol) (jn (jT (i:=0) sc.nd rfl ol (kO F_mix hr (jt (pv 0) (jt (pv 6) jp))))
   (jn (jT (i:=7) sc.nd rfl ol (kF km (zr (jt (jx j6 (jx j6 (pv 3) jm) (jx j5 (pv 0) jm)) (jt (jx qt (jx qt (pv 3) jm) (jx j5 (pv 0) jm)) jp))) (jx j5 (jx kz (pv 0) jm) jm) (fun _ _=>rfl)))
   (jn (kS (yK PySem.F.plainAttrs_list PySem.F.slot_list_append PySem.F.type_list_append kN (pv 2) (jt (ku (jt (pv 5) (jt (pv 7) jp))) jp)))
   (jn (jT (i:=3) sc.nd rfl ol (pv 7))
   (jB (jT (i:=5) sc.nd rfl ol (jx j6 (jx j6 (jx j6 (pv 5) jm) (jx j5 (jx kz (pv 0) jm) jm)) (jx kC (jx zF jm jm) (Jg zf (by rfl) B.int_ JJ (jt (J4 kZ (jx j5 (jx kz (pv 0) jm) jm) jm (jJ _)) jp)))))))))))
   (jB (kh (ku (jt (pv 4) (jt (Jg qy (by rfl) B.tuple_ zW (jt (pv 2) jp)) (jt (ku jp) jp))))))))))),?_⟩
 refine ⟨sm rfl,fun l hl=>?_⟩
 have s1:=jj hl (.lst [])
 have e1:upd H l (.lst []) l=some (.lst []):=ja
 generalize upd H l (.lst [])=H1 at *
 refine ⟨_,rfl,_,_,rfl,rfl,.inr ⟨by decide,by decide⟩,_,_,rfl,rfl,⟨by decide,by decide,by decide⟩,_,_,rfl,rfl,(by show (0:Int) < _;decide),_,_,rfl,rfl,⟨by decide,by decide,by decide⟩,_,_,rfl,rfl,.inl ⟨by decide,by decide⟩,_,_,rfl,rfl,?_⟩
 dsimp only
 generalize nr * 1000003 % 10 ^ Int.toNat 17 - 5 * 10 ^ Int.toNat 16=b0 at *
 refine ⟨_,rfl,?_⟩
 refine ⟨_,rfl,_,rfl,_,_,rfl,rfl,⟨by decide,by decide,by decide⟩,_,_,rfl,rfl,sm rfl,fun l2 hl2=>?_⟩
 dsimp only
 have s2:=jj hl2 (.lst [V.int nr,V.int (nr - 10 ^ Int.toNat 17)])
 have e2:upd H1 l2 (.lst [V.int nr,V.int (nr - 10 ^ Int.toNat 17)]) l2=some (.lst [V.int nr,V.int (nr - 10 ^ Int.toNat 17)]):=ja
 generalize upd H1 l2 (.lst [V.int nr,V.int (nr - 10 ^ Int.toNat 17)])=H2 at *
 obtain ⟨p0,hp0⟩:=ZF nr (nr - 10 ^ Int.toNat 17) (i:=sd / 3 % 2) (Int.emod_nonneg _ (by decide)) (Int.emod_lt_of_pos _ (by decide))
 refine ⟨_,rfl,_,_,rfl,rfl,⟨by decide,by decide⟩,_,_,rfl,rfl,(by show (0:Int) < _;decide),l2,_,_,_,rfl,rfl,SqL.of e2,hp0,_,rfl,_,_,rfl,rfl,⟨by decide,by decide⟩,_,_,rfl,rfl,(by show (0:Int) < _;decide),_,_,rfl,rfl,?_⟩
 dsimp only
 generalize p0 - sd / 6 % 4=pl0 at *
 refine ⟨_,rfl,_,_,rfl,rfl,(by show (0:Int) < _;decide),?_⟩
 obtain ⟨cnt,hcnt⟩:∃ cnt,cnt=sd % 4:=⟨_,rfl⟩
 have c0:0≤cnt:=by rw [hcnt];exact Int.emod_nonneg _ (by decide)
 have c1:cnt≤10:=by
  have:=Int.emod_lt_of_pos sd (b:=4) (by decide)
  omega
 have e1':H2 l=some (.lst []):=s2 _ _ e1
 have sH3:=s1.trans s2
 refine ⟨cnt,by rw [hcnt],by omega,by omega,?_⟩
 refine yG (n:=cnt.toNat) (fun i σ G=>∃ (u6 u7:Option V) (sd' last pl:Int) (ps:List (Int×Int)) (xs:List V),σ=[some (.int sd'),some (.int nr),some (.ref l),some (.int last),some (.int b0),some (.int pl),u6,u7]∧Same H G∧G l=some (.lst xs)∧HeldL G (ps.map pD) xs∧j7 ps∧(∀ z∈ps,z.1 < pl)∧ps.length=i) ?_ ?_ ?_
 ·exact ⟨none,none,sd,b0,pl0,[],[],rfl,sH3,e1',jy,List.Pairwise.nil,fun z hz=>(by cases hz),rfl⟩
 ·rintro i σ G hi ⟨u6,u7,sd',last,pl,ps,xs,rfl,sG,hGl,hxs,hup,hlt,hpl⟩
  refine ⟨_,rfl,_,rfl,sd',_,rfl,fun sd2=>?_⟩
  refine ⟨_,rfl,_,_,rfl,rfl,_,rfl,_,_,rfl,rfl,(by show (0:Int) < _;decide),_,_,rfl,rfl,_,rfl,_,_,rfl,rfl,_,rfl,_,_,rfl,rfl,(by show (0:Int) < _;decide),_,_,rfl,rfl,sm rfl,fun l4 hl4=>?_⟩
  have s4:=jj hl4 (.lst [V.int (last+1+sd2 % 3),V.int (last - 1 - sd2 % 3)])
  have e4:upd G l4 (.lst [V.int (last+1+sd2 % 3),V.int (last - 1 - sd2 % 3)]) l4=some (.lst [V.int (last+1+sd2 % 3),V.int (last - 1 - sd2 % 3)]):=ja
  obtain ⟨val,hval⟩:=ZF (last+1+sd2 % 3) (last - 1 - sd2 % 3) (i:=sd2 / 3 % 2) (Int.emod_nonneg _ (by decide)) (Int.emod_lt_of_pos _ (by decide))
  refine ⟨_,rfl,_,_,rfl,rfl,⟨by decide,by decide⟩,_,_,rfl,rfl,(by show (0:Int) < _;decide),l4,_,_,_,rfl,rfl,SqL.of e4,hval,?_⟩
  have hGl4:=s4 _ _ hGl
  have hxs4:=hxs.mono s4
  have sG4:=sG.trans s4
  refine ⟨_,rfl,.inl ⟨rfl,_,SqL.of hGl4⟩,_,rfl,_,rfl,sm rfl,fun t ht=>?_⟩
  have s5:=jj ht (.tup [V.int pl,V.int val])
  have e5:upd (upd G l4 (.lst [V.int (last+1+sd2 % 3),V.int (last - 1 - sd2 % 3)])) t (.tup [V.int pl,V.int val]) t=some (.tup [V.int pl,V.int val]):=ja
  have hGl5:=s5 _ _ hGl4
  have hxs5:=hxs4.mono s5
  have sG5:=sG4.trans s5
  have hxl:=hxs.length
  rw [List.length_map] at hxl
  refine ⟨l,_,_,rfl,rfl,hGl5,jz (by omega),?_⟩
  have e6:upd (upd (upd G l4 (.lst [V.int (last+1+sd2 % 3),V.int (last - 1 - sd2 % 3)])) t (.tup [V.int pl,V.int val])) l (.lst (xs++[.ref t])) l=some (.lst (xs++[.ref t])):=ja
  have tk:TK (upd (upd G l4 (.lst [V.int (last+1+sd2 % 3),V.int (last - 1 - sd2 % 3)])) t (.tup [V.int pl,V.int val])) (upd (upd (upd G l4 (.lst [V.int (last+1+sd2 % 3),V.int (last - 1 - sd2 % 3)])) t (.tup [V.int pl,V.int val])) l (.lst (xs++[.ref t]))):=TK.upd hGl5 (by intro xs z;cases z)
  have hx6:=ye (tk.heldL hxs5) (tk.held (jQ e5 (ji jM (ji jM jy))))
  have s6:Same H (upd (upd (upd G l4 (.lst [V.int (last+1+sd2 % 3),V.int (last - 1 - sd2 % 3)])) t (.tup [V.int pl,V.int val])) l (.lst (xs++[.ref t]))):=fun c o e=>by rw [jg (jl e hl)];exact sG5 _ _ e
  refine ⟨_,rfl,?_⟩
  have done:∀ (y:Int) (u7:Option V),0≤y→∃ (u6 u7':Option V) (sd'' last' pl':Int) (ps':List (Int×Int)) (xs':List V),[some (.int sd2),some (.int nr),some (.ref l),some (.int val),some (.int b0),some (.int (pl+1+sd2 / 6 % 3+10 ^ Int.toNat 17 * y)),u7,some (.int val)]=[some (.int sd''),some (.int nr),some (.ref l),some (.int last'),some (.int b0),some (.int pl'),u6,u7']∧Same H (upd (upd (upd G l4 (.lst [V.int (last+1+sd2 % 3),V.int (last - 1 - sd2 % 3)])) t (.tup [V.int pl,V.int val])) l (.lst (xs++[.ref t])))∧(upd (upd (upd G l4 (.lst [V.int (last+1+sd2 % 3),V.int (last - 1 - sd2 % 3)])) t (.tup [V.int pl,V.int val])) l (.lst (xs++[.ref t]))) l=some (.lst xs')∧HeldL (upd (upd (upd G l4 (.lst [V.int (last+1+sd2 % 3),V.int (last - 1 - sd2 % 3)])) t (.tup [V.int pl,V.int val])) l (.lst (xs++[.ref t]))) (ps'.map pD) xs'∧j7 ps'∧(∀ z∈ps',z.1 < pl')∧ps'.length=i+1:=by
   intro y u7 hy
   have m0:=Int.emod_nonneg (sd2 / 6) (b:=3) (by decide)
   have hb:pl < pl+1+sd2 / 6 % 3+10 ^ Int.toNat 17 * y:=by
    have:(10:Int) ^ Int.toNat 17=100000000000000000:=by decide
    rw [this]
    omega
   refine ⟨u7,some (.int val),sd2,val,_,ps++[(pl,val)],xs++[.ref t],rfl,s6,e6,by rw [List.map_append];exact hx6,List.pairwise_append.mpr ⟨hup,List.pairwise_singleton _ _,fun x hx y hy=>by rw [List.mem_singleton.mp hy];exact hlt x hx⟩,fun z hz=>?_,by rw [List.length_append,hpl];rfl⟩
   rcases List.mem_append.mp hz with hz | hz
   ·exact Int.lt_trans (hlt z hz) hb
   ·rw [List.mem_singleton.mp hz];exact hb
  refine ⟨_,rfl,_,_,rfl,rfl,_,rfl,_,_,rfl,rfl,⟨by decide,by decide⟩,_,_,rfl,rfl,(by show (0:Int) < _;decide),_,_,rfl,rfl,_,_,rfl,rfl,⟨by decide,by decide,by decide⟩,_,rfl,_,_,rfl,rfl,⟨by decide,by decide⟩,_,_,rfl,rfl,(by show (0:Int) < _;decide),rfl,.inr ⟨_,rfl,?_⟩⟩
  refine ⟨_,_,rfl,rfl,.inr ⟨by split <;> decide,by split <;> decide⟩,_,_,rfl,rfl,?_⟩
  exact done _ _ (by split <;> decide)
 ·rintro σ G ⟨u6,u7,sd',last,pl,ps,xs,rfl,sG,hGl,hxs,hup,hlt,hpl⟩
  refine ⟨_,rfl,_,rfl,l,_,rfl,.inl ⟨SqL.of hGl,fun t ht=>?_⟩⟩
  have s3:=jj ht (.tup xs)
  have e3:upd G t (.tup xs) t=some (.tup xs):=ja
  generalize upd G t (.tup xs)=G1 at *
  refine ⟨sm rfl,fun z hz=>?_⟩
  have s4:=jj hz (.tup [])
  have e4:upd G1 z (.tup []) z=some (.tup []):=ja
  generalize upd G1 z (.tup [])=G2 at *
  refine ⟨sm rfl,fun r hr'=>?_⟩
  have s5:=jj hr' (.tup [V.int b0,V.ref t,V.ref z])
  have s45:=s4.trans s5
  refine q _ b0 ps _ (sG.trans (s3.trans s45)) hup (by omega) (jQ ja (ji jM (ji (jQ (s45 _ _ e3) (hxs.mono (s3.trans s45))) (ji (jQ (s5 _ _ e4) jy) jy))))
theorem jcs {f:Addr} {fd:FuncData} (F:Fun K "_law_holds" "_law_holds" Jx f fd):FnOk P w K mg base CX0 1 f fd ["_law_row","_law_place"] (ZK K):=by
 have sc:FnScope ["_law_row","_law_place","_law_value","_law_at","_law_number"] ["_law_row","_law_place"] (jf Jx):=fs
 refine F.ok sc (fun vs H Q E h=>?_) (fun cdv A outer s H vs Q E hr h=>?_)
 ·obtain ⟨v,p,q,rfl,_⟩:=h
  rfl
 obtain ⟨v,p,⟨b,ps,ws⟩,rfl,hv,q⟩:=h
 obtain ⟨a,c,e,qs,us,rfl,ha,hc,hqs,he,hus⟩:=Kz hv
 dsimp only at ha hqs hus
 have hq:=zg (K:=K) hqs
 have hw:=zg (K:=K) hus
 refine ⟨_,(jn (jT (i:=2) sc.nd rfl ol (kF jS (pv 0) jm (fun _ _=>rfl)))
   (jn (zZ PassesOwn.never rfl (Kp (kF jS (pv 0) jm (fun _ _=>rfl))) (qS rfl (jR (jO (i:=3) sc.nd rfl ol) (jR (jO (i:=4) sc.nd rfl ol) qo))) (jB (qX (kB jbA (pv 3) (pv 1) (jJ _)) (jB (jT (i:=2) sc.nd rfl ol (pv 4))) qf)))
   (jn (zZ PassesOwn.never rfl (Kp (kF jS (pv 0) jm (fun _ _=>rfl))) (qS rfl (jR (jO (i:=3) sc.nd rfl ol) (jR (jO (i:=4) sc.nd rfl ol) qo))) (jB (qX (kB kZ (pv 3) (pv 1) (jJ _)) (jB (jT (i:=2) sc.nd rfl ol (pv 4))) qf)))
   (jB (kh (pv 2)))))),?_⟩
 refine ⟨_,rfl,a,_,_,_,rfl,rfl,SqT.of ha,rfl,?_⟩
 refine ⟨_,rfl,a,_,_,_,rfl,rfl,SqT.of ha,rfl,c,rfl,⟨_,SqT.of hc⟩,?_⟩
 refine Zm (xs:=qs) (fun i σ G=>∃ u v,σ=[some (.ref a),some (.int p),some (.int (jI b (ps.take i) p)),u,v]∧H=G) ?_ ?_ ?_ ?_
 ·exact ⟨none,none,rfl,rfl⟩
 ·rintro i σ G _ ⟨u,v,rfl,rfl⟩
  exact SqT.of hc
 ·rintro i x σ G hx ⟨u,v,rfl,rfl⟩
  have hi:i < ps.length:=by
   rw [← hq.1]
   exact (List.getElem?_eq_some_iff.mp hx).1
  obtain ⟨c',e1,e2⟩:=hq.2 i hi
  rw [hx] at e1
  cases e1
  have es:jI b (ps.take (i+1)) p=if ps[i].1≤p then ps[i].2 else jI b (ps.take i) p:=by
   rw [List.take_succ,List.getElem?_eq_getElem hi]
   exact yd _ _ _ _
  refine ⟨c',_,rfl,e2,rfl,_,_,rfl,_,_,rfl,rfl,?_⟩
  refine ⟨_,rfl,_,rfl,_,_,rfl,rfl,_,rfl,j9 (fun d=>?_) (fun d=>?_)⟩
  ·have d':=of_decide_eq_true d
   rw [if_pos d'] at es
   exact ⟨_,rfl,some (.int ps[i].1),some (.int ps[i].2),by rw [es];rfl,rfl⟩
  ·have d':¬ ps[i].1≤p:=fun z=>d (decide_eq_true z)
   rw [if_neg d'] at es
   exact ⟨some (.int ps[i].1),some (.int ps[i].2),by rw [es];rfl,rfl⟩
 rintro σ G ⟨u,v,rfl,rfl⟩
 rw [hq.1,List.take_length]
 refine ⟨_,rfl,a,_,_,_,rfl,rfl,SqT.of ha,rfl,e,rfl,⟨_,SqT.of he⟩,?_⟩
 refine Zm (xs:=us) (fun i σ G=>∃ u v,σ=[some (.ref a),some (.int p),some (.int (ki (b,ps,ws.take i) p)),u,v]∧H=G) ?_ ?_ ?_ ?_
 ·exact ⟨u,v,rfl,rfl⟩
 ·rintro i σ G _ ⟨u,v,rfl,rfl⟩
  exact SqT.of he
 ·rintro i x σ G hx ⟨u,v,rfl,rfl⟩
  have hi:i < ws.length:=by
   rw [← hw.1]
   exact (List.getElem?_eq_some_iff.mp hx).1
  obtain ⟨c',e1,e2⟩:=hw.2 i hi
  rw [hx] at e1
  cases e1
  have es:=ja6 (b:=b) (ps:=ps) (p:=p) hi
  refine ⟨c',_,rfl,e2,rfl,_,_,rfl,_,_,rfl,rfl,?_⟩
  refine ⟨_,rfl,_,rfl,rfl,_,rfl,j9 (fun d=>?_) (fun d=>?_)⟩
  ·have d':ws[i].1=p:=by
    have:=of_decide_eq_true d
    injection this
   rw [if_pos d'] at es
   exact ⟨_,rfl,some (.int ws[i].1),some (.int ws[i].2),by rw [es];rfl,rfl⟩
  ·have d':¬ ws[i].1=p:=fun z=>d (decide_eq_true (congrArg V.int z))
   rw [if_neg d'] at es
   exact ⟨some (.int ws[i].1),some (.int ws[i].2),by rw [es];rfl,rfl⟩
 ·rintro σ G ⟨u,v,rfl,rfl⟩
  rw [hw.1,List.take_length]
  exact ⟨_,rfl,q⟩
theorem jaU {f:Addr} {fd:FuncData} (F:Fun K "_law_stairs" "_law_stairs" zn f fd) (B:Free0 mg) (F_holds:Fn P w K mg base 1 "_law_holds" ["_law_row","_law_place"] (ZK K)):FnOk P w K mg base CX0 2 f fd ["_law_row"] (Js K):=by
 have sc:FnScope ["_law_row","_law_places","_law_at","_law_number","_law_last","_law_steps","_law_place","_law_value"] ["_law_row"] (jf zn):=fs
 refine F.ok sc (fun vs H Q E h=>?_) (fun cdv A outer s H vs Q E hr h=>?_)
 ·obtain ⟨v,q,rfl,_⟩:=h
  rfl
 obtain ⟨v,⟨b,ps,ws⟩,rfl,hv,hup,hl,hwl,q⟩:=h
 dsimp only at hup hl hwl q
 have hv0:=hv
 obtain ⟨a,c,e,qs,us,rfl,ha,hc,hqs,he,hus⟩:=Kz hv
 dsimp only at ha hqs hus
 have hq:=zg (K:=K) hqs
 have hw:=zg (K:=K) hus
 have hlen:=hq.1
 refine ⟨_,(jn (yR (i:=1) sc.nd rfl ol ["_law_at","_law_number"] [] rfl (kW (sc:=jf zn) (N:=["_law_row","_law_places","_law_at","_law_number","_law_last","_law_steps","_law_place","_law_value"]) rfl rfl (by decide +kernel)) (Kp (kF jS (pv 0) jm (fun _ _=>rfl))) (fun s H ex=>⟨(jeN (K:=K) (n:=2) rfl (jR (jO (i:=0) (show List.Nodup (["_law_at","_law_number"]:List Str) by decide +kernel) rfl ol) (jR (jO (i:=1) (show List.Nodup (["_law_at","_law_number"]:List Str) by decide +kernel) rfl ol) qo))),yC,(pv 0)⟩))
   (jn (zZ PassesOwn.never rfl (Kp (kF jS (pv 0) jm (fun _ _=>rfl))) (qS rfl (jR (jO (i:=2) sc.nd rfl ol) (jR (jO (i:=3) sc.nd rfl ol) qo))) (jB (kS (yK PySem.F.plainAttrs_list PySem.F.slot_list_extend PySem.F.type_list_extend jcy (pv 1) (jt (zr (jt (pv 2) (jt (jx j6 (pv 2) jm) jp))) jp)))))
   (jn (jT (i:=4) sc.nd rfl ol (kF jS (pv 0) jm (fun _ _=>rfl)))
   (jn (jT (i:=5) sc.nd rfl ol (zr jp))
   (jn (zZ PassesOwn.never rfl (J2 (Jh (JI (P:=P) (w:=w) rfl) (by rfl) B.sorted_ YK (jt (Jg (KU (P:=P) (w:=w) rfl) (by rfl) B.set_ jgz (jt (pv 1) jp)) jp))) (jO (i:=6) sc.nd rfl ol) (jn (jT (i:=7) sc.nd rfl ol (kO F_holds hr (jt (pv 0) (jt (pv 6) jp))))
   (jB (qX (kB jfF (pv 7) (pv 4) (jJ _)) (jn (kS (yK PySem.F.plainAttrs_list PySem.F.slot_list_append PySem.F.type_list_append kN (pv 5) (jt (ku (jt (pv 6) (jt (pv 7) jp))) jp)))
   (jB (jT (i:=4) sc.nd rfl ol (pv 7)))) qf))))
   (jB (kh (ku (jt (kF jS (pv 0) jm (fun _ _=>rfl)) (jt (Jg qy (by rfl) B.tuple_ zW (jt (pv 5) jp)) jp)))))))))),?_⟩
 refine ⟨_,rfl,a,_,_,_,rfl,rfl,SqT.of ha,rfl,c,rfl,⟨_,SqT.of hc⟩,fun p hp=>?_⟩
 have s2:=jj hp (.lst [])
 refine Jk (xs:=qs) (fun i σ' G'=>∃ u3 u4,σ'=[u3,u4]∧Same H G'∧G' p=some (.lst ((ps.take i).map fun q=>V.int q.1))) ⟨none,none,rfl,s2,ja⟩ ?_ ?_ ?_
 ·rintro i σ' G' _ ⟨u3,u4,rfl,sG',_⟩
  exact SqT.of (sG' _ _ hc)
 ·rintro i x σ' G' hx ⟨u3,u4,rfl,sG',hGp⟩
  have hi:i < ps.length:=by
   rw [← hlen]
   exact (List.getElem?_eq_some_iff.mp hx).1
  obtain ⟨c',f1,f2⟩:=hq.2 i hi
  rw [hx] at f1
  cases f1
  refine ⟨c',_,rfl,sG'.sqT f2,rfl,_,_,rfl,_,_,rfl,rfl,?_⟩
  unfold yl
  refine zy ?_
  refine ⟨_,rfl,_,hGp,?_,_,_,rfl,?_,?_⟩
  ·rw [List.length_map,List.length_take]
   exact jz (by omega)
  ·intro z o e
   rw [jg (jl e hp)]
   exact sG' _ _ e
  ·rw [ja,List.take_succ,List.getElem?_eq_getElem hi,List.map_append]
   rfl
 rintro σ' H1 ⟨u3,u4,rfl,s1,hGp⟩
 rw [hlen,List.take_length] at hGp
 have e1:H1 p=some (.lst ((qM ps (ws.take 0)).map V.int)):=by
  rw [hGp]
  unfold qM
  rw [List.take_zero,List.flatMap_nil,List.append_nil,List.map_map]
  rfl
 clear hGp s2
 refine ⟨_,rfl,a,_,_,_,rfl,rfl,SqT.of (s1 _ _ ha),rfl,e,rfl,⟨_,SqT.of (s1 _ _ he)⟩,?_⟩
 refine Zm (xs:=us) (fun i σ G=>∃ x2 x3,σ=[some (.ref a),some (.ref p),x2,x3,none,none,none,none]∧Same H G∧G p=some (.lst ((qM ps (ws.take i)).map V.int))) ?_ ?_ ?_ ?_
 ·exact ⟨none,none,rfl,s1,e1⟩
 ·rintro i σ G _ ⟨x2,x3,rfl,sG,_⟩
  exact SqT.of (sG _ _ he)
 ·rintro i x σ G hx ⟨x2,x3,rfl,sG,hGp⟩
  have hi:i < ws.length:=by
   rw [← hw.1]
   exact (List.getElem?_eq_some_iff.mp hx).1
  obtain ⟨c',f1,f2⟩:=hw.2 i hi
  rw [hx] at f1
  cases f1
  refine ⟨c',_,rfl,sG.sqT f2,rfl,_,_,rfl,_,_,rfl,rfl,?_⟩
  refine ⟨_,rfl,.inl ⟨rfl,_,SqL.of hGp⟩,_,rfl,_,rfl,_,_,rfl,rfl,sm rfl,fun l1 hl1=>?_⟩
  dsimp only
  have t1:=jj hl1 (.lst [V.int ws[i].1,V.int (ws[i].1+1)])
  have f1:upd G l1 (.lst [V.int ws[i].1,V.int (ws[i].1+1)]) l1=some (.lst [V.int ws[i].1,V.int (ws[i].1+1)]):=ja
  generalize upd G l1 (.lst [V.int ws[i].1,V.int (ws[i].1+1)])=G1 at *
  refine ⟨p,l1,_,_,rfl,rfl,t1 _ _ hGp,f1,yo (by rw [List.length_map,KK,List.length_take];simp only [List.length_cons,List.length_nil];omega),?_⟩
  refine ⟨_,_,rfl,fun z o e=>?_,?_⟩
  ·rw [jg (jl e hp)]
   exact t1 _ _ (sG _ _ e)
  ·rw [ja,jcO hi,List.map_append]
   rfl
 rintro σ H3 ⟨x2,x3,rfl,s3,e3⟩
 rw [hw.1,List.take_length] at e3
 refine ⟨_,rfl,a,_,_,_,rfl,rfl,SqT.of (s3 _ _ ha),rfl,?_⟩
 refine ⟨sm rfl,fun ls hls=>?_⟩
 have t4:=jj hls (.lst [])
 have e4:upd H3 ls (.lst []) ls=some (.lst []):=ja
 generalize upd H3 ls (.lst [])=H4 at *
 have s4:=s3.trans t4
 have hel0:(qM ps ws).length < 64:=by rw [KK];omega
 have hel:(qM ps ws).length≤1000:=by omega
 refine ⟨_,rfl,p,_,rfl,SqL.of (t4 _ _ e3),hel,fun v hvs=>?_⟩
 obtain ⟨d1,d2,d3⟩:=KQ (qM ps ws)
 refine ⟨v,_,rfl,ja,by omega,fun l5 ms hl5 hperm hsort=>?_⟩
 have t5:=(jj hvs (jca P w v (dedup (qM ps ws)))).trans (jj hl5 (.lst (ms.map V.int)))
 have e5:upd (upd H4 v (jca P w v (dedup (qM ps ws)))) l5 (.lst (ms.map V.int)) l5=some (.lst (ms.map V.int)):=ja
 have n5:l5≠ls:=(jl ((jj hvs (jca P w v (dedup (qM ps ws)))) _ _ e4) hl5).symm
 generalize upd (upd H4 v (jca P w v (dedup (qM ps ws)))) l5 (.lst (ms.map V.int))=H5 at *
 have s5:=s4.trans t5
 have e45:=t5 _ _ e4
 have E:=jfi hperm hsort
 have hml:ms.length≤ps.length+2 * ws.length:=by rw [hperm.length_eq];rw [KK] at d2;exact d2
 have hls0:H ls=none:=s3.free hls
 refine ⟨l5,rfl,⟨_,SqL.of e5⟩,?_⟩
 refine jac (xs:=ms.map V.int) (fun i σ G=>∃ x6 x7 xs,σ=[some (.ref a),some (.ref p),x2,x3,some (.int (stN b ((ms.take i).map fun x=>(x,ki (b,ps,ws) x))).1),some (.ref ls),x6,x7]∧Same H G∧G l5=some (.lst (ms.map V.int))∧G ls=some (.lst xs)∧HeldL G ((stN b ((ms.take i).map fun x=>(x,ki (b,ps,ws) x))).2.map pD) xs) ?_ ?_ ?_ ?_
 ·exact ⟨none,none,[],rfl,s5,e5,e45,jy⟩
 ·rintro i σ G _ ⟨x6,x7,xs,rfl,sG,hG5,hGs,hx⟩
  exact SqL.of hG5
 ·rintro i x σ G hx ⟨x6,x7,xs,rfl,sG,hG5,hGs,hxs⟩
  have hi:i < ms.length:=by
   have:=(List.getElem?_eq_some_iff.mp hx).1
   rw [List.length_map] at this
   exact this
  rw [List.getElem?_map,List.getElem?_eq_getElem hi] at hx
  cases hx
  have est:stN b ((ms.take (i+1)).map fun x=>(x,ki (b,ps,ws) x))=if ki (b,ps,ws) ms[i]=(stN b ((ms.take i).map fun x=>(x,ki (b,ps,ws) x))).1 then stN b ((ms.take i).map fun x=>(x,ki (b,ps,ws) x)) else (ki (b,ps,ws) ms[i],(stN b ((ms.take i).map fun x=>(x,ki (b,ps,ws) x))).2++[(ms[i],ki (b,ps,ws) ms[i])]):=by
   rw [List.take_succ,List.getElem?_eq_getElem hi,List.map_append]
   exact zh _ _ _
  have hsl:(stN b ((ms.take i).map fun x=>(x,ki (b,ps,ws) x))).2.length≤i:=by
   have:=J0 b ((ms.take i).map fun x=>(x,ki (b,ps,ws) x))
   rw [List.length_map,List.length_take] at this
   omega
  rw [est]
  generalize stN b ((ms.take i).map fun x=>(x,ki (b,ps,ws) x))=ST at *
  obtain ⟨ah,st⟩:=ST
  dsimp only at hsl hxs est
  unfold qg
  refine ⟨_,rfl,_,rfl,.ref a,ms[i],(b,ps,ws),rfl,hv0.mono sG,?_⟩
  generalize ki (b,ps,ws) ms[i]=hp' at *
  generalize ms[i]=mi at *
  refine ⟨_,rfl,_,rfl,rfl,_,rfl,?_⟩
  by_cases hva:hp'=ah
  ·rw [hva,decide_eq_true rfl]
   refine jcF ?_
   refine ⟨some (.int mi),some (.int ah),xs,?_,sG,hG5,hGs,?_⟩
   ·rw [if_pos rfl];rfl
   ·rw [if_pos rfl];exact hxs
  ·rw [decide_eq_false (fun z=>hva (by injection z))]
   refine zy ?_
   refine ⟨_,rfl,.inl ⟨rfl,_,SqL.of hGs⟩,_,rfl,_,rfl,sm rfl,fun t ht=>?_⟩
   have u3:=jj ht (.tup [V.int mi,V.int hp'])
   have g3:upd G t (.tup [V.int mi,V.int hp']) t=some (.tup [V.int mi,V.int hp']):=ja
   generalize upd G t (.tup [V.int mi,V.int hp'])=G1 at *
   have hxl:=hxs.length
   rw [List.length_map] at hxl
   refine ⟨ls,_,_,rfl,rfl,u3 _ _ hGs,jz (by omega),?_⟩
   have tk:TK G1 (upd G1 ls (.lst (xs++[.ref t]))):=TK.upd (u3 _ _ hGs) (by intro xs z;cases z)
   refine ⟨_,rfl,some (.int mi),some (.int hp'),xs++[.ref t],?_,?_,?_,ja,?_⟩
   ·rw [if_neg hva];rfl
   ·intro c o e
    rw [jg (jl e hls0)]
    exact u3 _ _ (sG _ _ e)
   ·rw [jg n5]
    exact u3 _ _ hG5
   ·rw [if_neg hva,List.map_append]
    exact ye (tk.heldL (hxs.mono u3)) (tk.held (jQ g3 (ji jM (ji jM jy))))
 ·rintro σ G ⟨x6,x7,xs,rfl,sG,hG5,hGs,hxs⟩
  rw [List.length_map,List.take_length] at hxs
  refine ⟨_,rfl,a,_,_,_,rfl,rfl,SqT.of (sG _ _ ha),rfl,_,rfl,ls,_,rfl,.inl ⟨SqL.of hGs,fun t ht=>?_⟩⟩
  have u3:=jj ht (.tup xs)
  have g3:upd G t (.tup xs) t=some (.tup xs):=ja
  generalize upd G t (.tup xs)=G1 at *
  refine ⟨sm rfl,fun r hr'=>?_⟩
  have u4:=jj hr' (.tup [V.int b,V.ref t])
  have up2:j7 (ms.map fun x=>(x,ki (b,ps,ws) x)):=by
   show List.Pairwise _ _
   rw [List.pairwise_map]
   exact E.up
  refine q _ _ _ (sG.trans (u3.trans u4)) (jQ ja (ji jM (ji (jQ (u4 _ _ g3) (hxs.mono (u3.trans u4))) jy))) (jar b up2) ?_ fun z=>?_
  ·have:=J0 b (ms.map fun x=>(x,ki (b,ps,ws) x))
   rw [List.length_map] at this
   omega
  ·rw [jbL b _ up2,jcP hup E]
end
open PySem L2
section
variable {prog:List Pr} {inp:List Int} {most:Int} {m m':Mc}
theorem Kx (h:(m.used:Int)≠most):kc prog inp most m=kc prog inp (-1) m:=by
 unfold kc
 split
 ·rfl
 ·split
  ·rfl
  ·rfl
  ·rw [if_neg h,if_neg (by omega)]
theorem Z2:kc prog inp (m.used:Int) m=.inl (.spent,m.used)∨(kc prog inp (m.used:Int) m=kc prog inp (-1) m∧(∀ m',kc prog inp (-1) m=.inr m'→m'.used=m.used)∧∀ e u,kc prog inp (-1) m=.inl (e,u)→e≠.stuck→u=m.used):=by
 unfold kc
 split
 ·exact .inr ⟨rfl,fun m' h=>(by cases h),fun e u h hs=>(by cases h;exact absurd rfl hs)⟩
 ·split
  ·refine .inr ⟨rfl,fun m' h=>?_,fun e u h hs=>?_⟩
   ·split at h
    ·cases h
    ·split at h
     ·split at h
      ·cases h
      ·split at h
       ·cases h
       ·split at h
        ·cases h;rfl
        ·cases h
     ·cases h
   ·split at h
    ·cases h;rfl
    ·split at h
     ·split at h
      ·cases h;rfl
      ·split at h
       ·cases h;exact absurd rfl hs
       ·split at h
        ·cases h
        ·cases h;exact absurd rfl hs
     ·cases h;exact absurd rfl hs
  ·exact .inr ⟨rfl,fun m' h=>(by cases h;rfl),fun e u h=>(by cases h)⟩
  ·left
   rw [if_pos rfl]
theorem jcz {e:En} {u:Nat} (h:kc prog inp (-1) m=.inl (e,u)) (hs:e≠.stuck):u≤m.used+1:=by
 unfold kc at h
 split at h
 ·cases h;exact absurd rfl hs
 ·split at h
  ·split at h
   ·cases h;omega
   ·split at h
    ·split at h
     ·cases h;omega
     ·split at h
      ·cases h;omega
      ·split at h
       ·cases h
       ·cases h;omega
    ·cases h;omega
  ·cases h
  ·rw [if_neg (by omega)] at h
   split at h
   ·split at h
    ·cases h;omega
    ·cases h
   ·rcases zv h with g | g
    ·exact absurd g hs
    ·omega
   ·cases h
theorem Ky {e:En} {u:Nat} (h:kc prog inp (-1) m=.inl (e,u)) (hs:e≠.stuck) (hu:u=m.used):kc prog inp (m.used:Int) m=.inl (e,u):=by
 rw [← h]
 unfold kc at h ⊢
 split at h
 ·rfl
 ·split at h
  ·rfl
  ·cases h
  ·rw [if_neg (by omega)] at h
   exfalso
   split at h
   ·split at h
    ·cases h;omega
    ·cases h
   ·rcases zv h with g | g
    ·exact hs g
    ·omega
   ·cases h
theorem JU {m':Mc} (h:kc prog inp (-1) m=.inr m') (hu:m'.used=m.used):kc prog inp (m.used:Int) m=kc prog inp (-1) m:=by
 unfold kc at h ⊢
 split at h
 ·rfl
 ·split at h
  ·rfl
  ·rfl
  ·rw [if_neg (by omega)] at h
   exfalso
   split at h
   ·split at h
    ·cases h
    ·cases h;simp at hu
   ·have:=KL h;omega
   ·cases h;simp at hu
theorem jaI {most:Nat} {k:Nat} {m:Mc} {r:En×Nat} (h:Runs prog inp (-1) k m r):r.1≠.stuck→m.used≤most→(r.2≤most→RunsTo prog inp most m r)∧(most < r.2→RunsTo prog inp most m (.spent,most)):=by
 induction h with
 | @stop m r h=>
  intro hs hm
  obtain ⟨e,u⟩:=r
  rcases Nat.lt_or_ge m.used most with g | g
  ·have hf:=Kx (prog:=prog) (inp:=inp) (m:=m) (most:=most) (by omega)
   refine ⟨fun _=>.stop (by rw [hf];exact h),fun hu=>?_⟩
   exfalso
   have:u≤m.used+1:=jcz h hs
   have:most < u:=hu
   omega
  ·have e1:most=m.used:=by omega
   subst e1
   rcases Z2 (prog:=prog) (inp:=inp) (m:=m) with g' | ⟨g1,g2,g3⟩
   ·refine ⟨fun hu=>?_,fun _=>.stop g'⟩
    have hu':u≤m.used:=hu
    have hge:=yt h hs
    exact .stop (Ky h hs (by omega))
   ·refine ⟨fun _=>.stop (by rw [g1];exact h),fun hu=>?_⟩
    have:m.used < u:=hu
    have:=g3 e u h hs
    omega
 | @more k m m' r h t ih=>
  intro hs hm
  have hge:=Ys t hs
  rcases Nat.lt_or_ge m.used most with g | g
  ·have hf:=Kx (prog:=prog) (inp:=inp) (m:=m) (most:=most) (by omega)
   have hm':m'.used≤most:=by rcases yU h with g' | g' <;> omega
   obtain ⟨i1,i2⟩:=ih hs hm'
   exact ⟨fun hu=>.more (by rw [hf];exact h) (i1 hu),fun hu=>.more (by rw [hf];exact h) (i2 hu)⟩
  ·have e1:most=m.used:=by omega
   subst e1
   rcases Z2 (prog:=prog) (inp:=inp) (m:=m) with g' | ⟨g1,g2,g3⟩
   ·refine ⟨fun hu=>?_,fun _=>.stop g'⟩
    rcases yU h with g2 | g2
    ·exact absurd g' (by rw [JU h g2,h];intro z;cases z)
    ·omega
   ·have hm':=g2 m' h
    obtain ⟨i1,i2⟩:=ih hs (by omega)
    exact ⟨fun hu=>.more (by rw [g1];exact h) (i1 hu),fun hu=>.more (by rw [g1];exact h) (i2 hu)⟩
end
open PySem L2
theorem jbP (d:Dx):∃ k r,d.toD=.tup (.str k :: r)∧k≠"if"∧k≠"while":=by
 cases d with
 | set x t c=>exact ⟨_,_,rfl,by decide,by decide⟩
 | put r x d t c=>exact ⟨_,_,rfl,by decide,by decide⟩
 | any x=>exact ⟨_,_,rfl,by decide,by decide⟩
 | claim C=>exact ⟨_,_,rfl,by decide,by decide⟩
 | call x f as rows=>exact ⟨_,_,rfl,by decide,by decide⟩
theorem KB {f n k:Nat} {d:Dx} {r:List D} {ar:List Int}:kD (kT (f+1)) n (d.toD :: r) ar k=Sx.toD (.do_ d (ar++[(k:Int)])) :: kD (kT (f+1)) (n+1) r ar (k+1):=by
 obtain ⟨kd,rr,e,h1,h2⟩:=jbP d
 have:kT (f+1) n d.toD (ar++[(k:Int)])=[Sx.toD (.do_ d (ar++[(k:Int)]))]:=by
  unfold Sx.toD
  dsimp only
  rw [e]
  exact jbH h1 h2
 rw [kD,this]
 rfl
theorem jd7 {f:Nat} (d:Dx):Jo (f+1) d.toD:=.inl (jbP d)
theorem Zd {S:Nat→D→List Int→List D} {n k:Nat} {ar:List Int}:kD S n [] ar k=[]:=by unfold kD;rfl
theorem jdS {S:Nat→D→List Int→List D} {n:Nat} {le:D} {b o:List D} {p:List Int} {B O:List D} (h:kD S (n+1) b (p++[0]) 0=B) (h':kD S (n+1+B.length+1) o (p++[1]) 0=O):Yy S n le b o p=Zx le (.tup []) "" p (n+1) (n+1+B.length+1) :: B++.tup [.str "go",.int ((n+1+B.length+1+O.length:Nat):Int)] :: O:=by subst h;subst h';rfl
structure W7 where
 f:Str
 g:Str
 n:Str
 m:Str
 r:Str
 s:Str
 x:Str
structure W7.Ok (W:W7):Prop where
 fg:W.f≠W.g
 nm:W.n≠W.m
 nx:W.n≠W.x
 mx:W.m≠W.x
 rs:W.r≠W.s
 n0:W.n≠""
 m0:W.m≠""
 x0:W.x≠""
 no:W.n≠"out"
 mo:W.m≠"out"
 xo:W.x≠"out"
def hd7 (W:W7) (about:Bool):List Str:=if about then [W.s,W.r] else [W.r,W.s]
section
variable (W:W7) (about:Bool) (more base:Int) (needs:List Cl)
def d1:Dx:=.set W.m (.is W.n) (-1)
def d2 (cf:Str):Dx:=.call W.x cf [W.m] (hd7 W about)
def d3:Dx:=.put W.r W.n 0 (.is W.x) more
def d4:Dx:=.set "out" (.is W.x) more
def d5:Dx:=.set "out" (.is "") base
def le7:Cl:=.least (.is W.n) (.is "") 1
def sx7 (cf:Str):List Sx:=[.ask (le7 W) [] "" [0] 1 6,.do_ (d1 W) [0,0,0],.do_ (d2 W about cf) [0,0,1],.do_ (d3 W more) [0,0,2],.do_ (d4 W more) [0,0,3],.go 7,.do_ (d5 base) [0,1,0]]
def bd7 (cf:Str):List D:=[.tup [.str "if",(le7 W).toD,.tup [(d1 W).toD,(d2 W about cf).toD,(d3 W more).toD,(d4 W more).toD],.tup [(d5 base).toD]]]
def pr7 (name cf:Str):Pr:=⟨name,[W.n],[W.r,W.s],needs,[],bd7 W about more base cf,sx7 W about more base cf⟩
def qY (twin:Bool):List Pr:=if twin then [pr7 W about more base needs W.g W.f,pr7 W about more base needs W.f W.g] else [pr7 W about more base needs W.f W.f]
theorem jaL (name cf:Str):PrOk 2 (pr7 W about more base needs name cf):=by
 refine ⟨fun st hs=>?_,?_,by show 7≤900;decide,?_,by show 2≤100;decide⟩
 ·rw [List.mem_singleton.mp hs]
  refine .inr (.inl ⟨_,_,_,rfl,fun s hs=>?_,fun s hs=>?_⟩)
  ·simp only [List.mem_cons,List.mem_nil_iff,or_false] at hs
   rcases hs with rfl | rfl | rfl | rfl <;> exact jd7 _
  ·rw [List.mem_singleton.mp hs];exact jd7 _
 ·show kD (kT 2) 0 (bd7 W about more base cf) [] 0=_
  unfold bd7
  rw [kD,jbG,jdS (by rw [KB,KB,KB,KB,Zd]) (by rw [KB,Zd]),Zd]
  rfl
 ·intro i s hs
  match i,hs with
  | 0,hs=>cases hs;exact ⟨by show 1≤7;decide,by show 6≤7;decide⟩
  | 1,hs=>cases hs;trivial
  | 2,hs=>cases hs;trivial
  | 3,hs=>cases hs;trivial
  | 4,hs=>cases hs;trivial
  | 5,hs=>cases hs;exact Nat.le_refl 7
  | 6,hs=>cases hs;trivial
  | (i+7),hs=>cases hs
end
def JZ (q:jK) (p v:Int):jK:=(q.1,q.2.1,q.2.2++[(p,v)])
def wr7 (about:Bool) (more base:Int):Nat→jK→jK→jK×jK
 | 0,q1,q2=>(q1,q2)
 | a+1,q1,q2=>
  let p:=if about=true then ((wr7 about more base a q2 q1).2,(wr7 about more base a q2 q1).1) else wr7 about more base a q1 q2
  (JZ p.1 ((a+1:Nat):Int) (base+((a+1:Nat):Int) * more),p.2)
section
variable {W:W7} {about:Bool} {more base:Int} {needs:List Cl} {prog:List Pr} {inp:List Int} {name cf:Str} {cb:Option Cb} {q1 q2:jK} {jv:List Fm} {u tk w:Nat}
abbrev fm (W:W7) (about:Bool) (more base:Int) (needs:List Cl) (name cf:Str) (cb:Option Cb) (N:List (Str×Int)) (q1 q2:jK) (i:Nat):Fm:=⟨pr7 W about more base needs name cf,cb,N,[(W.r,q1),(W.s,q2)],i⟩
theorem YV (N:List (Str×Int)) (L:List (Str×jK)):qz N L []=none:=rfl
theorem jcB (ok:W.Ok):lkA [(W.r,q1),(W.s,q2)] W.r=some q1:=by simp [lkA]
theorem je9 (ok:W.Ok):lkA [(W.r,q1),(W.s,q2)] W.s=some q2:=by simp [lkA,ok.rs]
theorem jd4 (ok:W.Ok):qp [(W.r,q1),(W.s,q2)] (hd7 W about)=true:=by
 unfold qp hd7
 cases about <;> simp [jcB ok,je9 ok]
theorem jd3 (ok:W.Ok):qp [(W.r,q1),(W.s,q2)] [W.r,W.s]=true:=by
 unfold qp
 simp [jcB ok,je9 ok]
theorem jfe (ok:W.Ok):kl [(W.r,q1),(W.s,q2)] (hd7 W about)=if about=true then [q2,q1] else [q1,q2]:=by
 unfold kl hd7 qh
 cases about <;> simp [jcB ok,je9 ok]
theorem jbM (ok:W.Ok):kl [(W.r,q1),(W.s,q2)] [W.r,W.s]=[q1,q2]:=by
 unfold kl qh
 simp [jcB ok,je9 ok]
theorem jfR (ok:W.Ok) {p1 p2:jK}:K6 [(W.r,q1),(W.s,q2)] ((hd7 W about).zip [p1,p2])=if about=true then [(W.r,p2),(W.s,p1)] else [(W.r,p1),(W.s,p2)]:=by
 unfold K6 hd7
 cases about <;> simp [kE,ok.rs,Ne.symm ok.rs]
theorem yq (ok:W.Ok):(hd7 W about).Nodup∧(hd7 W about).length=2:=by
 unfold hd7
 cases about
 ·exact ⟨by simp [ok.rs],rfl⟩
 ·exact ⟨by simp [Ne.symm ok.rs],rfl⟩
theorem jbD (ok:W.Ok) {a:Int} {t:List (Str×Int)}:kH ((W.n,a) :: t) W.n=a:=by unfold kH lkA;rw [if_neg ok.n0];simp
theorem jbE {N:List (Str×Int)}:kH N "" = 0:=by unfold kH;rw [if_pos rfl]
theorem jhq (ok:W.Ok) {a:Int}:Jb [(W.n,a)] [(W.r,q1),(W.s,q2)] (le7 W)=decide (1≤a):=by
 symm
 apply Ja
 rw [decide_eq_true_iff]
 show _↔kH [(W.n,a)] "" + 1≤kH [(W.n,a)] W.n
 rw [jbD ok,jbE]
 omega
theorem Zl (ok:W.Ok) {a:Nat} {r:En×Nat} (h:RunsTo prog inp (-1) ⟨fm W about more base needs name cf cb [(W.n,((a+1:Nat):Int)),(W.m,(a:Int))] q1 q2 2 :: jv,u+2,tk,w⟩ r) :
  RunsTo prog inp (-1) ⟨fm W about more base needs name cf cb [(W.n,((a+1:Nat):Int))] q1 q2 0 :: jv,u,tk,w⟩ r:=by
 refine .more (m':=⟨fm W about more base needs name cf cb [(W.n,((a+1:Nat):Int))] q1 q2 1 :: jv,u+1,tk,w⟩) ?_ (.more (m':=⟨fm W about more base needs name cf cb [(W.n,((a+1:Nat):Int)),(W.m,(a:Int))] q1 q2 2 :: jv,u+2,tk,w⟩) ?_ h)
 ·rw [JB (F:=fm W about more base needs name cf cb [(W.n,((a+1:Nat):Int))] q1 q2 0) (jv:=jv) rfl (show (sx7 W about more base cf)[0]?=_ from rfl),if_neg (by show ¬ ((u:Int)=-1);omega)]
  rw [YV]
  show Sum.inr (Mc.mk (fm W about more base needs name cf cb [(W.n,((a+1:Nat):Int))] q1 q2 (if Jb [(W.n,((a+1:Nat):Int))] [(W.r,q1),(W.s,q2)] (le7 W)=true then 1 else 6) :: jv) (u+1) tk w)=_
  rw [jhq ok,if_pos (decide_eq_true (by omega))]
 ·rw [zU (F:=fm W about more base needs name cf cb [(W.n,((a+1:Nat):Int))] q1 q2 1) (jv:=jv) rfl (show (sx7 W about more base cf)[1]?=_ from rfl),if_neg (by show ¬ (((u+1:Nat):Int)=-1);omega)]
  have e:kE [(W.n,((a+1:Nat):Int))] W.m (kH [(W.n,((a+1:Nat):Int))] W.n+-1)=[(W.n,((a+1:Nat):Int)),(W.m,(a:Int))]:=by
   rw [jbD ok,show ((a+1:Nat):Int)+-1=(a:Int) by omega]
   unfold kE
   rw [if_neg (by simp [ok.nm])]
   rfl
  show Sum.inr (Mc.mk (fm W about more base needs name cf cb (kE [(W.n,((a+1:Nat):Int))] W.m (kH [(W.n,((a+1:Nat):Int))] W.n+-1)) q1 q2 2 :: jv) (u+1+1) tk w)=_
  rw [e]
theorem jho (ok:W.Ok) {a:Nat}:zG (pr7 W about more base needs cf name) ⟨W.x,cf,[W.m],hd7 W about⟩ (fm W about more base needs name cf cb [(W.n,((a+1:Nat):Int)),(W.m,(a:Int))] q1 q2 2)=fm W about more base needs cf name (some ⟨W.x,cf,[W.m],hd7 W about⟩) [(W.n,(a:Int))] (if about=true then q2 else q1) (if about=true then q1 else q2) 0:=by
 unfold zG
 dsimp only
 rw [jfe ok]
 have e1:kH [(W.n,((a+1:Nat):Int)),(W.m,(a:Int))] W.m=a:=by
  unfold kH lkA
  rw [if_neg ok.m0]
  simp [ok.nm]
 cases about
 ·simp only [Bool.false_eq_true,if_false]
  show (⟨_,_,[(W.n,kH _ W.m)],[(W.r,q1),(W.s,q2)],0⟩:Fm)=_
  rw [e1]
 ·simp only [if_true]
  show (⟨_,_,[(W.n,kH _ W.m)],[(W.r,q2),(W.s,q1)],0⟩:Fm)=_
  rw [e1]
theorem jee (ok:W.Ok) {N:List (Str×Int)}:CallOk (pr7 W about more base needs cf name) ⟨W.x,cf,[W.m],hd7 W about⟩ (fm W about more base needs name cf cb N q1 q2 2):=
 ⟨rfl,(yq ok).2.symm,by simp [pr7],by simp [pr7,ok.rs],(yq ok).1,jd4 ok,by show 1≤100;decide,by show 2≤100;decide⟩
theorem yy (ok:W.Ok) (hf:(prog.find? fun P=>decide (P.f=cf))=some (pr7 W about more base needs cf name)) {a:Nat} :
  kc prog inp (-1) ⟨fm W about more base needs name cf cb [(W.n,((a+1:Nat):Int)),(W.m,(a:Int))] q1 q2 2 :: jv,u,tk,w⟩=match qz [(W.n,(a:Int))] [(W.r,if about=true then q2 else q1),(W.s,if about=true then q1 else q2)] needs with
   | some k=>.inl (.untrue name "need" [0,0,1] k,u+1)
   | none=>if 20 < jv.length+1 then .inl (.deep,u+1) else .inr ⟨fm W about more base needs cf name (some ⟨W.x,cf,[W.m],hd7 W about⟩) [(W.n,(a:Int))] (if about=true then q2 else q1) (if about=true then q1 else q2) 0 :: fm W about more base needs name cf cb [(W.n,((a+1:Nat):Int)),(W.m,(a:Int))] q1 q2 3 :: jv,u+1,tk,w⟩:=by
 rw [zU (F:=fm W about more base needs name cf cb [(W.n,((a+1:Nat):Int)),(W.m,(a:Int))] q1 q2 2) (jv:=jv) rfl (show (sx7 W about more base cf)[2]?=_ from rfl),if_neg (by show ¬ ((u:Int)=-1);omega)]
 show (match prog.find? fun P=>decide (P.f=cf) with | none=>_ | some P=>_)=_
 rw [hf]
 dsimp only
 rw [if_pos (jee ok),jho ok]
 rfl
end
open PySem L2
section
variable {W:W7} {about:Bool} {more base:Int} {needs:List Cl} {prog:List Pr} {inp:List Int}
structure Pair7 (W:W7) (about:Bool) (more base:Int) (needs:List Cl) (prog:List Pr) (name cf:Str):Prop where
 a:(prog.find? fun P=>decide (P.f=cf))=some (pr7 W about more base needs cf name)
 b:(prog.find? fun P=>decide (P.f=name))=some (pr7 W about more base needs name cf)
theorem Pair7.swap {name cf:Str} (h:Pair7 W about more base needs prog name cf):Pair7 W about more base needs prog cf name:=⟨h.b,h.a⟩
def K2 (W:W7) (needs:List Cl) (least:Int) (pl:Nat):Prop:=∀ (a:Int) (q1 q2:jK),qz [(W.n,a)] [(W.r,q1),(W.s,q2)] needs=if a < least then some pl else none
theorem jhE (j:Nat) (name cf:Str):(if j % 2=0 then cf else name)=if (j+1) % 2=0 then name else cf:=by
 by_cases g:j % 2=0
 ·rw [if_pos g,if_neg (by omega)]
 ·rw [if_neg g,if_pos (by omega)]
theorem jfm (ok:W.Ok) {name cf:Str} {cb:Option Cb} {q1 q2:jK} {jv:List Fm} {u tk w:Nat} {r:En×Nat}
  (h:RunsTo prog inp (-1) ⟨fm W about more base needs name cf cb [(W.n,0),("out",base)] q1 q2 7 :: jv,u+2,tk,w⟩ r):RunsTo prog inp (-1) ⟨fm W about more base needs name cf cb [(W.n,0)] q1 q2 0 :: jv,u,tk,w⟩ r:=by
 refine .more (m':=⟨fm W about more base needs name cf cb [(W.n,0)] q1 q2 6 :: jv,u+1,tk,w⟩) ?_ (.more (m':=⟨fm W about more base needs name cf cb [(W.n,0),("out",base)] q1 q2 7 :: jv,u+2,tk,w⟩) ?_ h)
 ·rw [JB (F:=fm W about more base needs name cf cb [(W.n,0)] q1 q2 0) (jv:=jv) rfl (show (sx7 W about more base cf)[0]?=_ from rfl),if_neg (by show ¬ ((u:Int)=-1);omega),YV]
  show Sum.inr (Mc.mk (fm W about more base needs name cf cb [(W.n,0)] q1 q2 (if Jb [(W.n,0)] [(W.r,q1),(W.s,q2)] (le7 W)=true then 1 else 6) :: jv) (u+1) tk w)=_
  rw [jhq ok,if_neg (by decide)]
 ·rw [zU (F:=fm W about more base needs name cf cb [(W.n,0)] q1 q2 6) (jv:=jv) rfl (show (sx7 W about more base cf)[6]?=_ from rfl),if_neg (by show ¬ (((u+1:Nat):Int)=-1);omega)]
  have e:kE [(W.n,(0:Int))] "out" (kH [(W.n,0)] "" + base)=[(W.n,0),("out",base)]:=by
   rw [jbE,Int.zero_add]
   unfold kE
   rw [if_neg (by simp [ok.no])]
   rfl
  show Sum.inr (Mc.mk (fm W about more base needs name cf cb (kE [(W.n,(0:Int))] "out" (kH [(W.n,0)] "" + base)) q1 q2 7 :: jv) (u+1+1) tk w)=_
  rw [e]
theorem jhp (ok:W.Ok) {name cf:Str} {cb:Option Cb} {q1 q2 p1 p2:jK} {jv:List Fm} {u tk w a:Nat} {o:Int} {N:List (Str×Int)} (ho:kH N "out" = o) (hw:w < 60) {r:En×Nat}
  (h:∀ N',kH N' "out" = o+more→RunsTo prog inp (-1) ⟨fm W about more base needs name cf cb N' (JZ (if about=true then p2 else p1) ((a+1:Nat):Int) (o+more)) (if about=true then p1 else p2) 7 :: jv,u+2,tk,w+1⟩ r) :
  RunsTo prog inp (-1) ⟨fm W about more base needs cf name (some ⟨W.x,cf,[W.m],hd7 W about⟩) N p1 p2 7 :: fm W about more base needs name cf cb [(W.n,((a+1:Nat):Int)),(W.m,(a:Int))] q1 q2 3 :: jv,u,tk,w⟩ r:=by
 have hx:∀ v:Int,kE [(W.n,((a+1:Nat):Int)),(W.m,(a:Int))] W.x v=[(W.n,((a+1:Nat):Int)),(W.m,(a:Int)),(W.x,v)]:=fun v=>by
  unfold kE
  rw [if_neg (by simp [ok.nx,ok.mx])]
  rfl
 have nx:∀ v:Int,kH [(W.n,((a+1:Nat):Int)),(W.m,(a:Int)),(W.x,v)] W.x=v:=fun v=>by
  unfold kH lkA
  rw [if_neg ok.x0]
  simp [ok.nx,ok.mx]
 refine .more (m':=⟨fm W about more base needs name cf cb [(W.n,((a+1:Nat):Int)),(W.m,(a:Int)),(W.x,o)] (if about=true then p2 else p1) (if about=true then p1 else p2) 3 :: jv,u,tk,w⟩) ?_ ?_
 ·unfold kc
  dsimp only
  rw [show (pr7 W about more base needs cf name).sx[7]?=none from rfl]
  dsimp only
  rw [show (pr7 W about more base needs cf name).gives=[] from rfl,YV]
  dsimp only
  rw [show (pr7 W about more base needs cf name).rs=[W.r,W.s] from rfl]
  rw [if_pos (jd3 ok),if_pos ⟨(yq ok).1,(yq ok).2,by rw [(yq ok).2];decide,jd4 ok⟩]
  show Sum.inr (Mc.mk (⟨_,_,kE _ W.x (kH N "out"),K6 [(W.r,q1),(W.s,q2)] ((hd7 W about).zip (kl [(W.r,p1),(W.s,p2)] [W.r,W.s])),3⟩ :: jv) u tk w)=_
  rw [ho,hx,jbM ok,jfR ok]
  cases about <;> rfl
 refine .more (m':=⟨fm W about more base needs name cf cb [(W.n,((a+1:Nat):Int)),(W.m,(a:Int)),(W.x,o)] (JZ (if about=true then p2 else p1) ((a+1:Nat):Int) (o+more)) (if about=true then p1 else p2) 4 :: jv,u+1,tk,w+1⟩) ?_ ?_
 ·rw [zU (F:=fm W about more base needs name cf cb [(W.n,((a+1:Nat):Int)),(W.m,(a:Int)),(W.x,o)] (if about=true then p2 else p1) (if about=true then p1 else p2) 3) (jv:=jv) rfl (show (sx7 W about more base cf)[3]?=_ from rfl),if_neg (by show ¬ ((u:Int)=-1);omega)]
  generalize (if about=true then p2 else p1)=z1
  generalize (if about=true then p1 else p2)=z2
  unfold JR d3
  dsimp only
  rw [if_pos ⟨by rw [jcB ok];rfl,hw⟩]
  have e1:qh [(W.r,z1),(W.s,z2)] W.r=z1:=by unfold qh;rw [jcB ok];rfl
  have e2:(Tm.is W.x).val [(W.n,((a+1:Nat):Int)),(W.m,(a:Int)),(W.x,o)] [(W.r,z1),(W.s,z2)]=o:=nx o
  rw [e1,e2,jbD ok,Int.add_zero]
  have e3:∀ z:jK,kE [(W.r,z1),(W.s,z2)] W.r z=[(W.r,z),(W.s,z2)]:=fun z=>by simp [kE,Ne.symm ok.rs]
  rw [e3]
  rfl
 have ho2:kE [(W.n,((a+1:Nat):Int)),(W.m,(a:Int)),(W.x,o)] "out" (o+more)=[(W.n,((a+1:Nat):Int)),(W.m,(a:Int)),(W.x,o),("out",o+more)]:=by
  unfold kE
  rw [if_neg (by simp [ok.no,ok.mo,ok.xo])]
  rfl
 refine .more (m':=⟨fm W about more base needs name cf cb [(W.n,((a+1:Nat):Int)),(W.m,(a:Int)),(W.x,o),("out",o+more)] (JZ (if about=true then p2 else p1) ((a+1:Nat):Int) (o+more)) (if about=true then p1 else p2) 5 :: jv,u+2,tk,w+1⟩) ?_ ?_
 ·rw [zU (F:=fm W about more base needs name cf cb [(W.n,((a+1:Nat):Int)),(W.m,(a:Int)),(W.x,o)] (JZ (if about=true then p2 else p1) ((a+1:Nat):Int) (o+more)) (if about=true then p1 else p2) 4) (jv:=jv) rfl (show (sx7 W about more base cf)[4]?=_ from rfl),if_neg (by show ¬ (((u+1:Nat):Int)=-1);omega)]
  show Sum.inr (Mc.mk (fm W about more base needs name cf cb (kE [(W.n,((a+1:Nat):Int)),(W.m,(a:Int)),(W.x,o)] "out" (kH [(W.n,((a+1:Nat):Int)),(W.m,(a:Int)),(W.x,o)] W.x+more)) _ _ 5 :: jv) (u+1+1) tk (w+1))=_
  rw [nx,ho2]
 refine .more (Z0 (F:=fm W about more base needs name cf cb [(W.n,((a+1:Nat):Int)),(W.m,(a:Int)),(W.x,o),("out",o+more)] (JZ (if about=true then p2 else p1) ((a+1:Nat):Int) (o+more)) (if about=true then p1 else p2) 5) (jv:=jv) rfl (show (sx7 W about more base cf)[5]?=_ from rfl)) ?_
 refine h [(W.n,((a+1:Nat):Int)),(W.m,(a:Int)),(W.x,o),("out",o+more)] ?_
 unfold kH lkA
 rw [if_neg (by decide)]
 simp [ok.no,ok.mo,ok.xo]
theorem jhi (ok:W.Ok) {least:Int} {pl:Nat} (hN:K2 W needs least pl) (hl:least≤0):∀ (a:Nat) {name cf:Str} (hp:Pair7 W about more base needs prog name cf) {cb:Option Cb} {q1 q2:jK} {jv:List Fm} {u tk w:Nat} {r:En×Nat},jv.length+a≤20→w+a≤60→
  (∀ N',kH N' "out" = base+(a:Int) * more→RunsTo prog inp (-1) ⟨fm W about more base needs name cf cb N' (wr7 about more base a q1 q2).1 (wr7 about more base a q1 q2).2 7 :: jv,u+5 * a+2,tk,w+a⟩ r)→
  RunsTo prog inp (-1) ⟨fm W about more base needs name cf cb [(W.n,(a:Int))] q1 q2 0 :: jv,u,tk,w⟩ r:=by
 intro a
 induction a with
 | zero=>
  intro name cf hp cb q1 q2 jv u tk w r _ _ h
  refine jfm ok ?_
  have:=h [(W.n,0),("out",base)] (by
   unfold kH lkA
   rw [if_neg (by decide)]
   simp [ok.no])
  exact this
 | succ a ih=>
  intro name cf hp cb q1 q2 jv u tk w r hr hw h
  refine Zl ok (.more (m':=⟨fm W about more base needs cf name (some ⟨W.x,cf,[W.m],hd7 W about⟩) [(W.n,(a:Int))] (if about=true then q2 else q1) (if about=true then q1 else q2) 0 :: fm W about more base needs name cf cb [(W.n,((a+1:Nat):Int)),(W.m,(a:Int))] q1 q2 3 :: jv,u+3,tk,w⟩) ?_ ?_)
  ·rw [yy ok hp.a,hN,if_neg (by omega)]
   dsimp only
   rw [if_neg (by omega)]
  ·refine ih hp.swap (jv:=fm W about more base needs name cf cb [(W.n,((a+1:Nat):Int)),(W.m,(a:Int))] q1 q2 3 :: jv) (by rw [List.length_cons];omega) (by omega) fun N' hN'=>?_
   refine jhp ok hN' (by omega) fun N2 hN2=>?_
   have:=h N2 (by rw [hN2,Int.add_assoc];congr 1;rw [show ((a+1:Nat):Int)=(a:Int)+1 by omega,Int.add_mul,Int.one_mul])
   rw [show u+5 * (a+1)+2=u+3+5 * a+2+2 by omega,show w+(a+1)=w+a+1 by omega] at this
   have e2:base+(a:Int) * more+more=base+((a+1:Nat):Int) * more:=by rw [Int.add_assoc];congr 1;rw [show ((a+1:Nat):Int)=(a:Int)+1 by omega,Int.add_mul,Int.one_mul]
   rw [e2]
   cases about <;> exact this
theorem jfL (ok:W.Ok) {least:Int} {pl:Nat} (hN:K2 W needs least pl):∀ (j a:Nat) {name cf:Str} (hp:Pair7 W about more base needs prog name cf) {cb:Option Cb} {q1 q2:jK} {jv:List Fm} {u tk w:Nat} {r:En×Nat},jv.length+j≤20→(0 < j→least≤(a:Int))→
  (∀ name' cf' cb' q1' q2' rest',rest'.length=jv.length+j→Pair7 W about more base needs prog name' cf'→name'=(if j % 2=0 then name else cf)→RunsTo prog inp (-1) ⟨fm W about more base needs name' cf' cb' [(W.n,(a:Int))] q1' q2' 0 :: rest',u+3 * j,tk,w⟩ r)→
  RunsTo prog inp (-1) ⟨fm W about more base needs name cf cb [(W.n,((a+j:Nat):Int))] q1 q2 0 :: jv,u,tk,w⟩ r:=by
 intro j
 induction j with
 | zero=>
  intro a name cf hp cb q1 q2 jv u tk w r _ _ h
  exact h name cf cb q1 q2 jv rfl hp rfl
 | succ j ih=>
  intro a name cf hp cb q1 q2 jv u tk w r hr hl h
  have hl':=hl (Nat.succ_pos _)
  refine Zl (a:=a+j) ok (.more (m':=⟨fm W about more base needs cf name (some ⟨W.x,cf,[W.m],hd7 W about⟩) [(W.n,((a+j:Nat):Int))] (if about=true then q2 else q1) (if about=true then q1 else q2) 0 :: fm W about more base needs name cf cb [(W.n,((a+j+1:Nat):Int)),(W.m,((a+j:Nat):Int))] q1 q2 3 :: jv,u+3,tk,w⟩) ?_ ?_)
  ·rw [yy ok hp.a,hN,if_neg (by omega)]
   dsimp only
   rw [if_neg (by omega)]
  ·refine ih a hp.swap (jv:=fm W about more base needs name cf cb [(W.n,((a+j+1:Nat):Int)),(W.m,((a+j:Nat):Int))] q1 q2 3 :: jv) (by rw [List.length_cons];omega) (fun _=>hl') fun name' cf' cb' q1' q2' rest' hr' hp' hn'=>?_
   have:=h name' cf' cb' q1' q2' rest' (by rw [hr',List.length_cons];omega) hp' (hn'.trans (jhE j name cf))
   rw [show u+3 * (j+1)=u+3+3 * j by omega] at this
   exact this
end
open PySem L2
section
variable {W:W7} {about:Bool} {more base:Int} {needs:List Cl} {inp:List Int}
def cf7 (W:W7) (twin:Bool):Str:=if twin=true then W.g else W.f
theorem jg9 (ok:W.Ok) (twin:Bool):Pair7 W about more base needs (qY W about more base needs twin) W.f (cf7 W twin):=by
 unfold qY cf7
 cases twin
 ·exact ⟨by simp [pr7],by simp [pr7]⟩
 ·exact ⟨by simp [pr7],by simp [pr7,Ne.symm ok.fg]⟩
def Zn (W:W7) (twin about:Bool) (more base:Int) (a:Nat) (least:Int) (pl:Nat) (q1 q2:jK):En×Nat:=
 if (a:Int) - least+1≤a∧(a:Int) - least+1≤21 then (.untrue (if ((a:Int) - least).toNat % 2=0 then W.f else cf7 W twin) "need" [0,0,1] pl,3 * (((a:Int) - least).toNat+1))
 else if 20 < a then (.deep,63) else (.done (base+(a:Int) * more) [(wr7 about more base a q1 q2).1,(wr7 about more base a q1 q2).2],5 * a+2)
theorem jfQ (ok:W.Ok) (twin:Bool) {least:Int} {pl a:Nat} (hN:K2 W needs least pl) (ha:¬ (a:Int) < least) {q1 q2:jK} :
  RunsTo (qY W about more base needs twin) inp (-1) ⟨[kU (pr7 W about more base needs W.f (cf7 W twin)) [(a:Int)] [q1,q2]],0,0,0⟩ (Zn W twin about more base a least pl q1 q2):=by
 show RunsTo _ inp (-1) ⟨[fm W about more base needs W.f (cf7 W twin) none [(W.n,(a:Int))] q1 q2 0],0,0,0⟩ _
 have hp:=jg9 (about:=about) (more:=more) (base:=base) (needs:=needs) ok twin
 unfold Zn
 by_cases h1:(a:Int) - least+1≤a∧(a:Int) - least+1≤21
 ·rw [if_pos h1]
  obtain ⟨k,hk⟩:∃ k:Nat,(a:Int) - least=k:=⟨((a:Int) - least).toNat,by omega⟩
  obtain ⟨b,hb⟩:∃ b:Nat,least=((b+1:Nat):Int):=⟨(least - 1).toNat,by omega⟩
  have hab:a=b+1+k:=by omega
  rw [hk,Int.toNat_natCast,hab]
  refine jfL ok hN k (b+1) hp (by rw [List.length_nil];omega) (fun _=>by omega) fun name' cf' cb' q1' q2' rest' hr' hp' hn'=>?_
  refine Zl (a:=b) ok (.stop ?_)
  rw [yy ok hp'.a,hN,if_pos (by omega)]
  dsimp only
  rw [hn',show 0+3 * k+2+1=3 * (k+1) by omega]
 ·rw [if_neg h1]
  by_cases h2:20 < a
  ·rw [if_pos h2]
   obtain ⟨b,hb⟩:∃ b:Nat,a=b+1+20:=⟨a - 21,by omega⟩
   have hle:least≤(b:Int):=by
    rcases Int.lt_or_le 21 ((a:Int) - least+1) with g | g
    ·omega
    ·have:¬ (a:Int) - least+1≤a:=fun z=>h1 ⟨z,g⟩
     omega
   rw [hb]
   refine jfL ok hN 20 (b+1) hp (by rw [List.length_nil];decide) (fun _=>by omega) fun name' cf' cb' q1' q2' rest' hr' hp' hn'=>?_
   refine Zl (a:=b) ok (.stop ?_)
   rw [yy ok hp'.a,hN,if_neg (by omega)]
   dsimp only
   rw [List.length_nil] at hr'
   rw [if_pos (by omega)]
  ·rw [if_neg h2]
   have hle:least≤0:=by
    rcases Int.lt_or_le 21 ((a:Int) - least+1) with g | g
    ·omega
    ·have:¬ (a:Int) - least+1≤a:=fun z=>h1 ⟨z,g⟩
     omega
   refine jhi ok hN hle a hp (by rw [List.length_nil];omega) (by omega) fun N' hN'=>.stop ?_
   unfold kc
   dsimp only
   rw [show (pr7 W about more base needs W.f (cf7 W twin)).sx[7]?=none from rfl]
   dsimp only
   rw [show (pr7 W about more base needs W.f (cf7 W twin)).gives=[] from rfl,YV]
   dsimp only
   rw [show (pr7 W about more base needs W.f (cf7 W twin)).rs=[W.r,W.s] from rfl]
   rw [if_pos (jd3 ok),jbM ok,hN',show 0+5 * a+2=5 * a+2 by omega]
end
def clK (W:W7) (least:Int) (pl k:Nat):Cl:=if k=pl∨k=pl+1 then .least (.is W.n) (.is "") least else .least (.is "") (.is "") (0 - (k:Int))
def Kw (W:W7) (least:Int) (pl len:Nat):List Cl:=(List.range len).map (clK W least pl)
theorem Zs {W:W7} (ok:W.Ok) {least a:Int} {pl k:Nat} {q1 q2:jK}:Jb [(W.n,a)] [(W.r,q1),(W.s,q2)] (clK W least pl k)=decide (¬ (k=pl∨k=pl+1)∨least≤a):=by
 symm
 apply Ja
 rw [decide_eq_true_iff]
 unfold clK
 by_cases h:k=pl∨k=pl+1
 ·rw [if_pos h]
  show _↔kH [(W.n,a)] "" + least≤kH [(W.n,a)] W.n
  rw [jbD ok,jbE]
  constructor
  ·rintro (g | g)
   ·exact absurd h g
   ·omega
  ·intro g;exact .inr (by omega)
 ·rw [if_neg h]
  show _↔kH [(W.n,a)] "" + (0 - (k:Int))≤kH [(W.n,a)] ""
  rw [jbE]
  exact ⟨fun _=>by omega,fun _=>.inl h⟩
theorem jcw {W:W7} (ok:W.Ok) {least:Int} {pl len:Nat} (h:pl < len):K2 W (Kw W least pl len) least pl:=by
 intro a q1 q2
 unfold qz Kw
 by_cases ha:a < least
 ·rw [if_pos ha,List.findIdx?_eq_some_iff_getElem]
  refine ⟨by simpa using h,?_,fun j hj=>?_⟩
  ·rw [List.getElem_map,List.getElem_range,Zs ok,decide_eq_false (by omega)];rfl
  ·rw [List.getElem_map,List.getElem_range,Zs ok,decide_eq_true (.inl (by omega))];simp
 ·rw [if_neg ha,List.findIdx?_eq_none_iff]
  intro c hc
  obtain ⟨k,_,rfl⟩:=List.mem_map.mp hc
  rw [Zs ok,decide_eq_true (.inr (by omega))]
  rfl
open PySem L2
theorem ZE {K:W.Frag} {H:Hp} {n:Nat} {x1 x2 y1 y2:V} (h1:LikeV K H n x1 y1) (h2:LikeV K H n x2 y2) (j:Nat) (x' y':V) (e1:[x1,x2][j]?=some x') (e2:[y1,y2][j]?=some y'):LikeV K H n x' y':=by
 match j with
 | 0=>cases e1;cases e2;exact h1
 | 1=>cases e1;cases e2;exact h2
 | j+2=>simp at e1
theorem jaJ {K:W.Frag} {H:Hp} {v v':V} {r:Int×List (Int×Int)} (h:RowAt K H v r) (h':RowAt K H v' r):LikeV K H 3 v v':=by
 obtain ⟨a,b,qs,rfl,s1,s2,s3⟩:=h.ex
 obtain ⟨a',b',qs',rfl,t1,t2,t3⟩:=h'.ex
 refine .inr (.inl ⟨a,a',_,_,rfl,rfl,s1,t1,rfl,ZE (qJ _ _) (.inr (.inl ⟨b,b',qs,qs',rfl,rfl,s2,t2,by rw [s3.1,t3.1],fun j x' y' e1 e2=>?_⟩))⟩)
 have hj:j < r.2.length:=by
  have:=(List.getElem?_eq_some_iff.mp e1).1
  rw [s3.1] at this
  exact this
 obtain ⟨c,f1,f2⟩:=s3.2 j hj
 obtain ⟨c',g1,g2⟩:=t3.2 j hj
 rw [f1] at e1
 rw [g1] at e2
 cases e1
 cases e2
 exact .inr (.inl ⟨c,c',_,_,rfl,rfl,f2,g2,rfl,ZE (qJ _ _) (qJ _ _)⟩)
theorem jcf {K:W.Frag} {H:Hp} {q:jK} {v v':V} (h:RowIs K H q v) (h':RowIs K H q v'):LikeV K H 3 v v':=by
 obtain ⟨R,h1,c1,_,e1⟩:=h
 obtain ⟨R',h2,c2,_,e2⟩:=h'
 have:R=R':=KS c1 c2 fun z=>by rw [e1,e2]
 subst this
 exact jaJ h1 h2
theorem ja3 {K:W.Frag} {H:Hp}:∀ (qs:List jK) (vs vs':List V),RowsAt K H qs vs→RowsAt K H qs vs'→LikeL K H 3 vs vs':=by
 intro qs
 induction qs with
 | nil=>
  intro vs vs' h h'
  cases vs with
  | nil=>
   cases vs' with
   | nil=>exact .nil
   | cons _ _=>exact h'.elim
  | cons _ _=>exact h.elim
 | cons q r ih=>
  intro vs vs' h h'
  cases vs with
  | nil=>exact h.elim
  | cons v t=>
   cases vs' with
   | nil=>exact h'.elim
   | cons v' t'=>exact .cons (jcf h.1 h'.1) (ih t t' h.2 h'.2)
theorem KO:∀ p:List Int,D.depthL (p.map D.int)=0
 | []=>by unfold List.map D.depthL;rfl
 | a :: r=>by rw [List.map_cons];unfold D.depthL D.depth;rw [KO r];rfl
theorem jdR {K:W.Frag} {H:Hp}:∀ {e:En} {v v':V},EndAt K H e v→EndAt K H e v'→LikeV K H 5 v v'
 | .done out held,v,v',⟨t,hl,vs,h1,h2,h3,h4⟩,⟨t',hl',vs',h1',h2',h3',h4'⟩=>by
  subst h1 h1'
  have l0:=ja3 _ _ _ h4 h4'
  have l:=LikeL.cons (K:=K) (qx "done" 4) (.cons (qJ out 4) (.cons (LikeV.lst h3 h3' l0.1 l0.2) .nil))
  exact LikeV.tup h2 h2' l.1 l.2
 | .spent,v,v',⟨t,h1,h2⟩,⟨t',h1',h2'⟩=>by
  subst h1 h1'
  have l:=LikeL.cons (K:=K) (H:=H) (qx "spent" 4) .nil
  exact LikeV.tup h2 h2' l.1 l.2
 | .asks,v,v',⟨t,h1,h2⟩,⟨t',h1',h2'⟩=>by
  subst h1 h1'
  have l:=LikeL.cons (K:=K) (H:=H) (qx "asks" 4) .nil
  exact LikeV.tup h2 h2' l.1 l.2
 | .deep,v,v',⟨t,h1,h2⟩,⟨t',h1',h2'⟩=>by
  subst h1 h1'
  have l:=LikeL.cons (K:=K) (H:=H) (qx "deep" 4) .nil
  exact LikeV.tup h2 h2' l.1 l.2
 | .untrue f kd p k,v,v',⟨t,vp,h1,h2,h3⟩,⟨t',vp',h1',h2',h3'⟩=>by
  subst h1 h1'
  have hd:(qw p).depth≤4:=by
   unfold qw D.depth
   have:=KO p
   omega
  have l:=LikeL.cons (qx "untrue" 4) (.cons (qx f 4) (.cons (qx kd 4) (.cons (L2.held_like (K:=K) hd h3 h3') (.cons (qJ (k:Int) 4) .nil))))
  exact LikeV.tup h2 h2' l.1 l.2
open PySem L2
abbrev Yp:Stmt:=top 47
abbrev zO:Stmt:=top 48
def w7L (W:W7):List V:=[.str W.f,.str W.g,.str W.n,.str W.m,.str W.r,.str W.s,.str W.x]
def jds (W:W7) (about:Bool) (more base:Int) (needs:List Cl) (cf:Str):D:=.tup [.str W.n,.str W.r,.str W.s,.tup (needs.map Cl.toD),.tup (bd7 W about more base cf)]
def jdg:Sp:=fun vs H Q _=>∃ (lw:Addr) (W:W7) (own about:Bool) (more base:Int) (vc:V) (needs:List Cl),vs=[.bl own,.ref lw,vc,.bl about,.int more,.int base]∧H lw=some (.lst (w7L W))∧Held H (.tup (needs.map Cl.toD)) vc∧∀ v H',Same H H'→Held H' (jds W about more base needs (if own=true then W.f else W.g)) v→Q v H'
def Yl:Sp:=fun vs H Q _=>∃ (lw:Addr) (W:W7) (twin about:Bool) (more base:Int) (vc:V) (needs:List Cl),vs=[.ref lw,vc,.bl twin,.bl about,.int more,.int base]∧H lw=some (.lst (w7L W))∧Held H (.tup (needs.map Cl.toD)) vc∧∀ v H',Same H H'→Held H' (.tup ((qY W about more base needs twin).map Pr.toD)) v→Q v H'
theorem jc9 {α:Type} (b:Bool) (x y:α):atI [x,y] (if b=true then 1 else 0)=some (if b=true then y else x):=by cases b <;> rfl
theorem qD {H:Hp}:∀ {ds ds':List D} {vs vs':List V},HeldL H ds vs→HeldL H ds' vs'→HeldL H (ds++ds') (vs++vs')
 | [],_,vs,_,h,h'=>by rw [js h];exact h'
 | d :: ds,ds',vs,vs',h,h'=>by
  obtain ⟨v,r,rfl,e1,h2⟩:=jb h
  exact ji e1 (qD h2 h')
section
variable {P:Program} {w:World} {K:W.Frag} {mg:Str→Option Value} {base:Heap}
theorem je0 {f:Addr} {fd:FuncData} (F:Fun K "_law_proc" "_law_proc" Yp f fd) (B:Free0 mg):FnOk P w K mg base CX0 1 f fd ["_law_own","_law_w","_law_claims","_law_about","_law_more","_law_base"] jdg:=by
 have sc:FnScope ["_law_own","_law_w","_law_claims","_law_about","_law_more","_law_base","_law_f","_law_g","_law_n","_law_m","_law_r","_law_s","_law_x","_law_handed","_law_yes","_law_no","_law_body"] ["_law_own","_law_w","_law_claims","_law_about","_law_more","_law_base"] (jf Yp):=fs
 refine F.okZ sc (fun vs H Q E h=>?_) (fun cdv A outer s H vs Q E hr h=>?_)
 ·obtain ⟨lw,W,own,about,more,bs,vc,needs,rfl,_⟩:=h
  rfl
 obtain ⟨lw,W,own,about,more,bs,vc,needs,rfl,hlw,hvc,q⟩:=h
 refine ⟨_,(jc (qF (zpv 1) (jen rfl (jw (jr (i:=6) sc.nd rfl ol) (jw (jr (i:=7) sc.nd rfl ol) (jw (jr (i:=8) sc.nd rfl ol) (jw (jr (i:=9) sc.nd rfl ol) (jw (jr (i:=10) sc.nd rfl ol) (jw (jr (i:=11) sc.nd rfl ol) (jw (jr (i:=12) sc.nd rfl ol) qv)))))))))
   (jc (jF (i:=13) sc.nd rfl ol (jX km (zB (jd (zpd (jP (je (jU 10) (je (jU 11) jE)))) (jd (zpd (jP (je (jU 11) (je (jU 10) jE)))) jk))) (yN zf (by rfl) B.int_ JJ (jd (zpv 3) jk)) (fun _ _=>rfl)))
   (jc (jF (i:=14) sc.nd rfl ol (zB (jd (zpd (jP (je kg (je (jU 9) (je (jP (je kg (je (jU 8) jE))) (je (zY (Kc Kh jh)) jE)))))) (jd (zpd (jP (je kg (je (jU 12) (je (zY (jX km (zB (jd (zpv 7) (jd (zpv 6) jk))) (yN zf (by rfl) B.int_ JJ (jd (zpv 0) jk)) (fun _ _=>rfl))) (je (jP (je (jU 9) jE)) (je (jU 13) jE))))))) jk))))
   (jc (jF (i:=14) sc.nd rfl ol (jG jge (zpv 14) (zB (jd (zpd (jP (je kg (je (jU 10) (je (jP (je (jU 8) (je yS jE))) (je (jP (je kg (je (jU 12) jE))) (je (jU 4) jE))))))) (jd (zpd (jP (je kg (je kg (je (jP (je kg (je (jU 12) jE))) (je (jU 4) jE)))))) jk)))))
   (jc (jF (i:=15) sc.nd rfl ol (zpd (jP (je (jP (je kg (je kg (je (jP (je kg (je kg jE))) (je (jU 5) jE))))) jE))))
   (jc (jF (i:=16) sc.nd rfl ol (zpd (jP (je (jP (je kg (je (jP (je kg (je (jP (je kg (je (jU 8) jE))) (je (jP (je kg (je kg jE))) (je yS jE))))) (je (zY (yN qy (by rfl) B.tuple_ zW (jd (zpv 14) jk))) (je (jU 15) jE))))) jE))))
   (ju (jN (zpd (jP (je (jU 8) (je (jU 10) (je (jU 11) (je (jU 2) (je (jU 16) jE))))))))))))))),?_⟩
 refine zJ (σ':=[some (.bl own),some (.ref lw),some vc,some (.bl about),some (.int more),some (.int bs),none,none,none,none,none,none,none,none,none,none,none]) rfl ?_
 refine ⟨_,rfl,lw,_,rfl,SqL.of hlw,rfl,_,_,rfl,?_⟩
 refine gs ?_
 refine ⟨_,_,rfl,?_⟩
 refine gs ?_
 refine ⟨_,_,rfl,?_⟩
 refine gs ?_
 refine ⟨_,_,rfl,?_⟩
 refine gs ?_
 refine ⟨_,_,rfl,?_⟩
 refine gs ?_
 refine ⟨_,_,rfl,?_⟩
 refine gs ?_
 refine ⟨_,_,rfl,?_⟩
 refine gs ?_
 refine ⟨rfl,?_⟩
 refine ⟨.tup [.str W.r,.str W.s],⟨_,rfl,Nat.le_of_ble_eq_true rfl,_,_,rfl,⟨_,rfl,jA⟩,_,_,rfl,⟨_,rfl,jA⟩,rfl⟩,fun v1 H1 s1 h1=>⟨.tup [.str W.s,.str W.r],⟨_,rfl,Nat.le_of_ble_eq_true rfl,_,_,rfl,⟨_,rfl,jA⟩,_,_,rfl,⟨_,rfl,jA⟩,rfl⟩,fun v2 H2 s2 h2=>⟨sm rfl,fun l hl=>?_⟩⟩⟩
 refine ⟨_,rfl,.inr ⟨_,rfl,l,_,_,_,rfl,rfl,SqL.of ja,jc9 about v1 v2,?_⟩⟩
 have g3:=j0 hl (.lst [v1,v2])
 have hh:Held (upd H2 l (.lst [v1,v2])) (.tup ((hd7 W about).map D.str)) (if about=true then v2 else v1):=by
  unfold hd7
  cases about
  ·exact (h1.mono s2).mono g3
  ·exact h2.mono g3
 have s3:=s1.trans (s2.trans g3)
 generalize upd H2 l (.lst [v1,v2])=H3 at *
 generalize (if about=true then v2 else v1)=vh at *
 refine gs ?_
 refine ⟨(d1 W).toD,⟨_,rfl,Nat.le_of_ble_eq_true rfl,_,_,rfl,rfl,_,_,rfl,⟨_,rfl,jA⟩,_,_,rfl,⟨_,rfl,Nat.le_of_ble_eq_true rfl,_,_,rfl,rfl,_,_,rfl,⟨_,rfl,jA⟩,rfl⟩,_,_,rfl,(fun G sG Q q=>⟨_,rfl,q _ G (kL G) jM⟩),rfl⟩,fun y1 G1 t1 k1=>⟨(d2 W about (if own=true then W.f else W.g)).toD,⟨_,rfl,Nat.le_of_ble_eq_true rfl,_,_,rfl,rfl,_,_,rfl,⟨_,rfl,jA⟩,_,_,rfl,(fun G sG Q q=>⟨_,rfl,_,rfl,sm rfl,fun l2 hl2=>⟨_,rfl,.inr ⟨_,rfl,l2,_,_,_,rfl,rfl,SqL.of ja,jc9 own (V.str W.g) (V.str W.f),q _ _ (j0 hl2 _) (by cases own <;> exact jA)⟩⟩⟩),_,_,rfl,⟨_,rfl,Nat.le_of_ble_eq_true rfl,_,_,rfl,⟨_,rfl,jA⟩,rfl⟩,_,_,rfl,⟨_,rfl,(hh.mono t1)⟩,rfl⟩,fun y2 G2 t2 k2=>⟨sm rfl,fun ly hly=>?_⟩⟩⟩
 have t3:=j0 hly (.lst [y1,y2])
 have ey:upd G2 ly (.lst [y1,y2]) ly=some (.lst [y1,y2]):=ja
 generalize upd G2 ly (.lst [y1,y2])=G3 at *
 refine gs ?_
 have hy12:HeldL G3 [(d1 W).toD,(d2 W about (if own=true then W.f else W.g)).toD] [y1,y2]:=ji ((k1.mono t2).mono t3) (ji (k2.mono t3) jy)
 have s4:=s3.trans (t1.trans (t2.trans t3))
 refine ⟨_,rfl,(d3 W more).toD,⟨_,rfl,Nat.le_of_ble_eq_true rfl,_,_,rfl,rfl,_,_,rfl,⟨_,rfl,jA⟩,_,_,rfl,⟨_,rfl,Nat.le_of_ble_eq_true rfl,_,_,rfl,⟨_,rfl,jA⟩,_,_,rfl,rfl,rfl⟩,_,_,rfl,⟨_,rfl,Nat.le_of_ble_eq_true rfl,_,_,rfl,rfl,_,_,rfl,⟨_,rfl,jA⟩,rfl⟩,_,_,rfl,⟨_,rfl,jM⟩,rfl⟩,fun y3 G4 t4 k3=>⟨(d4 W more).toD,⟨_,rfl,Nat.le_of_ble_eq_true rfl,_,_,rfl,rfl,_,_,rfl,rfl,_,_,rfl,⟨_,rfl,Nat.le_of_ble_eq_true rfl,_,_,rfl,rfl,_,_,rfl,⟨_,rfl,jA⟩,rfl⟩,_,_,rfl,⟨_,rfl,jM⟩,rfl⟩,fun y4 G5 t5 k4=>⟨sm rfl,fun l3 hl3=>?_⟩⟩⟩
 have t6:=j0 hl3 (.lst [y3,y4])
 have e6:upd G5 l3 (.lst [y3,y4]) l3=some (.lst [y3,y4]):=ja
 generalize upd G5 l3 (.lst [y3,y4])=G6 at *
 have t36:=t4.trans (t5.trans t6)
 have hy34:HeldL G6 [(d3 W more).toD,(d4 W more).toD] [y3,y4]:=ji ((k3.mono t5).mono t6) (ji (k4.mono t6) jy)
 refine ⟨ly,l3,[y1,y2],[y3,y4],rfl,rfl,t36 _ _ ey,e6,sm rfl,fun l4 hl4=>?_⟩
 have t7:=j0 hl4 (.lst ([y1,y2]++[y3,y4]))
 have e7:upd G6 l4 (.lst ([y1,y2]++[y3,y4])) l4=some (.lst ([y1,y2]++[y3,y4])):=ja
 generalize upd G6 l4 (.lst ([y1,y2]++[y3,y4]))=G7 at *
 have hyes:=qD ((hy12.mono t36).mono t7) (hy34.mono t7)
 have s7:=s4.trans (t36.trans t7)
 refine gs ?_
 refine ⟨.tup [(d5 bs).toD],⟨_,rfl,Nat.le_of_ble_eq_true rfl,_,_,rfl,⟨_,rfl,Nat.le_of_ble_eq_true rfl,_,_,rfl,rfl,_,_,rfl,rfl,_,_,rfl,⟨_,rfl,Nat.le_of_ble_eq_true rfl,_,_,rfl,rfl,_,_,rfl,rfl,rfl⟩,_,_,rfl,⟨_,rfl,jM⟩,rfl⟩,rfl⟩,fun v15 G8 t8 k8=>?_⟩
 refine gs ?_
 refine ⟨.tup (bd7 W about more bs (if own=true then W.f else W.g)),⟨_,rfl,Nat.le_of_ble_eq_true rfl,_,_,rfl,⟨_,rfl,Nat.le_of_ble_eq_true rfl,_,_,rfl,rfl,_,_,rfl,⟨_,rfl,Nat.le_of_ble_eq_true rfl,_,_,rfl,rfl,_,_,rfl,⟨_,rfl,Nat.le_of_ble_eq_true rfl,_,_,rfl,rfl,_,_,rfl,⟨_,rfl,jA⟩,rfl⟩,_,_,rfl,⟨_,rfl,Nat.le_of_ble_eq_true rfl,_,_,rfl,rfl,_,_,rfl,rfl,rfl⟩,_,_,rfl,rfl,rfl⟩,_,_,rfl,(fun G sG Q q=>⟨_,rfl,l4,_,rfl,.inl ⟨SqL.of (sG _ _ (t8 _ _ e7)),fun tt htt=>q _ _ (j0 htt _) (jQ ja (((hyes.mono t8).mono sG).mono (j0 htt _)))⟩⟩),_,_,rfl,⟨_,rfl,k8⟩,rfl⟩,rfl⟩,fun v16 G9 t9 k9=>?_⟩
 refine gs ?_
 refine ⟨jds W about more bs needs (if own=true then W.f else W.g),⟨_,rfl,Nat.le_of_ble_eq_true rfl,_,_,rfl,⟨_,rfl,jA⟩,_,_,rfl,⟨_,rfl,jA⟩,_,_,rfl,⟨_,rfl,jA⟩,_,_,rfl,⟨_,rfl,(hvc.mono (s7.trans (t8.trans t9)))⟩,_,_,rfl,⟨_,rfl,k9⟩,rfl⟩,fun v G sG hv=>?_⟩
 exact q v G (s7.trans (t8.trans (t9.trans sG))) hv
theorem Yu {H:Hp} {W:W7} {about:Bool} {more base:Int} {needs:List Cl} {cf:Str} {v:V} (h:Held H (jds W about more base needs cf) v):∃ t v4 v5,v=.ref t∧H t=some (.tup [.str W.n,.str W.r,.str W.s,v4,v5])∧Held H (.tup (needs.map Cl.toD)) v4∧Held H (.tup (bd7 W about more base cf)) v5:=by
 obtain ⟨t,xs,rfl,ht,h1⟩:=jo h
 obtain ⟨v1,r1,rfl,e1,h2⟩:=jb h1
 obtain ⟨v2,r2,rfl,e2,h3⟩:=jb h2
 obtain ⟨v3,r3,rfl,e3,h4⟩:=jb h3
 obtain ⟨v4,r4,rfl,e4,h5⟩:=jb h4
 obtain ⟨v5,r5,rfl,e5,h6⟩:=jb h5
 cases js h6
 cases jq e1
 cases jq e2
 cases jq e3
 exact ⟨t,v4,v5,rfl,ht,e4,e5⟩
theorem jaV {f:Addr} {fd:FuncData} (F:Fun K "_law_program" "_law_program" zO f fd) (B:Free0 mg) (F_proc:Fn P w K mg base 1 "_law_proc" ["_law_own","_law_w","_law_claims","_law_about","_law_more","_law_base"] jdg):FnOk P w K mg base CX0 2 f fd ["_law_w","_law_claims","_law_twin","_law_about","_law_more","_law_base"] Yl:=by
 have sc:FnScope ["_law_w","_law_claims","_law_twin","_law_about","_law_more","_law_base","_law_n","_law_r","_law_s","_law_needs","_law_body","_law_first"] ["_law_w","_law_claims","_law_twin","_law_about","_law_more","_law_base"] (jf zO):=fs
 refine F.okZ sc (fun vs H Q E h=>?_) (fun cdv A outer s H vs Q E hr h=>?_)
 ·obtain ⟨lw,W,twin,about,more,bs,vc,needs,rfl,_⟩:=h
  rfl
 obtain ⟨lw,W,twin,about,more,bs,vc,needs,rfl,hlw,hvc,q⟩:=h
 refine ⟨_,(jc (qF (jL F_proc hr (jd (jep (zpv 2)) (jd (zpv 0) (jd (zpv 1) (jd (zpv 3) (jd (zpv 4) (jd (zpv 5) jk))))))) (q8 rfl (jw (jr (i:=6) sc.nd rfl ol) (jw (jr (i:=7) sc.nd rfl ol) (jw (jr (i:=8) sc.nd rfl ol) (jw (jr (i:=9) sc.nd rfl ol) (jw (jr (i:=10) sc.nd rfl ol) qv)))))))
   (jc (jF (i:=11) sc.nd rfl ol (zpd (jP (je kg (je (zY (jX km (zpv 0) jh (fun _ _=>rfl))) (je (jP (je (jU 6) jE)) (je (jP (je (jU 7) (je (jU 8) jE))) (je (jU 9) (je (jP jE) (je (jU 10) jE))))))))))
   (jc (kn (jbk (YR (zpv 2))) (ju (jN (zpd (jP (je (jU 11) jE))))) jZ)
   (jc (qF (jL F_proc hr (jd jfO (jd (zpv 0) (jd (zpv 1) (jd (zpv 3) (jd (zpv 4) (jd (zpv 5) jk))))))) (q8 rfl (jw (jr (i:=6) sc.nd rfl ol) (jw (jr (i:=7) sc.nd rfl ol) (jw (jr (i:=8) sc.nd rfl ol) (jw (jr (i:=9) sc.nd rfl ol) (jw (jr (i:=10) sc.nd rfl ol) qv)))))))
   (ju (jN (zpd (jP (je (jP (je kg (je (zY (jX km (zpv 0) jh (fun _ _=>rfl))) (je (jP (je (jU 6) jE)) (je (jP (je (jU 7) (je (jU 8) jE))) (je (jU 9) (je (jP jE) (je (jU 10) jE)))))))) (je (jU 11) jE)))))))))),?_⟩
 refine zJ (σ':=[some (.ref lw),some vc,some (.bl twin),some (.bl about),some (.int more),some (.int bs),none,none,none,none,none,none]) rfl ?_
 refine ⟨_,rfl,_,rfl,_,rfl,_,rfl,_,rfl,_,rfl,_,rfl,lw,W,!twin,about,more,bs,vc,needs,rfl,hlw,hvc,fun v H1 s1 h1=>?_⟩
 obtain ⟨t,v4,v5,rfl,ht,hv4,hv5⟩:=Yu h1
 refine ⟨t,_,rfl,SqT.of ht,rfl,_,_,rfl,?_⟩
 refine gs ?_
 refine ⟨_,_,rfl,?_⟩
 refine gs ?_
 refine ⟨_,_,rfl,?_⟩
 refine gs ?_
 refine ⟨_,_,rfl,?_⟩
 refine gs ?_
 refine ⟨_,_,rfl,?_⟩
 refine gs ?_
 refine ⟨rfl,?_⟩
 have ecf:(if (!twin)=true then W.f else W.g)=cf7 W twin:=by cases twin <;> rfl
 rw [ecf] at hv5
 refine ⟨(pr7 W about more bs needs W.f (cf7 W twin)).toD,⟨_,rfl,Nat.le_of_ble_eq_true rfl,_,_,rfl,rfl,_,_,rfl,(fun G sG Q q=>⟨_,rfl,lw,_,_,_,rfl,rfl,SqL.of (sG _ _ (s1 _ _ hlw)),rfl,q _ G (kL G) jA⟩),_,_,rfl,⟨_,rfl,Nat.le_of_ble_eq_true rfl,_,_,rfl,⟨_,rfl,jA⟩,rfl⟩,_,_,rfl,⟨_,rfl,Nat.le_of_ble_eq_true rfl,_,_,rfl,⟨_,rfl,jA⟩,_,_,rfl,⟨_,rfl,jA⟩,rfl⟩,_,_,rfl,⟨_,rfl,hv4⟩,_,_,rfl,⟨_,rfl,Nat.le_of_ble_eq_true rfl,rfl⟩,_,_,rfl,⟨_,rfl,hv5⟩,rfl⟩,fun v11 H2 s2 h2=>?_⟩
 refine gs ?_
 have s12:=s1.trans s2
 refine ⟨_,rfl,_,rfl,?_⟩
 cases twin with
 | false=>
  refine zy ?_
  refine ⟨.tup ((qY W about more bs needs false).map Pr.toD),⟨_,rfl,Nat.le_of_ble_eq_true rfl,_,_,rfl,⟨_,rfl,h2⟩,rfl⟩,fun v G sG hv=>q v G (s12.trans sG) hv⟩
 | true=>
  refine jcF ?_
  refine ⟨_,rfl,_,rfl,_,rfl,_,rfl,_,rfl,lw,W,true,about,more,bs,vc,needs,rfl,s12 _ _ hlw,hvc.mono s12,fun v H3 s3 h3=>?_⟩
  obtain ⟨t',v4',v5',rfl,ht',hv4',hv5'⟩:=Yu h3
  refine ⟨t',_,rfl,SqT.of ht',rfl,_,_,rfl,?_⟩
  refine gs ?_
  refine ⟨_,_,rfl,?_⟩
  refine gs ?_
  refine ⟨_,_,rfl,?_⟩
  refine gs ?_
  refine ⟨_,_,rfl,?_⟩
  refine gs ?_
  refine ⟨_,_,rfl,?_⟩
  refine gs ?_
  refine ⟨rfl,?_⟩
  have s13:=s12.trans s3
  refine ⟨.tup ((qY W about more bs needs true).map Pr.toD),⟨_,rfl,Nat.le_of_ble_eq_true rfl,_,_,rfl,⟨_,rfl,Nat.le_of_ble_eq_true rfl,_,_,rfl,rfl,_,_,rfl,(fun G sG Q q=>⟨_,rfl,lw,_,_,_,rfl,rfl,SqL.of (sG _ _ (s13 _ _ hlw)),rfl,q _ G (kL G) jA⟩),_,_,rfl,⟨_,rfl,Nat.le_of_ble_eq_true rfl,_,_,rfl,⟨_,rfl,jA⟩,rfl⟩,_,_,rfl,⟨_,rfl,Nat.le_of_ble_eq_true rfl,_,_,rfl,⟨_,rfl,jA⟩,_,_,rfl,⟨_,rfl,jA⟩,rfl⟩,_,_,rfl,⟨_,rfl,hv4'⟩,_,_,rfl,⟨_,rfl,Nat.le_of_ble_eq_true rfl,rfl⟩,_,_,rfl,⟨_,rfl,hv5'⟩,rfl⟩,_,_,rfl,⟨_,rfl,(h2.mono s3)⟩,rfl⟩,fun v G sG hv=>q v G (s13.trans sG) hv⟩
end
open PySem L2
abbrev jaH:Stmt:=top 49
def dW (about:Bool) (more base:Int) (num:Nat) (q1 q2:jK):Nat→jK×jK
 | 0=>(q1,q2)
 | k+1=>if about=true∧(num - (k+1)) % 2=1 then ((dW about more base num q1 q2 k).1,JZ (dW about more base num q1 q2 k).2 ((k+1:Nat):Int) (base+((k+1:Nat):Int) * more)) else (JZ (dW about more base num q1 q2 k).1 ((k+1:Nat):Int) (base+((k+1:Nat):Int) * more),(dW about more base num q1 q2 k).2)
theorem jbW {more base:Int} {num:Nat} {q1 q2:jK}:∀ k,dW false more base num q1 q2 k=wr7 false more base k q1 q2
 | 0=>rfl
 | k+1=>by
  unfold dW wr7
  rw [if_neg (fun z=>by cases z.1),jbW k]
  rfl
theorem jbU {more base:Int} {num:Nat} {q1 q2:jK}:∀ k,k≤num→dW true more base (num+1) q1 q2 k=((dW true more base num q2 q1 k).2,(dW true more base num q2 q1 k).1)
 | 0,_=>rfl
 | k+1,h=>by
  unfold dW
  rw [jbU k (by omega)]
  by_cases g:(num - (k+1)) % 2=1
  ·rw [if_neg (fun z=>by have:=z.2;omega),if_pos ⟨rfl,g⟩]
  ·rw [if_pos ⟨rfl,by omega⟩,if_neg (fun z=>g z.2)]
theorem jfN {about:Bool} {more base:Int}:∀ (num:Nat) (q1 q2:jK),dW about more base num q1 q2 num=wr7 about more base num q1 q2:=by
 cases about with
 | false=>intro num q1 q2;exact jbW num
 | true=>
  intro num
  induction num with
  | zero=>intro q1 q2;rfl
  | succ num ih=>
   intro q1 q2
   unfold dW wr7
   rw [if_neg (fun z=>by have:=z.2;omega),jbU num (Nat.le_refl _),ih,if_pos rfl]
theorem jbV {about:Bool} {more base:Int} {num:Nat} {q1 q2:jK} (w1:q1.2.2=[]) (w2:q2.2.2=[]):∀ k,(dW about more base num q1 q2 k).1.1=q1.1∧(dW about more base num q1 q2 k).1.2.1=q1.2.1∧(dW about more base num q1 q2 k).1.2.2.length≤k∧(dW about more base num q1 q2 k).2.1=q2.1∧(dW about more base num q1 q2 k).2.2.1=q2.2.1∧(dW about more base num q1 q2 k).2.2.2.length≤k
 | 0=>⟨rfl,rfl,by show q1.2.2.length≤0;rw [w1];exact Nat.le_refl _,rfl,rfl,by show q2.2.2.length≤0;rw [w2];exact Nat.le_refl _⟩
 | k+1=>by
  obtain ⟨a,b,c,d,e,f⟩:=jbV (about:=about) (more:=more) (base:=base) (num:=num) w1 w2 k
  unfold dW
  split
  ·refine ⟨a,b,Nat.le_succ_of_le c,d,e,?_⟩
   show (_++[_]).length≤k+1
   rw [List.length_append]
   exact Nat.succ_le_succ f
  ·refine ⟨a,b,?_,d,e,Nat.le_succ_of_le f⟩
   show (_++[_]).length≤k+1
   rw [List.length_append]
   exact Nat.succ_le_succ c
def jdk (K:W.Frag):Sp:=fun vs H Q _=>∃ (lw rl:Addr) (W:W7) (a pl:Nat) (least:Int) (twin about:Bool) (more base:Int) (q1 q2:jK) (v1 v2:V),vs=[.ref lw,.int a,.int least,.int pl,.bl twin,.bl about,.int more,.int base,.ref rl]∧H lw=some (.lst (w7L W))∧H rl=some (.lst [v1,v2])∧Held H (qI q1) v1∧Held H (qI q2) v2∧j7 q1.2.1∧j7 q2.2.1∧q1.2.1.length≤10∧q2.2.1.length≤10∧q1.2.2=[]∧q2.2.2=[]∧a≤29∧-1≤least∧least≤12∧
 ((a:Int) < least→∀ t t2 H',Same H H'→H' t2=some (.tup [.str "unmet",.int pl])→H' t=some (.tup [.ref t2,.int 0])→Q (.ref t) H')∧
 (¬ (a:Int) < least→∀ t v H',Same H H'→EndAt K H' (Zn W twin about more base a least pl q1 q2).1 v→H' t=some (.tup [v,.int (Zn W twin about more base a least pl q1 q2).2])→Q (.ref t) H')
theorem YW {H:Hp} {d:D} {u:Int} {v:V} (h:Held H (.tup [d,.int u]) v):∃ t v',v=.ref t∧H t=some (.tup [v',.int u])∧Held H d v':=by
 obtain ⟨t,xs,rfl,ht,h1⟩:=jo h
 obtain ⟨v1,r1,rfl,e1,h2⟩:=jb h1
 obtain ⟨v2,r2,rfl,e2,h3⟩:=jb h2
 cases js h3
 cases j3 e2
 exact ⟨t,v1,rfl,ht,e1⟩
theorem jb6 {H:Hp} {k:Int} {v:V} (h:Held H (.tup [.str "unmet",.int k]) v):∃ t,v=.ref t∧H t=some (.tup [.str "unmet",.int k]):=by
 obtain ⟨t,xs,rfl,ht,h1⟩:=jo h
 obtain ⟨v1,r1,rfl,e1,h2⟩:=jb h1
 obtain ⟨v2,r2,rfl,e2,h3⟩:=jb h2
 cases js h3
 cases jq e1
 cases j3 e2
 exact ⟨t,rfl,ht⟩
theorem jay {K:W.Frag} {H:Hp} {f kd:Str} {p:List Int} {k:Nat} {v:V} (h:Held H (.tup [.str "untrue",.str f,.str kd,qw p,.int k]) v):EndAt K H (.untrue f kd p k) v:=by
 obtain ⟨t,xs,rfl,ht,h1⟩:=jo h
 obtain ⟨v1,r1,rfl,e1,h2⟩:=jb h1
 obtain ⟨v2,r2,rfl,e2,h3⟩:=jb h2
 obtain ⟨v3,r3,rfl,e3,h4⟩:=jb h3
 obtain ⟨v4,r4,rfl,e4,h5⟩:=jb h4
 obtain ⟨v5,r5,rfl,e5,h6⟩:=jb h5
 cases js h6
 cases jq e1
 cases jq e2
 cases jq e3
 cases j3 e5
 exact ⟨t,v4,rfl,ht,e4⟩
theorem jbC {H:Hp} {z:Str} {v:V} (h:Held H (.tup [.str z]) v):∃ t,v=.ref t∧H t=some (.tup [.str z]):=by
 obtain ⟨t,xs,rfl,ht,h1⟩:=jo h
 obtain ⟨v1,r1,rfl,e1,h2⟩:=jb h1
 cases js h2
 cases jq e1
 exact ⟨t,rfl,ht⟩
theorem jgL {W:W7} {twin:Bool} {k:Nat}:atI (w7L W) ((k:Int) % 2 * (if twin=true then 1 else 0))=some (.str (if k % 2=0 then W.f else cf7 W twin)):=by
 unfold cf7 w7L
 cases twin with
 | false=>
  rw [if_neg Bool.false_ne_true,Int.mul_zero]
  by_cases h:k % 2=0
  ·rw [if_pos h];rfl
  ·rw [if_neg h];rfl
 | true=>
  rw [if_pos rfl,Int.mul_one]
  by_cases h:k % 2=0
  ·rw [if_pos h,show (k:Int) % 2=0 by omega];rfl
  ·rw [if_neg h,show (k:Int) % 2=1 by omega];rfl
section
variable {P:Program} {w:World} {K:W.Frag} {mg:Str→Option Value} {base:Heap}
theorem jgk {f:Addr} {fd:FuncData} (F:Fun K "_law_due" "_law_due" jaH f fd) (B:Free0 mg) (F_stairs:Fn P w K mg base 2 "_law_stairs" ["_law_row"] (Js K)):FnOk P w K mg base CX0 3 f fd ["_law_w","_law_number","_law_least","_law_place","_law_twin","_law_about","_law_more","_law_base","_law_rows"] (jdk K):=by
 have sc:FnScope ["_law_w","_law_number","_law_least","_law_place","_law_twin","_law_about","_law_more","_law_base","_law_rows","_law_fails","_law_held","_law_out","_law_n","_law_at"] ["_law_w","_law_number","_law_least","_law_place","_law_twin","_law_about","_law_more","_law_base","_law_rows"] (jf jaH):=fs
 refine F.okZ sc (fun vs H Q E h=>?_) (fun cdv A outer s H vs Q E hr h=>?_)
 ·obtain ⟨lw,rl,W,a,pl,least,twin,about,more,bs,q1,q2,v1,v2,rfl,_⟩:=h
  rfl
 obtain ⟨lw,rl,W,a,pl,least,twin,about,more,bs,q1,q2,v1,v2,rfl,hlw,hrl,hv1,hv2,up1,up2,l1,l2,w1,w2,ha29,hle1,hle2,qa,qb⟩:=h
 refine ⟨_,(jc (kn (jW jbz (zpv 1) (zpv 2) (jJ _)) (ju (jN (zpd (jP (je (jP (je kg (je (jU 3) jE))) (je yS jE)))))) jZ)
   (jc (jF (i:=9) sc.nd rfl ol (jG j6 (jG qt (zpv 1) (zpv 2)) jh))
   (jc (J8 (kn (jbj (jW jbA (zpv 9) (zpv 1) (jJ _)) (Zy (jW jbA (zpv 9) jh (jJ _)))).pt (ju (jN (zpd (jP (je (jP (je kg (je (zY (jX km (zpv 0) (jG kC (jG j5 (jG qt (zpv 9) jh) jh) (yN zf (by rfl) B.int_ JJ (jd (zpv 4) jk))) (fun _ _=>rfl))) (je kg (je (jP (je yS (je yS (je yS jE)))) (je (jU 3) jE)))))) (je (zY (jG kC jh (zpv 9))) jE)))))) jZ))
   (jc (kn (jW jbB (zpv 1) jh (jJ _)) (ju (jN (zpd (jP (je (jP (je kg jE)) (je yS jE)))))) jZ)
   (jc (jF (i:=10) sc.nd rfl ol (yN yf (by rfl) B.list_ Zt (jd (zpv 8) jk)))
   (jc (jF (i:=11) sc.nd rfl ol (zpv 7))
   (jc (YS PassesOwn.never rfl (J9 (by rfl) B.range_ (jd jh (jd (jG j6 (zpv 1) jh) jk))) (jr (i:=12) sc.nd rfl ol) (jc (jF (i:=11) sc.nd rfl ol (jG j6 (zpv 11) (zpv 6)))
   (jc (jF (i:=13) sc.nd rfl ol (jG kC (jG j5 (jG qt (zpv 1) (zpv 12)) jh) (yN zf (by rfl) B.int_ JJ (jd (zpv 5) jk))))
   (ju (qF (jG zT (qN zj (jX km (zpv 10) (zpv 13) (fun _ _=>rfl)) zH (qU jh)) (zpd (jP (je (zY (jG zT (jX jS (jX km (zpv 10) (zpv 13) (fun _ _=>rfl)) jh (fun _ _=>rfl)) (zpd (jP (je (jP (je (jU 12) (je (jU 11) jE))) jE))))) jE)))) (jbl (zpv 10) (zpv 13) zL))))))
   (ju (jN (kQ (jd (kQ (jd ke (jd (zpv 11) (jd (Kf ["_law_row"] [] rfl (kW (sc:=jf jaH) (N:=["_law_w","_law_number","_law_least","_law_place","_law_twin","_law_about","_law_more","_law_base","_law_rows","_law_fails","_law_held","_law_out","_law_n","_law_at"]) rfl rfl (by decide +kernel)) (Kb (zpv 10)) (fun s H ex=>⟨(jr (i:=0) (show List.Nodup (["_law_row"]:List Str) by decide +kernel) rfl ol),qu,(jL F_stairs hr (jd (zpv 0) jk))⟩)) jk)))) (jd (jG j6 jh (jG kC jh (zpv 1))) jk)))))))))))),?_⟩
 refine zJ (σ':=[some (.ref lw),some (.int a),some (.int least),some (.int pl),some (.bl twin),some (.bl about),some (.int more),some (.int bs),some (.ref rl),none,none,none,none,none]) rfl ?_
 refine ⟨_,rfl,_,rfl,_,_,rfl,rfl,_,rfl,j9 (fun d=>?_) (fun d=>?_)⟩
 ·have d':=of_decide_eq_true d
  refine ⟨.tup [.tup [.str "unmet",.int pl],.int 0],⟨_,rfl,Nat.le_of_ble_eq_true rfl,_,_,rfl,⟨_,rfl,Nat.le_of_ble_eq_true rfl,_,_,rfl,rfl,_,_,rfl,⟨_,rfl,jM⟩,rfl⟩,_,_,rfl,rfl,rfl⟩,fun v G sG hv=>?_⟩
  obtain ⟨t,v',rfl,ht,hv'⟩:=YW hv
  obtain ⟨t2,rfl,ht2⟩:=jb6 hv'
  exact qa d' t t2 G sG ht2 ht
 have d':¬ (a:Int) < least:=fun z=>d (decide_eq_true z)
 have qb:=qb d'
 clear qa
 refine ⟨_,rfl,_,rfl,_,_,rfl,rfl,_,_,rfl,rfl,?_⟩
 dsimp only
 refine gs ?_
 unfold Zn at qb
 refine ⟨fun σ' G=>σ'=[some (.ref lw),some (.int a),some (.int least),some (.int pl),some (.bl twin),some (.bl about),some (.int more),some (.int bs),some (.ref rl),some (.int ((a:Int) - least+1)),none,none,none,none]∧G=H∧¬ ((a:Int) - least+1≤a∧(a:Int) - least+1≤21),?_,?_⟩
 ·refine ⟨_,rfl,_,rfl,_,_,rfl,rfl,_,rfl,j9 (fun c1=>?_) (fun c1=>jcF ⟨rfl,rfl,fun z=>c1 (decide_eq_true z.1)⟩)⟩
  refine ⟨_,rfl,_,_,rfl,rfl,_,rfl,j9 (fun c2=>?_) (fun c2=>⟨rfl,rfl,fun z=>c2 (decide_eq_true z.2)⟩)⟩
  have hc:(a:Int) - least+1≤a∧(a:Int) - least+1≤21:=⟨of_decide_eq_true c1,of_decide_eq_true c2⟩
  rw [if_pos hc] at qb
  obtain ⟨k,hk⟩:∃ k:Nat,(a:Int) - least=k:=⟨((a:Int) - least).toNat,by omega⟩
  rw [hk,Int.toNat_natCast] at qb
  dsimp only at qb
  refine ⟨.tup [.tup [.str "untrue",.str (if k % 2=0 then W.f else cf7 W twin),.str "need",qw [0,0,1],.int pl],.int ((3 * (k+1):Nat):Int)],⟨_,rfl,Nat.le_of_ble_eq_true rfl,_,_,rfl,⟨_,rfl,Nat.le_of_ble_eq_true rfl,_,_,rfl,rfl,_,_,rfl,(fun G sG Q q=>⟨_,rfl,_,rfl,_,_,rfl,rfl,_,_,rfl,rfl,(by show (0:Int) < _;decide),_,rfl,.inr ⟨_,rfl,_,_,rfl,rfl,.inr ⟨by split <;> decide,by split <;> decide⟩,lw,_,_,_,rfl,rfl,SqL.of (sG _ _ hlw),by rw [show (a:Int) - least+1 - 1=(k:Int) by omega];exact jgL,q _ G (kL G) jA⟩⟩),_,_,rfl,rfl,_,_,rfl,⟨_,rfl,Nat.le_of_ble_eq_true rfl,_,_,rfl,rfl,_,_,rfl,rfl,_,_,rfl,rfl,rfl⟩,_,_,rfl,⟨_,rfl,jM⟩,rfl⟩,_,_,rfl,(fun G sG Q q=>⟨_,rfl,_,_,rfl,rfl,.inl ⟨by decide,by decide⟩,q _ G (kL G) (by show Held G _ (V.int (3 * ((a:Int) - least+1)));rw [show 3 * ((a:Int) - least+1)=((3 * (k+1):Nat):Int) by omega];exact jM)⟩),rfl⟩,fun v G sG hv=>?_⟩
  obtain ⟨t,v',rfl,ht,hv'⟩:=YW hv
  exact qb t v' G sG (jay hv') ht
 rintro σ' G ⟨rfl,rfl,hc⟩
 rw [if_neg hc] at qb
 refine ⟨_,rfl,_,_,rfl,rfl,_,rfl,j9 (fun c1=>?_) (fun c1=>?_)⟩
 ·have c1':20 < a:=by have:=of_decide_eq_true c1;omega
  rw [if_pos c1'] at qb
  refine ⟨.tup [.tup [.str "deep"],.int 63],⟨_,rfl,Nat.le_of_ble_eq_true rfl,_,_,rfl,⟨_,rfl,Nat.le_of_ble_eq_true rfl,_,_,rfl,rfl,rfl⟩,_,_,rfl,rfl,rfl⟩,fun v G sG hv=>?_⟩
  obtain ⟨t,v',rfl,ht,hv'⟩:=YW hv
  obtain ⟨t2,rfl,ht2⟩:=jbC hv'
  exact qb t (.ref t2) G sG ⟨t2,rfl,ht2⟩ ht
 have c1':¬ 20 < a:=fun z=>c1 (decide_eq_true (by omega))
 rw [if_neg c1'] at qb
 dsimp only at qb
 refine ⟨_,rfl,rl,_,rfl,.inl (SqL.of hrl),fun hl hhl=>?_⟩
 have s1:=j0 hhl (.lst [v1,v2])
 have e1:upd G hl (.lst [v1,v2]) hl=some (.lst [v1,v2]):=ja
 generalize upd G hl (.lst [v1,v2])=H1 at *
 refine gs ?_
 refine ⟨_,rfl,?_⟩
 refine gs ?_
 refine ⟨_,rfl,_,_,rfl,rfl,1,((a:Int)+1),rfl,⟨by omega,by omega,by omega,by omega⟩,?_⟩
 have s01:Same G H1:=s1
 have hhl0:=hhl
 refine yG (lo:=1) (n:=((a:Int)+1 - 1).toNat) (fun i σ G'=>∃ (u12 u13:Option V) (x1 x2:V),σ=[some (.ref lw),some (.int a),some (.int least),some (.int pl),some (.bl twin),some (.bl about),some (.int more),some (.int bs),some (.ref rl),some (.int ((a:Int) - least+1)),some (.ref hl),some (.int (bs+(i:Int) * more)),u12,u13]∧Same G G'∧G' hl=some (.lst [x1,x2])∧Held G' (qI (dW about more bs a q1 q2 i).1) x1∧Held G' (qI (dW about more bs a q1 q2 i).2) x2) ⟨none,none,v1,v2,by rw [show ((0:Nat):Int) * more=0 by omega,Int.add_zero],s01,e1,hv1.mono s1,hv2.mono s1⟩ ?_ ?_
 ·rintro i σ G' hi ⟨u12,u13,x1,x2,rfl,sG,ehl,hx1,hx2⟩
  have hi':i < a:=by omega
  refine gs ?_
  refine ⟨_,rfl,_,rfl,_,_,rfl,rfl,?_⟩
  dsimp only
  rw [show bs+(i:Int) * more+more=bs+((i+1:Nat):Int) * more by rw [Int.add_assoc];congr 1;rw [show ((i+1:Nat):Int)=(i:Int)+1 by omega,Int.add_mul,Int.one_mul]]
  refine gs ?_
  refine ⟨_,rfl,_,rfl,_,_,rfl,rfl,_,_,rfl,rfl,(by show (0:Int) < _;decide),_,rfl,.inr ⟨_,rfl,_,_,rfl,rfl,.inr ⟨by split <;> decide,by split <;> decide⟩,?_⟩⟩
  dsimp only
  obtain ⟨idx,xs,qs,hqw,hat,hixn,hxs,hset⟩:∃ (idx:Nat) (xs:V) (qs:jK),qs.2.2.length≤i∧atI [x1,x2] (((a:Int) - (1+(i:Int))) % 2 * (if about=true then 1 else 0))=some xs∧ixN 2 (((a:Int) - (1+(i:Int))) % 2 * (if about=true then 1 else 0))=some idx∧Held G' (qI qs) xs∧∀ (x':V) (G2:Hp),Same G' G2→Held G2 (qI (JZ qs ((i+1:Nat):Int) (bs+((i+1:Nat):Int) * more))) x'→∃ y1 y2,[x1,x2].set idx x'=[y1,y2]∧Held G2 (qI (dW about more bs a q1 q2 (i+1)).1) y1∧Held G2 (qI (dW about more bs a q1 q2 (i+1)).2) y2:=by
   by_cases hcnd:about=true∧(a - (i+1)) % 2=1
   ·rw [if_pos hcnd.1,show ((a:Int) - (1+(i:Int))) % 2 * 1=1 by omega]
    refine ⟨1,x2,_,(jbV w1 w2 i).2.2.2.2.2,rfl,rfl,hx2,fun x' G2 sg hx'=>⟨x1,x',rfl,?_,?_⟩⟩
    ·unfold dW;rw [if_pos hcnd];exact hx1.mono sg
    ·unfold dW;rw [if_pos hcnd];exact hx'
   ·have e0:((a:Int) - (1+(i:Int))) % 2 * (if about=true then 1 else 0)=0:=by
     by_cases g:about=true
     ·have:¬ (a - (i+1)) % 2=1:=fun z=>hcnd ⟨g,z⟩
      rw [if_pos g];omega
     ·rw [if_neg g,Int.mul_zero]
    rw [e0]
    refine ⟨0,x1,_,(jbV w1 w2 i).2.2.1,rfl,rfl,hx1,fun x' G2 sg hx'=>⟨x',x2,rfl,?_,?_⟩⟩
    ·unfold dW;rw [if_neg hcnd];exact hx'
    ·unfold dW;rw [if_neg hcnd];exact hx2.mono sg
  generalize ((a:Int) - (1+(i:Int))) % 2 * (if about=true then 1 else 0)=at' at *
  refine gs ?_
  obtain ⟨ra,rc,re,rqs,rws,rfl,hra,hrc,hrqs,hre,hrws⟩:=Kz hxs
  refine ⟨_,rfl,_,rfl,hl,_,_,_,rfl,rfl,SqL.of ehl,hat,_,rfl,ra,_,rfl,SqT.of hra,(fun h=>absurd h.2 (by show ¬ (HT.sIx 3 3 (some 2)=3);decide)),fun t1 ht1=>?_⟩
  rw [show qZ [V.int qs.1,V.ref rc,V.ref re] none (some 2)=[V.int qs.1,V.ref rc] from rfl]
  have g1:=j0 ht1 (.tup [V.int qs.1,V.ref rc])
  have et1:upd G' t1 (.tup [V.int qs.1,V.ref rc]) t1=some (.tup [V.int qs.1,V.ref rc]):=ja
  generalize upd G' t1 (.tup [V.int qs.1,V.ref rc])=G1 at *
  have hwl:rws.length≤900:=(by have h1:=hrws.length;rw [List.length_map] at h1;omega)
  refine ⟨.tup [.tup ((JZ qs ((i+1:Nat):Int) (bs+((i+1:Nat):Int) * more)).2.2.map pD)],⟨_,rfl,Nat.le_of_ble_eq_true rfl,_,_,rfl,(fun G2 sG2 Q2 qq=>⟨_,rfl,_,rfl,hl,_,_,_,rfl,rfl,SqL.of (sG2 _ _ (g1 _ _ ehl)),hat,ra,_,_,_,rfl,rfl,SqT.of (sG2 _ _ (g1 _ _ hra)),rfl,.tup [pD (((i+1:Nat):Int),bs+((i+1:Nat):Int) * more)],⟨_,rfl,Nat.le_of_ble_eq_true rfl,_,_,rfl,⟨_,rfl,Nat.le_of_ble_eq_true rfl,_,_,rfl,⟨_,rfl,(by show Held _ _ (V.int (1+(i:Int)));rw [show (1+(i:Int))=((i+1:Nat):Int) by omega];exact jM)⟩,_,_,rfl,⟨_,rfl,jM⟩,rfl⟩,rfl⟩,fun vv G3 sG3 hvv=>?_⟩),rfl⟩,fun v2' G3 g3 hv2'=>?_⟩
  ·obtain ⟨ta,txs,rfl,hta,htxs⟩:=jo hvv
   have tl:=htxs.length
   refine ⟨re,ta,rws,txs,rfl,rfl,sG3 _ _ (sG2 _ _ (g1 _ _ hre)),hta,Nat.le_trans (by simp at tl;omega) (yo (Nat.le_refl 1000)),fun p G4 sG4 hp=>qq _ _ (sG3.trans sG4) (jQ hp ?_)⟩
   unfold JZ
   dsimp only
   rw [List.map_append]
   exact qD ((((hrws.mono g1).mono sG2).mono sG3).mono sG4) (htxs.mono sG4)
  ·obtain ⟨tb,tbs,rfl,htb,htbs⟩:=jo hv2'
   have tl:=htbs.length
   refine ⟨t1,tb,_,tbs,rfl,rfl,g3 _ _ et1,htb,Nat.le_trans (by simp at tl ⊢;omega) (yo (Nat.le_refl 1000)),fun p G4 sG4 hp=>?_⟩
   have g4:=g1.trans (g3.trans sG4)
   have hnew:Held G4 (qI (JZ qs ((i+1:Nat):Int) (bs+((i+1:Nat):Int) * more))) (.ref p):=by
    refine jQ hp ?_
    exact qD (ds:=[.int qs.1,.tup (qs.2.1.map pD)]) (ji jM (ji (jQ (g4 _ _ hrc) (hrqs.mono g4)) jy)) (htbs.mono sG4)
   have ehl4:=g4 _ _ ehl
   refine ⟨_,rfl,_,rfl,hl,_,_,idx,rfl,rfl,ehl4,hixn,?_⟩
   have tkU:TK G4 (upd G4 hl (.lst ([x1,x2].set idx (.ref p)))):=TK.upd ehl4 (fun _ z=>by cases z)
   obtain ⟨y1,y2,ey,hy1,hy2⟩:=hset (.ref p) G4 g4 hnew
   rw [ey] at tkU ⊢
   refine ⟨_,_,y1,y2,rfl,fun b o e=>?_,ja,tkU.held hy1,tkU.held hy2⟩
   rw [jg (jl e hhl0)]
   exact g4 _ _ (sG _ _ e)
 rintro σ G' ⟨u12,u13,x1,x2,rfl,sG,ehl,hx1,hx2⟩
 rw [show ((a:Int)+1 - 1).toNat=a by omega] at hx1 hx2 ⊢
 rw [jfN] at hx1 hx2
 have hwk:=jbV (about:=about) (more:=more) (base:=bs) (num:=a) w1 w2 a
 rw [jfN] at hwk
 generalize (wr7 about more bs a q1 q2).1=z1 at *
 generalize (wr7 about more bs a q1 q2).2=z2 at *
 obtain ⟨k1,k2,k3,k4,k5,k6⟩:=hwk
 refine ⟨_,rfl,_,rfl,hl,rfl,⟨_,SqL.of ehl⟩,fun p hp=>?_⟩
 refine yJ (xs:=[x1,x2]) (fun j σ' G2=>∃ u vs,σ'=[u]∧Same G' G2∧G2 p=some (.lst vs)∧RowsAt K G2 ([z1,z2].take j) vs∧vs.length=j) ⟨none,[],rfl,jj hp _,ja,trivial,rfl⟩ ?_ ?_ ?_
 ·rintro j σ' G2 _ ⟨u,vs,rfl,sG2,_⟩
  exact SqL.of (sG2 _ _ ehl)
 ·rintro j x σ' G2 hx ⟨u,vs,rfl,sG2,hGp,hR,hvl⟩
  have hj:j < 2:=(List.getElem?_eq_some_iff.mp hx).1
  obtain ⟨z,hz,hxz,up,le40,lw⟩:∃ z,[z1,z2].take (j+1)=[z1,z2].take j++[z]∧Held G2 (qI z) x∧j7 z.2.1∧z.2.1.length≤10∧z.2.2.length≤20:=by
   match j,hj with
   | 0,_=>cases hx;exact ⟨z1,rfl,hx1.mono sG2,by rw [k2];exact up1,by rw [k2];exact l1,by omega⟩
   | 1,_=>cases hx;exact ⟨z2,rfl,hx2.mono sG2,by rw [k5];exact up2,by rw [k5];exact l2,by omega⟩
  unfold qg yl
  refine zy ?_
  refine ⟨_,rfl,x,z,rfl,hxz,up,le40,lw,fun uu R G3 s3 hH hcan hlen heq=>?_⟩
  have hGp3:=s3 _ _ hGp
  have tk:TKF G3 (upd G3 p (.lst (vs++[uu]))):=TKF.updL hGp3
  refine ⟨_,hGp3,jz (by omega),_,vs++[uu],rfl,fun b o e=>?_,ja,?_,by rw [List.length_append,hvl];rfl⟩
  ·rw [jg (jl e hp)];exact s3 _ _ (sG2 _ _ e)
  ·rw [hz]
   exact ((hR.tk (TKF.same s3)).tk tk).snoc (RowIs.tk tk ⟨R,yp hH,hcan,hlen,heq⟩)
 rintro σ' G2 ⟨u,vs,rfl,sG2,hGp,hR,hvl⟩
 refine ⟨sm rfl,fun t2 ht2=>?_⟩
 have g2:=j0 ht2 (.tup [V.str "done",V.int (bs+(a:Int) * more),V.ref p])
 have et2:upd G2 t2 (.tup [V.str "done",V.int (bs+(a:Int) * more),V.ref p]) t2=some (.tup [V.str "done",V.int (bs+(a:Int) * more),V.ref p]):=ja
 generalize upd G2 t2 (.tup [V.str "done",V.int (bs+(a:Int) * more),V.ref p])=G3 at *
 refine ⟨_,rfl,_,_,rfl,rfl,.inl ⟨by decide,by decide⟩,_,_,rfl,rfl,sm rfl,fun t3 ht3=>?_⟩
 have g3:=j0 ht3 (.tup [V.ref t2,V.int (2+5 * (a:Int))])
 refine qb t3 (.ref t2) _ (sG.trans (sG2.trans (g2.trans g3))) ⟨t2,p,vs,rfl,g3 _ _ et2,g3 _ _ (g2 _ _ hGp),(hR.tk (TKF.same g2)).tk (TKF.same g3)⟩ ?_
 show upd G3 t3 (.tup [V.ref t2,V.int (2+5 * (a:Int))]) t3=_
 rw [ja,show (2+5 * (a:Int))=((5 * a+2:Nat):Int) by omega]
end
open PySem L2
abbrev yQ:Stmt:=top 50
def jbv (K:W.Frag):Sp:=fun vs H Q _=>∃ (a:Addr) (ns:List Int),vs=[.ref a]∧SqL K H a (ns.map V.int)∧ns.length≤63∧∀ H',Q (.bl true) H'
theorem jhF {ws:List Str} (h:ws.length=7):∃ a b c d e f g,ws=[a,b,c,d,e,f,g]:=by
 match ws,h with
 | [a,b,c,d,e,f,g],_=>exact ⟨a,b,c,d,e,f,g,rfl⟩
theorem jgK {f g n m r s x:Str} (h:WordsOk [f,g,n,m,r,s,x] 7):W7.Ok ⟨f,g,n,m,r,s,x⟩:=by
 have nd:=h.nd
 simp only [List.nodup_cons,List.mem_cons,List.mem_nil_iff,or_false,not_or,List.nodup_nil,and_true,not_false_eq_true] at nd
 obtain ⟨⟨f1,f2,f3,f4,f5,f6⟩,⟨g1,g2,g3,g4,g5⟩,⟨n1,n2,n3,n4⟩,⟨m1,m2,m3⟩,⟨r1,r2⟩,s1⟩:=nd
 exact ⟨f1,n1,n4,m3,r1,h.ne n (by simp),h.ne m (by simp),h.ne x (by simp),h.out n (by simp),h.out m (by simp),h.out x (by simp)⟩
theorem YF {H:Hp}:∀ {ds:List D} {vs:List V} {k:Nat} {d:D} {v:V},HeldL H ds vs→Held H d v→HeldL H (ds.set k d) (vs.set k v)
 | [],vs,k,d,v,h,_=>by rw [js h];exact jy
 | e :: ds,vs,0,d,v,h,hv=>by
  obtain ⟨u,r,rfl,e1,h2⟩:=jb h
  exact ji hv h2
 | e :: ds,vs,k+1,d,v,h,hv=>by
  obtain ⟨u,r,rfl,e1,h2⟩:=jb h
  exact ji e1 (YF h2 hv)
theorem jb9 {α:Type} {f:Nat→α} {n k:Nat} {d:α}:((List.range n).map f).set k d=(List.range n).map fun j=>if j=k then d else f j:=by
 apply List.ext_getElem
 ·simp
 ·intro i h1 h2
  simp only [List.getElem_set,List.getElem_map,List.getElem_range]
  by_cases h:k=i
  ·rw [if_pos h,if_pos h.symm]
  ·rw [if_neg h,if_neg (fun z=>h z.symm)]
def clI (W:W7) (least:Int) (pl i k:Nat):Cl:=if pl≤k∧k < pl+i then .least (.is W.n) (.is "") least else .least (.is "") (.is "") (0 - (k:Int))
def SOf:List jK→List D→Prop
 | [],[]=>True
 | q :: qs,d :: ds=>(∃ R,d=Km q.1 R∧Canon q.1 R∧R.length≤40+2 * q.2.2.length∧∀ z,jI q.1 R z=ki q z)∧SOf qs ds
 | _,_=>False
theorem SOf.snoc {q:jK} {d:D} (h:∃ R,d=Km q.1 R∧Canon q.1 R∧R.length≤40+2 * q.2.2.length∧∀ z,jI q.1 R z=ki q z):∀ (qs:List jK) (ds:List D),SOf qs ds→SOf (qs++[q]) (ds++[d])
 | [],[],_=>⟨h,trivial⟩
 | [],_ :: _,h'=>h'.elim
 | _ :: _,[],h'=>h'.elim
 | _ :: qs,_ :: ds,h'=>⟨h'.1,SOf.snoc h qs ds h'.2⟩
theorem SOf.eq:∀ (qs:List jK) (ds ds':List D),SOf qs ds→SOf qs ds'→ds=ds':=by
 intro qs
 induction qs with
 | nil=>
  intro ds ds' h h'
  cases ds with
  | cons _ _=>exact h.elim
  | nil=>cases ds' with
   | cons _ _=>exact h'.elim
   | nil=>rfl
 | cons q r ih=>
  intro ds ds' h h'
  cases ds with
  | nil=>exact h.elim
  | cons d t=>cases ds' with
   | nil=>exact h'.elim
   | cons d' t'=>
    obtain ⟨⟨R,e1,c1,_,z1⟩,g1⟩:=h
    obtain ⟨⟨R',e2,c2,_,z2⟩,g2⟩:=h'
    have:R=R':=KS c1 c2 fun p=>(z1 p).trans (z2 p).symm
    subst this
    rw [e1,e2,ih t t' g1 g2]
theorem SOf.rows {K:W.Frag} {H:Hp}:∀ (qs:List jK) (ds:List D) (vs:List V),SOf qs ds→HeldL H ds vs→RowsAt K H qs vs:=by
 intro qs
 induction qs with
 | nil=>
  intro ds vs h hv
  cases ds with
  | cons _ _=>exact h.elim
  | nil=>rw [js hv];trivial
 | cons q r ih=>
  intro ds vs h hv
  cases ds with
  | nil=>exact h.elim
  | cons d t=>
   obtain ⟨v,r',rfl,e1,h2⟩:=jb hv
   obtain ⟨⟨R,rfl,c1,l1,z1⟩,g1⟩:=h
   exact ⟨⟨R,yp e1,c1,l1,z1⟩,ih t r' g1 h2⟩
theorem jam:∀ ps:List (Int×Int),D.depthL (ps.map pD)≤1
 | []=>by unfold List.map D.depthL;decide
 | a :: r=>by
  rw [List.map_cons]
  unfold D.depthL
  have h1:=jam r
  have h2:(pD a).depth=1:=rfl
  omega
theorem SOf.depth:∀ (qs:List jK) (ds:List D),SOf qs ds→D.depthL ds≤3:=by
 intro qs
 induction qs with
 | nil=>
  intro ds h
  cases ds with
  | cons _ _=>exact h.elim
  | nil=>unfold D.depthL;decide
 | cons q r ih=>
  intro ds h
  cases ds with
  | nil=>exact h.elim
  | cons d t=>
   obtain ⟨⟨R,rfl,_⟩,g1⟩:=h
   unfold D.depthL
   have h1:=ih t g1
   have h2:=jam R
   have h3:(Km q.1 R).depth≤3:=by
    unfold Km D.depth D.depthL D.depthL D.depthL D.depth
    omega
   omega
theorem jgM {kind:Int} (h0:0≤kind) (h1:kind < 3) (a b c:Int):∃ x,atI [V.int a,V.int b,V.int c] kind=some (.int x)∧(x=a∨x=b∨x=c):=by
 have:kind=0∨kind=1∨kind=2:=by omega
 rcases this with rfl | rfl | rfl
 ·exact ⟨a,rfl,.inl rfl⟩
 ·exact ⟨b,rfl,.inr (.inl rfl)⟩
 ·exact ⟨c,rfl,.inr (.inr rfl)⟩
theorem YH {W:W7} {twin about:Bool} {more base:Int} {a:Nat} {least:Int} {pl:Nat} {q1 q2:jK} (ha:a≤29) (h1:-1≤least):(Zn W twin about more base a least pl q1 q2).2≤390∧(Zn W twin about more base a least pl q1 q2).1≠.stuck:=by
 unfold Zn
 split
 ·rename_i h
  refine ⟨?_,fun z=>by cases z⟩
  dsimp only
  omega
 ·split
  ·exact ⟨by decide,fun z=>by cases z⟩
  ·refine ⟨?_,fun z=>by cases z⟩
   dsimp only
   omega
def Fin7 (K:W.Frag) (H:Hp) (least:Int) (a pl:Nat) (e:En) (v:V):Prop:=((a:Int) < least∧∃ t2,v=.ref t2∧H t2=some (.tup [.str "unmet",.int pl]))∨(¬ (a:Int) < least∧EndAt K H e v)
theorem Fin7.mono {K:W.Frag} {H H':Hp} {least:Int} {a pl:Nat} {e:En} {v:V} (h:Fin7 K H least a pl e v) (s:Same H H'):Fin7 K H' least a pl e v:=by
 rcases h with ⟨h1,t,h2,h3⟩ | ⟨h1,h2⟩
 ·exact .inl ⟨h1,t,h2,s _ _ h3⟩
 ·exact .inr ⟨h1,h2.mono s⟩
theorem Fin7.like {K:W.Frag} {H:Hp} {least:Int} {a pl:Nat} {e:En} {v v':V} (h:Fin7 K H least a pl e v) (h':Fin7 K H least a pl e v'):LikeV K H 5 v v':=by
 rcases h with ⟨h1,t,h2,h3⟩ | ⟨h1,h2⟩
 ·rcases h' with ⟨_,t',h2',h3'⟩ | ⟨h1',_⟩
  ·subst h2 h2'
   have l:=LikeL.cons (K:=K) (H:=H) (qx "unmet" 4) (.cons (qJ (pl:Int) 4) .nil)
   exact LikeV.tup h3 h3' l.1 l.2
  ·exact absurd h1 h1'
 ·rcases h' with ⟨h1',_⟩ | ⟨_,h2'⟩
  ·exact absurd h1' h1
  ·exact jdR h2 h2'
def Yc (W:W7) (twin about:Bool) (more base:Int) (a:Nat) (least:Int) (pl:Nat) (q1 q2:jK):En×Nat:=if (a:Int) < least then (.spent,0) else Zn W twin about more base a least pl q1 q2
theorem jfj {K:W.Frag} {H:Hp} {Q:VK} {E:XK} {vs:List V} {lw rl:Addr} {W:W7} {a pl:Nat} {least:Int} {twin about:Bool} {more base:Int} {q1 q2:jK} {v1 v2:V} (e:vs=[.ref lw,.int a,.int least,.int pl,.bl twin,.bl about,.int more,.int base,.ref rl]) (hlw:H lw=some (.lst (w7L W))) (hrl:H rl=some (.lst [v1,v2])) (hv1:Held H (qI q1) v1) (hv2:Held H (qI q2) v2) (up1:j7 q1.2.1) (up2:j7 q2.2.1) (l1:q1.2.1.length≤10) (l2:q2.2.1.length≤10) (w1:q1.2.2=[]) (w2:q2.2.2=[]) (ha:a≤29) (h1:-1≤least) (h2:least≤12)
  (C:∀ t v H',Same H H'→Fin7 K H' least a pl (Yc W twin about more base a least pl q1 q2).1 v→H' t=some (.tup [v,.int (Yc W twin about more base a least pl q1 q2).2])→Q (.ref t) H'):jdk K vs H Q E:=by
 unfold Yc at C
 refine ⟨lw,rl,W,a,pl,least,twin,about,more,base,q1,q2,v1,v2,e,hlw,hrl,hv1,hv2,up1,up2,l1,l2,w1,w2,ha,h1,h2,fun hlt t t2 H' s h2 ht=>?_,fun hlt t v H' s hE ht=>?_⟩
 ·rw [if_pos hlt] at C
  exact C t (.ref t2) H' s (.inl ⟨hlt,t2,rfl,h2⟩) ht
 ·rw [if_neg hlt] at C
  exact C t v H' s (.inr ⟨hlt,hE⟩) ht
theorem jeC {K:W.Frag} {H:Hp} {Q:VK} {E:XK} {vs:List V} {pg nl rl il:Addr} {W:W7} {a pl:Nat} {least:Int} {twin about:Bool} {more base:Int} {needs:List Cl} {q1 q2:jK} {most:Int} {e2:En} {u2:Nat} (hN:K2 W needs least pl) (e:vs=[.ref pg,.str W.f,.ref nl,.ref rl,.ref il,.int most]) (hR:RunAt K 2 H pg nl rl il (qY W about more base needs twin) (pr7 W about more base needs W.f (cf7 W twin)) [(a:Int)] [q1,q2] [])
  (h0:(a:Int) < least→u2=0) (h1:¬ (a:Int) < least→RunsTo (qY W about more base needs twin) [] most ⟨[kU (pr7 W about more base needs W.f (cf7 W twin)) [(a:Int)] [q1,q2]],0,0,0⟩ (e2,u2)∧e2≠.stuck∧u2≤390)
  (C:∀ t v H',Same H H'→Fin7 K H' least a pl e2 v→H' t=some (.tup [v,.int u2])→Q (.ref t) H'):jdf K 2 vs H Q E:=by
 have hun:qz (kU (pr7 W about more base needs W.f (cf7 W twin)) [(a:Int)] [q1,q2]).N (kU (pr7 W about more base needs W.f (cf7 W twin)) [(a:Int)] [q1,q2]).L needs=if (a:Int) < least then some pl else none:=hN a q1 q2
 refine ⟨pg,nl,rl,il,_,pr7 W about more base needs W.f (cf7 W twin),_,_,_,most,e,hR,fun k hk t t2 H' s h2 ht=>?_,fun hk=>?_⟩
 ·have hk':=hun.symm.trans hk
  by_cases hlt:(a:Int) < least
  ·rw [if_pos hlt] at hk'
   cases hk'
   refine C t (.ref t2) H' s (.inl ⟨hlt,t2,rfl,h2⟩) ?_
   rw [h0 hlt]
   exact ht
  ·rw [if_neg hlt] at hk'
   cases hk'
 ·have hk':=hun.symm.trans hk
  by_cases hlt:(a:Int) < least
  ·rw [if_pos hlt] at hk'
   cases hk'
  ·obtain ⟨g1,g2,g3⟩:=h1 hlt
   exact ⟨e2,u2,g1,g2,g3,fun t v H' s hE ht=>C t v H' s (.inr ⟨hlt,hE⟩) ht⟩
section
variable {P:Program} {w:World} {K:W.Frag} {mg:Str→Option Value} {base:Heap}
theorem jgj {f:Addr} {fd:FuncData} (F:Fun K "law" "law" yQ f fd) (B:Free0 mg) (F_cell_at:Fn P w K mg base 1 "_law_cell_at" ["_law_script","_law_k"] (jdl K)) (F_words:Fn P w K mg base 1 "_law_words" ["_law_cell","_law_many"] jbs) (F_mix:Fn P w K mg base 1 "_law_mix" ["_law_seed","_law_k"] jdh) (F_made:Fn P w K mg base 2 "_law_made" ["_law_seed","_law_near"] jdi)
  (F_program:Fn P w K mg base 2 "_law_program" ["_law_w","_law_claims","_law_twin","_law_about","_law_more","_law_base"] Yl) (F_due:Fn P w K mg base 3 "_law_due" ["_law_w","_law_number","_law_least","_law_place","_law_twin","_law_about","_law_more","_law_base","_law_rows"] (jdk K)) (F_stairs:Fn P w K mg base 2 "_law_stairs" ["_law_row"] (Js K)) (F_run:Fn P w K mg base 14 "run" ["program","f","numbers","rows","inputs","most"] (jdf K 2)):FnOk P w K mg base CX0 15 f fd ["_law_script"] (jbv K):=by
 have sc:FnScope ["_law_script","_law_w","_law_near","_law_number","_law_least","_law_twin","_law_about","_law_claims","_law_place","_law_k","_law_more","_law_base","_law_rows","_law_program_here","_law_end","_law_used","_law_most","_law_held","_law_found"] ["_law_script"] (jf yQ):=fs
 refine F.okZ sc (fun vs H Q E h=>?_) (fun cdv A outer s H vs Q E hr h=>?_)
 ·obtain ⟨a,ns,rfl,_⟩:=h
  rfl
 obtain ⟨a,ns,rfl,hS,hln,q⟩:=h
 have hu:=yL hr
 have hu5:(A.deeper (PyProof.Rows.envOfC "law" (jf yQ) s.heap.objs.size f cdv)).units+1+5 < cLine:=by have:=hr.units;omega
 have hu3:(A.deeper (PyProof.Rows.envOfC "law" (jf yQ) s.heap.objs.size f cdv)).units+1+3 < cLine:=by have:=hr.units;omega
 refine ⟨_,(jc (jF (i:=1) sc.nd rfl ol (jL F_words hr (jd (jL F_cell_at hr (jd (zpv 0) (jd jh jk))) (jd jh jk))))
   (jc (jF (i:=2) sc.nd rfl ol (jG qt (jG j5 (jG kC (jL F_cell_at hr (jd (zpv 0) (jd jh jk))) jh) (jG kC jh (jG zF jh jh))) (jG zF jh jh)))
   (jc (jF (i:=3) sc.nd rfl ol (jG j5 (jL F_cell_at hr (jd (zpv 0) (jd jh jk))) jh))
   (jc (jF (i:=4) sc.nd rfl ol (jG qt (jG j5 (jL F_cell_at hr (jd (zpv 0) (jd jh jk))) jh) jh))
   (jc (jF (i:=5) sc.nd rfl ol (y6 kZ (jG j5 (jG kz (jL F_cell_at hr (jd (zpv 0) (jd jh jk))) jh) jh) jh (jJ _)))
   (jc (jF (i:=6) sc.nd rfl ol (y6 kZ (jG j5 (jG kz (jL F_cell_at hr (jd (zpv 0) (jd jh jk))) jh) jh) jh (jJ _)))
   (jc (qT (i:=7) sc.nd rfl ol ["_law_k"] [] rfl (kW (sc:=jf yQ) (N:=["_law_script","_law_w","_law_near","_law_number","_law_least","_law_twin","_law_about","_law_claims","_law_place","_law_k","_law_more","_law_base","_law_rows","_law_program_here","_law_end","_law_used","_law_most","_law_held","_law_found"]) rfl rfl (by decide +kernel)) (Ka (by rfl) B.range_ (jd (jG j6 jh (jG j5 (jL F_cell_at hr (jd (zpv 0) (jd jh jk))) jh)) jk)) (fun s H ex=>⟨(jr (i:=0) (show List.Nodup (["_law_k"]:List Str) by decide +kernel) rfl ol),qu,(kQ (jd ke (jd (kQ (jd ke (jd ke jk))) (jd (kQ (jd ke (jd ke jk))) (jd (jG qt jh (zpv 0)) jk)))))⟩))
   (jc (jF (i:=8) sc.nd rfl ol (jG j5 (jG kz (jL F_cell_at hr (jd (zpv 0) (jd jh jk))) jh) (yO kf (by rfl) B.len_ zx (jd (zpv 7) jk))))
   (jc (YS PassesOwn.never rfl (J9 (by rfl) B.range_ (jd (zpv 8) (jd (yO (jcX rfl) (by rfl) B.min_ jgA (jd (jG j6 (zpv 8) jh) (jd (yO kf (by rfl) B.len_ zx (jd (zpv 7) jk)) jk))) jk))) (jr (i:=9) sc.nd rfl ol) (ju (qF (zpd (jP (je kg (je (jP (je kg (je (zY (jX km (zpv 1) jh (fun _ _=>rfl))) jE))) (je (jP (je kg (je kg jE))) (je (jU 4) jE)))))) (jbl (zpv 7) (zpv 9) zL))))
   (jc (jF (i:=10) sc.nd rfl ol (jG qt (jG j5 (jG kC (jL F_cell_at hr (jd (zpv 0) (jd jh jk))) jh) (jG kC jh (jG zF jh jh))) (jG zF jh jh)))
   (jc (jF (i:=11) sc.nd rfl ol (jG qt (jG j5 (jG kC (jL F_cell_at hr (jd (zpv 0) (jd jh jk))) jh) (jG kC jh (jG zF jh jh))) (jG zF jh jh)))
   (jc (qT (i:=12) sc.nd rfl ol ["_law_k"] [0,2] rfl (kW (sc:=jf yQ) (N:=["_law_script","_law_w","_law_near","_law_number","_law_least","_law_twin","_law_about","_law_claims","_law_place","_law_k","_law_more","_law_base","_law_rows","_law_program_here","_law_end","_law_used","_law_most","_law_held","_law_found"]) rfl rfl (by decide +kernel)) (Ka (by rfl) B.range_ (jd jh jk)) (fun s H ex=>⟨(jr (i:=0) (show List.Nodup (["_law_k","_law_script","_law_near"]:List Str) by decide +kernel) rfl ol),qu,(jL F_made hr (jd (jL F_mix hr (jd (jG j5 (jL F_cell_at hr (jd (zpv 1) (jd jh jk))) jh) (jd (zpv 0) jk))) (jd (zpv 2) jk)))⟩))
   (jc (jF (i:=13) sc.nd rfl ol (jL F_program hr (jd (zpv 1) (jd (yN qy (by rfl) B.tuple_ zW (jd (zpv 7) jk)) (jd (zpv 5) (jd (zpv 6) (jd (zpv 10) (jd (zpv 11) jk))))))))
   (jc (qF (jL F_due hr (jd (zpv 1) (jd (zpv 3) (jd (zpv 4) (jd (zpv 8) (jd (zpv 5) (jd (zpv 6) (jd (zpv 10) (jd (zpv 11) (jd (zpv 12) jk)))))))))) (q8 rfl (jw (jr (i:=14) sc.nd rfl ol) (jw (jr (i:=15) sc.nd rfl ol) qv))))
   (jc (jF (i:=16) sc.nd rfl ol (jX km (zB (jd (zpv 15) (jd (jG j6 (zpv 15) jh) (jd jh jk)))) (jG j5 (jL F_cell_at hr (jd (zpv 0) (jd jh jk))) jh) (fun _ _=>rfl)))
   (jc (J8 (kn (jbj (jW kZ (jG j5 (jG kz (jL F_cell_at hr (jd (zpv 0) (jd jh jk))) jh) jh) jh (jJ _)) (Zy (jW jbB (zpv 15) jh (jJ _)))).pt (ju (jF (i:=16) sc.nd rfl ol (jG j5 (jL F_cell_at hr (jd (zpv 0) (jd jh jk))) (zpv 15)))) jZ))
   (jc (J8 (kn (jW jbz (zpv 16) (zpv 15) (jJ _)) (jc (jF (i:=14) sc.nd rfl ol (zpd (jP (je kg jE))))
   (ju (jF (i:=15) sc.nd rfl ol (zpv 16)))) jZ))
   (jc (qT (i:=17) sc.nd rfl ol ["_law_row"] [] rfl (kW (sc:=jf yQ) (N:=["_law_script","_law_w","_law_near","_law_number","_law_least","_law_twin","_law_about","_law_claims","_law_place","_law_k","_law_more","_law_base","_law_rows","_law_program_here","_law_end","_law_used","_law_most","_law_held","_law_found"]) rfl rfl (by decide +kernel)) (Kb (zpv 12)) (fun s H ex=>⟨(jr (i:=0) (show List.Nodup (["_law_row"]:List Str) by decide +kernel) rfl ol),qu,(jL F_stairs hr (jd (zpv 0) jk))⟩))
   (jc (jF (i:=18) sc.nd rfl ol (jL F_run hr (jd (zpv 13) (jd (jX km (zpv 1) jh (fun _ _=>rfl)) (jd (zB (jd (zpv 3) jk)) (jd (zpv 17) (jd (zB jk) (jd (zpv 16) jk))))))))
   (ju (jN (jbm (yO jas (by rfl) B.isinstance_ Yf (jd (zpv 18) (jd (jc2 (v:=.ty "tuple") (by rfl) B.tuple_ zW (by rfl)) jk))) (jbm (y6 (jeV 5 hu5) (zpv 18) (kQ (jd (zpv 14) (jd (zpv 15) jk))) (jJ _)) (jeo (y6 (jeW 3 hu3) (zpv 17) (Kf ["_law_row"] [] rfl (kW (sc:=jf yQ) (N:=["_law_script","_law_w","_law_near","_law_number","_law_least","_law_twin","_law_about","_law_claims","_law_place","_law_k","_law_more","_law_base","_law_rows","_law_program_here","_law_end","_law_used","_law_most","_law_held","_law_found"]) rfl rfl (by decide +kernel)) (Kb (zpv 12)) (fun s H ex=>⟨(jr (i:=0) (show List.Nodup (["_law_row"]:List Str) by decide +kernel) rfl ol),qu,(jL F_stairs hr (jd (zpv 0) jk))⟩)) (jJ _)))))))))))))))))))))))))),?_⟩
 refine zJ (σ':=[some (.ref a),none,none,none,none,none,none,none,none,none,none,none,none,none,none,none,none,none,none]) rfl ?_
 refine ⟨_,rfl,a,ns,0,rfl,hS,by decide,by decide,fun c0=>⟨c0,7,rfl,by decide,fun lw ws H1 Wk s1 hlw0 hlw=>?_⟩⟩
 refine gs ?_
 obtain ⟨fn,gn,nn,mn,rn,sn,xn,rfl⟩:=jhF Wk.len
 let W:W7:=⟨fn,gn,nn,mn,rn,sn,xn⟩
 have ok:W.Ok:=jgK Wk
 have hlwW:H1 lw=some (.lst (w7L W)):=hlw
 have hS1:=s1.seq hS
 have md:∀ (x:Int) (m:Int),0 < m→0≤x % m∧x % m < m:=fun x m h=>⟨Int.emod_nonneg _ (by omega),Int.emod_lt_of_pos _ h⟩
 refine ⟨_,rfl,a,ns,0,rfl,hS1,by decide,by decide,fun c1=>?_⟩
 refine ⟨_,_,rfl,rfl,.inr ⟨by decide,by decide⟩,_,_,rfl,rfl,⟨by decide,by decide,by decide⟩,_,_,rfl,rfl,.inl ⟨by decide,by decide⟩,_,_,rfl,rfl,(by show (0:Int) < _;decide),_,_,rfl,rfl,⟨by decide,by decide,by decide⟩,_,_,rfl,rfl,?_⟩
 dsimp only
 generalize c1 * 998244353 % (2 * 10 ^ Int.toNat 17) - 10 ^ Int.toNat 17=near
 refine gs ?_
 refine ⟨_,rfl,a,ns,1,rfl,hS1,by decide,by decide,fun c2=>⟨_,_,rfl,rfl,(by show (0:Int) < _;decide),?_⟩⟩
 dsimp only
 obtain ⟨num,enum,hnum⟩:∃ R:Nat,c2 % 30=R∧R≤29:=⟨(c2 % 30).toNat,by have:=md c2 30 (by decide);omega,by have:=md c2 30 (by decide);omega⟩
 rw [enum]
 refine gs ?_
 refine ⟨_,rfl,a,ns,2,rfl,hS1,by decide,by decide,fun c3=>⟨_,_,rfl,rfl,(by show (0:Int) < _;decide),_,_,rfl,rfl,?_⟩⟩
 dsimp only
 have hlst:-1≤c3 % 14 - 1∧c3 % 14 - 1≤12:=by have:=md c3 14 (by decide);omega
 generalize c3 % 14 - 1=least at *
 refine gs ?_
 refine ⟨_,rfl,a,ns,3,rfl,hS1,by decide,by decide,fun c4=>⟨_,_,rfl,rfl,⟨by decide,by decide⟩,_,_,rfl,rfl,(by show (0:Int) < _;decide),rfl,?_⟩⟩
 generalize decide (V.int (c4 / 64 % 2)=V.int 1)=twin
 refine gs ?_
 refine ⟨_,rfl,a,ns,3,rfl,hS1,by decide,by decide,fun c5=>⟨_,_,rfl,rfl,⟨by decide,by decide⟩,_,_,rfl,rfl,(by show (0:Int) < _;decide),rfl,?_⟩⟩
 generalize decide (V.int (c5 / 16 % 2)=V.int 1)=about
 refine gs ?_
 refine ⟨_,rfl,a,ns,3,rfl,hS1,by decide,by decide,fun c6=>⟨_,_,rfl,rfl,(by show (0:Int) < _;decide),_,_,rfl,rfl,?_⟩⟩
 dsimp only
 obtain ⟨len,elen,hlen1,hlen4⟩:∃ R:Nat,1+c6 % 4=R∧1≤R∧R≤4:=⟨(1+c6 % 4).toNat,by have:=md c6 4 (by decide);omega,by have:=md c6 4 (by decide);omega,by have:=md c6 4 (by decide);omega⟩
 rw [elen]
 refine ⟨(len:Int),rfl,by omega,by omega,fun cl hcl=>?_⟩
 have hcl0:H1 cl=none:=hcl
 refine zw (fun i σ' G'=>∃ (u:Option V) (vs:List V),σ'=[u]∧Same H1 G'∧G' cl=some (.lst vs)∧HeldL G' (((List.range i).map fun k:Nat=>(Cl.least (.is "") (.is "") (0 - (k:Int))).toD)) vs) ⟨none,[],rfl,jj hcl _,ja,jy⟩ ?_ ?_
 ·rintro i σ' G' hi ⟨u,vs,rfl,sG',hGp,hvs⟩
  have hi4:i < len:=by simpa using hi
  have hvl:=hvs.length
  rw [List.length_map,List.length_range] at hvl
  unfold qg yl
  refine zy ?_
  refine ⟨sm rfl,fun p1 hp1=>⟨sm rfl,fun p2 hp2=>?_⟩⟩
  have g1:=j0 hp1 (.tup [V.str "is",V.str ""])
  have g2:=j0 hp2 (.tup [V.str "is",V.str ""])
  have e1:=g2 _ _ (show upd G' p1 (.tup [V.str "is",V.str ""]) p1=some (.tup [V.str "is",V.str ""]) from ja)
  have e2:upd (upd G' p1 (.tup [V.str "is",V.str ""])) p2 (.tup [V.str "is",V.str ""]) p2=some (.tup [V.str "is",V.str ""]):=ja
  have g12:=g1.trans g2
  generalize upd (upd G' p1 (.tup [V.str "is",V.str ""])) p2 (.tup [V.str "is",V.str ""])=G2 at *
  refine ⟨_,rfl,_,_,rfl,rfl,sm rfl,fun p3 hp3=>?_⟩
  dsimp only
  rw [show (0:Int) - (0+(i:Int))=0 - (i:Int) by omega]
  have g3:=j0 hp3 (.tup [V.str "least",V.ref p1,V.ref p2,V.int (0 - (i:Int))])
  have e3:upd G2 p3 (.tup [V.str "least",V.ref p1,V.ref p2,V.int (0 - (i:Int))]) p3=some (.tup [V.str "least",V.ref p1,V.ref p2,V.int (0 - (i:Int))]):=ja
  generalize upd G2 p3 (.tup [V.str "least",V.ref p1,V.ref p2,V.int (0 - (i:Int))])=G3 at *
  have g13:=g12.trans g3
  have hGp3:=g13 _ _ hGp
  have tkU:TK G3 (upd G3 cl (.lst (vs++[.ref p3]))):=TK.upd hGp3 (fun _ z=>by cases z)
  refine ⟨_,hGp3,jz (by omega),_,vs++[.ref p3],rfl,fun b o e=>?_,ja,?_⟩
  ·rw [jg (jl e hcl)];exact g13 _ _ (sG' _ _ e)
  ·rw [Ym]
   exact tkU.heldL (qD (hvs.mono g13) (ji (jQ e3 (ji jA (ji (jQ (g3 _ _ e1) (ji jA (ji jA jy))) (ji (jQ (g3 _ _ e2) (ji jA (ji jA jy))) (ji jM jy))))) jy))
 rintro σ' H2 ⟨u,vs0,rfl,s2,hcl2,hvs0⟩
 rw [show ((len:Nat):Int).toNat=len from rfl] at hvs0
 refine gs ?_
 have hvl0:=hvs0.length
 rw [List.length_map,List.length_range] at hvl0
 have hS2:=s2.seq hS1
 refine ⟨_,rfl,a,ns,3,rfl,hS2,by decide,by decide,fun c7=>⟨_,_,rfl,rfl,⟨by decide,by decide⟩,_,rfl,cl,_,rfl,.inl (SqL.of hcl2),_,_,rfl,rfl,(by rw [← hvl0];show (0:Int) < _;omega),?_⟩⟩
 dsimp only
 rw [← hvl0]
 obtain ⟨pl,epl,hpl⟩:∃ R:Nat,c7 / 4 % (len:Int)=R∧R < len:=⟨(c7 / 4 % (len:Int)).toNat,by have:=md (c7 / 4) (len:Int) (by omega);omega,by have:=md (c7 / 4) (len:Int) (by omega);omega⟩
 rw [epl]
 refine gs ?_
 refine ⟨_,rfl,_,rfl,_,_,rfl,rfl,_,rfl,cl,_,rfl,.inl (SqL.of hcl2),_,_,rfl,?_⟩
 rw [← hvl0]
 have hmin:(if (len:Int) < (pl:Int)+2 then (len:Int) else (pl:Int)+2)=((min (pl+2) len:Nat):Int):=by
  by_cases g:(len:Int) < (pl:Int)+2
  ·rw [if_pos g];omega
  ·rw [if_neg g];omega
 rw [hmin]
 refine ⟨(pl:Int),((min (pl+2) len:Nat):Int),rfl,⟨by omega,by omega,by omega,by omega⟩,?_⟩
 refine yG (lo:=(pl:Int)) (n:=(((min (pl+2) len:Nat):Int) - (pl:Int)).toNat) (fun i σ G=>∃ (u9:Option V) (vs:List V),σ=[some (.ref a),some (.ref lw),some (.int near),some (.int num),some (.int least),some (.bl twin),some (.bl about),some (.ref cl),some (.int pl),u9,none,none,none,none,none,none,none,none,none]∧Same H1 G∧G cl=some (.lst vs)∧HeldL G ((List.range len).map fun k=>(clI W least pl i k).toD) vs) ?_ ?_ ?_
 ·refine ⟨none,vs0,rfl,s2,hcl2,?_⟩
  have e:((List.range len).map fun k=>(clI W least pl 0 k).toD)=(List.range len).map fun k:Nat=>(Cl.least (.is "") (.is "") (0 - (k:Int))).toD:=by
   apply List.map_congr_left
   intro k _
   unfold clI
   rw [if_neg (by omega)]
  rw [e]
  exact hvs0
 ·rintro i σ G hi ⟨u9,vs,rfl,sG,hG,hvs⟩
  have hvl:=hvs.length
  rw [List.length_map,List.length_range] at hvl
  refine gs ?_
  refine ⟨(Cl.least (.is W.n) (.is "") least).toD,⟨_,rfl,Nat.le_of_ble_eq_true rfl,_,_,rfl,rfl,_,_,rfl,⟨_,rfl,Nat.le_of_ble_eq_true rfl,_,_,rfl,rfl,_,_,rfl,(fun G2 sG2 Q q=>⟨_,rfl,lw,_,_,_,rfl,rfl,SqL.of (sG2 _ _ (sG _ _ hlw)),rfl,q _ G2 (kL G2) jA⟩),rfl⟩,_,_,rfl,⟨_,rfl,Nat.le_of_ble_eq_true rfl,_,_,rfl,rfl,_,_,rfl,rfl,rfl⟩,_,_,rfl,⟨_,rfl,jM⟩,rfl⟩,fun v G2 g2 hv=>?_⟩
  have hG2:=g2 _ _ hG
  have hlt:pl+i < len:=by omega
  refine ⟨_,rfl,_,rfl,cl,vs,_,pl+i,rfl,rfl,hG2,(by rw [show ((pl:Int)+(i:Int))=((pl+i:Nat):Int) by omega];exact KF (by omega)),?_⟩
  have tkU:TK G2 (upd G2 cl (.lst (vs.set (pl+i) v))):=TK.upd hG2 (fun _ z=>by cases z)
  refine ⟨_,_,rfl,fun b o e=>?_,ja,?_⟩
  ·rw [jg (jl e hcl0)];exact g2 _ _ (sG _ _ e)
  ·have:=YF (k:=pl+i) (hvs.mono g2) hv
   rw [jb9] at this
   have e:((List.range len).map fun k=>(clI W least pl (i+1) k).toD)=(List.range len).map fun j=>if j=pl+i then (Cl.least (.is W.n) (.is "") least).toD else (clI W least pl i j).toD:=by
    apply List.map_congr_left
    intro k _
    unfold clI
    by_cases g:k=pl+i
    ·rw [if_pos g,if_pos (by omega)]
    ·rw [if_neg g]
     by_cases g2:pl≤k∧k < pl+i
     ·rw [if_pos g2,if_pos (by omega)]
     ·rw [if_neg g2,if_neg (by omega)]
   rw [e]
   exact tkU.heldL this
 rintro σ H3 ⟨u9,vs,rfl,s3,hcl3,hvs⟩
 have hneeds:((List.range len).map fun k=>(clI W least pl (((min (pl+2) len:Nat):Int) - (pl:Int)).toNat k).toD)=(Kw W least pl len).map Cl.toD:=by
  unfold Kw
  rw [List.map_map]
  apply List.map_congr_left
  intro k hk
  have hk':=List.mem_range.mp hk
  unfold clI
  show _=(clK W least pl k).toD
  unfold clK
  by_cases g:k=pl∨k=pl+1
  ·rw [if_pos g,if_pos (by omega)]
  ·rw [if_neg g,if_neg (by omega)]
 rw [hneeds] at hvs
 clear hvs0 hcl2 hneeds
 have hN:=jcw (W:=W) (least:=least) ok hpl
 generalize Kw W least pl len=needs at *
 have hS3:=s3.seq hS1
 have hlw3:=s3 _ _ hlw
 refine ⟨_,rfl,a,ns,4,rfl,hS3,by decide,by decide,fun c8=>?_⟩
 refine ⟨_,_,rfl,rfl,.inr ⟨by decide,by decide⟩,_,_,rfl,rfl,⟨by decide,by decide,by decide⟩,_,_,rfl,rfl,.inl ⟨by decide,by decide⟩,_,_,rfl,rfl,(by show (0:Int) < _;decide),_,_,rfl,rfl,⟨by decide,by decide,by decide⟩,_,_,rfl,rfl,?_⟩
 dsimp only
 generalize c8 * 48271 % (2 * 10 ^ Int.toNat 15) - 10 ^ Int.toNat 15=more
 refine gs ?_
 refine ⟨_,rfl,a,ns,5,rfl,hS3,by decide,by decide,fun c9=>?_⟩
 refine ⟨_,_,rfl,rfl,.inr ⟨by decide,by decide⟩,_,_,rfl,rfl,⟨by decide,by decide,by decide⟩,_,_,rfl,rfl,.inl ⟨by decide,by decide⟩,_,_,rfl,rfl,(by show (0:Int) < _;decide),_,_,rfl,rfl,⟨by decide,by decide,by decide⟩,_,_,rfl,rfl,?_⟩
 dsimp only
 generalize c9 * 48271 % (2 * 10 ^ Int.toNat 15) - 10 ^ Int.toNat 15=bs
 refine gs ?_
 refine ⟨2,rfl,by decide,by decide,fun rl hrl=>?_⟩
 refine zw (fun i σ' G'=>∃ (u:Option V) (vs:List V) (qs:List jK),σ'=[u,some (.ref a),some (.int near)]∧Same H3 G'∧G' rl=some (.lst vs)∧HeldL G' (qs.map qI) vs∧qs.length=i∧∀ q∈qs,j7 q.2.1∧q.2.1.length≤10∧q.2.2=[]) ⟨none,[],[],rfl,jj hrl _,ja,jy,rfl,fun q hq=>by cases hq⟩ ?_ ?_
 ·rintro i σ' G' hi ⟨u,vs,qs,rfl,sG',hGp,hvs',hql,hqok⟩
  have hi2:i < 2:=hi
  have hvl:=hvs'.length
  rw [List.length_map] at hvl
  unfold qg yl
  refine zy ?_
  refine ⟨_,rfl,a,ns,6,rfl,sG'.seq hS3,by decide,by decide,fun c10=>⟨_,_,rfl,rfl,(by show (0:Int) < _;decide),_,rfl,_,_,rfl,fun c11=>⟨_,rfl,_,_,rfl,fun v b ps G2 g2 hup hl40 hv=>?_⟩⟩⟩
  have hGp2:=g2 _ _ hGp
  have tkU:TK G2 (upd G2 rl (.lst (vs++[v]))):=TK.upd hGp2 (fun _ z=>by cases z)
  refine ⟨_,hGp2,jz (by omega),_,vs++[v],qs++[(b,ps,[])],rfl,fun b' o e=>?_,ja,?_,by rw [List.length_append,hql];rfl,fun q hq=>?_⟩
  ·rw [jg (jl e hrl)];exact g2 _ _ (sG' _ _ e)
  ·rw [List.map_append]
   exact tkU.heldL (qD (hvs'.mono g2) (ji hv jy))
  ·rcases List.mem_append.mp hq with g | g
   ·exact hqok q g
   ·rw [List.mem_singleton.mp g];exact ⟨hup,hl40,rfl⟩
 rintro σ' H4 ⟨u,vsr,qs,rfl,s4,hrl4,hvsr,hql,hqok⟩
 obtain ⟨q1,q2,rfl⟩:∃ q1 q2,qs=[q1,q2]:=by
  match qs,hql with
  | [x,y],_=>exact ⟨x,y,rfl⟩
 obtain ⟨v1,r1,rfl,hv1,hh2⟩:=jb hvsr
 obtain ⟨v2,r2,rfl,hv2,hh3⟩:=jb hh2
 cases js hh3
 obtain ⟨up1,l1,w1⟩:=hqok q1 (by simp)
 obtain ⟨up2,l2,w2⟩:=hqok q2 (by simp)
 refine gs ?_
 have s34:=s3.trans s4
 refine ⟨_,rfl,_,rfl,cl,_,rfl,.inl ⟨SqL.of (s4 _ _ hcl3),fun tc htc=>?_⟩⟩
 have g5:=j0 htc (.tup vs)
 have etc:upd H4 tc (.tup vs) tc=some (.tup vs):=ja
 generalize upd H4 tc (.tup vs)=H5 at *
 refine ⟨_,rfl,_,rfl,_,rfl,_,rfl,lw,W,twin,about,more,bs,.ref tc,needs,rfl,g5 _ _ (s34 _ _ hlwW),jQ etc ((hvs.mono s4).mono g5),fun vp H6 s6 hp=>?_⟩
 refine gs ?_
 have s56:=g5.trans s6
 have s36:=s34.trans s56
 have hrl6:=s56 _ _ hrl4
 have hlw6:=s36 _ _ hlwW
 refine ⟨_,rfl,_,rfl,_,rfl,_,rfl,_,rfl,_,rfl,_,rfl,_,rfl,_,rfl,?_⟩
 unfold jet
 dsimp only
 refine jfj rfl hlw6 hrl6 (hv1.mono s56) (hv2.mono s56) up1 up2 l1 l2 w1 w2 hnum hlst.1 hlst.2 fun t v14 H7 s7 hfin ht=>?_
 refine ⟨t,_,rfl,SqT.of ht,rfl,_,_,rfl,?_⟩
 refine gs ?_
 refine ⟨_,_,rfl,?_⟩
 refine gs ?_
 refine ⟨rfl,?_⟩
 have hwh:¬ (num:Int) < least→RunsTo (qY W about more bs needs twin) [] (-1) ⟨[kU (pr7 W about more bs needs W.f (cf7 W twin)) [(num:Int)] [q1,q2]],0,0,0⟩ (Yc W twin about more bs num least pl q1 q2):=fun hlt=>by
  unfold Yc
  rw [if_neg hlt]
  exact jfQ ok twin hN hlt
 have hus:(Yc W twin about more bs num least pl q1 q2).2≤390∧(Yc W twin about more bs num least pl q1 q2).1≠.stuck∧((num:Int) < least→(Yc W twin about more bs num least pl q1 q2).2=0):=by
  unfold Yc
  by_cases hlt:(num:Int) < least
  ·rw [if_pos hlt];exact ⟨by decide,(fun z=>by cases z),fun _=>rfl⟩
  ·rw [if_neg hlt];exact ⟨(YH hnum hlst.1).1,(YH hnum hlst.1).2,fun z=>absurd z hlt⟩
 generalize Yc W twin about more bs num least pl q1 q2=due at *
 obtain ⟨e1,u1⟩:=due
 dsimp only at hfin ht hus hwh ⊢
 have hS7:=((s36.trans s7).seq hS1)
 refine ⟨_,rfl,_,rfl,_,_,rfl,rfl,sm rfl,fun l hl=>⟨_,rfl,a,ns,7,rfl,(j0 hl _).seq hS7,by decide,by decide,fun c12=>⟨_,_,rfl,rfl,(by show (0:Int) < _;decide),?_⟩⟩⟩
 have h12:=md c12 3 (by decide)
 obtain ⟨m0,hat,hm0⟩:=jgM h12.1 h12.2 (u1:Int) ((u1:Int)+1) 2000
 refine ⟨l,_,_,_,rfl,rfl,SqL.of ja,hat,?_⟩
 refine gs ?_
 have s8:=s7.trans (j0 hl (.lst [V.int u1,V.int ((u1:Int)+1),V.int 2000]))
 have hfin8:=hfin.mono (j0 hl (.lst [V.int u1,V.int ((u1:Int)+1),V.int 2000]))
 have hS8:=(j0 hl (.lst [V.int u1,V.int ((u1:Int)+1),V.int 2000])).seq hS7
 generalize upd H7 l (.lst [V.int u1,V.int ((u1:Int)+1),V.int 2000])=H8 at *
 clear hat hl
 refine ⟨fun σ' G=>∃ m:Nat,σ'=[some (.ref a),some (.ref lw),some (.int near),some (.int num),some (.int least),some (.bl twin),some (.bl about),some (.ref cl),some (.int pl),u9,some (.int more),some (.int bs),some (.ref rl),some vp,some v14,some (.int u1),some (.int m),none,none]∧G=H8,?_,?_⟩
 ·refine ⟨_,rfl,a,ns,7,rfl,hS8,by decide,by decide,fun c13=>⟨_,_,rfl,rfl,⟨by decide,by decide⟩,_,_,rfl,rfl,(by show (0:Int) < _;decide),rfl,_,rfl,j9 (fun d=>?_) (fun d=>?_)⟩⟩
  ·refine ⟨_,rfl,_,_,rfl,rfl,_,rfl,j9 (fun d2=>?_) (fun d2=>?_)⟩
   ·have d2':0 < u1:=by have:=of_decide_eq_true d2;omega
    refine ⟨_,rfl,a,ns,8,rfl,hS8,by decide,by decide,fun c14=>⟨_,rfl,_,_,rfl,rfl,(by show (0:Int) < (u1:Int);omega),?_⟩⟩
    dsimp only
    have hm:=md c14 (u1:Int) (by omega)
    refine gs ?_
    refine ⟨(c14 % (u1:Int)).toNat,?_,rfl⟩
    rw [show (((c14 % (u1:Int)).toNat:Nat):Int)=c14 % (u1:Int) by omega]
   ·refine ⟨m0.toNat,?_,rfl⟩
    rw [show ((m0.toNat:Nat):Int)=m0 by omega]
  ·refine jcF ⟨m0.toNat,?_,rfl⟩
   rw [show ((m0.toNat:Nat):Int)=m0 by omega]
 rintro σ' G ⟨m,rfl,rfl⟩
 refine ⟨fun σ' G'=>∃ (e2:En) (u2:Nat) (v2':V),σ'=[some (.ref a),some (.ref lw),some (.int near),some (.int num),some (.int least),some (.bl twin),some (.bl about),some (.ref cl),some (.int pl),u9,some (.int more),some (.int bs),some (.ref rl),some vp,some v2',some (.int u2),some (.int m),none,none]∧Same H6 G'∧Fin7 K G' least num pl e2 v2'∧((num:Int) < least→u2=0)∧(¬ (num:Int) < least→RunsTo (qY W about more bs needs twin) [] (m:Int) ⟨[kU (pr7 W about more bs needs W.f (cf7 W twin)) [(num:Int)] [q1,q2]],0,0,0⟩ (e2,u2)∧e2≠.stuck∧u2≤390),?_,?_⟩
 ·have hlim:¬ (num:Int) < least→(u1≤m→RunsTo (qY W about more bs needs twin) [] (m:Int) ⟨[kU (pr7 W about more bs needs W.f (cf7 W twin)) [(num:Int)] [q1,q2]],0,0,0⟩ (e1,u1))∧(m < u1→RunsTo (qY W about more bs needs twin) [] (m:Int) ⟨[kU (pr7 W about more bs needs W.f (cf7 W twin)) [(num:Int)] [q1,q2]],0,0,0⟩ (.spent,m)):=fun hlt=>by
   obtain ⟨kk,hk⟩:=hwh hlt
   exact jaI (most:=m) hk hus.2.1 (Nat.zero_le _)
  refine ⟨_,rfl,_,rfl,_,_,rfl,rfl,_,rfl,j9 (fun d=>?_) (fun d=>?_)⟩
  ·have d':m < u1:=by have:=of_decide_eq_true d;omega
   have hnl:¬ (num:Int) < least:=fun z=>by have:=hus.2.2 z;omega
   refine ⟨.tup [.str "spent"],⟨_,rfl,Nat.le_of_ble_eq_true rfl,_,_,rfl,rfl,rfl⟩,fun vv G' sG' hv=>?_⟩
   refine gs ?_
   refine ⟨_,rfl,?_⟩
   refine gs ?_
   obtain ⟨t9,rfl,ht9⟩:=jbC hv
   exact ⟨.spent,m,.ref t9,rfl,s8.trans sG',.inr ⟨hnl,t9,rfl,ht9⟩,fun z=>absurd z hnl,fun _=>⟨(hlim hnl).2 d',(fun z=>by cases z),by omega⟩⟩
  ·have d':u1≤m:=by
    rcases Nat.lt_or_ge m u1 with g | g
    ·exact absurd (decide_eq_true (by omega)) d
    ·exact g
   exact ⟨e1,u1,v14,rfl,s8,hfin8,hus.2.2,fun hlt=>⟨(hlim hlt).1 d',hus.2.1,hus.1⟩⟩
 rintro σ' H9 ⟨e2,u2,v2',rfl,s9,hfin9,h09,h19⟩
 clear hwh hus hfin hfin8 hm0 h12 s8 hS8 s7 ht hS7
 have s69:=s56.trans s9
 have hrl9:=s69 _ _ hrl4
 have hv19:=hv1.mono s69
 have hv29:=hv2.mono s69
 refine ⟨_,rfl,rl,rfl,⟨_,SqL.of hrl9⟩,fun hl hhl=>?_⟩
 refine yJ (xs:=[v1,v2]) (fun j σ' G2=>∃ u vs ds,σ'=[u]∧Same H9 G2∧G2 hl=some (.lst vs)∧HeldL G2 ds vs∧SOf ([q1,q2].take j) ds∧vs.length=j) ⟨none,[],[],rfl,jj hhl _,ja,jy,trivial,rfl⟩ ?_ ?_ ?_
 ·rintro j σ' G2 _ ⟨u,vs,ds,rfl,sG2,_⟩
  exact SqL.of (sG2 _ _ hrl9)
 ·rintro j x σ' G2 hx ⟨u,vs,ds,rfl,sG2,hGp,hds,hso,hvl⟩
  have hj:j < 2:=(List.getElem?_eq_some_iff.mp hx).1
  obtain ⟨z,hz,hxz,up,le40,lw'⟩:∃ z:jK,[q1,q2].take (j+1)=[q1,q2].take j++[z]∧Held G2 (qI z) x∧j7 z.2.1∧z.2.1.length≤10∧z.2.2.length≤20:=by
   match j,hj with
   | 0,_=>cases hx;exact ⟨q1,rfl,hv19.mono sG2,up1,l1,by rw [w1];exact Nat.zero_le _⟩
   | 1,_=>cases hx;exact ⟨q2,rfl,hv29.mono sG2,up2,l2,by rw [w2];exact Nat.zero_le _⟩
  unfold qg yl
  refine zy ?_
  refine ⟨_,rfl,x,z,rfl,hxz,up,le40,lw',fun uu R G3 s3' hH hcan hlen heq=>?_⟩
  have hGp3:=s3' _ _ hGp
  have tkU:TK G3 (upd G3 hl (.lst (vs++[uu]))):=TK.upd hGp3 (fun _ z=>by cases z)
  refine ⟨_,hGp3,jz (by omega),_,vs++[uu],ds++[Km z.1 R],rfl,fun b o e=>?_,ja,tkU.heldL (qD (hds.mono s3') (ji hH jy)),?_,by rw [List.length_append,hvl];rfl⟩
  ·rw [jg (jl e hhl)];exact s3' _ _ (sG2 _ _ e)
  ·rw [hz]
   exact SOf.snoc ⟨R,rfl,hcan,hlen,heq⟩ _ _ hso
 rintro σ' H10 ⟨u10,hvs10,ds,rfl,s10,hhl10,hds,hso,_⟩
 refine gs ?_
 obtain ⟨pg,pvs,evp,hpg,hpv⟩:=jo hp
 subst evp
 have s610:=s9.trans s10
 have hlw10:=(s36.trans s610) _ _ hlw
 refine ⟨_,rfl,_,rfl,lw,_,_,_,rfl,rfl,SqL.of hlw10,rfl,_,rfl,sm rfl,fun nl hnl=>?_⟩
 have g1:=j0 hnl (.lst [V.int num])
 have enl:upd H10 nl (.lst [V.int num]) nl=some (.lst ([(num:Int)].map V.int)):=ja
 generalize upd H10 nl (.lst [V.int num])=H11 at *
 refine ⟨_,rfl,sm rfl,fun il hil=>?_⟩
 have g2:=j0 hil (.lst [])
 have eil:upd H11 il (.lst []) il=some (.lst (([]:List Int).map V.int)):=ja
 generalize upd H11 il (.lst [])=H12 at *
 have g12:=g1.trans g2
 have s612:=s610.trans g12
 have hRA:RunAt K 2 H12 pg nl hl il (qY W about more bs needs twin) (pr7 W about more bs needs W.f (cf7 W twin)) [(num:Int)] [q1,q2] []:=by
  refine ⟨⟨pvs,s612 _ _ hpg,hpv.mono s612⟩,?_,?_,fun Q hQ=>?_,by decide,?_,g2 _ _ enl,⟨hvs10,g12 _ _ hhl10,SOf.rows _ _ _ hso (hds.mono g12)⟩,eil,rfl,rfl,by simp [pr7],by simp [pr7,ok.rs],by show 1≤100;decide,fun q hq=>?_⟩
  ·unfold qY
   cases twin
   ·simp [pr7]
   ·simp [pr7,Ne.symm ok.fg]
  ·unfold qY
   cases twin
   ·show 1≤100;decide
   ·show 2≤100;decide
  ·unfold qY at hQ
   cases twin
   ·rw [List.mem_singleton.mp hQ];exact jaL ..
   ·rcases List.mem_cons.mp hQ with rfl | hQ
    ·exact jaL ..
    ·rw [List.mem_singleton.mp hQ];exact jaL ..
  ·unfold qY cf7
   cases twin
   ·simp
   ·simp
  ·simp only [List.mem_cons,List.mem_nil_iff,or_false] at hq
   rcases hq with rfl | rfl
   ·rw [w1];exact Nat.le_refl _
   ·rw [w2];exact Nat.le_refl _
 refine ⟨_,rfl,?_⟩
 dsimp only
 refine jeC (a:=num) hN rfl hRA h09 h19 fun t18 v18 H13 s13 hfin13 ht18=>?_
 refine gs ?_
 have hfin9':=hfin9.mono (s10.trans (g12.trans s13))
 refine ⟨_,rfl,_,_,_,_,rfl,TyOf.tup ht18,jgo K,_,rfl,zy ?_⟩
 refine ⟨_,rfl,_,rfl,_,rfl,sm rfl,fun t20 ht20=>?_⟩
 have g20:=j0 ht20 (.tup [v2',.int u2])
 refine ⟨t18,t20,_,_,rfl,rfl,SqT.of (g20 _ _ ht18),SqT.of ja,.cons ((hfin13.mono g20).like (hfin9'.mono g20)) (.cons (qJ _ _) .nil),_,rfl,zy ?_⟩
 have s914:=s10.trans (g12.trans (s13.trans g20))
 generalize upd H13 t20 (.tup [v2',.int u2])=H14 at *
 have hrl14:=s914 _ _ hrl9
 have hv114:=hv19.mono s914
 have hv214:=hv29.mono s914
 have g1014:=g12.trans (s13.trans g20)
 refine ⟨_,rfl,_,rfl,rl,rfl,⟨_,SqL.of hrl14⟩,fun pz hpz=>?_⟩
 refine yJ (xs:=[v1,v2]) (fun j σ' G2=>∃ u vs ds,σ'=[u]∧Same H14 G2∧G2 pz=some (.lst vs)∧HeldL G2 ds vs∧SOf ([q1,q2].take j) ds∧vs.length=j) ⟨none,[],[],rfl,jj hpz _,ja,jy,trivial,rfl⟩ ?_ ?_ ?_
 ·rintro j σ' G2 _ ⟨u,vs,ds,rfl,sG2,_⟩
  exact SqL.of (sG2 _ _ hrl14)
 ·rintro j x σ' G2 hx ⟨u,vs,ds,rfl,sG2,hGp,hds,hso,hvl⟩
  have hj:j < 2:=(List.getElem?_eq_some_iff.mp hx).1
  obtain ⟨z,hz,hxz,up,le40,lw'⟩:∃ z:jK,[q1,q2].take (j+1)=[q1,q2].take j++[z]∧Held G2 (qI z) x∧j7 z.2.1∧z.2.1.length≤10∧z.2.2.length≤20:=by
   match j,hj with
   | 0,_=>cases hx;exact ⟨q1,rfl,hv114.mono sG2,up1,l1,by rw [w1];exact Nat.zero_le _⟩
   | 1,_=>cases hx;exact ⟨q2,rfl,hv214.mono sG2,up2,l2,by rw [w2];exact Nat.zero_le _⟩
  unfold qg yl
  refine zy ?_
  refine ⟨_,rfl,x,z,rfl,hxz,up,le40,lw',fun uu R G3 s3' hH hcan hlen heq=>?_⟩
  have hGp3:=s3' _ _ hGp
  have tkU:TK G3 (upd G3 pz (.lst (vs++[uu]))):=TK.upd hGp3 (fun _ z=>by cases z)
  refine ⟨_,hGp3,jz (by omega),_,vs++[uu],ds++[Km z.1 R],rfl,fun b o e=>?_,ja,tkU.heldL (qD (hds.mono s3') (ji hH jy)),?_,by rw [List.length_append,hvl];rfl⟩
  ·rw [jg (jl e hpz)];exact s3' _ _ (sG2 _ _ e)
  ·rw [hz]
   exact SOf.snoc ⟨R,rfl,hcan,hlen,heq⟩ _ _ hso
 rintro σ' H15 ⟨u15,vs15,ds',rfl,s15,hpz15,hds',hso',_⟩
 have hdd:ds'=ds:=SOf.eq _ _ _ hso' hso
 subst hdd
 have s1015:=g1014.trans s15
 refine ⟨hl,pz,_,_,_,_,rfl,rfl,s1015 _ _ hhl10,hpz15,SOf.depth _ _ hso',hds.mono s1015,hds',?_⟩
 rw [decide_eq_true rfl]
 exact q _
end
open PySem L2
theorem FnOk.up {P:Program} {w:World} {K:W.Frag} {mg:Str→Option Value} {base:Heap} {k k':Nat} {f:Addr} {fd:FuncData} {ps:List Str} {sp:Sp} (h:FnOk P w K mg base CX0 k f fd ps sp) (hk:k≤k'):FnOk P w K mg base CX0 k' f fd ps sp:=
 ⟨h.1,fun A outer s H args us vs Q E hr=>h.2 A outer s H args us vs Q E (hr.mono hk)⟩
open PySem L2
theorem all_mk {l:PySem.W.OpenLaw} {w:World} {K:W.Frag} {h:Heap} {mg:Str→Option Value} {fa f0 f1 f2 f3 f4 f5 f6 f7 f8 f9 f10 f11 f12 f13 f14 f15 f16 f17 f18 f19 f20 f21 f22 f23 f24 f25 f26 f27 f28 f29 f30 f31 f32 f33 f34 f35 f36 f37 C0 C1:Addr} (X:K.In h) (G:h.Ns mainGlobals mg) (hfa:mg "law" = some (.ref fa))
  {od0 an0 od1 an1 od2 an2 od3 an3 od4 an4 od5 an5 od6 an6 od7 an7 od8 an8 od9 an9 od10 an10 od11 an11 od12 an12 od13 an13 od14 an14 od15 an15 od16 an16 od17 an17 od18 an18 od19 an19 od20 an20 od21 an21 od22 an22 od23 an23 od24 an24 od25 an25 od26 an26 od27 an27 od28 an28 od29 an29 od30 an30 od31 an31 od32 an32 od33 an33 od34 an34 od35 an35 od36 an36 od37 an37:Option Addr} {sl0 sl1 sl2 sl3 sl4 sl5 sl6 sl7 sl8 sl9 sl10 sl11 sl12 sl13 sl14 sl15 sl16 sl17 sl18 sl19 sl20 sl21 sl22 sl23 sl24 sl25 sl26 sl27 sl28 sl29 sl30 sl31 sl32 sl33 sl34 sl35 sl36 sl37:Array (Option Value)} {oc0 kV0 dc0 pm0 cd0 ct0 oc1 kV1 dc1 pm1 cd1 ct1 oc2 kV2 dc2 pm2 cd2 ct2 oc3 kV3 dc3 pm3 cd3 ct3 oc4 kV4 dc4 pm4 cd4 ct4 oc5 kV5 dc5 pm5 cd5 ct5 oc6 kV6 dc6 pm6 cd6 ct6 oc7 kV7 dc7 pm7 cd7 ct7 oc8 kV8 dc8 pm8 cd8 ct8 oc9 kV9 dc9 pm9 cd9 ct9 oc10 kV10 dc10 pm10 cd10 ct10 oc11 kV11 dc11 pm11 cd11 ct11 oc12 kV12 dc12 pm12 cd12 ct12 oc13 kV13 dc13 pm13 cd13 ct13 oc14 kV14 dc14 pm14 cd14 ct14 oc15 kV15 dc15 pm15 cd15 ct15 oc16 kV16 dc16 pm16 cd16 ct16 oc17 kV17 dc17 pm17 cd17 ct17 oc18 kV18 dc18 pm18 cd18 ct18 oc19 kV19 dc19 pm19 cd19 ct19 oc20 kV20 dc20 pm20 cd20 ct20 oc21 kV21 dc21 pm21 cd21 ct21 oc22 kV22 dc22 pm22 cd22 ct22 oc23 kV23 dc23 pm23 cd23 ct23 oc24 kV24 dc24 pm24 cd24 ct24 oc25 kV25 dc25 pm25 cd25 ct25 oc26 kV26 dc26 pm26 cd26 ct26 oc27 kV27 dc27 pm27 cd27 ct27 oc28 kV28 dc28 pm28 cd28 ct28 oc29 kV29 dc29 pm29 cd29 ct29 oc30 kV30 dc30 pm30 cd30 ct30 oc31 kV31 dc31 pm31 cd31 ct31 oc32 kV32 dc32 pm32 cd32 ct32 oc33 kV33 dc33 pm33 cd33 ct33 oc34 kV34 dc34 pm34 cd34 ct34 oc35 kV35 dc35 pm35 cd35 ct35 oc36 kV36 dc36 pm36 cd36 ct36 oc37 kV37 dc37 pm37 cd37 ct37:Value}
  (a0:W.nsIn K mainGlobals "room" = some (some (.ref f0)))
  (l0:K.lookup f0=some ⟨oc0,od0,.func (W.fnOf "room" "room" (jH Yo) (jC Yo) (jf Yo) .none kV0 dc0 pm0 an0 cd0 ct0),sl0⟩) (c0:W.codeIn K cd0 "room" = true) (k0:W.keepIn K (.ref f0)=true)
  (a1:W.nsIn K mainGlobals "lay_body" = some (some (.ref f1)))
  (l1:K.lookup f1=some ⟨oc1,od1,.func (W.fnOf "lay_body" "lay_body" (jH qQ) (jC qQ) (jf qQ) .none kV1 dc1 pm1 an1 cd1 ct1),sl1⟩) (c1:W.codeIn K cd1 "lay_body" = true) (k1:W.keepIn K (.ref f1)=true)
  (a2:W.nsIn K mainGlobals "lay_if" = some (some (.ref f2)))
  (l2:K.lookup f2=some ⟨oc2,od2,.func (W.fnOf "lay_if" "lay_if" (jH zb) (jC zb) (jf zb) .none kV2 dc2 pm2 an2 cd2 ct2),sl2⟩) (c2:W.codeIn K cd2 "lay_if" = true) (k2:W.keepIn K (.ref f2)=true)
  (a3:W.nsIn K mainGlobals "lay_while" = some (some (.ref f3)))
  (l3:K.lookup f3=some ⟨oc3,od3,.func (W.fnOf "lay_while" "lay_while" (jH kR) (jC kR) (jf kR) .none kV3 dc3 pm3 an3 cd3 ct3),sl3⟩) (c3:W.codeIn K cd3 "lay_while" = true) (k3:W.keepIn K (.ref f3)=true)
  (a4:W.nsIn K mainGlobals "steps_of" = some (some (.ref f4)))
  (l4:K.lookup f4=some ⟨oc4,od4,.func (W.fnOf "steps_of" "steps_of" (jH zc) (jC zc) (jf zc) .none kV4 dc4 pm4 an4 cd4 ct4),sl4⟩) (c4:W.codeIn K cd4 "steps_of" = true) (k4:W.keepIn K (.ref f4)=true)
  (a5:W.nsIn K mainGlobals "steps_up_to" = some (some (.ref f5)))
  (l5:K.lookup f5=some ⟨oc5,od5,.func (W.fnOf "steps_up_to" "steps_up_to" (jH ql) (jC ql) (jf ql) .none kV5 dc5 pm5 an5 cd5 ct5),sl5⟩) (c5:W.codeIn K cd5 "steps_up_to" = true) (k5:W.keepIn K (.ref f5)=true)
  (a6:W.nsIn K mainGlobals "entry" = some (some (.ref f6)))
  (l6:K.lookup f6=some ⟨oc6,od6,.func (W.fnOf "entry" "entry" (jH Jy) (jC Jy) (jf Jy) .none kV6 dc6 pm6 an6 cd6 ct6),sl6⟩) (c6:W.codeIn K cd6 "entry" = true) (k6:W.keepIn K (.ref f6)=true)
  (a7:W.nsIn K mainGlobals "stairs" = some (some (.ref f7)))
  (l7:K.lookup f7=some ⟨oc7,od7,.func (W.fnOf "stairs" "stairs" (jH yz) (jC yz) (jf yz) .none kV7 dc7 pm7 an7 cd7 ct7),sl7⟩) (c7:W.codeIn K cd7 "stairs" = true) (k7:W.keepIn K (.ref f7)=true)
  (a8:W.nsIn K mainGlobals "written" = some (some (.ref f8)))
  (l8:K.lookup f8=some ⟨oc8,od8,.func (W.fnOf "written" "written" (jH zM) (jC zM) (jf zM) .none kV8 dc8 pm8 an8 cd8 ct8),sl8⟩) (c8:W.codeIn K cd8 "written" = true) (k8:W.keepIn K (.ref f8)=true)
  (a9:W.nsIn K mainGlobals "number_at" = some (some (.ref f9)))
  (l9:K.lookup f9=some ⟨oc9,od9,.func (W.fnOf "number_at" "number_at" (jH qP) (jC qP) (jf qP) .none kV9 dc9 pm9 an9 cd9 ct9),sl9⟩) (c9:W.codeIn K cd9 "number_at" = true) (k9:W.keepIn K (.ref f9)=true)
  (a10:W.nsIn K mainGlobals "place_at" = some (some (.ref f10)))
  (l10:K.lookup f10=some ⟨oc10,od10,.func (W.fnOf "place_at" "place_at" (jH zd) (jC zd) (jf zd) .none kV10 dc10 pm10 an10 cd10 ct10),sl10⟩) (c10:W.codeIn K cd10 "place_at" = true) (k10:W.keepIn K (.ref f10)=true)
  (a11:W.nsIn K mainGlobals "row_at" = some (some (.ref f11)))
  (l11:K.lookup f11=some ⟨oc11,od11,.func (W.fnOf "row_at" "row_at" (jH yA) (jC yA) (jf yA) .none kV11 dc11 pm11 an11 cd11 ct11),sl11⟩) (c11:W.codeIn K cd11 "row_at" = true) (k11:W.keepIn K (.ref f11)=true)
  (a12:W.nsIn K mainGlobals "term_at" = some (some (.ref f12)))
  (l12:K.lookup f12=some ⟨oc12,od12,.func (W.fnOf "term_at" "term_at" (jH zN) (jC zN) (jf zN) .none kV12 dc12 pm12 an12 cd12 ct12),sl12⟩) (c12:W.codeIn K cd12 "term_at" = true) (k12:W.keepIn K (.ref f12)=true)
  (a13:W.nsIn K mainGlobals "least_holds" = some (some (.ref f13)))
  (l13:K.lookup f13=some ⟨oc13,od13,.func (W.fnOf "least_holds" "least_holds" (jH qm) (jC qm) (jf qm) .none kV13 dc13 pm13 an13 cd13 ct13),sl13⟩) (c13:W.codeIn K cd13 "least_holds" = true) (k13:W.keepIn K (.ref f13)=true)
  (a14:W.nsIn K mainGlobals "holds" = some (some (.ref f14)))
  (l14:K.lookup f14=some ⟨oc14,od14,.func (W.fnOf "holds" "holds" (jH yB) (jC yB) (jf yB) .none kV14 dc14 pm14 an14 cd14 ct14),sl14⟩) (c14:W.codeIn K cd14 "holds" = true) (k14:W.keepIn K (.ref f14)=true)
  (a15:W.nsIn K mainGlobals "first_untrue" = some (some (.ref f15)))
  (l15:K.lookup f15=some ⟨oc15,od15,.func (W.fnOf "first_untrue" "first_untrue" (jH qe) (jC qe) (jf qe) .none kV15 dc15 pm15 an15 cd15 ct15),sl15⟩) (c15:W.codeIn K cd15 "first_untrue" = true) (k15:W.keepIn K (.ref f15)=true)
  (a16:W.nsIn K mainGlobals "look" = some (some (.ref f16)))
  (l16:K.lookup f16=some ⟨oc16,od16,.func (W.fnOf "look" "look" (jH Yr) (jC Yr) (jf Yr) .none kV16 dc16 pm16 an16 cd16 ct16),sl16⟩) (c16:W.codeIn K cd16 "look" = true) (k16:W.keepIn K (.ref f16)=true)
  (a17:W.nsIn K mainGlobals "ask" = some (some (.ref f17)))
  (l17:K.lookup f17=some ⟨oc17,od17,.func (W.fnOf "ask" "ask" (jH jce) (jC jce) (jf jce) .none kV17 dc17 pm17 an17 cd17 ct17),sl17⟩) (c17:W.codeIn K cd17 "ask" = true) (k17:W.keepIn K (.ref f17)=true)
  (a18:W.nsIn K mainGlobals "call" = some (some (.ref f18)))
  (l18:K.lookup f18=some ⟨oc18,od18,.func (W.fnOf "call" "call" (jH JK) (jC JK) (jf JK) .none kV18 dc18 pm18 an18 cd18 ct18),sl18⟩) (c18:W.codeIn K cd18 "call" = true) (k18:W.keepIn K (.ref f18)=true)
  (a19:W.nsIn K mainGlobals "take_input" = some (some (.ref f19)))
  (l19:K.lookup f19=some ⟨oc19,od19,.func (W.fnOf "take_input" "take_input" (jH qB) (jC qB) (jf qB) .none kV19 dc19 pm19 an19 cd19 ct19),sl19⟩) (c19:W.codeIn K cd19 "take_input" = true) (k19:W.keepIn K (.ref f19)=true)
  (a20:W.nsIn K mainGlobals "hand_back" = some (some (.ref f20)))
  (l20:K.lookup f20=some ⟨oc20,od20,.func (W.fnOf "hand_back" "hand_back" (jH qR) (jC qR) (jf qR) .none kV20 dc20 pm20 an20 cd20 ct20),sl20⟩) (c20:W.codeIn K cd20 "hand_back" = true) (k20:W.keepIn K (.ref f20)=true)
  (a21:W.nsIn K mainGlobals "do" = some (some (.ref f21)))
  (l21:K.lookup f21=some ⟨oc21,od21,.func (W.fnOf "do" "do" (jH sDo) (jC sDo) (jf sDo) .none kV21 dc21 pm21 an21 cd21 ct21),sl21⟩) (c21:W.codeIn K cd21 "do" = true) (k21:W.keepIn K (.ref f21)=true)
  (a22:W.nsIn K mainGlobals "come_back" = some (some (.ref f22)))
  (l22:K.lookup f22=some ⟨oc22,od22,.func (W.fnOf "come_back" "come_back" (jH qA) (jC qA) (jf qA) .none kV22 dc22 pm22 an22 cd22 ct22),sl22⟩) (c22:W.codeIn K cd22 "come_back" = true) (k22:W.keepIn K (.ref f22)=true)
  (a23:W.nsIn K mainGlobals "gone_on" = some (some (.ref f23)))
  (l23:K.lookup f23=some ⟨oc23,od23,.func (W.fnOf "gone_on" "gone_on" (jH zP) (jC zP) (jf zP) .none kV23 dc23 pm23 an23 cd23 ct23),sl23⟩) (c23:W.codeIn K cd23 "gone_on" = true) (k23:W.keepIn K (.ref f23)=true)
  (a24:W.nsIn K mainGlobals "procs_by_name" = some (some (.ref f24)))
  (l24:K.lookup f24=some ⟨oc24,od24,.func (W.fnOf "procs_by_name" "procs_by_name" (jH kr) (jC kr) (jf kr) .none kV24 dc24 pm24 an24 cd24 ct24),sl24⟩) (c24:W.codeIn K cd24 "procs_by_name" = true) (k24:W.keepIn K (.ref f24)=true)
  (a25:W.nsIn K mainGlobals "run" = some (some (.ref f25)))
  (l25:K.lookup f25=some ⟨oc25,od25,.func (W.fnOf "run" "run" (jH jcc) (jC jcc) (jf jcc) .none kV25 dc25 pm25 an25 cd25 ct25),sl25⟩) (c25:W.codeIn K cd25 "run" = true) (k25:W.keepIn K (.ref f25)=true)
  (a26:W.nsIn K mainGlobals "_law_cell_at" = some (some (.ref f26)))
  (l26:K.lookup f26=some ⟨oc26,od26,.func (W.fnOf "_law_cell_at" "_law_cell_at" (jH zQ) (jC zQ) (jf zQ) .none kV26 dc26 pm26 an26 cd26 ct26),sl26⟩) (c26:W.codeIn K cd26 "_law_cell_at" = true) (k26:W.keepIn K (.ref f26)=true)
  (a27:W.nsIn K mainGlobals "_law_words" = some (some (.ref f27)))
  (l27:K.lookup f27=some ⟨oc27,od27,.func (W.fnOf "_law_words" "_law_words" (jH zE) (jC zE) (jf zE) .none kV27 dc27 pm27 an27 cd27 ct27),sl27⟩) (c27:W.codeIn K cd27 "_law_words" = true) (k27:W.keepIn K (.ref f27)=true)
  (a28:W.nsIn K mainGlobals "_law_mix" = some (some (.ref f28)))
  (l28:K.lookup f28=some ⟨oc28,od28,.func (W.fnOf "_law_mix" "_law_mix" (jH jcd) (jC jcd) (jf jcd) .none kV28 dc28 pm28 an28 cd28 ct28),sl28⟩) (c28:W.codeIn K cd28 "_law_mix" = true) (k28:W.keepIn K (.ref f28)=true)
  (a29:W.nsIn K mainGlobals "_law_made" = some (some (.ref f29)))
  (l29:K.lookup f29=some ⟨oc29,od29,.func (W.fnOf "_law_made" "_law_made" (jH Yq) (jC Yq) (jf Yq) .none kV29 dc29 pm29 an29 cd29 ct29),sl29⟩) (c29:W.codeIn K cd29 "_law_made" = true) (k29:W.keepIn K (.ref f29)=true)
  (a30:W.nsIn K mainGlobals "_law_holds" = some (some (.ref f30)))
  (l30:K.lookup f30=some ⟨oc30,od30,.func (W.fnOf "_law_holds" "_law_holds" (jH Jx) (jC Jx) (jf Jx) .none kV30 dc30 pm30 an30 cd30 ct30),sl30⟩) (c30:W.codeIn K cd30 "_law_holds" = true) (k30:W.keepIn K (.ref f30)=true)
  (a31:W.nsIn K mainGlobals "_law_stairs" = some (some (.ref f31)))
  (l31:K.lookup f31=some ⟨oc31,od31,.func (W.fnOf "_law_stairs" "_law_stairs" (jH zn) (jC zn) (jf zn) .none kV31 dc31 pm31 an31 cd31 ct31),sl31⟩) (c31:W.codeIn K cd31 "_law_stairs" = true) (k31:W.keepIn K (.ref f31)=true)
  (a32:W.nsIn K mainGlobals "_law_proc" = some (some (.ref f32)))
  (l32:K.lookup f32=some ⟨oc32,od32,.func (W.fnOf "_law_proc" "_law_proc" (jH Yp) (jC Yp) (jf Yp) .none kV32 dc32 pm32 an32 cd32 ct32),sl32⟩) (c32:W.codeIn K cd32 "_law_proc" = true) (k32:W.keepIn K (.ref f32)=true)
  (a33:W.nsIn K mainGlobals "_law_program" = some (some (.ref f33)))
  (l33:K.lookup f33=some ⟨oc33,od33,.func (W.fnOf "_law_program" "_law_program" (jH zO) (jC zO) (jf zO) .none kV33 dc33 pm33 an33 cd33 ct33),sl33⟩) (c33:W.codeIn K cd33 "_law_program" = true) (k33:W.keepIn K (.ref f33)=true)
  (a34:W.nsIn K mainGlobals "_law_due" = some (some (.ref f34)))
  (l34:K.lookup f34=some ⟨oc34,od34,.func (W.fnOf "_law_due" "_law_due" (jH jaH) (jC jaH) (jf jaH) .none kV34 dc34 pm34 an34 cd34 ct34),sl34⟩) (c34:W.codeIn K cd34 "_law_due" = true) (k34:W.keepIn K (.ref f34)=true)
  (a35:W.nsIn K mainGlobals "law" = some (some (.ref f35)))
  (l35:K.lookup f35=some ⟨oc35,od35,.func (W.fnOf "law" "law" (jH yQ) (jC yQ) (jf yQ) .none kV35 dc35 pm35 an35 cd35 ct35),sl35⟩) (c35:W.codeIn K cd35 "law" = true) (k35:W.keepIn K (.ref f35)=true)
  (aC0:W.nsIn K mainGlobals "Course" = some (some (.ref C0))) (a36:W.findIn K (.ref C0) "__init__" = some (some (.ref f36))) (i36:W.isFn K (.ref f36)=true)
  (l36:K.lookup f36=some ⟨oc36,od36,.func (W.fnOf "__init__" "Course.__init__" (jH qO) (jC qO) (jf qO) .none kV36 dc36 pm36 an36 cd36 ct36),sl36⟩) (c36:W.codeIn K cd36 "Course.__init__" = true) (k36:W.keepIn K (.ref f36)=true)
  (aC1:W.nsIn K mainGlobals "Frame" = some (some (.ref C1))) (a37:W.findIn K (.ref C1) "__init__" = some (some (.ref f37))) (i37:W.isFn K (.ref f37)=true)
  (l37:K.lookup f37=some ⟨oc37,od37,.func (W.fnOf "__init__" "Frame.__init__" (jH kM) (jC kM) (jf kM) .none kV37 dc37 pm37 an37 cd37 ct37),sl37⟩) (c37:W.codeIn K cd37 "Frame.__init__" = true) (k37:W.keepIn K (.ref f37)=true)
  (pg0:W.plainGet K C0 Str.empty=true) (hd0:W.hasDictIn K C0=true) (po0:W.plainOver K C0=true) (sa0:W.findIn K (.ref C0) "__setattr__" = some (some (.builtin "object.__setattr__"))) (mk0:W.makesIn K C0=true) (kc0:W.keepIn K (.ref C0)=true)
  (n0_0:W.findIn K (.ref C0) "procs" = some none)
  (n0_1:W.findIn K (.ref C0) "steps" = some none)
  (n0_2:W.findIn K (.ref C0) "inputs" = some none)
  (n0_3:W.findIn K (.ref C0) "taken" = some none)
  (n0_4:W.findIn K (.ref C0) "most" = some none)
  (n0_5:W.findIn K (.ref C0) "used" = some none)
  (n0_6:W.findIn K (.ref C0) "frames" = some none)
  (pg1:W.plainGet K C1 Str.empty=true) (hd1:W.hasDictIn K C1=true) (po1:W.plainOver K C1=true) (sa1:W.findIn K (.ref C1) "__setattr__" = some (some (.builtin "object.__setattr__"))) (mk1:W.makesIn K C1=true) (kc1:W.keepIn K (.ref C1)=true)
  (n1_0:W.findIn K (.ref C1) "proc" = some none)
  (n1_1:W.findIn K (.ref C1) "called_by" = some none)
  (n1_2:W.findIn K (.ref C1) "numbers" = some none)
  (n1_3:W.findIn K (.ref C1) "rows" = some none)
  (n1_4:W.findIn K (.ref C1) "at" = some none)
  {ba eb:Addr} {odb ode:Option Addr} {slb sle:Array (Option Value)} {tkb tkd:Tok} {nb ne:Nat} (bag:W.nsIn K mainGlobals "BARE_ROW" = some (some (.ref ba))) (blg:K.lookup ba=some ⟨.type "tuple",odb,.seq #[.int 0 tkb,.ref eb] nb,slb⟩) (ble:K.lookup eb=some ⟨.type "tuple",ode,.seq #[] ne,sle⟩) (dag:W.nsIn K mainGlobals "MOST_DEEP" = some (some (.int 20 tkd)))
  (z0:W.nsIn K mainGlobals "len" = some none) (z1:W.nsIn K mainGlobals "max" = some none) (z2:W.nsIn K mainGlobals "min" = some none) (z3:W.nsIn K mainGlobals "all" = some none) (z4:W.nsIn K mainGlobals "isinstance" = some none) (z5:W.nsIn K mainGlobals "abs" = some none) (z6:W.nsIn K mainGlobals "sorted" = some none) (z7:W.nsIn K mainGlobals "int" = some none) (z8:W.nsIn K mainGlobals "str" = some none) (z9:W.nsIn K mainGlobals "bool" = some none) (z10:W.nsIn K mainGlobals "tuple" = some none) (z11:W.nsIn K mainGlobals "list" = some none) (z12:W.nsIn K mainGlobals "dict" = some none) (z13:W.nsIn K mainGlobals "range" = some none) (z14:W.nsIn K mainGlobals "set" = some none) (z15:W.nsIn K mainGlobals "zip" = some none) (z16:W.nsIn K mainGlobals "enumerate" = some none) :
  ∃ fd:FuncData,(∀ (s:Shared) (v:Value),BindsTo s fd ⟨[v],[]⟩ [("_law_script",v)])∧∀ base:Heap,K.In base→base.Ns mainGlobals mg→FnOk l.prog w K mg base CX0 15 fa fd ["_law_script"] (jbv K):=by
 have e:=hfa.symm.trans (W.mg_of X G a35)
 cases e
 have B:Free0 mg:=⟨W.mg_none_of X G z0,W.mg_none_of X G z1,W.mg_none_of X G z2,W.mg_none_of X G z3,W.mg_none_of X G z4,W.mg_none_of X G z5,W.mg_none_of X G z6,W.mg_none_of X G z7,W.mg_none_of X G z8,W.mg_none_of X G z9,W.mg_none_of X G z10,W.mg_none_of X G z11,W.mg_none_of X G z12,W.mg_none_of X G z13,W.mg_none_of X G z14⟩
 have Z_zip:mg "zip" = none:=W.mg_none_of X G z15
 have Z_enumerate:mg "enumerate" = none:=W.mg_none_of X G z16
 have R:Bare K mg:=⟨ba,eb,W.mg_of X G bag,fun H=>.inr ⟨_,_,_,blg,rfl,rfl,sm rfl,.cons ⟨tkb,rfl⟩ (.cons rfl .nil)⟩,fun H=>.inr ⟨_,_,_,ble,rfl,rfl,sm rfl,.nil⟩⟩
 have G_deep:mg "MOST_DEEP" = some (.int 20 tkd):=W.mg_of X G dag
 have U0:=jY (st:=Yo) l0 c0 k0
 have b0:=U0.binds (ps:=["steps"]) fun _ _ _ _ _ _ us hl=>match us,hl with | [_],_=>rfl
 have U1:=jY (st:=qQ) l1 c1 k1
 have b1:=U1.binds (ps:=["steps","body","around"]) fun _ _ _ _ _ _ us hl=>match us,hl with | [_,_,_],_=>rfl
 have U2:=jY (st:=zb) l2 c2 k2
 have b2:=U2.binds (ps:=["steps","statement","path"]) fun _ _ _ _ _ _ us hl=>match us,hl with | [_,_,_],_=>rfl
 have U3:=jY (st:=kR) l3 c3 k3
 have b3:=U3.binds (ps:=["steps","statement","path"]) fun _ _ _ _ _ _ us hl=>match us,hl with | [_,_,_],_=>rfl
 have U4:=jY (st:=zc) l4 c4 k4
 have b4:=U4.binds (ps:=["proc"]) fun _ _ _ _ _ _ us hl=>match us,hl with | [_],_=>rfl
 have U5:=jY (st:=ql) l5 c5 k5
 have b5:=U5.binds (ps:=["steps","p"]) fun _ _ _ _ _ _ us hl=>match us,hl with | [_,_],_=>rfl
 have U6:=jY (st:=Jy) l6 c6 k6
 have b6:=U6.binds (ps:=["row","p"]) fun _ _ _ _ _ _ us hl=>match us,hl with | [_,_],_=>rfl
 have U7:=jY (st:=yz) l7 c7 k7
 have b7:=U7.binds (ps:=["base","pairs"]) fun _ _ _ _ _ _ us hl=>match us,hl with | [_,_],_=>rfl
 have U8:=jY (st:=zM) l8 c8 k8
 have b8:=U8.binds (ps:=["row","p","v"]) fun _ _ _ _ _ _ us hl=>match us,hl with | [_,_,_],_=>rfl
 have U9:=jY (st:=qP) l9 c9 k9
 have b9:=U9.binds (ps:=["x","numbers"]) fun _ _ _ _ _ _ us hl=>match us,hl with | [_,_],_=>rfl
 have U10:=jY (st:=zd) l10 c10 k10
 have b10:=U10.binds (ps:=["place","numbers"]) fun _ _ _ _ _ _ us hl=>match us,hl with | [_,_],_=>rfl
 have U11:=jY (st:=yA) l11 c11 k11
 have b11:=U11.binds (ps:=["r","rows"]) fun _ _ _ _ _ _ us hl=>match us,hl with | [_,_],_=>rfl
 have U12:=jY (st:=zN) l12 c12 k12
 have b12:=U12.binds (ps:=["term","numbers","rows"]) fun _ _ _ _ _ _ us hl=>match us,hl with | [_,_,_],_=>rfl
 have U13:=jY (st:=qm) l13 c13 k13
 have b13:=U13.binds (ps:=["claim","numbers","rows"]) fun _ _ _ _ _ _ us hl=>match us,hl with | [_,_,_],_=>rfl
 have U14:=jY (st:=yB) l14 c14 k14
 have b14:=U14.binds (ps:=["claim","numbers","rows"]) fun _ _ _ _ _ _ us hl=>match us,hl with | [_,_,_],_=>rfl
 have U15:=jY (st:=qe) l15 c15 k15
 have b15:=U15.binds (ps:=["claims","frame"]) fun _ _ _ _ _ _ us hl=>match us,hl with | [_,_],_=>rfl
 have U16:=jY (st:=Yr) l16 c16 k16
 have b16:=U16.binds (ps:=["f","kind","path","claims","frame"]) fun _ _ _ _ _ _ us hl=>match us,hl with | [_,_,_,_,_],_=>rfl
 have U17:=jY (st:=jce) l17 c17 k17
 have b17:=U17.binds (ps:=["frame","step"]) fun _ _ _ _ _ _ us hl=>match us,hl with | [_,_],_=>rfl
 have U18:=jY (st:=JK) l18 c18 k18
 have b18:=U18.binds (ps:=["course","frame","statement","path"]) fun _ _ _ _ _ _ us hl=>match us,hl with | [_,_,_,_],_=>rfl
 have U19:=jY (st:=qB) l19 c19 k19
 have b19:=U19.binds (ps:=["course","frame","x"]) fun _ _ _ _ _ _ us hl=>match us,hl with | [_,_,_],_=>rfl
 have U20:=jY (st:=qR) l20 c20 k20
 have b20:=U20.binds (ps:=["caller","statement","out","held"]) fun _ _ _ _ _ _ us hl=>match us,hl with | [_,_,_,_],_=>rfl
 have U21:=jY (st:=sDo) l21 c21 k21
 have b21:=U21.binds (ps:=["course","frame","statement","path"]) fun _ _ _ _ _ _ us hl=>match us,hl with | [_,_,_,_],_=>rfl
 have U22:=jY (st:=qA) l22 c22 k22
 have b22:=U22.binds (ps:=["course"]) fun _ _ _ _ _ _ us hl=>match us,hl with | [_],_=>rfl
 have U23:=jY (st:=zP) l23 c23 k23
 have b23:=U23.binds (ps:=["course"]) fun _ _ _ _ _ _ us hl=>match us,hl with | [_],_=>rfl
 have U24:=jY (st:=kr) l24 c24 k24
 have b24:=U24.binds (ps:=["program"]) fun _ _ _ _ _ _ us hl=>match us,hl with | [_],_=>rfl
 have U25:=jY (st:=jcc) l25 c25 k25
 have b25:=U25.binds (ps:=["program","f","numbers","rows","inputs","most"]) fun _ _ _ _ _ _ us hl=>match us,hl with | [_,_,_,_,_,_],_=>rfl
 have U26:=jY (st:=zQ) l26 c26 k26
 have b26:=U26.binds (ps:=["_law_script","_law_k"]) fun _ _ _ _ _ _ us hl=>match us,hl with | [_,_],_=>rfl
 have U27:=jY (st:=zE) l27 c27 k27
 have b27:=U27.binds (ps:=["_law_cell","_law_many"]) fun _ _ _ _ _ _ us hl=>match us,hl with | [_,_],_=>rfl
 have U28:=jY (st:=jcd) l28 c28 k28
 have b28:=U28.binds (ps:=["_law_seed","_law_k"]) fun _ _ _ _ _ _ us hl=>match us,hl with | [_,_],_=>rfl
 have U29:=jY (st:=Yq) l29 c29 k29
 have b29:=U29.binds (ps:=["_law_seed","_law_near"]) fun _ _ _ _ _ _ us hl=>match us,hl with | [_,_],_=>rfl
 have U30:=jY (st:=Jx) l30 c30 k30
 have b30:=U30.binds (ps:=["_law_row","_law_place"]) fun _ _ _ _ _ _ us hl=>match us,hl with | [_,_],_=>rfl
 have U31:=jY (st:=zn) l31 c31 k31
 have b31:=U31.binds (ps:=["_law_row"]) fun _ _ _ _ _ _ us hl=>match us,hl with | [_],_=>rfl
 have U32:=jY (st:=Yp) l32 c32 k32
 have b32:=U32.binds (ps:=["_law_own","_law_w","_law_claims","_law_about","_law_more","_law_base"]) fun _ _ _ _ _ _ us hl=>match us,hl with | [_,_,_,_,_,_],_=>rfl
 have U33:=jY (st:=zO) l33 c33 k33
 have b33:=U33.binds (ps:=["_law_w","_law_claims","_law_twin","_law_about","_law_more","_law_base"]) fun _ _ _ _ _ _ us hl=>match us,hl with | [_,_,_,_,_,_],_=>rfl
 have U34:=jY (st:=jaH) l34 c34 k34
 have b34:=U34.binds (ps:=["_law_w","_law_number","_law_least","_law_place","_law_twin","_law_about","_law_more","_law_base","_law_rows"]) fun _ _ _ _ _ _ us hl=>match us,hl with | [_,_,_,_,_,_,_,_,_],_=>rfl
 have U35:=jY (st:=yQ) l35 c35 k35
 have U36:=jY (st:=qO) l36 c36 k36
 have b36:=U36.binds (ps:=["self","program","inputs","most"]) fun _ _ _ _ _ _ us hl=>match us,hl with | [_,_,_,_],_=>rfl
 have U37:=jY (st:=kM) l37 c37 k37
 have b37:=U37.binds (ps:=["self","proc","numbers","rows","called_by"]) fun _ _ _ _ _ _ us hl=>match us,hl with | [_,_,_,_,_],_=>rfl
 have T_Course:ClsC K C0:=⟨⟨pg0,hd0,po0,sa0⟩,n0_0,n0_1,n0_2,n0_3,n0_4,n0_5,n0_6⟩
 have T_Frame:ClsF K C1:=⟨⟨pg1,hd1,po1,sa1⟩,n1_0,n1_1,n1_2,n1_3,n1_4⟩
 refine ⟨W.fnOf "law" "law" (jH yQ) (jC yQ) (jf yQ) .none kV35 dc35 pm35 an35 cd35 ct35,fun s v=>.of_eq rfl,fun base _ _=>?_⟩
 have F_room:=Fn.mk' U0 b0 (W.mg_of X G a0) (jeZ (P:=l.prog) (w:=w) (base:=base) U0 B)
 have F_lay_body:=JD (P:=l.prog) (w:=w) (base:=base) B Z_enumerate U1 b1 (W.mg_of X G a1) U2 b2 (W.mg_of X G a2) U3 b3 (W.mg_of X G a3) F_room 2
 have F_steps_of:=Fn.mk' U4 b4 (W.mg_of X G a4) (ZX (P:=l.prog) (w:=w) (base:=base) U4 F_lay_body)
 have F_steps_up_to:=Fn.mk' U5 b5 (W.mg_of X G a5) (jdE (P:=l.prog) (w:=w) (base:=base) U5 B)
 have F_entry:=Fn.mk' U6 b6 (W.mg_of X G a6) (jdI (P:=l.prog) (w:=w) (base:=base) U6 F_steps_up_to)
 have F_stairs:=Fn.mk' U7 b7 (W.mg_of X G a7) (jco (P:=l.prog) (w:=w) (base:=base) U7 B)
 have F_written:=Fn.mk' U8 b8 (W.mg_of X G a8) (jaS (P:=l.prog) (w:=w) (base:=base) U8 B F_steps_up_to F_entry F_stairs)
 have F_number_at:=Fn.mk' U9 b9 (W.mg_of X G a9) (Y3 (P:=l.prog) (w:=w) (base:=base) U9)
 have F_place_at:=Fn.mk' U10 b10 (W.mg_of X G a10) (ZY (P:=l.prog) (w:=w) (base:=base) U10 F_number_at)
 have F_row_at:=Fn.mk' U11 b11 (W.mg_of X G a11) (jcp (P:=l.prog) (w:=w) (base:=base) U11 R)
 have F_term_at:=Fn.mk' U12 b12 (W.mg_of X G a12) (jaT (P:=l.prog) (w:=w) (base:=base) U12 F_number_at F_place_at F_row_at F_entry)
 have F_least_holds:=Fn.mk' U13 b13 (W.mg_of X G a13) (jdG (P:=l.prog) (w:=w) (base:=base) U13 F_term_at)
 have F_holds:=Fn.mk' U14 b14 (W.mg_of X G a14) (jcr (P:=l.prog) (w:=w) (base:=base) U14 F_least_holds)
 have F_first_untrue:=Fn.mk' U15 b15 (W.mg_of X G a15) (JT (P:=l.prog) (w:=w) (base:=base) T_Frame Z_enumerate U15 F_holds)
 have F_look:=Fn.mk' U16 b16 (W.mg_of X G a16) (je2 (P:=l.prog) (w:=w) (base:=base) U16 F_first_untrue)
 have F_ask:=Fn.mk' U17 b17 (W.mg_of X G a17) (jgl (P:=l.prog) (w:=w) (base:=base) T_Frame U17 F_look F_holds)
 have M_Frame:MkFn l.prog w K mg base _ "Frame" C1 _ _:=⟨f37,_,⟨mk1,a37,i37,kc1⟩,jdH (P:=l.prog) (w:=w) (base:=base) T_Frame U37 B Z_zip,b37,W.mg_of X G aC1⟩
 have F_call:=Fn.mk' U18 b18 (W.mg_of X G a18) (je4 (P:=l.prog) (w:=w) (base:=base) T_Course T_Frame U18 B G_deep F_number_at M_Frame F_look)
 have F_take_input:=Fn.mk' U19 b19 (W.mg_of X G a19) (K8 (P:=l.prog) (w:=w) (base:=base) T_Course T_Frame U19 B)
 have F_hand_back:=Fn.mk' U20 b20 (W.mg_of X G a20) (Y5 (P:=l.prog) (w:=w) (base:=base) T_Frame U20 B Z_zip)
 have F_do:=Fn.mk' U21 b21 (W.mg_of X G a21) (jhd (P:=l.prog) (w:=w) (base:=base) T_Course T_Frame U21 F_call F_look F_take_input F_term_at F_written F_place_at)
 have F_come_back:=Fn.mk' U22 b22 (W.mg_of X G a22) (Y6 (P:=l.prog) (w:=w) (base:=base) T_Course T_Frame U22 F_look F_number_at F_hand_back)
 have F_gone_on:=Fn.mk' U23 b23 (W.mg_of X G a23) (jaX (P:=l.prog) (w:=w) (base:=base) B T_Course T_Frame U23 F_come_back F_ask F_do)
 have F_procs_by_name:=Fn.mk' U24 b24 (W.mg_of X G a24) (jdF (P:=l.prog) (w:=w) (base:=base) U24)
 have M_Course:MkFn l.prog w K mg base _ "Course" C0 _ _:=⟨f36,_,⟨mk0,a36,i36,kc0⟩,(FnOk.up (jct (P:=l.prog) (w:=w) (base:=base) T_Course U36 (by decide:1≤7) F_procs_by_name F_steps_of) (by decide:8≤12)),b36,W.mg_of X G aC0⟩
 have F_run:=Fn.mk' U25 b25 (W.mg_of X G a25) (jgh (P:=l.prog) (w:=w) (base:=base) T_Course T_Frame U25 (by decide:10≤13) M_Course M_Frame F_first_untrue F_gone_on)
 have F_cell_at:=Fn.mk' U26 b26 (W.mg_of X G a26) (je3 (P:=l.prog) (w:=w) (base:=base) U26 B)
 have F_words:=Fn.mk' U27 b27 (W.mg_of X G a27) (jdD (P:=l.prog) (w:=w) (base:=base) U27 B)
 have F_mix:=Fn.mk' U28 b28 (W.mg_of X G a28) (jgi (P:=l.prog) (w:=w) (base:=base) U28)
 have F_made:=Fn.mk' U29 b29 (W.mg_of X G a29) (je1 (P:=l.prog) (w:=w) (base:=base) U29 B F_mix)
 have F_lholds:=Fn.mk' U30 b30 (W.mg_of X G a30) (jcs (P:=l.prog) (w:=w) (base:=base) U30)
 have F_lstairs:=Fn.mk' U31 b31 (W.mg_of X G a31) (jaU (P:=l.prog) (w:=w) (base:=base) U31 B F_lholds)
 have F_proc:=Fn.mk' U32 b32 (W.mg_of X G a32) (je0 (P:=l.prog) (w:=w) (base:=base) U32 B)
 have F_program:=Fn.mk' U33 b33 (W.mg_of X G a33) (jaV (P:=l.prog) (w:=w) (base:=base) U33 B F_proc)
 have F_due:=Fn.mk' U34 b34 (W.mg_of X G a34) (jgk (P:=l.prog) (w:=w) (base:=base) U34 B F_lstairs)
 exact jgj U35 B F_cell_at F_words F_mix F_made F_program F_due F_lstairs F_run
theorem walk {l:PySem.W.OpenLaw} {q:Program} {loose:List Str} {XP:(Str→Option Value)→Heap→Prop} {YP:World→Heap→Prop} {d:DefRec} {K:Params→W.Frag} (hn:l.most=some 63) (hdf:d.params.defaults=[])
  (hY:∀ (w:World) (h:Heap),YP w h→(K w.params).In h)
  (F:∀ (w:World) (mg:Str→Option Value) (fa:Addr) (h:Heap),(K w.params).In h→h.Ns mainGlobals mg→mg d.name=some (.ref fa)→
   ∃ fd:FuncData,(∀ (s:Shared) (u:Value),BindsTo s fd ⟨[u],[]⟩ [("_law_script",u)])∧∀ base:Heap,(K w.params).In base→base.Ns mainGlobals mg→FnOk l.prog w (K w.params) mg base CX0 15 fa fd ["_law_script"] (jbv (K w.params))) :
  PySem.W.WalkO q loose XP YP l.row.toRowW d [] (fun f vs=>PySem.call f vs):=
 L2.walk_of (n:=63) (k:=15) (x:="_law_script") (CX:=fun _=>CX0) (sp:=fun w=>jbv (K w.params)) hn (by decide) hdf ⟨rfl,by decide,by decide⟩ hY F (fun _ _ a ns hl _ hS=>⟨a,ns,rfl,hS,hl,fun _=>rfl⟩) fun _ _ _ _ _ z=>z
end LW
def PySem.W.Fast.tw10086571511348129269:Unit:=()
def PySem.W.Fast.tw10144854774684469378:Unit:=()
def PySem.W.Fast.tw10158024510769779365:Unit:=()
def PySem.W.Fast.tw10384637139346801376:Unit:=()
def PySem.W.Fast.tw10630093889791131578:Unit:=()
def PySem.W.Fast.tw10692155121890940324:Unit:=()
def PySem.W.Fast.tw10971728420883967084:Unit:=()
def PySem.W.Fast.tw10975395114178642839:Unit:=()
def PySem.W.Fast.tw11017663439603508041:Unit:=()
def PySem.W.Fast.tw11140772365592071903:Unit:=()
def PySem.W.Fast.tw11340233547532557697:Unit:=()
def PySem.W.Fast.tw11474591728838353020:Unit:=()
def PySem.W.Fast.tw11650523881831387226:Unit:=()
def PySem.W.Fast.tw11943565398110935977:Unit:=()
def PySem.W.Fast.tw11960792894697209885:Unit:=()
def PySem.W.Fast.tw12041804731584911340:Unit:=()
def PySem.W.Fast.tw1206221266670196021:Unit:=()
def PySem.W.Fast.tw12225589357578367243:Unit:=()
def PySem.W.Fast.tw12265714075175823492:Unit:=()
def PySem.W.Fast.tw12273112566843794223:Unit:=()
def PySem.W.Fast.tw1234013706297272745:Unit:=()
def PySem.W.Fast.tw12346140520711542355:Unit:=()
def PySem.W.Fast.tw1259671620366566633:Unit:=()
def PySem.W.Fast.tw12629502035230186201:Unit:=()
def PySem.W.Fast.tw12632768683896779202:Unit:=()
def PySem.W.Fast.tw12637015469996748397:Unit:=()
def PySem.W.Fast.tw1276338036524150005:Unit:=()
def PySem.W.Fast.tw12772580193217429028:Unit:=()
def PySem.W.Fast.tw12804783009733353671:Unit:=()
def PySem.W.Fast.tw13090771137478697485:Unit:=()
def PySem.W.Fast.tw13185566539801873875:Unit:=()
def PySem.W.Fast.tw13319768761554801357:Unit:=()
def PySem.W.Fast.tw13355633843876685706:Unit:=()
def PySem.W.Fast.tw13394705981417991577:Unit:=()
def PySem.W.Fast.tw13724073373003143981:Unit:=()
def PySem.W.Fast.tw13724728758867316262:Unit:=()
def PySem.W.Fast.tw13787597352785073904:Unit:=()
def PySem.W.Fast.tw14031519871575887011:Unit:=()
def PySem.W.Fast.tw14239793618655871004:Unit:=()
def PySem.W.Fast.tw14522170387512464066:Unit:=()
def PySem.W.Fast.tw14735921220715829164:Unit:=()
def PySem.W.Fast.tw14803802703602824624:Unit:=()
def PySem.W.Fast.tw14905821299380768821:Unit:=()
def PySem.W.Fast.tw15169539476564047173:Unit:=()
def PySem.W.Fast.tw15206289939435046431:Unit:=()
def PySem.W.Fast.tw15333234712819026551:Unit:=()
def PySem.W.Fast.tw15359335908121798030:Unit:=()
def PySem.W.Fast.tw15366143484651503613:Unit:=()
def PySem.W.Fast.tw1551642190000108283:Unit:=()
def PySem.W.Fast.tw15880008192547859189:Unit:=()
def PySem.W.Fast.tw16031346117570061310:Unit:=()
def PySem.W.Fast.tw1603690312817209277:Unit:=()
def PySem.W.Fast.tw16141354528487859754:Unit:=()
def PySem.W.Fast.tw16224249017521405093:Unit:=()
def PySem.W.Fast.tw16315724892821107410:Unit:=()
def PySem.W.Fast.tw16377405712270202768:Unit:=()
def PySem.W.Fast.tw16694973746875883422:Unit:=()
def PySem.W.Fast.tw16770208707219195245:Unit:=()
def PySem.W.Fast.tw16872733467727852658:Unit:=()
def PySem.W.Fast.tw16917942628103562949:Unit:=()
def PySem.W.Fast.tw1700229812902585952:Unit:=()
def PySem.W.Fast.tw17124974963047910791:Unit:=()
def PySem.W.Fast.tw17153633547915192528:Unit:=()
def PySem.W.Fast.tw17446893950970206841:Unit:=()
def PySem.W.Fast.tw17500752015452130980:Unit:=()
def PySem.W.Fast.tw1769385761743257676:Unit:=()
def PySem.W.Fast.tw17831044005128829801:Unit:=()
def PySem.W.Fast.tw17901241212628186115:Unit:=()
def PySem.W.Fast.tw18009294534125530719:Unit:=()
def PySem.W.Fast.tw18076970895716311541:Unit:=()
def PySem.W.Fast.tw18258072550990891695:Unit:=()
def PySem.W.Fast.tw18310882576708844119:Unit:=()
def PySem.W.Fast.tw18373440318823873070:Unit:=()
def PySem.W.Fast.tw2001488833096902937:Unit:=()
def PySem.W.Fast.tw2052215145398340093:Unit:=()
def PySem.W.Fast.tw2165591920269402468:Unit:=()
def PySem.W.Fast.tw2249275897653710934:Unit:=()
def PySem.W.Fast.tw2425791186823275548:Unit:=()
def PySem.W.Fast.tw2534773448093133220:Unit:=()
def PySem.W.Fast.tw2574185771675846757:Unit:=()
def PySem.W.Fast.tw2584611983248517007:Unit:=()
def PySem.W.Fast.tw267085222982059582:Unit:=()
def PySem.W.Fast.tw285754633240477111:Unit:=()
def PySem.W.Fast.tw3108292521708038447:Unit:=()
def PySem.W.Fast.tw3200890820330470663:Unit:=()
def PySem.W.Fast.tw3331603315900701601:Unit:=()
def PySem.W.Fast.tw3419194628118418557:Unit:=()
def PySem.W.Fast.tw3660585993302805653:Unit:=()
def PySem.W.Fast.tw3910244907762463495:Unit:=()
def PySem.W.Fast.tw4122804156128794236:Unit:=()
def PySem.W.Fast.tw4294148975820618341:Unit:=()
def PySem.W.Fast.tw439320821315234562:Unit:=()
def PySem.W.Fast.tw4459707020663052848:Unit:=()
def PySem.W.Fast.tw4741841536451363107:Unit:=()
def PySem.W.Fast.tw4922946560145441156:Unit:=()
def PySem.W.Fast.tw4971340135345515907:Unit:=()
def PySem.W.Fast.tw5004588360716291707:Unit:=()
def PySem.W.Fast.tw5055957859944509818:Unit:=()
def PySem.W.Fast.tw5101504501578173145:Unit:=()
def PySem.W.Fast.tw5360346050836943629:Unit:=()
def PySem.W.Fast.tw5374428890311978921:Unit:=()
def PySem.W.Fast.tw556182576501755718:Unit:=()
def PySem.W.Fast.tw5672522391458769473:Unit:=()
def PySem.W.Fast.tw6066001015016166880:Unit:=()
def PySem.W.Fast.tw6067703806308587717:Unit:=()
def PySem.W.Fast.tw6081201444496434148:Unit:=()
def PySem.W.Fast.tw6291188774036918788:Unit:=()
def PySem.W.Fast.tw6357192977386260817:Unit:=()
def PySem.W.Fast.tw6851144362815521487:Unit:=()
def PySem.W.Fast.tw6924242619752352038:Unit:=()
def PySem.W.Fast.tw7082981841114785965:Unit:=()
def PySem.W.Fast.tw712531133171908243:Unit:=()
def PySem.W.Fast.tw7222072535071179196:Unit:=()
def PySem.W.Fast.tw735910555912513605:Unit:=()
def PySem.W.Fast.tw7485692986543748205:Unit:=()
def PySem.W.Fast.tw7623153030509782676:Unit:=()
def PySem.W.Fast.tw7687836780589911625:Unit:=()
def PySem.W.Fast.tw8097123640561404212:Unit:=()
def PySem.W.Fast.tw8154640066578298711:Unit:=()
def PySem.W.Fast.tw8166067549433697633:Unit:=()
def PySem.W.Fast.tw8340565964257564104:Unit:=()
def PySem.W.Fast.tw8598497377215010435:Unit:=()
def PySem.W.Fast.tw8727443203151282262:Unit:=()
def PySem.W.Fast.tw9054776176846367657:Unit:=()
def PySem.W.Fast.tw9184193544920481135:Unit:=()
def PySem.W.Fast.tw930793793453034837:Unit:=()
def PySem.W.Fast.tw9685361374708266314:Unit:=()
open PySem PySem.W PyProof.Rows
set_option maxRecDepth 100000 in
set_option maxHeartbeats 0 in
theorem PySem.Challenge.cw_outlineward_k74_calls_within_calls_holds : PySem.Challenge.rw_outlineward_k74_calls_within_calls.Holds := by
 w_on;o_law;k_head;(case hw=>w_witness2)
 k_fill
 refine LW.walk (l:=PySem.Challenge.rw_outlineward_k74_calls_within_calls) rfl rfl (fun w h Y=>W.kIn_of Y) ?F
 case F=>
  intro w mg fa h KX G hmg
  refine' LW.all_mk KX G hmg ?a0 ?l0 ?c0 ?k0 ?a1 ?l1 ?c1 ?k1 ?a2 ?l2 ?c2 ?k2 ?a3 ?l3 ?c3 ?k3 ?a4 ?l4 ?c4 ?k4 ?a5 ?l5 ?c5 ?k5 ?a6 ?l6 ?c6 ?k6 ?a7 ?l7 ?c7 ?k7 ?a8 ?l8 ?c8 ?k8 ?a9 ?l9 ?c9 ?k9 ?a10 ?l10 ?c10 ?k10 ?a11 ?l11 ?c11 ?k11 ?a12 ?l12 ?c12 ?k12 ?a13 ?l13 ?c13 ?k13 ?a14 ?l14 ?c14 ?k14 ?a15 ?l15 ?c15 ?k15 ?a16 ?l16 ?c16 ?k16 ?a17 ?l17 ?c17 ?k17 ?a18 ?l18 ?c18 ?k18 ?a19 ?l19 ?c19 ?k19 ?a20 ?l20 ?c20 ?k20 ?a21 ?l21 ?c21 ?k21 ?a22 ?l22 ?c22 ?k22 ?a23 ?l23 ?c23 ?k23 ?a24 ?l24 ?c24 ?k24 ?a25 ?l25 ?c25 ?k25 ?a26 ?l26 ?c26 ?k26 ?a27 ?l27 ?c27 ?k27 ?a28 ?l28 ?c28 ?k28 ?a29 ?l29 ?c29 ?k29 ?a30 ?l30 ?c30 ?k30 ?a31 ?l31 ?c31 ?k31 ?a32 ?l32 ?c32 ?k32 ?a33 ?l33 ?c33 ?k33 ?a34 ?l34 ?c34 ?k34 ?a35 ?l35 ?c35 ?k35 ?aC0 ?a36 ?i36 ?l36 ?c36 ?k36 ?aC1 ?a37 ?i37 ?l37 ?c37 ?k37 ?pg0 ?hd0 ?po0 ?sa0 ?mk0 ?kc0 ?n0_0 ?n0_1 ?n0_2 ?n0_3 ?n0_4 ?n0_5 ?n0_6 ?pg1 ?hd1 ?po1 ?sa1 ?mk1 ?kc1 ?n1_0 ?n1_1 ?n1_2 ?n1_3 ?n1_4 ?bag ?blg ?ble ?dag ?z0 ?z1 ?z2 ?z3 ?z4 ?z5 ?z6 ?z7 ?z8 ?z9 ?z10 ?z11 ?z12 ?z13 ?z14 ?z15 ?z16
  (case a0=>k_is)
  (case l0=>k_is)
  (case c0=>k_is)
  (case k0=>k_is)
  (case a1=>k_is)
  (case l1=>k_is)
  (case c1=>k_is)
  (case k1=>k_is)
  (case a2=>k_is)
  (case l2=>k_is)
  (case c2=>k_is)
  (case k2=>k_is)
  (case a3=>k_is)
  (case l3=>k_is)
  (case c3=>k_is)
  (case k3=>k_is)
  (case a4=>k_is)
  (case l4=>k_is)
  (case c4=>k_is)
  (case k4=>k_is)
  (case a5=>k_is)
  (case l5=>k_is)
  (case c5=>k_is)
  (case k5=>k_is)
  (case a6=>k_is)
  (case l6=>k_is)
  (case c6=>k_is)
  (case k6=>k_is)
  (case a7=>k_is)
  (case l7=>k_is)
  (case c7=>k_is)
  (case k7=>k_is)
  (case a8=>k_is)
  (case l8=>k_is)
  (case c8=>k_is)
  (case k8=>k_is)
  (case a9=>k_is)
  (case l9=>k_is)
  (case c9=>k_is)
  (case k9=>k_is)
  (case a10=>k_is)
  (case l10=>k_is)
  (case c10=>k_is)
  (case k10=>k_is)
  (case a11=>k_is)
  (case l11=>k_is)
  (case c11=>k_is)
  (case k11=>k_is)
  (case a12=>k_is)
  (case l12=>k_is)
  (case c12=>k_is)
  (case k12=>k_is)
  (case a13=>k_is)
  (case l13=>k_is)
  (case c13=>k_is)
  (case k13=>k_is)
  (case a14=>k_is)
  (case l14=>k_is)
  (case c14=>k_is)
  (case k14=>k_is)
  (case a15=>k_is)
  (case l15=>k_is)
  (case c15=>k_is)
  (case k15=>k_is)
  (case a16=>k_is)
  (case l16=>k_is)
  (case c16=>k_is)
  (case k16=>k_is)
  (case a17=>k_is)
  (case l17=>k_is)
  (case c17=>k_is)
  (case k17=>k_is)
  (case a18=>k_is)
  (case l18=>k_is)
  (case c18=>k_is)
  (case k18=>k_is)
  (case a19=>k_is)
  (case l19=>k_is)
  (case c19=>k_is)
  (case k19=>k_is)
  (case a20=>k_is)
  (case l20=>k_is)
  (case c20=>k_is)
  (case k20=>k_is)
  (case a21=>k_is)
  (case l21=>k_is)
  (case c21=>k_is)
  (case k21=>k_is)
  (case a22=>k_is)
  (case l22=>k_is)
  (case c22=>k_is)
  (case k22=>k_is)
  (case a23=>k_is)
  (case l23=>k_is)
  (case c23=>k_is)
  (case k23=>k_is)
  (case a24=>k_is)
  (case l24=>k_is)
  (case c24=>k_is)
  (case k24=>k_is)
  (case a25=>k_is)
  (case l25=>k_is)
  (case c25=>k_is)
  (case k25=>k_is)
  (case a26=>k_is)
  (case l26=>k_is)
  (case c26=>k_is)
  (case k26=>k_is)
  (case a27=>k_is)
  (case l27=>k_is)
  (case c27=>k_is)
  (case k27=>k_is)
  (case a28=>k_is)
  (case l28=>k_is)
  (case c28=>k_is)
  (case k28=>k_is)
  (case a29=>k_is)
  (case l29=>k_is)
  (case c29=>k_is)
  (case k29=>k_is)
  (case a30=>k_is)
  (case l30=>k_is)
  (case c30=>k_is)
  (case k30=>k_is)
  (case a31=>k_is)
  (case l31=>k_is)
  (case c31=>k_is)
  (case k31=>k_is)
  (case a32=>k_is)
  (case l32=>k_is)
  (case c32=>k_is)
  (case k32=>k_is)
  (case a33=>k_is)
  (case l33=>k_is)
  (case c33=>k_is)
  (case k33=>k_is)
  (case a34=>k_is)
  (case l34=>k_is)
  (case c34=>k_is)
  (case k34=>k_is)
  (case a35=>k_is)
  (case l35=>k_is)
  (case c35=>k_is)
  (case k35=>k_is)
  (case aC0=>k_is)
  (case a36=>k_is)
  (case i36=>k_is)
  (case l36=>k_is)
  (case c36=>k_is)
  (case k36=>k_is)
  (case aC1=>k_is)
  (case a37=>k_is)
  (case i37=>k_is)
  (case l37=>k_is)
  (case c37=>k_is)
  (case k37=>k_is)
  (case pg0=>k_is)
  (case hd0=>k_is)
  (case po0=>k_is)
  (case sa0=>k_is)
  (case mk0=>k_is)
  (case kc0=>k_is)
  (case n0_0=>k_is)
  (case n0_1=>k_is)
  (case n0_2=>k_is)
  (case n0_3=>k_is)
  (case n0_4=>k_is)
  (case n0_5=>k_is)
  (case n0_6=>k_is)
  (case pg1=>k_is)
  (case hd1=>k_is)
  (case po1=>k_is)
  (case sa1=>k_is)
  (case mk1=>k_is)
  (case kc1=>k_is)
  (case n1_0=>k_is)
  (case n1_1=>k_is)
  (case n1_2=>k_is)
  (case n1_3=>k_is)
  (case n1_4=>k_is)
  (case bag=>k_is)
  (case blg=>k_is)
  (case ble=>k_is)
  (case dag=>k_is)
  (case z0=>k_is)
  (case z1=>k_is)
  (case z2=>k_is)
  (case z3=>k_is)
  (case z4=>k_is)
  (case z5=>k_is)
  (case z6=>k_is)
  (case z7=>k_is)
  (case z8=>k_is)
  (case z9=>k_is)
  (case z10=>k_is)
  (case z11=>k_is)
  (case z12=>k_is)
  (case z13=>k_is)
  (case z14=>k_is)
  (case z15=>k_is)
  (case z16=>k_is)
