import PyProof.Rows.All
import Wide.All
import OpenK.AllK
import Wide.FinOn
import Lean
import PyProof.EqAt
import PyProof.EqKinds
import PyProof.TupleCall
import PyProof.NeKinds
import KE.KEqDict
import KE.KDictSum
import PyProof.Rows.StrMul
import PyProof.Rows.SortStr
import PyProof.Rows.SortWalk
import KE.KSortTup
import PyProof.IsiH_list
import KE.KDictOf
import KE.KItemsList
import PyProof.SetKind
import PyProof.Rows.SetFrom
import PyProof.IsRules
import PyProof.EnumStmt
import PyProof.EnumFor
import PyProof.EnumMake
import PyProof.Rows.StrJoin2
import KE.KDictList
import PyProof.ZipIter
import PyProof.DictCompW
import PyProof.DictUpdate
import PyProof.FactsAll.set_2
import KE.KSetDisp
import PyProof.TupleKey
import KE.KDictLaws
import PyProof.Rows.StrNews2
import PyProof.StrCalls
import PyProof.ListIndex
import PySem.Challenge.RW_outlineward_k22_programs_refused
set_option Elab.async false
set_option linter.all false
set_option maxRecDepth 100000
set_option maxHeartbeats 4000000
namespace L2
open PySem PySem.Spec PyProof.Rows
abbrev Key:=Sum Int Str
def Yq:Key→Value→Bool
 | .inl k,v=>Value.isInt k v
 | .inr x,v=>Value.isStrOf x v
def jgy (w:World):Key→Int
 | .inl k=>hashInt k
 | .inr x=>hashStr w x
theorem kO:∀ {k:Key} {v:Value},Yq k v=true→(∃ i t,k=Sum.inl i∧v=Value.int i t)∨(∃ x t,k=Sum.inr x∧v=Value.str x t)
 | .inl i,v,h=>by
  obtain ⟨t,e⟩:=Value.isInt_shape (k:=i) (v:=v) h
  exact .inl ⟨i,t,rfl,e⟩
 | .inr x,v,h=>by
  obtain ⟨t,e⟩:=Value.isStrOf_shape (x:=x) (v:=v) h
  exact .inr ⟨x,t,rfl,e⟩
theorem jbG (i:Int) (t:Tok):Yq (.inl i) (.int i t)=true:=by simp [Yq,Value.isInt]
theorem jbF (x:Str) (t:Tok):Yq (.inr x) (.str x t)=true:=by simp [Yq,Value.isStrOf]
theorem jfA (a b:Int):decide ((Sum.inl a:Key)=Sum.inl b)=(a == b):=by
 by_cases e:a=b
 ·subst e;simp
 ·have h:¬ (Sum.inl a:Key)=Sum.inl b:=fun q=>e (Sum.inl.inj q)
  rw [decide_eq_false h]
  exact (beq_eq_false_iff_ne.mpr e).symm
theorem jfx (a b:Str):decide ((Sum.inr a:Key)=Sum.inr b)=decide (a=b):=by
 by_cases e:a=b
 ·subst e;simp
 ·have h:¬ (Sum.inr a:Key)=Sum.inr b:=fun q=>e (Sum.inr.inj q)
  rw [decide_eq_false h,decide_eq_false e]
theorem jfz (a:Int) (b:Str):decide ((Sum.inl a:Key)=Sum.inr b)=false:=decide_eq_false (fun q=>nomatch q)
theorem jfy (a:Str) (b:Int):decide ((Sum.inr a:Key)=Sum.inl b)=false:=decide_eq_false (fun q=>nomatch q)
def kU (prog:Program) (w:World):PySem.KeyKind prog w Key where
 is:=Yq
 hash:=jgy w
 inj:=fun v a b ha hb=>by
  rcases kO ha with ⟨i,t,rfl,rfl⟩ | ⟨x,t,rfl,rfl⟩
  ·rcases kO hb with ⟨j,u,rfl,e⟩ | ⟨y,u,rfl,e⟩
   ·injection e with e1 _;rw [e1]
   ·exact nomatch e
  ·rcases kO hb with ⟨j,u,rfl,e⟩ | ⟨y,u,rfl,e⟩
   ·exact nomatch e
   ·injection e with e1 _;rw [e1]
 byValue:=fun k v h=>by
  rcases kO h with ⟨i,t,rfl,rfl⟩ | ⟨x,t,rfl,rfl⟩ <;> rfl
 pyHash:=fun hv h=>by
  rcases kO hv with ⟨i,t,rfl,rfl⟩ | ⟨x,t,rfl,rfl⟩
  ·exact wpAny_pyHash_int h
  ·exact wpAny_pyHash_str h
 eqBool:=fun hu hv h=>by
  rcases kO hu with ⟨i,t,rfl,rfl⟩ | ⟨x,t,rfl,rfl⟩
  ·rcases kO hv with ⟨j,u,rfl,rfl⟩ | ⟨y,u,rfl,rfl⟩
   ·rw [jfA] at h;exact wpAny_eqBool_int h
   ·rw [jfz] at h;exact SeqAt.EqAt.int_str i t y u _ _ _ _ h
  ·rcases kO hv with ⟨j,u,rfl,rfl⟩ | ⟨y,u,rfl,rfl⟩
   ·rw [jfy] at h;exact SeqAt.EqAt.str_int x t j u _ _ _ _ h
   ·rw [jfx] at h;exact wpAny_eqBool_str h
 «strs»:=fun k x t v h=>by
  rcases kO h with ⟨i,u,rfl,e⟩ | ⟨y,u,rfl,e⟩
  ·exact nomatch e
  ·injection e with e1 _
   subst e1
   cases v <;> rfl
theorem Zz (prog:Program) (w:World) (i:Int) (t:Tok):(kU prog w).is (.inl i) (.int i t)=true:=jbG i t
theorem Zy (prog:Program) (w:World) (x:Str) (t:Tok):(kU prog w).is (.inr x) (.str x t)=true:=jbF x t
inductive V where
 | non | bl (b:Bool) | int (i:Int) | str (x:Str) | byt (b:Array UInt8) | flt (b:UInt64) | ref (a:Addr) | ty (n:String)
 deriving DecidableEq
def RelV:V→Value→Prop
 | .non,u=>u=Value.none
 | .bl b,u=>u=Value.bool b
 | .int i,u=>∃ t,u=Value.int i t
 | .str x,u=>∃ t,u=Value.str x t
 | .byt b,u=>∃ t,u=Value.bytes b t
 | .flt b,u=>∃ t,u=Value.float b t
 | .ref a,u=>u=Value.ref a
 | .ty n,u=>u=Value.type n
abbrev Vals:List V→List Value→Prop:=Paired RelV
theorem Vals.length {xs:List V} {us:List Value} (r:Vals xs us):xs.length=us.length:=Paired.length r
theorem Vals.get:∀ {xs:List V} {us:List Value} {i:Nat} {x:V},Vals xs us→xs[i]?=some x→∃ u,us[i]?=some u∧RelV x u
 | _,_,_,_,.nil,e=>by simp at e
 | _,_,0,_,.cons r _,e=>by simp at e;subst e;exact ⟨_,rfl,r⟩
 | _,_,i+1,x,.cons _ t,e=>by
  obtain ⟨u,h1,h2⟩:=Vals.get (i:=i) (x:=x) t (by simpa using e)
  exact ⟨u,by simpa using h1,h2⟩
theorem Vals.set {x:V} {u:Value} (r:RelV x u):∀ {xs:List V} {us:List Value} (i:Nat),Vals xs us→Vals (xs.set i x) (us.set i u)
 | _,_,_,.nil=>.nil
 | _,_,0,.cons _ t=>.cons r t
 | _,_,i+1,.cons q t=>.cons q (Vals.set r i t)
theorem Vals.append:∀ {xs ys:List V} {us ws:List Value},Vals xs us→Vals ys ws→Vals (xs++ys) (us++ws)
 | _,_,_,_,.nil,s=>s
 | _,_,_,_,.cons r t,s=>.cons r (Vals.append t s)
theorem Vals.take:∀ {xs:List V} {us:List Value} (n:Nat),Vals xs us→Vals (xs.take n) (us.take n)
 | _,_,0,_=>.nil
 | _,_,_+1,.nil=>.nil
 | _,_,n+1,.cons r t=>.cons r (Vals.take n t)
theorem Vals.drop:∀ {xs:List V} {us:List Value} (n:Nat),Vals xs us→Vals (xs.drop n) (us.drop n)
 | _,_,0,r=>r
 | _,_,_+1,.nil=>.nil
 | _,_,n+1,.cons _ t=>Vals.drop n t
def RelO:Option V→Option Value→Prop
 | some v,some u=>RelV v u
 | none,none=>True
 | _,_=>False
def KV {κ:Type}:List (κ×V)→List (κ×Value)→Prop:=Paired fun (p:κ×V) (q:κ×Value)=>p.1=q.1∧RelV p.2 q.2
def kV:Key→V
 | .inl i=>.int i
 | .inr x=>.str x
inductive HO where
 | lst (xs:List V)
 | tup (xs:List V)
 | dK (kvs:List (Key×V)) | dT (kvs:List (List Key×V))
 | set (S:Int→Bool) (n:Nat)
 | ins (C dx:Addr) (fs:List (Str×V))
 | own (x:Addr)
 | xd (fs:List (Str×V))
 | met (f x:Addr)
 | rng (lo hi:Int)
 | frz (o:Obj) (u:HO)
 | tbl (ps:Array Value)
 | ext (φ:Heap→Prop)
abbrev Hp:=Addr→Option HO
def upd (H:Hp) (a:Addr) (o:HO):Hp:=fun b=>if b=a then some o else H b
theorem jg {H:Hp} {a:Addr} {o:HO}:upd H a o a=some o:=by unfold upd;rw [if_pos rfl]
theorem jx {H:Hp} {a b:Addr} {o:HO} (h:b≠a):upd H a o b=H b:=by unfold upd;rw [if_neg h]
theorem jdE {H:Hp} {a:Addr} {o u:HO}:upd (upd H a o) a u=upd H a u:=by
 funext b;unfold upd;split <;> rfl
theorem jeT {H:Hp} {a b:Addr} {o u:HO} (h:H a=some o) (h':H b=some u) (d:o≠u):a≠b:=by
 intro e;subst e;rw [h] at h';exact d (Option.some.inj h')
theorem ju {H:Hp} {a b:Addr} {o:HO} (h:H a=some o) (h':H b=none):a≠b:=by
 intro e;subst e;rw [h] at h';cases h'
section
variable (P:Program) (w:World)
def ObjOk (H:Hp) (h:Heap) (a:Addr):HO→Prop
 | .lst xs=>xs.length≤sizeLine∧∃ (its:List Value) (n:Nat),Vals xs its∧h.get? a=some { cls:=.type "list",data:=.seq its.toArray n }
 | .tup xs=>xs.length≤sizeLine∧∃ its:List Value,Vals xs its∧IsTup h a its.toArray
 | .dK kvs=>kvs.length≤sizeLine∧(a == sysModules)=false∧∃ vs,KV kvs vs∧h.DictOf (kU P w) a vs
 | .dT kvs=>kvs.length≤sizeLine∧(a == sysModules)=false∧∃ xs:List (List Key×Addr×Value),
   Paired (fun (p:List Key×V) (q:List Key×Addr×Value)=>p.1=q.1∧H q.2.1=some (.tup (p.1.map kV))∧RelV p.2 q.2.2) kvs xs∧
   ∃ o es ep,h.get? a=some o∧o.ExactDict∧o.data=.dict es ep∧es.toList=xs.map (entryOfKey (tupleKind (kU P w)))∧(xs.map (·.1)).Nodup
 | .set S n=>h.SetOf (intKind P w) a S n
 | .ins C dx fs=>H dx=some (.own a)∧fs.length≤1000∧dx≠a∧h.get? a=some (PySem.W.instObj C dx)∧
   ∃ mA,h.Ns1 dx mA∧(∀ f,RelO (fs.lookup f) (mA f))∧PySem.Within mA (fs.map (·.1))
 | .own _=>∃ o,h.get? a=some o
 | .xd fs=>∃ mA,h.Ns1 a mA∧∀ f,RelO (fs.lookup f) (mA f)
 | .rng lo hi=>∃ t u v,h.get? a=some { cls:=.type "range",data:=.fields #[.int lo t,.int hi u,.int 1 v] }
 | .frz o u=>h.get? a=some o∧ObjOk H h a u
 | .tbl ps=>h.get? a=some { cls:=.none,data:=.fields ps }
 | .met f x=>h.get? a=some (PySem.W.methodObj (.ref f) (.ref x))
 | .ext φ=>φ h∧(∃ o,h.get? a=some o)∧∀ h1 h2:Heap,φ h1→(∀ o,h1.get? a=some o→h2.get? a=some o)→φ h2
def HOk (H:Hp) (h:Heap):Prop:=∀ a o,H a=some o→ObjOk P w H h a o
end
section
variable {P:Program} {w:World} {H H':Hp} {h h':Heap} {a:Addr} {o:HO}
theorem ObjOk.lt (x:ObjOk P w H h a o):a < h.objs.size:=by
 cases o with
 | lst xs=>obtain ⟨_,_,_,_,e⟩:=x;exact Heap.lt_size e
 | tup xs=>obtain ⟨_,_,_,p⟩:=x;exact p.lt
 | dK kvs=>obtain ⟨_,_,_,_,o,_,_,e,_⟩:=x;exact Heap.lt_size e
 | dT kvs=>obtain ⟨_,_,_,_,o,_,_,e,_⟩:=x;exact Heap.lt_size e
 | set S n=>obtain ⟨o,_,_,_,e,_⟩:=x;exact Heap.lt_size e
 | ins C dx fs=>obtain ⟨_,_,_,e,_⟩:=x;exact Heap.lt_size e
 | own y=>obtain ⟨_,e⟩:=x;exact Heap.lt_size e
 | xd fs=>obtain ⟨_,⟨_,_,_,e,_⟩,_⟩:=x;exact Heap.lt_size e
 | rng lo hi=>obtain ⟨_,_,_,e⟩:=x;exact Heap.lt_size e
 | frz ob u=>obtain ⟨e,_⟩:=x;exact Heap.lt_size e
 | tbl ps=>exact Heap.lt_size (show h.get? a=some _ from x)
 | met f y=>exact Heap.lt_size (show h.get? a=some _ from x)
 | ext φ=>obtain ⟨_,⟨_,e⟩,_⟩:=x;exact Heap.lt_size e
theorem Paired.mapP {α β:Type} {F G:α→β→Prop}:∀ {l₁:List α} {l₂:List β},Paired F l₁ l₂→(∀ a b,F a b→G a b)→Paired G l₁ l₂
 | _,_,.nil,_=>.nil
 | _,_,.cons r t,f=>.cons (f _ _ r) (Paired.mapP t f)
theorem ObjOk.stay (x:ObjOk P w H h a o) (k:∀ b u,(b=a∨H b=some (.own a))→h.get? b=some u→h'.get? b=some u)
  (ho:∀ b,H b=some (.own a)→H' b=some (.own a)) (ht:∀ b xs,H b=some (.tup xs)→H' b=some (.tup xs)):ObjOk P w H' h' a o:=by
 induction o with
 | lst xs=>obtain ⟨z,its,n,r,e⟩:=x;exact ⟨z,its,n,r,k _ _ (.inl rfl) e⟩
 | tup xs=>obtain ⟨z,its,r,ob,e,c⟩:=x;exact ⟨z,its,r,ob,k _ _ (.inl rfl) e,c⟩
 | dK kvs=>obtain ⟨z,y,vs,r,ob,es,ep,e,c⟩:=x;exact ⟨z,y,vs,r,ob,es,ep,k _ _ (.inl rfl) e,c⟩
 | dT kvs=>
  obtain ⟨z,y,xs,r,ob,es,ep,e,c⟩:=x
  exact ⟨z,y,xs,Paired.mapP r fun p q z=>⟨z.1,ht _ _ z.2.1,z.2.2⟩,ob,es,ep,k _ _ (.inl rfl) e,c⟩
 | set S n=>obtain ⟨ob,es,ep,t,e,c⟩:=x;exact ⟨ob,es,ep,t,k _ _ (.inl rfl) e,c⟩
 | ins C dx fs=>
  obtain ⟨d,z,ne,e,mA,⟨od,es,ep,e2,c⟩,r⟩:=x
  exact ⟨ho _ d,z,ne,k _ _ (.inl rfl) e,mA,⟨od,es,ep,k _ _ (.inr d) e2,c⟩,r⟩
 | own y=>obtain ⟨ob,e⟩:=x;exact ⟨ob,k _ _ (.inl rfl) e⟩
 | xd fs=>obtain ⟨mA,⟨od,es,ep,e,c⟩,r⟩:=x;exact ⟨mA,⟨od,es,ep,k _ _ (.inl rfl) e,c⟩,r⟩
 | rng lo hi=>obtain ⟨t,u,v,e⟩:=x;exact ⟨t,u,v,k _ _ (.inl rfl) e⟩
 | frz ob u ih=>obtain ⟨e,q⟩:=x;exact ⟨k _ _ (.inl rfl) e,ih q⟩
 | tbl ps=>
  have e:h.get? a=some { cls:=.none,data:=.fields ps }:=x
  show h'.get? a=some { cls:=.none,data:=.fields ps }
  exact k a _ (.inl rfl) e
 | met f y=>
  have e:h.get? a=some (PySem.W.methodObj (.ref f) (.ref y)):=x
  show h'.get? a=some (PySem.W.methodObj (.ref f) (.ref y))
  exact k a _ (.inl rfl) e
 | ext φ=>obtain ⟨p,⟨o,e⟩,st⟩:=x;exact ⟨st _ _ p fun o q=>k _ _ (.inl rfl) q,⟨o,k _ _ (.inl rfl) e⟩,st⟩
theorem HOk.lt (x:HOk P w H h) (e:H a=some o):a < h.objs.size:=(x a o e).lt
theorem HOk.fresh (x:HOk P w H h) (e:h.objs.size≤a):H a=none:=by
 cases q:H a with
 | none=>rfl
 | some u=>exact absurd (Nat.lt_of_lt_of_le (x.lt q) e) (Nat.lt_irrefl _)
theorem HOk.kept (x:HOk P w H h) (k:∀ b u,h.get? b=some u→h'.get? b=some u):HOk P w H h':=fun a o e=>
 (x a o e).stay (fun b u _ q=>k b u q) (fun _ q=>q) fun _ _ q=>q
theorem HOk.laid (x:HOk P w H h) (k:∀ b u,h.get? b=some u→h'.get? b=some u) (hp:h.objs.size≤a) (new:ObjOk P w (upd H a o) h' a o):HOk P w (upd H a o) h':=fun b u e=>by
 have hn:=x.fresh hp
 by_cases hb:b=a
 ·subst hb;rw [jg] at e;cases e;exact new
 ·rw [jx hb] at e
  exact (x b u e).stay (fun c v _ q=>k c v q) (fun c q=>by rw [jx (ju q hn)];exact q) fun c xs q=>by rw [jx (ju q hn)];exact q
end
def Rd (H:Hp) (a:Addr) (u:HO):Prop:=H a=some u∨∃ o,H a=some (.frz o u)
theorem Rd.of {H:Hp} {a:Addr} {u:HO} (h:H a=some u):Rd H a u:=.inl h
theorem Rd.ok {P:Program} {w:World} {H:Hp} {h:Heap} {a:Addr} {u:HO} (r:Rd H a u) (x:HOk P w H h):ObjOk P w H h a u:=by
 rcases r with r | ⟨o,r⟩
 ·exact x a u r
 ·obtain ⟨_,q⟩:=x a _ r
  exact q
def Mut:Option HO→Prop
 | some (.lst _)=>True
 | some (.dK _)=>True
 | some (.dT _)=>True
 | some (.set _ _)=>True
 | some (.ins _ _ _)=>True
 | some (.ext _)=>True
 | _=>False
section
variable {P:Program} {w:World} {H:Hp} {h h':Heap} {x e:Addr} {o':HO}
theorem HOk.write (ok:HOk P w H h) (mu:Mut (H x)) (he:e=x∨H e=some (.own x)) (k:∀ b u,b≠e→h.get? b=some u→h'.get? b=some u) (heo:∃ u,h'.get? e=some u)
  (new:ObjOk P w (upd H x o') h' x o'):HOk P w (upd H x o') h':=fun b u q=>by
 have nown:∀ c y,H c=some (.own y)→c≠x:=fun c y r z=>by subst z;rw [r] at mu;exact mu
 have ntup:∀ c xs,H c=some (.tup xs)→c≠x:=fun c xs r z=>by subst z;rw [r] at mu;exact mu
 by_cases hb:b=x
 ·subst hb;rw [jg] at q;cases q;exact new
 ·rw [jx hb] at q
  by_cases hbe:b=e
  ·have q':H b=some (.own x):=by
    rcases he with z | z
    ·exact absurd (hbe.trans z) hb
    ·rw [hbe];exact z
   rw [q] at q';cases q'
   obtain ⟨v,hv⟩:=heo
   exact ⟨v,by rw [hbe];exact hv⟩
  ·refine (ok b u q).stay (fun c v hc r=>k c v ?_ r) (fun c r=>by rw [jx (nown c b r)];exact r) fun c xs r=>by rw [jx (ntup c xs r)];exact r
   rcases hc with rfl | hc
   ·exact hbe
   ·rintro rfl
    rcases he with z | z
    ·exact nown c b hc z
    ·rw [hc] at z;cases z;exact hb rfl
end
structure Un (fs ex:List Addr) (H H':Hp) (h h':Heap):Prop where
 keep:∀ b o,h.get? b=some o→H b=none→b ∉ fs→b ∉ ex→h'.get? b=some o
 slot:∀ b o,h.get? b=some o→H b=none→b∈fs→b ∉ ex→∃ sl,h'.get? b=some { o with slots:=sl }
 free:∀ b o,h.get? b=some o→H b=none→b ∉ ex→H' b=none
 there:∀ b o,h.get? b=some o→b ∉ ex→∃ o',h'.get? b=some o'
 tups:∀ b xs,H b=some (.tup xs)→H' b=some (.tup xs)
 frzs:∀ b o u,H b=some (.frz o u)→H' b=some (.frz o u)
 tbls:∀ b ps,H b=some (.tbl ps)→∃ more,H' b=some (.tbl (ps++more))
section
variable {fs fs' ex ex':List Addr} {H H1 H2:Hp} {h h1 h2 h':Heap} {a x e:Addr} {o:HO}
theorem Un.any (u:Un fs ex H H1 h h1) {b:Addr} {ob:Obj} (q:h.get? b=some ob) (n:H b=none) (hx:b ∉ ex):∃ sl,h1.get? b=some { ob with slots:=sl }:=by
 by_cases hb:b∈fs
 ·exact u.slot b ob q n hb hx
 ·exact ⟨ob.slots,u.keep b ob q n hb hx⟩
theorem Un.kept (k:∀ b u,h.get? b=some u→h'.get? b=some u):Un fs ex H H h h':=
 ⟨fun b ob q _ _ _=>k b ob q,fun b ob q _ _ _=>⟨ob.slots,k b ob q⟩,fun _ _ _ n _=>n,fun b ob q _=>⟨ob,k b ob q⟩,fun _ _ q=>q,fun _ _ _ q=>q,fun _ ps q=>⟨#[],by rw [q];simp⟩⟩
theorem Un.refl:Un fs ex H H h h:=Un.kept fun _ _ q=>q
theorem Un.laid (k:∀ b u,h.get? b=some u→h'.get? b=some u) (hp:h.objs.size≤a) (hn:H a=none):Un fs ex H (upd H a o) h h' where
 keep:=fun b u q _ _ _=>k b u q
 slot:=fun b u q _ _ _=>⟨u.slots,k b u q⟩
 free:=fun b u q n _=>by rw [jx (Nat.ne_of_lt (Nat.lt_of_lt_of_le (Heap.lt_size q) hp))];exact n
 there:=fun b u q _=>⟨u,k b u q⟩
 tups:=fun b xs q=>by rw [jx (ju q hn)];exact q
 frzs:=fun b u xs q=>by rw [jx (ju q hn)];exact q
 tbls:=fun b ps q=>⟨#[],by rw [jx (ju q hn),q];simp⟩
theorem Un.write (mu:Mut (H x)) (he:e=x∨H e=some (.own x)) (k:∀ b u,b≠e→h.get? b=some u→h'.get? b=some u) (heo:∃ u,h'.get? e=some u):Un fs ex H (upd H x o) h h':=by
 have hx:∀ b,H b=none→b≠x:=fun b n z=>by subst z;rw [n] at mu;exact mu
 have hb:∀ b,H b=none→b≠e:=fun b n z=>by
  subst z
  rcases he with r | r
  ·exact hx b n r
  ·rw [n] at r;cases r
 have hm:∀ b u,H b=some u→¬ Mut (some u)→b≠x:=fun b u q nm z=>by subst z;rw [q] at mu;exact nm mu
 refine ⟨fun b u q n _ _=>k b u (hb b n) q,fun b u q n _ _=>⟨u.slots,k b u (hb b n) q⟩,fun b u q n _=>by rw [jx (hx b n)];exact n,fun b u q _=>?_,
  fun b xs q=>by rw [jx (hm b _ q fun z=>z)];exact q,fun b u xs q=>by rw [jx (hm b _ q fun z=>z)];exact q,fun b ps q=>⟨#[],by rw [jx (hm b _ q fun z=>z),q];simp⟩⟩
 by_cases hbe:b=e
 ·subst hbe;exact heo
 ·exact ⟨u,k b u hbe q⟩
end
def trk (h:Heap) (H:Hp):List Addr:=(List.range h.objs.size).filter fun a=>(H a).isSome
def YY (h:Heap) (H:Hp):Heap:=PySem.W.hideAll h (trk h H)
theorem jbK (h:Heap) (H:Hp):(YY h H).objs.size=h.objs.size:=PySem.W.hideAll_size _ _
theorem jc4 {h:Heap} {H:Hp} {b:Addr} {o:Obj} (e:h.get? b=some o) (n:H b=none):(YY h H).get? b=some o:=
 PySem.W.hideAll_get _ e fun hm=>by
  have q:(H b).isSome=true:=(List.mem_filter.mp hm).2
  rw [n] at q;simp at q
theorem jei {h:Heap} {H:Hp} {b:Addr} {o:Obj} (e:(YY h H).get? b=some o):h.get? b=some o∧H b=none:=by
 have e':h.get? b=some o:=PySem.W.of_hideAll (trk h H) e
 refine ⟨e',?_⟩
 cases q:H b with
 | none=>rfl
 | some x=>
  have hm:b∈trk h H:=List.mem_filter.mpr ⟨List.mem_range.mpr (Heap.lt_size e'),by simp [q]⟩
  have z:(YY h H).get? b=none:=PySem.W.hideAll_none (trk h H) hm
  rw [z] at e;cases e
def jeB (g h:Heap) (L:Addr):List (Addr×Obj):=(List.range h.objs.size).filterMap fun a=>if a=L∨(g.get? a).isSome=true then none else (h.get? a).map fun o=>(a,o)
def qQ (g h:Heap) (L d:Addr):List (Addr×Obj):=(jeB g h L).filter fun p=>decide (p.1≠d)
structure Mod (K:PySem.W.Frag) (mg:Str→Option Value) (base:Heap):Prop where
 kin:K.In base
 glob:base.Ns mainGlobals mg
 blt:∃ mb,base.Ns builtinsNs mb∧∀ x:Str,x≠"__name__"→mb x=bootBuiltins x
 nolimit:base.NoLimit
structure Cx where
 prog:Program
 w:World
 K:PySem.W.Frag
 mg:Str→Option Value
 base:Heap
 A:Around
 N:List Str
 s₀:Shared
 H₀:Hp
 env:Env
 outer:List Env
 stack:List Env
 ex:List Addr
 fn:Str→Bool
 calm:Bool
 pn:List (Addr×Obj)
 xe:Value→Shared→Prop
def frs (l:List Env):List Addr:=l.filterMap (·.frame)
abbrev Cx.fs (X:Cx):List Addr:=frs X.outer
def Vis (sc:Scope) (x:Str):Prop:=sc.names.lookup x=some .local∨sc.names.lookup x=some .cell∨sc.names.lookup x=some .free
def Loc (sc:Scope) (x:Str):Prop:=sc.names.lookup x=some .local∨sc.names.lookup x=some .cell
def jgD (env:Env) (h:Heap) (m:Str→Option Value) (x:Str) (u:Value):Prop:=
 (env.kindOf x=some .local∧m x=some u)∨((env.kindOf x=some .cell∨env.kindOf x=some .free)∧∃ c,env.cells.lookup x=some c∧h.IsCell c (some u))
structure Cx.Ok (X:Cx):Prop where
 mod:Mod X.K X.mg X.base
 kind:X.env.scope.kind=.function
 glob:X.env.globals=mainGlobals
 blt:X.env.builtins=builtinsNs
 above:X.s₀.heap.objs.size≤X.env.locals
 inj:∀ x y c,X.env.cells.lookup x=some c→X.env.cells.lookup y=some c→x=y
 has:∀ x,(X.env.kindOf x=some .cell∨X.env.kindOf x=some .free)→∃ c,X.env.cells.lookup x=some c
 cab:∀ x c,X.fn x=true→X.env.cells.lookup x=some c→X.s₀.heap.objs.size≤c
 hd:X.calm=true→X.A.handled=none
 frames:X.A.frames=some X.stack
 stk:X.stack=X.outer∨(X.stack=X.env :: X.outer∧X.env.frame=some X.env.locals)
 exf:∀ b∈X.ex,b≠X.env.locals∧∀ x c,X.env.cells.lookup x=some c→c≠b
 bs:∀ b o,X.base.get? b=some o→X.s₀.heap.get? b=some o∧X.H₀ b=none
 bsz:X.base.objs.size≤X.s₀.heap.objs.size
 noex:∀ b o,X.base.get? b=some o→b ∉ X.ex
 exfs:∀ b∈X.ex,b ∉ X.fs
 funs:X.s₀.heap.FunFrames X.base X.outer
 frf:∀ b∈X.fs,X.H₀ b=none
structure Inv (X:Cx) (pins:List (Addr×Obj)) (σ:List (Option V)) (H:Hp) (s:Shared):Prop where
 ok:X.Ok
 os:s.os=X.s₀.os
 bare:AllBare s.gens
 base:Un X.fs X.ex X.H₀ H X.s₀.heap s.heap
 loc:∃ m,s.heap.Ns X.env.locals m∧∀ (i:Nat) (x:Str) (v:V),X.N[i]?=some x→σ[i]?=some (some v)→Vis X.env.scope x→∃ u,RelV v u∧jgD X.env s.heap m x u
 cell:∀ x c,X.env.cells.lookup x=some c→∃ v,s.heap.IsCell c v
 free:H X.env.locals=none
 freeC:∀ x c,X.env.cells.lookup x=some c→H c=none
 pin:∀ p∈X.pn++pins,s.heap.get? p.1=some p.2∧H p.1=none∧p.1≠X.env.locals∧p.1 ∉ X.fs∧∀ v,p.2.data≠.cell v
 hok:HOk X.prog X.w H s.heap
 len:σ.length=X.N.length
section
variable {X:Cx} {pins:List (Addr×Obj)} {σ:List (Option V)} {H H':Hp} {s:Shared} {h':Heap}
theorem Cx.Ok.nofr (ok:X.Ok) {b:Addr} {o:Obj} (e:X.base.get? b=some o):b ∉ X.fs:=fun hb=>by
 have:=(ok.funs.mem hb).1
 rw [e] at this;cases this
theorem Inv.bs (I:Inv X pins σ H s):∀ b o,X.base.get? b=some o→s.heap.get? b=some o∧H b=none:=fun b o e=>
 ⟨I.base.keep b o (I.ok.bs b o e).1 (I.ok.bs b o e).2 (I.ok.nofr e) (I.ok.noex b o e),I.base.free b o (I.ok.bs b o e).1 (I.ok.bs b o e).2 (I.ok.noex b o e)⟩
theorem Inv.bk (I:Inv X pins σ H s):∀ b o,X.base.get? b=some o→s.heap.get? b=some o:=fun b o e=>(I.bs b o e).1
theorem Inv.mod (I:Inv X pins σ H s):Mod X.K X.mg X.base:=I.ok.mod
theorem Inv.kIn (I:Inv X pins σ H s):X.K.In s.heap:=I.ok.mod.kin.keeps I.bk
theorem Inv.nolimit (I:Inv X pins σ H s):s.heap.NoLimit:=I.ok.mod.nolimit.keeps I.bk
theorem Inv.fr (I:Inv X pins σ H s):∃ m,Fr X.base X.env.locals s.heap m:=
 let ⟨m,hn,_⟩:=I.loc
 ⟨m,hn,I.bk,Nat.le_trans I.ok.bsz I.ok.above⟩
theorem Inv.lt (I:Inv X pins σ H s):X.env.locals < s.heap.objs.size:=let ⟨_,hn,_⟩:=I.loc;hn.lt
theorem Inv.sz (I:Inv X pins σ H s):X.s₀.heap.objs.size≤s.heap.objs.size:=Nat.le_trans I.ok.above (Nat.le_of_lt I.lt)
theorem Inv.nofs (I:Inv X pins σ H s) {a:Addr} (h:s.heap.objs.size≤a):a ∉ X.fs:=fun hb=>by
 obtain ⟨_,o,ho,_⟩:=I.ok.funs.mem hb
 exact absurd (Nat.lt_of_lt_of_le (Heap.lt_size ho) (Nat.le_trans I.sz h)) (Nat.lt_irrefl _)
theorem Inv.cne (I:Inv X pins σ H s):∀ x c,X.env.cells.lookup x=some c→c≠X.env.locals:=fun x c e z=>by
 obtain ⟨v,o,ho,hd⟩:=I.cell x c e
 obtain ⟨m,⟨o',es,ep,ho',hd',_⟩,_⟩:=I.loc
 rw [z,ho'] at ho;cases ho;rw [hd'] at hd;cases hd
theorem Inv.funs (I:Inv X pins σ H s):s.heap.FunFrames X.base X.outer:=by
 have all:∀ (l:List Env),(∀ b∈frs l,b∈X.fs)→X.s₀.heap.FunFrames X.base l→s.heap.FunFrames X.base l:=by
  intro l
  induction l with
  | nil=>intro _ _;trivial
  | cons env r ih=>
   intro hs hl
   obtain ⟨hk,⟨L,o,hf,hn,ho,hd⟩,hr⟩:=hl
   have hL:L∈X.fs:=hs L (by unfold frs;rw [List.filterMap_cons,hf];exact List.mem_cons_self)
   obtain ⟨sl,e⟩:=I.base.slot L o ho (I.ok.frf L hL) hL fun z=>I.ok.exfs L z hL
   exact ⟨hk,⟨L,_,hf,hn,e,hd⟩,ih (fun b hb=>hs b (by unfold frs;rw [List.filterMap_cons,hf];exact List.mem_cons_of_mem _ hb)) hr⟩
 exact all X.outer (fun _ hb=>hb) I.ok.funs
theorem Inv.stack (I:Inv X pins σ H s):s.heap.FunFrames X.base X.stack:=by
 rcases I.ok.stk with e | ⟨e,hf⟩
 ·rw [e];exact I.funs
 ·rw [e]
  obtain ⟨m,hn,_⟩:=I.loc
  refine .cons (by rw [I.ok.kind];decide) hf hn ?_ I.funs
  exact Heap.get?_none_of_le (Nat.le_trans I.ok.bsz I.ok.above)
theorem Inv.stkSub (I:Inv X pins σ H s):∀ b∈frs X.stack,b∈X.env.locals :: X.fs:=fun b hb=>by
 rcases I.ok.stk with e | ⟨e,hf⟩
 ·rw [e] at hb;exact List.mem_cons_of_mem _ hb
 ·rw [e] at hb
  unfold frs at hb
  rw [List.filterMap_cons,hf] at hb
  exact hb
theorem Inv.stkFree (I:Inv X pins σ H s):∀ b∈frs X.stack,H b=none:=fun b hb=>by
 rcases List.mem_cons.mp (I.stkSub b hb) with e | hb
 ·rw [e];exact I.free
 ·obtain ⟨_,o,ho,_⟩:=I.ok.funs.mem hb
  exact I.base.free b o ho (I.ok.frf b hb) fun z=>I.ok.exfs b z hb
theorem Inv.step {g':Array GenState} {t':Nat} {d':Drawn} {ch:List Addr} (I:Inv X pins σ H s)
  (hch:∀ b∈ch,(b∈X.ex∨X.s₀.heap.objs.size≤b)∧b≠X.env.locals∧(∀ x c,X.env.cells.lookup x=some c→c≠b)∧∀ p∈X.pn++pins,p.1≠b)
  (keep:∀ b o,b≠X.env.locals→b ∉ X.fs→b ∉ ch→s.heap.get? b=some o→H b=none→h'.get? b=some o)
  (slot:∀ b o,b≠X.env.locals→b∈X.fs→b ∉ ch→s.heap.get? b=some o→H b=none→∃ sl,h'.get? b=some { o with slots:=sl }) (free:∀ b o,b ∉ ch→s.heap.get? b=some o→H b=none→H' b=none)
  (there:∀ b o,b ∉ ch→s.heap.get? b=some o→∃ o',h'.get? b=some o')
  (tups:∀ b xs,H b=some (.tup xs)→H' b=some (.tup xs)) (frzs:∀ b o u,H b=some (.frz o u)→H' b=some (.frz o u)) (tbls:∀ b ps,H b=some (.tbl ps)→∃ more,H' b=some (.tbl (ps++more)))
  (ns:∀ m,s.heap.Ns X.env.locals m→h'.Ns X.env.locals m) (hok:HOk X.prog X.w H' h') (hg:AllBare g') :
  Inv X pins σ H' { s with heap:=h',gens:=g',drawn:=d',toks:=t' }:=by
 have neL:∀ b o,X.s₀.heap.get? b=some o→b≠X.env.locals:=fun b o e=>Nat.ne_of_lt (Nat.lt_of_lt_of_le (Heap.lt_size e) I.ok.above)
 have neC:∀ b o,X.s₀.heap.get? b=some o→b ∉ X.ex→b ∉ ch:=fun b o e hx hb=>by
  rcases (hch b hb).1 with z | z
  ·exact hx z
  ·exact absurd (Nat.lt_of_lt_of_le (Heap.lt_size e) z) (Nat.lt_irrefl _)
 have cellK:∀ x c,X.env.cells.lookup x=some c→∀ v,s.heap.IsCell c v→h'.IsCell c v:=fun x c e v ⟨o,ho,hd⟩=>by
  have nch:c ∉ ch:=fun z=>(hch c z).2.2.1 x c e rfl
  by_cases hc:c∈X.fs
  ·obtain ⟨sl,q⟩:=slot c o (I.cne x c e) hc nch ho (I.freeC x c e)
   exact ⟨_,q,hd⟩
  ·exact ⟨o,keep c o (I.cne x c e) hc nch ho (I.freeC x c e),hd⟩
 refine ⟨I.ok,I.os,hg,⟨fun b o e n hb hx=>?_,fun b o e n hb hx=>?_,fun b o e n hx=>?_,fun b o e hx=>?_,fun b xs e=>tups b xs (I.base.tups b xs e),fun b o xs e=>frzs b o xs (I.base.frzs b o xs e),fun b ps e=>?_⟩,?_,fun x c e=>?_,?_,fun x c e=>?_,fun p hp=>?_,hok,I.len⟩
 ·exact keep b o (neL b o e) hb (neC b o e hx) (I.base.keep b o e n hb hx) (I.base.free b o e n hx)
 ·obtain ⟨sl,e1⟩:=I.base.slot b o e n hb hx
  obtain ⟨sl',e2⟩:=slot b _ (neL b o e) hb (neC b o e hx) e1 (I.base.free b o e n hx)
  exact ⟨sl',e2⟩
 ·obtain ⟨o',e1⟩:=I.base.there b o e hx
  exact free b o' (neC b o e hx) e1 (I.base.free b o e n hx)
 ·obtain ⟨o',e1⟩:=I.base.there b o e hx
  exact there b o' (neC b o e hx) e1
 ·obtain ⟨m1,e1⟩:=I.base.tbls b ps e
  obtain ⟨m2,e2⟩:=tbls b _ e1
  exact ⟨m1++m2,by rw [e2,Array.append_assoc]⟩
 ·obtain ⟨m,hn,hl⟩:=I.loc
  refine ⟨m,ns m hn,fun i x v e1 e2 e3=>?_⟩
  obtain ⟨u,r,l⟩:=hl i x v e1 e2 e3
  refine ⟨u,r,?_⟩
  rcases l with l | ⟨k,c,e,z⟩
  ·exact .inl l
  ·exact .inr ⟨k,c,e,cellK x c e _ z⟩
 ·obtain ⟨v,z⟩:=I.cell x c e
  exact ⟨v,cellK x c e v z⟩
 ·obtain ⟨m,⟨o,_,_,ho,_⟩,_⟩:=I.loc
  exact free _ o (fun z=>(hch _ z).2.1 rfl) ho I.free
 ·obtain ⟨v,o,ho,hd⟩:=I.cell x c e
  exact free c o (fun z=>(hch c z).2.2.1 x c e rfl) ho (I.freeC x c e)
 ·obtain ⟨e,n,ne,nf,d⟩:=I.pin p hp
  have nch:p.1 ∉ ch:=fun z=>(hch p.1 z).2.2.2 p hp rfl
  exact ⟨keep p.1 p.2 ne nf nch e n,free p.1 p.2 nch e n,ne,nf,d⟩
theorem Inv.un {t':Nat} (I:Inv X pins σ H s) (u:Un X.fs [] H H' s.heap h') (hok:HOk X.prog X.w H' h'):Inv X pins σ H' { s with heap:=h',toks:=t' }:=by
 obtain ⟨m,⟨o,es,ep,ho,r⟩,_⟩:=id I.loc
 obtain ⟨sl,hL⟩:=u.any ho I.free (by simp)
 exact I.step (g':=s.gens) (d':=s.drawn) (ch:=[]) (fun _ z=>nomatch z) (fun b o _ hb _ e n=>u.keep b o e n hb (by simp)) (fun b o _ hb _ e n=>u.slot b o e n hb (by simp)) (fun b o _ e n=>u.free b o e n (by simp)) (fun b o _ e=>u.there b o e (by simp)) u.tups u.frzs u.tbls (fun m' hm=>by
  obtain ⟨o',es',ep',ho',r'⟩:=hm
  rw [ho] at ho';cases ho'
  exact ⟨_,es',ep',hL,r'⟩) hok I.bare
theorem Inv.call {g':Array GenState} {t':Nat} {d':Drawn} {ch:List Addr} (I:Inv X pins σ H s) (u:Un (frs X.stack) ch H H' s.heap h') (hok:HOk X.prog X.w H' h') (hg:AllBare g')
  (hch:∀ b∈ch,(b∈X.ex∨X.s₀.heap.objs.size≤b)∧b≠X.env.locals∧(∀ x c,X.env.cells.lookup x=some c→c≠b)∧∀ p∈X.pn++pins,p.1≠b) :
  Inv X pins σ H' { s with heap:=h',gens:=g',drawn:=d',toks:=t' }:=by
 obtain ⟨m,⟨o,es,ep,ho,r⟩,_⟩:=id I.loc
 obtain ⟨sl,hL⟩:=u.any ho I.free fun z=>(hch _ z).2.1 rfl
 exact I.step (ch:=ch) hch (fun b o hL hb hc e n=>u.keep b o e n (fun z=>(List.mem_cons.mp (I.stkSub b z)).elim hL hb) hc) (fun b o _ _ hc e n=>u.any e n hc) (fun b o hc e n=>u.free b o e n hc) (fun b o hc e=>u.there b o e hc) u.tups u.frzs u.tbls (fun m' hm=>by
  obtain ⟨o',es',ep',ho',r'⟩:=hm
  rw [ho] at ho';cases ho'
  exact ⟨_,es',ep',hL,r'⟩) hok hg
theorem Inv.turned {t':Nat} {it:Addr} (I:Inv X pins σ H s) (k:∀ b o,b≠it→s.heap.get? b=some o→h'.get? b=some o) (hn:H it=none) (hL:it≠X.env.locals)
  (h1:it∈X.ex∨X.s₀.heap.objs.size≤it) (h2:∀ x c,X.env.cells.lookup x=some c→c≠it) (h3:∀ p∈X.pn++pins,p.1≠it):Inv X pins σ H { s with heap:=h',toks:=t' }:=by
 have nit:∀ b u,H b=some u→b≠it:=fun b u e z=>by rw [z,hn] at e;cases e
 refine I.step (g':=s.gens) (d':=s.drawn) (ch:=[it]) (fun b hb=>?_) (fun b o _ _ hc e _=>k b o (fun z=>hc (by simp [z])) e) (fun b o _ _ hc e _=>⟨o.slots,k b o (fun z=>hc (by simp [z])) e⟩) (fun _ _ _ _ n=>n)
  (fun b o hc e=>⟨o,k b o (fun z=>hc (by simp [z])) e⟩) (fun _ _ e=>e) (fun _ _ _ e=>e) (fun b ps e=>⟨#[],by rw [e];simp⟩) (fun m hm=>?_) (fun b u e=>?_) I.bare
 ·have e:b=it:=by simpa using hb
  subst e
  exact ⟨h1,hL,h2,h3⟩
 ·obtain ⟨o,es,ep,ho,r⟩:=hm
  exact ⟨o,es,ep,k _ o (Ne.symm hL) ho,r⟩
 ·refine (I.hok b u e).stay (fun c v hc q=>k c v ?_ q) (fun _ q=>q) fun _ _ q=>q
  rcases hc with z | z
  ·rw [z];exact nit b u e
  ·exact nit c _ z
theorem Inv.tok (I:Inv X pins σ H s) (t:Nat):Inv X pins σ H { s with toks:=t }:=I.un (h':=s.heap) (t':=t) Un.refl I.hok
theorem Inv.kept {t':Nat} (I:Inv X pins σ H s) (k:∀ b u,s.heap.get? b=some u→h'.get? b=some u):Inv X pins σ H { s with heap:=h',toks:=t' }:=I.un (Un.kept k) (I.hok.kept k)
theorem Inv.laid {a:Addr} {o:HO} {t':Nat} (I:Inv X pins σ H s) (k:∀ b u,s.heap.get? b=some u→h'.get? b=some u) (hp:s.heap.objs.size≤a) (new:ObjOk X.prog X.w (upd H a o) h' a o) :
  Inv X pins σ (upd H a o) { s with heap:=h',toks:=t' }:=I.un (Un.laid k hp (I.hok.fresh hp)) (I.hok.laid k hp new)
theorem Inv.write {x e:Addr} {o:HO} {t':Nat} (I:Inv X pins σ H s) (mu:Mut (H x)) (he:e=x∨H e=some (.own x)) (k:∀ b u,b≠e→s.heap.get? b=some u→h'.get? b=some u) (heo:∃ u,h'.get? e=some u)
  (new:ObjOk X.prog X.w (upd H x o) h' x o):Inv X pins σ (upd H x o) { s with heap:=h',toks:=t' }:=I.un (Un.write mu he k heo) (I.hok.write mu he k heo new)
theorem Inv.pins_of {pins':List (Addr×Obj)} (I:Inv X pins σ H s) (h:∀ p∈pins',s.heap.get? p.1=some p.2∧H p.1=none∧p.1≠X.env.locals∧p.1 ∉ X.fs∧∀ v,p.2.data≠.cell v):Inv X pins' σ H s:=
 ⟨I.ok,I.os,I.bare,I.base,I.loc,I.cell,I.free,I.freeC,fun p hp=>(List.mem_append.mp hp).elim (fun z=>I.pin p (List.mem_append_left _ z)) (h p),I.hok,I.len⟩
theorem KA {N:List Str} (hN:N.Nodup) {i j:Nat} {x:Str} (a:N[i]?=some x) (b:N[j]?=some x):i=j:=by
 obtain ⟨h1,e1⟩:=List.getElem?_eq_some_iff.mp a
 obtain ⟨h2,e2⟩:=List.getElem?_eq_some_iff.mp b
 exact (List.getElem_inj hN).mp (e1.trans e2.symm)
theorem Yj {M:Model} {A:Around} {E:Value→Shared→Prop} {i:Nat} {x:Str} {v:V} {u:Value} {Q:Unit→Shared→Prop} (I:Inv X pins σ H s) (hN:X.N.Nodup) (hi:X.N[i]?=some x) (hx:Loc X.env.scope x) (r:RelV v u)
  (h:∀ s',Inv X pins (σ.set i (some v)) H s'→(∃ a,Heap.SameBut a s.heap s'.heap∧(a=X.env.locals∨X.env.cells.lookup x=some a))→Q () s') (hf:X.fn x=true∨X.env.scope.names.lookup x=some .local:=by first | exact .inl rfl | exact .inr rfl | assumption):wpAny M A (storeName X.env x u) Q E s:=by
 obtain ⟨m,hn,hl⟩:=id I.loc
 have hcls:(X.env.scope.kind == .class || (X.env.scope.kind == .module && X.env.locals != X.env.globals))=false:=by rw [I.ok.kind];rfl
 have hiσ:i < σ.length:=by rw [I.len];exact (List.getElem?_eq_some_iff.mp hi).1
 have cne:=I.cne
 have tracked:∀ {a:Addr} {h':Heap},(∃ o,s.heap.get? a=some o∧H a=none)→Heap.SameBut a s.heap h'→HOk X.prog X.w H h':=fun {a h'} ha hs b ob e=>by
  obtain ⟨_,_,hfree⟩:=ha
  refine (I.hok b ob e).stay (fun c w' hc q=>(hs.2 c ?_).trans q) (fun _ q=>q) fun _ _ q=>q
  rintro rfl
  rcases hc with rfl | hc
  ·rw [hfree] at e;cases e
  ·rw [hfree] at hc;cases hc
 rcases hx with hk | hk
 ·refine wpAny_storeName_local hk hn (fun h' hn' hs=>?_) hcls
  obtain ⟨oL,_,_,hoL,_⟩:=id hn
  refine h _ ⟨I.ok,I.os,I.bare,⟨fun b o e n hb hx=>?_,fun b o e n hb hx=>?_,I.base.free,fun b o e hx=>?_,I.base.tups,I.base.frzs,I.base.tbls⟩,⟨_,hn',fun j y v' e1 e2 e3=>?_⟩,fun y c e=>?_,I.free,I.freeC,fun p hp=>?_,tracked ⟨oL,hoL,I.free⟩ hs,by simpa using I.len⟩ ⟨_,hs,.inl rfl⟩
  ·exact (hs.2 b (Nat.ne_of_lt (Nat.lt_of_lt_of_le (Heap.lt_size e) I.ok.above))).trans (I.base.keep b o e n hb hx)
  ·obtain ⟨sl,e1⟩:=I.base.slot b o e n hb hx
   exact ⟨sl,(hs.2 b (Nat.ne_of_lt (Nat.lt_of_lt_of_le (Heap.lt_size e) I.ok.above))).trans e1⟩
  ·obtain ⟨o',e1⟩:=I.base.there b o e hx
   exact ⟨o',(hs.2 b (Nat.ne_of_lt (Nat.lt_of_lt_of_le (Heap.lt_size e) I.ok.above))).trans e1⟩
  ·by_cases hj:j=i
   ·subst hj
    rw [hi] at e1;cases e1
    rw [List.getElem?_set_self hiσ] at e2
    cases e2
    exact ⟨u,r,.inl ⟨hk,by simp⟩⟩
   ·rw [List.getElem?_set_ne (Ne.symm hj)] at e2
    obtain ⟨u',r',q⟩:=hl j y v' e1 e2 e3
    refine ⟨u',r',?_⟩
    rcases q with ⟨k,e⟩ | ⟨k,c,e,z⟩
    ·refine .inl ⟨k,?_⟩
     have:y≠x:=fun e=>hj (KA hN e1 (e ▸ hi))
     simp [this,e]
    ·exact .inr ⟨k,c,e,z.sameBut hs (cne y c e)⟩
  ·obtain ⟨w',z⟩:=I.cell y c e
   exact ⟨w',z.sameBut hs (cne y c e)⟩
  ·obtain ⟨e,n,ne,nf,d⟩:=I.pin p hp
   exact ⟨(hs.2 p.1 ne).trans e,n,ne,nf,d⟩
 ·have hfn:X.fn x=true:=by
   rcases hf with z | z
   ·exact z
   ·rw [z] at hk;cases hk
  obtain ⟨c,hc⟩:=I.ok.has x (.inl hk)
  obtain ⟨w',z⟩:=I.cell x c hc
  refine wpAny_storeName_cell I.ok.kind hk hc z (fun h' hc' hs=>?_)
  obtain ⟨oc,hoc,hocd⟩:=id z
  refine h { s with heap:=h' } ⟨I.ok,I.os,I.bare,⟨fun b o e n hb hx=>?_,fun b o e n hb hx=>?_,I.base.free,fun b o e hx=>?_,I.base.tups,I.base.frzs,I.base.tbls⟩,⟨m,hn.sameBut hs (Ne.symm (cne x c hc)),fun j y v' e1 e2 e3=>?_⟩,fun y c' e=>?_,I.free,I.freeC,fun p hp=>?_,tracked ⟨oc,hoc,I.freeC x c hc⟩ hs,by simpa using I.len⟩ ⟨c,hs,.inr hc⟩
  ·exact (hs.2 b (Nat.ne_of_lt (Nat.lt_of_lt_of_le (Heap.lt_size e) (I.ok.cab x c hfn hc)))).trans (I.base.keep b o e n hb hx)
  ·obtain ⟨sl,e1⟩:=I.base.slot b o e n hb hx
   exact ⟨sl,(hs.2 b (Nat.ne_of_lt (Nat.lt_of_lt_of_le (Heap.lt_size e) (I.ok.cab x c hfn hc)))).trans e1⟩
  ·obtain ⟨o',e1⟩:=I.base.there b o e hx
   exact ⟨o',(hs.2 b (Nat.ne_of_lt (Nat.lt_of_lt_of_le (Heap.lt_size e) (I.ok.cab x c hfn hc)))).trans e1⟩
  ·by_cases hj:j=i
   ·subst hj
    rw [hi] at e1;cases e1
    rw [List.getElem?_set_self hiσ] at e2
    cases e2
    exact ⟨u,r,.inr ⟨.inl hk,c,hc,hc'⟩⟩
   ·rw [List.getElem?_set_ne (Ne.symm hj)] at e2
    obtain ⟨u',r',q⟩:=hl j y v' e1 e2 e3
    refine ⟨u',r',?_⟩
    rcases q with q | ⟨k,c',e,z'⟩
    ·exact .inl q
    ·refine .inr ⟨k,c',e,z'.sameBut hs ?_⟩
     rintro rfl
     exact hj (KA hN e1 (I.ok.inj _ _ _ e hc ▸ hi))
  ·by_cases hcc:c'=c
   ·subst hcc;exact ⟨_,hc'⟩
   ·obtain ⟨w2,z2⟩:=I.cell y c' e
    exact ⟨w2,z2.sameBut hs hcc⟩
  ·obtain ⟨e,n,ne,nf,d⟩:=I.pin p hp
   refine ⟨(hs.2 p.1 ?_).trans e,n,ne,nf,d⟩
   intro q
   rw [q,hoc] at e
   have q':oc=p.2:=Option.some.inj e
   exact d w' (by rw [← q'];exact hocd)
theorem Jf {M:Model} {A:Around} {E:Value→Shared→Prop} {i:Nat} {x:Str} {v:V} {u:Value} {Q:Unit→Shared→Prop} (I:Inv X pins σ H s) (hN:X.N.Nodup) (hi:X.N[i]?=some x) (hx:Loc X.env.scope x) (r:RelV v u)
  (h:∀ s',Inv X pins (σ.set i (some v)) H s'→Q () s') (hf:X.fn x=true∨X.env.scope.names.lookup x=some .local:=by first | exact .inl rfl | exact .inr rfl | assumption):wpAny M A (storeName X.env x u) Q E s:=
 Yj I hN hi hx r (fun s' I' _=>h s' I') hf
theorem Inv.call' {s':Shared} {ch:List Addr} (I:Inv X pins σ H s) (ho:s'.os=s.os) (u:Un (frs X.stack) ch H H' s.heap s'.heap) (hok:HOk X.prog X.w H' s'.heap) (hg:AllBare s'.gens)
  (hch:∀ b∈ch,(b∈X.ex∨X.s₀.heap.objs.size≤b)∧b≠X.env.locals∧(∀ x c,X.env.cells.lookup x=some c→c≠b)∧∀ p∈X.pn++pins,p.1≠b):Inv X pins σ H' s':=by
 obtain ⟨h',g',d',t',o'⟩:=s'
 have e:o'=s.os:=ho
 subst e
 exact I.call (g':=g') (t':=t') (d':=d') u hok hg hch
end
abbrev XK:=Value→Option Addr→Hp→Prop
abbrev St:=List (Option V)
abbrev VK:=V→Hp→Prop
abbrev TE:=St→Hp→VK→Prop
abbrev TT:=St→Hp→(Bool→Hp→Prop)→Prop
abbrev TA:=St→Hp→(List V→Hp→Prop)→Prop
structure Ends where
 nx:St→Hp→Prop
 rt:VK
 bk:St→Hp→Prop:=fun _ _=>False
 ct:St→Hp→Prop:=fun _ _=>False
abbrev TS:=Ends→St→Hp→Prop
def EP (X:Cx) (pins:List (Addr×Obj)) (σ:St) (Q:VK) (u:Value) (s':Shared):Prop:=∃ v H',Inv X pins σ H' s'∧RelV v u∧Q v H'
def TP (X:Cx) (pins:List (Addr×Obj)) (σ:St) (Q:Bool→Hp→Prop) (b:Bool) (s':Shared):Prop:=∃ H',Inv X pins σ H' s'∧Q b H'
def AP (X:Cx) (pins:List (Addr×Obj)) (σ:St) (Q:List V→Hp→Prop) (us:List Value) (s':Shared):Prop:=∃ vs H',Inv X pins σ H' s'∧Vals vs us∧Q vs H'
def SP (X:Cx) (pins:List (Addr×Obj)) (D:Ends) (f:Flow) (s':Shared):Prop:=
 match f with
 | .next=>∃ σ' H',Inv X pins σ' H' s'∧D.nx σ' H'
 | .brk=>∃ σ' H',Inv X pins σ' H' s'∧D.bk σ' H'
 | .cont=>∃ σ' H',Inv X pins σ' H' s'∧D.ct σ' H'
 | .ret u=>∃ v σ' H',Inv X pins σ' H' s'∧RelV v u∧D.rt v H'
def PE (X:Cx) (e:Expr) (t:TE):Prop:=
 ∀ (pins:List (Addr×Obj)) (s:Shared) (σ:St) (H:Hp) (Q:VK),Inv X pins σ H s→t σ H Q→wpAny (model X.prog X.w) X.A (eval e X.env) (EP X pins σ Q) X.xe s
def PT (X:Cx) (e:Expr) (t:TT):Prop:=
 ∀ (pins:List (Addr×Obj)) (s:Shared) (σ:St) (H:Hp) (Q:Bool→Hp→Prop),Inv X pins σ H s→t σ H Q→wpAny (model X.prog X.w) X.A (isTrue e X.env (eval e X.env)) (TP X pins σ Q) X.xe s
def PW (X:Cx) (e:Expr) (t:TT):Prop:=
 ∀ (whole:Sem Value) (pins:List (Addr×Obj)) (s:Shared) (σ:St) (H:Hp) (Q:Bool→Hp→Prop),Inv X pins σ H s→t σ H Q→wpAny (model X.prog X.w) X.A (isTrue e X.env whole) (TP X pins σ Q) X.xe s
theorem PW.pt {X:Cx} {e:Expr} {t:TT} (h:PW X e t):PT X e t:=h _
def PA (X:Cx) (es:List Expr) (t:TA):Prop:=
 ∀ (pos:Pos) (pins:List (Addr×Obj)) (s:Shared) (σ:St) (H:Hp) (Q:List V→Hp→Prop),Inv X pins σ H s→t σ H Q→wpAny (model X.prog X.w) X.A (spliced (backTo pos (starEach es X.env))) (AP X pins σ Q) X.xe s
def PS (X:Cx) (st:Stmt) (t:TS):Prop:=
 ∀ (pins:List (Addr×Obj)) (s:Shared) (σ:St) (H:Hp) (D:Ends),Inv X pins σ H s→t D σ H→wpAny (model X.prog X.w) X.A (exec st X.env) (SP X pins D) X.xe s
def PSs (X:Cx) (st:List Stmt) (t:TS):Prop:=
 ∀ (pins:List (Addr×Obj)) (s:Shared) (σ:St) (H:Hp) (D:Ends),Inv X pins σ H s→t D σ H→wpAny (model X.prog X.w) X.A (execs st X.env) (SP X pins D) X.xe s
theorem thn {α:Type} {t:Sem α} {Q Q':α→Shared→Prop} {M:Model} {A:Around} {E:Value→Shared→Prop} {s:Shared} (h:wpAny M A t Q E s) (hQ:∀ a s,Q a s→Q' a s):wpAny M A t Q' E s:=wpAny_mono h hQ fun _ _ x=>x
section
variable {X:Cx}
theorem bin {a b:Expr} {ta tb:TE} (ha:PE X a ta) (hb:PE X b tb) {pins:List (Addr×Obj)} {s:Shared} {σ:St} {H:Hp} {R:V→V→Hp→Prop} (I:Inv X pins σ H s) (h:ta σ H fun x H1=>tb σ H1 fun y H2=>R x y H2)
  {α:Type} {Q:α→Shared→Prop} {f:Value→Value→Sem α}
  (hf:∀ v u s2 x y H2,Inv X pins σ H2 s2→RelV x v→RelV y u→R x y H2→wpAny (model X.prog X.w) X.A (f v u) Q X.xe s2) :
  wpAny (model X.prog X.w) X.A (eval a X.env) (fun v s₁=>wpAny (model X.prog X.w) X.A (eval b X.env) (fun u s₂=>wpAny (model X.prog X.w) X.A (f v u) Q X.xe s₂) X.xe s₁) X.xe s:=by
 refine thn (ha pins s σ H _ I h) fun v s1 ⟨x,H1,I1,r1,q1⟩=>?_
 refine thn (hb pins s1 σ H1 _ I1 q1) fun u s2 ⟨y,H2,I2,r2,q2⟩=>?_
 exact hf v u s2 x y H2 I2 r1 r2 q2
def jb4 (i:Nat):TE:=fun σ H Q=>∃ v,σ[i]?=some (some v)∧Q v H
def tC (v:V):TE:=fun _ H Q=>Q v H
theorem jcs {i:Nat} {x:Str} {pos:Pos} (hN:X.N[i]?=some x) (hv:Vis X.env.scope x) (hd:(x == ("__debug__" : Str))=false:=by decide) (hcd:(x == ("__classdict__" : Str))=false:=by decide):PE X (.Name x pos) (jb4 i):=by
 intro pins s σ H Q I h
 obtain ⟨v,e,h⟩:=h
 obtain ⟨m,hn,hl⟩:=I.loc
 obtain ⟨u,r,l⟩:=hl i x v hN e hv
 have fin:EP X pins σ Q u s:=⟨v,H,I,r,h⟩
 rcases l with ⟨hk,hm⟩ | ⟨hk,c,hc,hcell⟩
 ·exact wpAny_Name (wpAny_loadName_local I.ok.kind hk hn hm fin) hd
 ·rcases hk with hk | hk
  ·exact wpAny_Name (wpAny_loadName_cell I.ok.kind hk hc hcell fin) hd
  ·exact wpAny_Name (wpAny_loadName_free I.ok.kind hk hc hcell fin hcd) hd
theorem yt {i j pos}:PE X (.Constant (.int i) j pos) (tC (.int i)):=fun _ _ _ H _ I h=>wpAny_Constant_int ⟨.int i,H,I.tok _,⟨_,rfl⟩,h⟩
theorem jf9 {b j pos}:PE X (.Constant (.bool b) j pos) (tC (.bl b)):=fun _ _ _ H _ I h=>Constant_bool ⟨.bl b,H,I,rfl,h⟩
theorem jfo {j pos}:PE X (.Constant .none j pos) (tC .non):=fun _ _ _ H _ I h=>Constant_none ⟨.non,H,I,rfl,h⟩
theorem jcu {x j pos}:PE X (.Constant (.str x) j pos) (tC (.str x)):=fun _ _ _ H _ I h=>Calls.Constant_str ⟨.str x,H,I.tok _,⟨_,rfl⟩,h⟩
def Gl (X:Cx) (x:Str):Prop:=X.env.kindOf x=some .globalImplicit
theorem yR {E:Value→Shared→Prop} {pins:List (Addr×Obj)} {s:Shared} {σ:St} {H:Hp} {x:Str} {u:Value} {pos:Pos} {Q:Value→Shared→Prop} (I:Inv X pins σ H s) (hg:Gl X x) (hm:X.mg x=some u) (h:Q u s)
  (hd:(x == ("__debug__" : Str))=false:=by decide):wpAny (model X.prog X.w) X.A (eval (.Name x pos) X.env) Q E s:=
 Calls.Name_function_global I.ok.kind hg (Calls.loadGlobal_global (by rw [I.ok.glob];exact I.mod.glob.keeps I.bk) hm h) hd
theorem jah {E:Value→Shared→Prop} {pins:List (Addr×Obj)} {s:Shared} {σ:St} {H:Hp} {x:Str} {u:Value} {pos:Pos} {Q:Value→Shared→Prop} (I:Inv X pins σ H s) (hg:Gl X x) (hm:X.mg x=none) (hv:bootBuiltins x=some u) (h:Q u s)
  (hn:x≠"__name__":=by decide) (hd:(x == ("__debug__" : Str))=false:=by decide):wpAny (model X.prog X.w) X.A (eval (.Name x pos) X.env) Q E s:=by
 obtain ⟨mb,h1,h2⟩:=I.mod.blt
 exact Calls.Name_function_global I.ok.kind hg (Calls.loadGlobal_builtin (by rw [I.ok.glob];exact I.mod.glob.keeps I.bk) hm (by rw [I.ok.blt];exact h1.keeps I.bk) ((h2 x hn).trans hv) h) hd
theorem jd1 {x:Str} {v:V} {u:Value} {pos:Pos} (hg:Gl X x) (hm:X.mg x=some u) (r:RelV v u) (hd:(x == ("__debug__" : Str))=false:=by decide):PE X (.Name x pos) (tC v):=
 fun _ _ _ H _ I h=>yR I hg hm ⟨v,H,I,r,h⟩ hd
variable {a b:Expr} {ta tb:TE} {pos:Pos}
def PC (X:Cx) (op:CmpOp) (a b:Expr) (t:TE):Prop:=
 ∀ (pins:List (Addr×Obj)) (s:Shared) (σ:St) (H:Hp) (Q:VK),Inv X pins σ H s→t σ H Q→
  wpAny (model X.prog X.w) X.A (eval a X.env) (fun v s₁=>wpAny (model X.prog X.w) X.A (eval b X.env) (fun u s₂=>wpAny (model X.prog X.w) X.A (compareOp op v u) (EP X pins σ Q) X.xe s₂) X.xe s₁) X.xe s
theorem jcR (b:Expr) {op:CmpOp} (h:op≠.In) (h2:op≠.NotIn):behindInMarks op b=false:=by
 have e1:(op == CmpOp.In)=false:=by cases op <;> first | rfl | exact absurd rfl h
 have e2:(op == CmpOp.NotIn)=false:=by cases op <;> first | rfl | exact absurd rfl h2
 cases b <;> simp [behindInMarks,e1,e2]
def tB (t:TE):TT:=fun σ H Q=>t σ H fun x H1=>∃ c,x=.bl c∧Q c H1
theorem jfh {op:CmpOp} {t:TE} (h:PC X op a b t) (h1:behindInMarks op b=false:=by first | exact jcR _ (by decide) (by decide) | rfl):PT X (.Compare a [op] [b] pos) (tB t):=by
 intro pins s σ H Q I hw
 refine wpAny_isTrue_Compare1 (thn (h pins s σ H _ I hw) fun v s1 h1=>thn h1 fun u s2 h2=>thn h2 fun c s3 ⟨x,H1,I1,r1,q1⟩=>?_) h1
 obtain ⟨d,rfl,q⟩:=q1
 cases r1
 exact wpAny_truthy_bool ⟨H1,I1,q⟩
theorem jfg {e:Expr} {t:TE} (h:PE X e t) (he:∀ whole,isTrue e X.env whole=(do let v ← whole;standAt e.pos;holding [v] (truthy v)):=by intro _;rfl):PT X e (tB t):=by
 intro pins s σ H Q I hw
 refine isTrue_plain (thn (h pins s σ H _ I hw) fun v s1 ⟨x,H1,I1,r1,q1⟩=>?_) (he _)
 obtain ⟨d,rfl,q⟩:=q1
 cases r1
 exact wpAny_truthy_bool ⟨H1,I1,q⟩
variable {tA tB':TT} {qQ:List Expr}
def jfU (t u:TT):TT:=fun σ H Q=>t σ H fun c H1=>if c=true then u σ H1 Q else Q false H1
def tOr (t u:TT):TT:=fun σ H Q=>t σ H fun c H1=>if c=true then Q true H1 else u σ H1 Q
theorem jdO (ha:PT X a tA):PW X (.BoolOp .And [a] pos) tA:=by
 intro wh pins s σ H Q I h
 refine isTrue_and (thn (ha pins s σ H Q I h) fun c s1 e=>?_)
 cases c with
 | true=>exact isTrue_and_nil e
 | false=>exact e
theorem jfe (ha:PT X a tA):PW X (.BoolOp .Or [a] pos) tA:=by
 intro wh pins s σ H Q I h
 refine isTrue_or (thn (ha pins s σ H Q I h) fun c s1 e=>?_)
 cases c with
 | false=>exact isTrue_or_nil e
 | true=>exact e
theorem jff (ha:PT X a tA) (hb:PW X (.BoolOp .And (b :: qQ) pos) tB'):PW X (.BoolOp .And (a :: b :: qQ) pos) (jfU tA tB'):=by
 intro wh pins s σ H Q I h
 refine isTrue_and (thn (ha pins s σ H _ I h) fun c s1 ⟨H1,I1,q1⟩=>?_)
 cases c with
 | true=>exact hb wh pins s1 σ H1 Q I1 q1
 | false=>exact ⟨H1,I1,q1⟩
theorem jf3 (ha:PT X a tA) (hb:PW X (.BoolOp .Or (b :: qQ) pos) tB'):PW X (.BoolOp .Or (a :: b :: qQ) pos) (tOr tA tB'):=by
 intro wh pins s σ H Q I h
 refine isTrue_or (thn (ha pins s σ H _ I h) fun c s1 ⟨H1,I1,q1⟩=>?_)
 cases c with
 | true=>exact ⟨H1,I1,q1⟩
 | false=>exact hb wh pins s1 σ H1 Q I1 q1
end
def SqL (K:PySem.W.Frag) (H:Hp) (a:Addr) (xs:List V):Prop:=
 Rd H a (.lst xs)∨
  ∃ (o:Obj) (its:Array Value) (n:Nat),K.lookup a=some o∧o.cls=.type "list"∧o.dict=none∧o.data=.seq its n∧its.size≤sizeLine∧Vals xs its.toList
def SqT (K:PySem.W.Frag) (H:Hp) (a:Addr) (xs:List V):Prop:=
 Rd H a (.tup xs)∨
  ∃ (o:Obj) (its:Array Value) (n:Nat),K.lookup a=some o∧o.cls=.type "tuple"∧o.data=.seq its n∧its.size≤sizeLine∧Vals xs its.toList
def jgC:Value→Option V
 | .none=>some .non
 | .bool b=>some (.bl b)
 | .int i _=>some (.int i)
 | .str x _=>some (.str x)
 | .bytes b _=>some (.byt b)
 | .float b _=>some (.flt b)
 | .ref a=>some (.ref a)
 | .type n=>some (.ty n)
 | _=>none
theorem RelV.abs {x:V} {u:Value} (r:RelV x u):jgC u=some x:=by
 cases x with
 | non=>cases r;rfl
 | bl _=>cases r;rfl
 | int _=>obtain ⟨t,rfl⟩:=r;rfl
 | str _=>obtain ⟨t,rfl⟩:=r;rfl
 | byt _=>obtain ⟨t,rfl⟩:=r;rfl
 | flt _=>obtain ⟨t,rfl⟩:=r;rfl
 | ref _=>cases r;rfl
 | ty _=>cases r;rfl
theorem RelV.inj {x y:V} {u:Value} (r:RelV x u) (q:RelV y u):x=y:=Option.some.inj (r.abs.symm.trans q.abs)
theorem Vals.inj:∀ {xs ys:List V} {us:List Value},Vals xs us→Vals ys us→xs=ys
 | _,_,_,.nil,.nil=>rfl
 | _,_,_,.cons r t,.cons r' t'=>by rw [r.inj r',Vals.inj t t']
section
variable {X:Cx} {pins:List (Addr×Obj)} {σ:St} {H:Hp} {s:Shared} {a:Addr} {xs ys:List V}
theorem SqL.of {K:PySem.W.Frag} (h:H a=some (.lst xs)):SqL K H a xs:=.inl (.inl h)
theorem SqT.of {K:PySem.W.Frag} (h:H a=some (.tup xs)):SqT K H a xs:=.inl (.inl h)
theorem Inv.list (I:Inv X pins σ H s) (h:SqL X.K H a xs):∃ its:List Value,Vals xs its∧PlainL s.heap a its.toArray∧xs.length≤sizeLine:=by
 rcases h with h | ⟨o,its,n,hk,hc,hd,hs,hz,r⟩
 ·obtain ⟨z,its,n,r,e⟩:=h.ok I.hok
  exact ⟨its,r,⟨_,n,e,rfl,rfl,rfl⟩,z⟩
 ·refine ⟨its.toList,r,⟨o,n,I.kIn a o hk,hc,hd,by simpa using hs⟩,?_⟩
  have e:=r.length
  simp only [Array.length_toList] at e
  omega
theorem Inv.tuple (I:Inv X pins σ H s) (h:SqT X.K H a xs):∃ its:List Value,Vals xs its∧IsTup s.heap a its.toArray∧xs.length≤sizeLine:=by
 rcases h with h | ⟨o,its,n,hk,hc,hs,hz,r⟩
 ·obtain ⟨z,its,r,p⟩:=h.ok I.hok
  exact ⟨its,r,p,z⟩
 ·refine ⟨its.toList,r,⟨o,I.kIn a o hk,hc,n,by simpa using hs⟩,?_⟩
  have e:=r.length
  simp only [Array.length_toList] at e
  omega
theorem Inv.list_inj (I:Inv X pins σ H s) (h:SqL X.K H a xs) (h':SqL X.K H a ys):xs=ys:=by
 obtain ⟨its,r,⟨o,n,e,_,_,d⟩,_⟩:=I.list h
 obtain ⟨its',r',⟨o',n',e',_,_,d'⟩,_⟩:=I.list h'
 rw [e] at e';cases e'
 rw [d] at d'
 injection d' with d1 _
 have:its=its':=by simpa using congrArg Array.toList d1
 subst this
 exact r.inj r'
theorem Inv.tuple_inj (I:Inv X pins σ H s) (h:SqT X.K H a xs) (h':SqT X.K H a ys):xs=ys:=by
 obtain ⟨its,r,⟨o,e,_,n,d⟩,_⟩:=I.tuple h
 obtain ⟨its',r',⟨o',e',_,n',d'⟩,_⟩:=I.tuple h'
 rw [e] at e';cases e'
 rw [d] at d'
 injection d' with d1 _
 have:its=its':=by simpa using congrArg Array.toList d1
 subst this
 exact r.inj r'
end
abbrev Cx.wish (X:Cx) (E:Value→Shared→Prop):Cx:={ X with xe:=E }
abbrev Cx.nox (X:Cx):Cx:=X.wish fun _ _=>False
theorem Cx.Ok.wish {X:Cx} (ok:X.Ok) (E:Value→Shared→Prop):(X.wish E).Ok:=
 ⟨ok.mod,ok.kind,ok.glob,ok.blt,ok.above,ok.inj,ok.has,ok.cab,ok.hd,ok.frames,ok.stk,ok.exf,ok.bs,ok.bsz,ok.noex,ok.exfs,ok.funs,ok.frf⟩
theorem Cx.Ok.unwish {X:Cx} {E:Value→Shared→Prop} (ok:(X.wish E).Ok):X.Ok:=
 ⟨ok.mod,ok.kind,ok.glob,ok.blt,ok.above,ok.inj,ok.has,ok.cab,ok.hd,ok.frames,ok.stk,ok.exf,ok.bs,ok.bsz,ok.noex,ok.exfs,ok.funs,ok.frf⟩
section
variable {X:Cx} {pins:List (Addr×Obj)} {σ:St} {H:Hp} {s:Shared} {E:Value→Shared→Prop}
theorem Inv.wish (I:Inv X pins σ H s) (E:Value→Shared→Prop):Inv (X.wish E) pins σ H s:=⟨I.ok.wish E,I.os,I.bare,I.base,I.loc,I.cell,I.free,I.freeC,I.pin,I.hok,I.len⟩
theorem Inv.unwish (I:Inv (X.wish E) pins σ H s):Inv X pins σ H s:=⟨I.ok.unwish,I.os,I.bare,I.base,I.loc,I.cell,I.free,I.freeC,I.pin,I.hok,I.len⟩
theorem SP.unwish {D:Ends} {f:Flow} {s':Shared} (h:SP (X.wish E) pins D f s'):SP X pins D f s':=by
 cases f with
 | next=>obtain ⟨σ',H',I,q⟩:=h;exact ⟨σ',H',I.unwish,q⟩
 | brk=>obtain ⟨σ',H',I,q⟩:=h;exact ⟨σ',H',I.unwish,q⟩
 | cont=>obtain ⟨σ',H',I,q⟩:=h;exact ⟨σ',H',I.unwish,q⟩
 | ret u=>obtain ⟨v,σ',H',I,r,q⟩:=h;exact ⟨v,σ',H',I.unwish,r,q⟩
theorem PSs.nox {st:List Stmt} {t:TS} (h:PSs X.nox st t):PSs X st t:=fun pins s σ H D I hw=>
 wpAny_mono (h pins s σ H D (I.wish _) hw) (fun _ _ q=>q.unwish) fun _ _ z=>False.elim z
end
section
variable {X:Cx} {st:Stmt} {qQ:List Stmt} {t u:TS} {e:Expr} {te:TE} {pos:Pos}
def Zc:TS:=fun D σ H=>D.nx σ H
def jI (t u:TS):TS:=fun D σ H=>t { D with nx:=u D } σ H
theorem jaS:PSs X [] Zc:=fun _ _ σ H _ I h=>wpAny_execs_nil ⟨σ,H,I,h⟩
theorem Zr (h1:PS X st t) (h2:PSs X qQ u):PSs X (st :: qQ) (jI t u):=by
 intro pins s σ H D I h
 refine wpAny_execs_cons (thn (h1 pins s σ H { D with nx:=u D } I h) fun f s1 q=>?_)
 cases f with
 | next=>
  obtain ⟨σ',H',I',q⟩:=q
  exact h2 pins s1 σ' H' D I' q
 | ret v=>exact q
 | brk=>exact q
 | cont=>exact q
theorem Kb (h1:PS X st t):PSs X [st] t:=by
 intro pins s σ H D I h
 refine wpAny_execs_cons (thn (h1 pins s σ H D I h) fun f s1 q=>?_)
 cases f with
 | next=>exact wpAny_execs_nil q
 | ret v=>exact q
 | brk=>exact q
 | cont=>exact q
theorem Inv.quiet {pins:List (Addr×Obj)} {σ:St} {H:Hp} {s:Shared} (I:Inv X pins σ H s):interactive X.env=false:=by simp [interactive,I.ok.kind]
def jeJ (te:TE):TS:=fun D σ H=>te σ H fun _ H1=>D.nx σ H1
theorem jdS (he:PE X e te) (hs:swapsWith e none pos.line X.env=pure false:=by rfl):PS X (.Expr e pos) (jeJ te):=by
 intro pins s σ H D I h
 exact wpAny_Expr_any (thn (he pins s σ H _ I h) fun v s1 ⟨x,H1,I1,r1,q1⟩=>⟨σ,H1,I1,q1⟩) I.quiet hs
def jfQ (te:TE):TS:=fun D σ H=>te σ H D.rt
theorem YS (he:PE X e te):PS X (.Return (some e) pos) (jfQ te):=by
 intro pins s σ H D I h
 exact wpAny_Return_some (thn (he pins s σ H _ I h) fun v s1 ⟨x,H1,I1,r1,q1⟩=>⟨x,σ,H1,I1,r1,q1⟩)
def Zd (c:TT) (t u:TS):TS:=fun D σ H=>c σ H fun b H1=>if b=true then t D σ H1 else u D σ H1
theorem jeP {c:Expr} {a b:List Stmt} {tc:TT} (hc:PT X c tc) (ha:PSs X a t) (hb:PSs X b u):PS X (.If c a b pos) (Zd tc t u):=by
 intro pins s σ H D I h
 refine wpAny_If (thn (hc pins s σ H _ I h) fun d s1 ⟨H1,I1,q1⟩=>?_)
 cases d with
 | true=>exact ha pins s1 σ H1 D I1 q1
 | false=>exact hb pins s1 σ H1 D I1 q1
end
abbrev TG:=V→St→Hp→(St→Hp→Prop)→Prop
abbrev TGs:=List V→St→Hp→(St→Hp→Prop)→Prop
def PG (X:Cx) (target:Expr) (t:TG):Prop:=
 ∀ (pins:List (Addr×Obj)) (s:Shared) (σ:St) (H:Hp) (v:V) (u:Value) (Q:St→Hp→Prop),Inv X pins σ H s→RelV v u→t v σ H Q→
  wpAny (model X.prog X.w) X.A (assign target X.env u) (fun _ s'=>∃ σ' H',Inv X pins σ' H' s'∧Q σ' H') X.xe s
def PGs (X:Cx) (ts:List Expr) (t:TGs):Prop:=
 ∀ (pins:List (Addr×Obj)) (s:Shared) (σ:St) (H:Hp) (vs:List V) (us:List Value) (Q:St→Hp→Prop),Inv X pins σ H s→Vals vs us→t vs σ H Q→
  wpAny (model X.prog X.w) X.A (assignInOrder ((assignEach ts X.env).map (·.2)) us) (fun _ s'=>∃ σ' H',Inv X pins σ' H' s'∧Q σ' H') X.xe s
abbrev jeD:=V→V→V→Hp→(Hp→Prop)→Prop
def jfK (X:Cx) (t:jeD):Prop:=
 ∀ (pins:List (Addr×Obj)) (s:Shared) (σ:St) (H:Hp) (o i v:V) (ov iv u:Value) (Q:Hp→Prop),Inv X pins σ H s→RelV o ov→RelV i iv→RelV v u→t o i v H Q→
  wpAny (model X.prog X.w) X.A (setItem ov iv u) (fun _ s'=>∃ H',Inv X pins σ H' s'∧Q H') X.xe s
section
variable {X:Cx} {pos:Pos}
def qN (i:Nat):TG:=fun v σ H Q=>Q (σ.set i (some v)) H
theorem jd0 {i:Nat} {x:Str} (hN:X.N.Nodup) (hi:X.N[i]?=some x) (hx:Loc X.env.scope x) (hf:X.fn x=true∨X.env.scope.names.lookup x=some .local:=by first | exact .inl rfl | exact .inr rfl | assumption):PG X (.Name x pos) (qN i):=by
 intro pins s σ H v u Q I r h
 exact wpAny_assign_Name (Jf I hN hi hx r (fun s' I'=>⟨_,H,I',h⟩) hf)
def jgl:TGs:=fun vs σ H Q=>vs=[]∧Q σ H
def je0 (t:TG) (u:TGs):TGs:=fun vs σ H Q=>∃ v r,vs=v :: r∧t v σ H fun σ' H'=>u r σ' H' Q
theorem jdY:PGs X [] jgl:=by
 intro pins s σ H vs us Q I r h
 obtain ⟨e,h⟩:=h
 subst e
 cases r
 exact assignInOrder_nil ⟨σ,H,I,h⟩
theorem jcq {e:Expr} {es:List Expr} {t:TG} {u:TGs} (h1:PG X e t) (h2:PGs X es u)
  (hs:(assignEach (e :: es) X.env).map (·.2)=assign e X.env :: (assignEach es X.env).map (·.2):=by rfl):PGs X (e :: es) (je0 t u):=by
 intro pins s σ H vs us Q I r h
 obtain ⟨v,vr,e1,h⟩:=h
 subst e1
 cases r with
 | cons r rr=>
  rw [hs]
  refine assignInOrder_cons (thn (h1 pins s σ H _ _ _ I r h) fun _ s1 ⟨σ1,H1,I1,q1⟩=>?_)
  exact h2 pins s1 σ1 H1 _ _ Q I1 rr q1
def jes (K:PySem.W.Frag) (n:Nat) (t:TGs):TG:=fun v σ H Q=>∃ a xs,v=.ref a∧SqT K H a xs∧xs.length=n∧t xs σ H Q
theorem jcr {es:List Expr} {k:Nat} {t:TGs} {n:Nat} (hc:X.calm=true) (h:PGs X es t)
  (hn:(assignEach es X.env).length=n:=by rfl) (hst:(assignEach es X.env).findIdx? (·.1)=none:=by rfl):PG X (.Tuple es k pos) (jes X.K n t):=by
 intro pins s σ H v u Q I r hw
 obtain ⟨a,xs,e1,hq,hl,hw⟩:=hw
 subst e1
 cases r
 obtain ⟨its,rv,ht,hz⟩:=I.tuple hq
 refine assign_Tuple_tuple (I.ok.hd hc) ht (by simp [hn,← hl,rv.length]) hst fun h' hx=>?_
 have I1:Inv X pins σ H { s with heap:=h' }:=I.kept (t':=s.toks) fun b o e=>hx b o (Nat.ne_of_lt (Heap.lt_size e)) e
 exact h pins _ σ H xs _ Q I1 (by simpa using rv) hw
def jgk (to ti:TE) (t:jeD):TG:=fun v σ H Q=>to σ H fun o H1=>ti σ H1 fun i H2=>t o i v H2 fun H3=>Q σ H3
theorem jfm {o i:Expr} {to ti:TE} {t:jeD} (ho:PE X o to) (hi:PE X i ti) (hs:jfK X t)
  (ha:∀ v,assign (.Subscript o i pos) X.env v=(do
   let ov ← holding [v] (eval o X.env)
   let iv ← holding [v,ov] (eval i X.env)
   standAt pos
   holding [v,ov,iv] (setItem ov iv v)
   release [v,ov,iv] []):=by intro _;rfl):PG X (.Subscript o i pos) (jgk to ti t):=by
 intro pins s σ H v u Q I r h
 rw [ha]
 refine wpAny_bind (wpAny_holding (thn (ho pins s σ H _ I h) fun ov s1 ⟨x,H1,I1,r1,q1⟩=>?_))
 refine wpAny_bind (wpAny_holding (thn (hi pins s1 σ H1 _ I1 q1) fun iv s2 ⟨y,H2,I2,r2,q2⟩=>?_))
 refine wpAny_bind (wpAny_standAt (wpAny_bind (wpAny_holding (thn (hs pins s2 σ H2 x y v ov iv u _ I2 r1 r2 r q2) fun _ s3 ⟨H3,I3,q3⟩=>?_))))
 exact wpAny_release ⟨σ,H3,I3,q3⟩
def jbc (te:TE) (g:TG):TS:=fun D σ H=>te σ H fun x H1=>g x σ H1 D.nx
theorem jfk {tg e:Expr} {te:TE} {g:TG} (he:PE X e te) (hg:PG X tg g) (hs:swapsWithSole [tg] e pos.line X.env=pure false:=by rfl) (hw:swappedStores [tg] e X.env=pure none:=by rfl)
  (h1:(assignEach [tg] X.env).map (·.2)=[assign tg X.env]:=by rfl):PS X (.Assign [tg] e pos) (jbc te g):=by
 intro pins s σ H D I h
 refine wpAny_Assign_stores (thn (he pins s σ H _ I h) fun v s1 ⟨x,H1,I1,r1,q1⟩=>?_) hs hw
 rw [h1]
 exact thn (hg pins s1 σ H1 x v _ I1 r1 q1) fun _ s2 q=>q
theorem jfi {i:Nat} {x:Str} {e:Expr} {te:TE} {pos':Pos} (hN:X.N.Nodup) (hi:X.N[i]?=some x) (hx:Loc X.env.scope x) (he:PE X e te) (hs:swapsWith e (some (.Name x pos')) pos.line X.env=pure false:=by rfl) (hf:X.fn x=true∨X.env.scope.names.lookup x=some .local:=by first | exact .inl rfl | exact .inr rfl | assumption) :
  PS X (.Assign [.Name x pos'] e pos) (jbc te (qN i)):=by
 intro pins s σ H D I h
 refine wpAny_Assign_Name (thn (he pins s σ H _ I h) fun v s1 ⟨y,H1,I1,r1,q1⟩=>?_) hs
 exact Jf I1 hN hi hx r1 (fun s2 I2=>⟨_,H1,I2,q1⟩) hf
def ZY (c:TT) (tb:TS):TS:=fun D σ H=>∃ W:Nat→St→Hp→Prop,(∃ m,W m σ H)∧∀ m σ H,W m σ H→
 c σ H fun b H1=>if b=true then ∃ N:St→Hp→Prop,(∀ σ' H',N σ' H'→∃ m',m' < m∧W m' σ' H')∧tb { D with nx:=N,ct:=N,bk:=D.nx } σ H1 else D.nx σ H1
theorem jck {c:Expr} {body:List Stmt} {tc:TT} {tb:TS} (hp:PassesOwn (model X.prog X.w) X.A X.env X.xe) (hc:PT X c tc) (hb:PSs X body tb):PS X (.While c body [] pos) (ZY tc tb):=by
 intro pins s σ H D I h
 obtain ⟨W,⟨m0,w0⟩,turn⟩:=h
 refine wpAny_While (codeAny_whileLoop (fun n s'=>∃ σ' H',Inv X pins σ' H' s'∧W n σ' H') ?_ m0 ⟨σ,H,I,w0⟩)
 rintro n s1 ⟨σ1,H1,I1,w1⟩
 refine wpAny_passesOwn hp (thn (hc pins s1 σ1 H1 _ I1 (turn n σ1 H1 w1)) fun b s2 ⟨H2,I2,q2⟩=>?_)
 cases b with
 | true=>
  obtain ⟨N,hN,q2⟩:=q2
  rw [if_pos rfl]
  refine wpAny_passesOwn hp (thn (hb pins s2 σ1 H2 _ I2 q2) fun f s3 q3=>?_)
  cases f with
  | next=>
   obtain ⟨σ3,H3,I3,n3⟩:=q3
   obtain ⟨m',hm,w3⟩:=hN σ3 H3 n3
   exact ⟨m',hm,σ3,H3,I3,w3⟩
  | cont=>
   obtain ⟨σ3,H3,I3,n3⟩:=q3
   obtain ⟨m',hm,w3⟩:=hN σ3 H3 n3
   exact ⟨m',hm,σ3,H3,I3,w3⟩
  | brk=>exact q3
  | ret v=>exact q3
 | false=>
  rw [if_neg Bool.false_ne_true]
  exact wpAny_execs_nil ⟨σ1,H2,I2,q2⟩
end
structure It where
 go:Nat→Hp→Prop
 yld:Nat→Hp→V→Hp→Prop
 stop:Nat→Hp→Prop
def J2 (X:Cx) (pins:List (Addr×Obj)) (H:Hp) (b:Addr):Prop:=
 H b=none∧b≠X.env.locals∧b ∉ X.fs∧(b∈X.ex∨X.s₀.heap.objs.size≤b)∧(∀ x c,X.env.cells.lookup x=some c→c≠b)∧∀ p∈X.pn++pins,p.1≠b
theorem Inv.fpOk {X:Cx} {pins:List (Addr×Obj)} {σ:St} {H H':Hp} {s:Shared} {b:Addr} (I:Inv X pins σ H s) (hb:s.heap.objs.size≤b) (hn:H' b=none):J2 X pins H' b:=by
 refine ⟨hn,Nat.ne_of_gt (Nat.lt_of_lt_of_le I.lt hb),I.nofs hb,.inr (Nat.le_trans I.sz hb),fun x c e z=>?_,fun p hp z=>?_⟩
 ·obtain ⟨v,q⟩:=I.cell x c e
  exact absurd (Nat.lt_of_lt_of_le q.lt (by rw [z];exact hb)) (Nat.lt_irrefl _)
 ·exact absurd (Nat.lt_of_lt_of_le (Heap.lt_size (I.pin p hp).1) (by rw [z];exact hb)) (Nat.lt_irrefl _)
structure Turn (P:Program) (w:World) (K:PySem.W.Frag) (tg:Expr) (J:It) (fp:List Addr) (it:Addr) (tn:Nat→Heap→Prop):Prop where
 mem:it∈fp
 obj:∀ i h,tn i h→∀ b∈fp,∃ o,h.get? b=some o∧∀ v,o.data≠.cell v
 keep:∀ i h h',tn i h→(∀ b∈fp,∀ o,h.get? b=some o→h'.get? b=some o)→tn i h'
 item:∀ (X:Cx),X.prog=P→X.w=w→X.K=K→X.calm=true→∀ (i:Nat) (pins:List (Addr×Obj)) (s:Shared) (σ:St) (H:Hp) (E:Value→Shared→Prop),Inv X pins σ H s→(∀ b∈fp,J2 X pins H b)→tn i s.heap→J.go i H→
  wpAny (model P w) X.A (pyNext (.ref it)) (fun r s1=>∃ u,r=some u∧
   wpAny (model P w) X.A (letOwnedTupleGo tg (.ref it) u) (fun _ s2=>∃ x H',Inv X pins σ H' s2∧RelV x u∧J.yld i H x H'∧tn (i+1) s2.heap∧∀ b∈fp,H' b=none) E s1) E s
 done:∀ (X:Cx),X.prog=P→X.w=w→X.K=K→X.calm=true→∀ (i:Nat) (pins:List (Addr×Obj)) (s:Shared) (σ:St) (H:Hp) (E:Value→Shared→Prop),Inv X pins σ H s→(∀ b∈fp,J2 X pins H b)→tn i s.heap→J.stop i H→
  wpAny (model P w) X.A (pyNext (.ref it)) (fun r s1=>r=none∧Inv X pins σ H s1) E s
 self:∀ (A:Around) (i:Nat) (s:Shared) (Q:Value→Shared→Prop) (E:Value→Shared→Prop),tn i s.heap→Q (.ref it) s→wpAny (model P w) A (pyIter (.ref it)) Q E s
abbrev TI:=St→Hp→(It→Hp→Prop)→Prop
def PIE (X:Cx) (pins:List (Addr×Obj)) (σ:St) (tg:Expr) (R:It→Hp→Prop) (itv:Value) (s2:Shared):Prop:=
 ∃ (it:Addr) (fp:List Addr) (tn:Nat→Heap→Prop) (J:It) (H':Hp),itv=.ref it∧Inv X pins σ H' s2∧Turn X.prog X.w X.K tg J fp it tn∧tn 0 s2.heap∧(∀ b∈fp,J2 X pins H' b)∧R J H'
def PI (X:Cx) (tg iter:Expr) (wi:TI):Prop:=
 ∀ (pins:List (Addr×Obj)) (s:Shared) (σ:St) (H:Hp) (R:It→Hp→Prop),Inv X pins σ H s→wi σ H R→
  wpAny (model X.prog X.w) X.A (eval iter X.env) (fun v s1=>wpAny (model X.prog X.w) X.A (pyIter v) (PIE X pins σ tg R) X.xe s1) X.xe s
theorem jc6 {M:Model} {A:Around} {E:Value→Shared→Prop} {s:Shared} {tg:Expr} {it:Addr} {u:Value} {o:Obj} {n:String} {vs:Array Value} {Q:Unit→Shared→Prop} (ho:s.heap.get? it=some o) (hc:o.cls=.type n) (hd:o.data=.fields vs)
  (hn:["enumerate","zip","dict_itemiterator","dict_reverseitemiterator","odict_iterator","itertools.zip_longest","itertools.pairwise"].contains n=false) (hQ:Q () s):wpAny M A (letOwnedTupleGo tg (.ref it) u) Q E s:=by
 unfold letOwnedTupleGo
 cases tg <;> first
  | exact wpAny_pure hQ
  | (cases u <;> first
    | exact wpAny_pure hQ
    | (refine wpAny_bind (wpAny_load ho ?_)
       rw [hc,hd]
       show wpAny M A (if (["enumerate","zip","dict_itemiterator","dict_reverseitemiterator","odict_iterator","itertools.zip_longest","itertools.pairwise"].contains n && vs[0]? == some (rawInt _))=true then _ else _) Q E s
       rw [if_neg (by intro h;rw [hn,Bool.false_and] at h;cases h)]
       exact wpAny_pure hQ))
def Itl (K:PySem.W.Frag) (a:Addr):It:=
 ⟨fun i H=>∃ xs x,SqL K H a xs∧xs[i]?=some x,fun i H x H'=>H'=H∧∀ xs,SqL K H a xs→xs[i]?=some x,fun i H=>∃ xs,SqL K H a xs∧xs.length≤i⟩
def Itt (K:PySem.W.Frag) (a:Addr):It:=
 ⟨fun i H=>∃ xs x,SqT K H a xs∧xs[i]?=some x,fun i H x H'=>H'=H∧∀ xs,SqT K H a xs→xs[i]?=some x,fun i H=>∃ xs,SqT K H a xs∧xs.length≤i⟩
def Itr (lo:Int) (n:Nat):It:=⟨fun i _=>i < n,fun i H x H'=>H'=H∧x=.int (lo+i),fun i _=>n≤i⟩
theorem jbb {P:Program} {w:World} {K:PySem.W.Frag} {tg:Expr} (a it:Addr):Turn P w K tg (Itl K a) [it] it (fun i h=>h.IsListIter it a i) where
 mem:=by simp
 obj:=fun i h st b hb=>by
  have e:b=it:=by simpa using hb
  subst e
  obtain ⟨o,e,c,d⟩:=st
  exact ⟨o,e,fun v z=>by rw [d] at z;cases z⟩
 keep:=fun i h h' st k=>st.at fun o e=>k it (by simp) o e
 item:=by
  intro X hP hw hK hc i pins s σ H E I hf st hg
  subst hP hw hK
  obtain ⟨xs,x,hq,hx⟩:=hg
  obtain ⟨its,rv,p,hz⟩:=I.list hq
  obtain ⟨u,hu,ru⟩:=rv.get hx
  obtain ⟨f0,f1,f2,f3,f4,f5⟩:=hf it (by simp)
  refine wpAny_pyNext_list_item st p.isList (x:=u) (by simpa using hu) fun h' st' sb=>?_
  have I1:Inv X pins σ H { s with heap:=h' }:=I.turned (t':=s.toks) (fun b o hb e=>(sb.2 b hb).trans e) f0 f1 f3 f4 f5
  obtain ⟨o,e,c,d⟩:=id st'
  exact ⟨u,rfl,jc6 (s:={ s with heap:=h' }) e c d (by decide) ⟨x,H,I1,ru,⟨rfl,fun ys hy=>by rw [I.list_inj hy hq];exact hx⟩,st',fun b hb=>(hf b hb).1⟩⟩
 done:=by
  intro X hP hw hK hc i pins s σ H E I hf st hg
  subst hP hw hK
  obtain ⟨xs,hq,hx⟩:=hg
  obtain ⟨its,rv,p,hz⟩:=I.list hq
  obtain ⟨f0,f1,f2,f3,f4,f5⟩:=hf it (by simp)
  have hl:=rv.length
  exact wpAny_pyNext_list_end (I.ok.hd hc) st p.isList (by simp;omega) fun h' eb=>⟨rfl,I.turned (t':=s.toks) (fun b o hb e=>eb b o hb e) f0 f1 f3 f4 f5⟩
 self:=fun _ _ _ _ _ st h=>wpAny_pyIter_listiter st h
theorem ZV {P:Program} {w:World} {K:PySem.W.Frag} {tg:Expr} (a it:Addr):Turn P w K tg (Itt K a) [it] it (fun i h=>h.IsTupleIter it a i) where
 mem:=by simp
 obj:=fun i h st b hb=>by
  have e:b=it:=by simpa using hb
  subst e
  obtain ⟨o,e,c,d⟩:=st
  exact ⟨o,e,fun v z=>by rw [d] at z;cases z⟩
 keep:=fun i h h' st k=>st.at fun o e=>k it (by simp) o e
 item:=by
  intro X hP hw hK hc i pins s σ H E I hf st hg
  subst hP hw hK
  obtain ⟨xs,x,hq,hx⟩:=hg
  obtain ⟨its,rv,p,hz⟩:=I.tuple hq
  obtain ⟨u,hu,ru⟩:=rv.get hx
  obtain ⟨f0,f1,f2,f3,f4,f5⟩:=hf it (by simp)
  refine wpAny_pyNext_tuple_item st (show s.heap.IsTuple a its.toArray from p) (x:=u) (by simpa using hu) fun h' st' sb=>?_
  have I1:Inv X pins σ H { s with heap:=h' }:=I.turned (t':=s.toks) (fun b o hb e=>(sb.2 b hb).trans e) f0 f1 f3 f4 f5
  obtain ⟨o,e,c,d⟩:=id st'
  exact ⟨u,rfl,jc6 (s:={ s with heap:=h' }) e c d (by decide) ⟨x,H,I1,ru,⟨rfl,fun ys hy=>by rw [I.tuple_inj hy hq];exact hx⟩,st',fun b hb=>(hf b hb).1⟩⟩
 done:=by
  intro X hP hw hK hc i pins s σ H E I hf st hg
  subst hP hw hK
  obtain ⟨xs,hq,hx⟩:=hg
  obtain ⟨its,rv,p,hz⟩:=I.tuple hq
  obtain ⟨f0,f1,f2,f3,f4,f5⟩:=hf it (by simp)
  have hl:=rv.length
  exact wpAny_pyNext_tuple_end (I.ok.hd hc) st (show s.heap.IsTuple a its.toArray from p) (by simp;omega) fun h' eb=>⟨rfl,I.turned (t':=s.toks) (fun b o hb e=>eb b o hb e) f0 f1 f3 f4 f5⟩
 self:=fun _ _ _ _ _ st h=>wpAny_pyIter_tupleiter st h
theorem ZW {P:Program} {w:World} {K:PySem.W.Frag} {tg:Expr} (it:Addr) (lo:Int) (n:Nat):Turn P w K tg (Itr lo n) [it] it (fun i h=>IsRangeIter h it (lo+(i:Nat) * 1) ((n:Int) - (i:Nat)) 1) where
 mem:=by simp
 obj:=fun i h st b hb=>by
  have e:b=it:=by simpa using hb
  subst e
  exact ⟨_,st,fun v z=>by
   have z':Data.fields _=Data.cell v:=z
   cases z'⟩
 keep:=fun i h h' st k=>k it (by simp) _ st
 item:=by
  intro X hP hw hK hc i pins s σ H E I hf st hg
  subst hP hw hK
  obtain ⟨f0,f1,f2,f3,f4,f5⟩:=hf it (by simp)
  have W:=Walks.range (prog:=X.prog) (w:=X.w) (I.ok.hd hc) it lo 1 n
  refine W.item i s _ _ hg st fun v h' tk hv st' kk=>?_
  obtain ⟨t,rfl⟩:=hv
  have I1:Inv X pins σ H { s with heap:=h',toks:=tk }:=I.turned (fun b o hb e=>kk b o (by simpa using hb) e) f0 f1 f3 f4 f5
  refine ⟨_,rfl,jc6 (s:={ s with heap:=h',toks:=tk }) (n:="range_iterator") st' rfl rfl (by decide) ⟨.int (lo+i),H,I1,⟨t,?_⟩,⟨rfl,rfl⟩,st',fun b hb=>(hf b hb).1⟩⟩
  rw [Int.mul_one]
 done:=by
  intro X hP hw hK hc i pins s σ H E I hf st hg
  subst hP hw hK
  obtain ⟨f0,f1,f2,f3,f4,f5⟩:=hf it (by simp)
  exact wpAny_pyNext_range_end (I.ok.hd hc) st (by have:n≤i:=hg;omega) fun h' eb=>⟨rfl,I.turned (t':=s.toks) (fun b o hb e=>eb b o hb e) f0 f1 f3 f4 f5⟩
 self:=fun _ _ _ _ _ st h=>wpAny_pyIter_rangeiter st h
section
variable {X:Cx} {tg:Expr}
def jeW (K:PySem.W.Frag) (tl:TE):TI:=fun σ H R=>tl σ H fun x H1=>∃ a,x=.ref a∧(∃ xs,SqL K H1 a xs)∧R (Itl K a) H1
def jgf (K:PySem.W.Frag) (tl:TE):TI:=fun σ H R=>tl σ H fun x H1=>∃ a,x=.ref a∧(∃ xs,SqT K H1 a xs)∧R (Itt K a) H1
theorem jdX {l:Expr} {tl:TE} (hl:PE X l tl):PI X tg l (jeW X.K tl):=by
 intro pins s σ H R I h
 refine thn (hl pins s σ H _ I h) fun v s1 ⟨x,H1,I1,r1,q1⟩=>?_
 obtain ⟨a,e,⟨xs,hq⟩,q⟩:=q1
 subst e
 cases r1
 obtain ⟨its,rv,p,hz⟩:=I1.list hq
 refine wpAny_pyIter_list p.isList ?_
 refine ⟨s1.heap.objs.size,[s1.heap.objs.size],_,_,H1,rfl,I1.kept (t':=s1.toks) fun b o e=>Heap.get?_push_of_some _ e,jbb a _,⟨_,Heap.get?_push_size _ rfl,rfl,rfl⟩,fun b hb=>?_,q⟩
 have e:b=s1.heap.objs.size:=by simpa using hb
 subst e
 exact I1.fpOk (Nat.le_refl _) (I1.hok.fresh (Nat.le_refl _))
theorem jfl {l:Expr} {tl:TE} (hl:PE X l tl):PI X tg l (jgf X.K tl):=by
 intro pins s σ H R I h
 refine thn (hl pins s σ H _ I h) fun v s1 ⟨x,H1,I1,r1,q1⟩=>?_
 obtain ⟨a,e,⟨xs,hq⟩,q⟩:=q1
 subst e
 cases r1
 obtain ⟨its,rv,p,hz⟩:=I1.tuple hq
 refine wpAny_pyIter_tuple (show s1.heap.IsTuple a its.toArray from p) ?_
 refine ⟨s1.heap.objs.size,[s1.heap.objs.size],_,_,H1,rfl,I1.kept (t':=s1.toks) fun b o e=>Heap.get?_push_of_some _ e,ZV a _,⟨_,Heap.get?_push_size _ rfl,rfl,rfl⟩,fun b hb=>?_,q⟩
 have e:b=s1.heap.objs.size:=by simpa using hb
 subst e
 exact I1.fpOk (Nat.le_refl _) (I1.hok.fresh (Nat.le_refl _))
theorem jci {pins:List (Addr×Obj)} {σ:St} {H:Hp} {s:Shared} {R:It→Hp→Prop} {E:Value→Shared→Prop} {lo hi:Int} {t u v:Tok} {tk:Nat} (I:Inv X pins σ H s) (h1:-(2 ^ 62)≤lo) (h2:lo < 2 ^ 62) (h3:-(2 ^ 62)≤hi) (h4:hi < 2 ^ 62)
  (q:R (Itr lo (hi - lo).toNat) H):wpAny (model X.prog X.w) X.A (pyIter (.ref s.heap.objs.size)) (PIE X pins σ tg R) E { s with heap:=s.heap.push { cls:=.type "range",data:=.fields #[.int lo t,.int hi u,.int 1 v] },toks:=tk }:=by
 refine wpAny_pyIter_range (IsRange.new ..) (small_one h1 h2 h3 h4) ?_
 have I1:Inv X pins σ H { s with heap:=s.heap.push { cls:=.type "range",data:=.fields #[.int lo t,.int hi u,.int 1 v] },toks:=tk }:=I.kept fun b o e=>Heap.get?_push_of_some _ e
 refine ⟨(s.heap.push { cls:=.type "range",data:=.fields #[.int lo t,.int hi u,.int 1 v] }).objs.size,[(s.heap.push { cls:=.type "range",data:=.fields #[.int lo t,.int hi u,.int 1 v] }).objs.size],_,_,H,rfl,
  I1.kept (t':=tk) fun b o e=>Heap.get?_push_of_some _ e,ZW _ lo (hi - lo).toNat,?_,fun b hb=>?_,q⟩
 ·have e1:lo+((0:Nat):Int) * 1=lo:=by simp
  have e2:(((hi - lo).toNat:Nat):Int) - ((0:Nat):Int)=Builtin.Range.rangeSize lo hi 1:=by rw [rangeSize_one];split <;> omega
  show IsRangeIter _ _ (lo+((0:Nat):Int) * 1) ((((hi - lo).toNat:Nat):Int) - ((0:Nat):Int)) 1
  rw [e1,e2]
  exact Heap.get?_push_size _ rfl
 ·have e:b=(s.heap.push { cls:=.type "range",data:=.fields #[.int lo t,.int hi u,.int 1 v] }).objs.size:=by simpa using hb
  subst e
  exact I1.fpOk (Nat.le_refl _) (I1.hok.fresh (Nat.le_refl _))
def jeV (ta:TA):TI:=fun σ H R=>ta σ H fun vs H1=>∃ j:Int,vs=[.int j]∧-(2 ^ 62)≤j∧j < 2 ^ 62∧R (Itr 0 j.toNat) H1
theorem jbi {a:Expr} {ta:TA} {p pos:Pos} (hg:Gl X "range") (hm:X.mg "range" = none) (ha:PA X [a] ta) (hs:starEach [a] X.env=[(false,eval a X.env)]:=by rfl):PI X tg (.Call (.Name "range" p) [a] [] pos) (jeV ta):=by
 intro pins s σ H R I h
 refine Call_ (jah I hg hm boot_range (PyProof.Rows.callWith_type1 (thn (ha pos pins s σ H _ I h) fun us s1 ⟨vs,H1,I1,r1,q1⟩=>?_) hs rfl))
 obtain ⟨j,e,q1,q2,q⟩:=q1
 subst e
 cases r1 with
 | cons r rr=>
  cases rr
  obtain ⟨t,rfl⟩:=r
  exact call_range_1 (jci I1 (by omega) (by omega) q1 q2 (by simpa using q))
def jfS (wi:TI) (g:TG) (tb:TS):TS:=fun D σ H=>wi σ H fun J H1=>∃ W:Nat→Nat→St→Hp→Prop,(∃ m,W 0 m σ H1)∧∀ i m σ H,W i m σ H→
 (J.stop i H∧D.nx σ H)∨(J.go i H∧∃ N:St→Hp→Prop,(∀ σ' H',N σ' H'→∃ m',m' < m∧W (i+1) m' σ' H')∧∀ x H',J.yld i H x H'→g x σ H' fun σ2 H2=>tb { D with nx:=N,ct:=N,bk:=D.nx } σ2 H2)
def yr (fp:List Addr) (h:Heap):List (Addr×Obj):=fp.filterMap fun b=>(h.get? b).map fun o=>(b,o)
theorem zb {fp:List Addr} {h:Heap} {b:Addr} {o:Obj} (hb:b∈fp) (e:h.get? b=some o):(b,o)∈yr fp h:=List.mem_filterMap.mpr ⟨b,hb,by rw [e];rfl⟩
theorem jbx {fp:List Addr} {h:Heap} {p:Addr×Obj} (hp:p∈yr fp h):p.1∈fp∧h.get? p.1=some p.2:=by
 obtain ⟨b,hb,e⟩:=List.mem_filterMap.mp hp
 cases q:h.get? b with
 | none=>rw [q] at e;cases e
 | some o=>
  rw [q] at e
  have e':(b,o)=p:=Option.some.inj e
  subst e'
  exact ⟨hb,q⟩
theorem Inv.pinned {pins:List (Addr×Obj)} {σ:St} {H:Hp} {s:Shared} {fp:List Addr} (I:Inv X pins σ H s) (hf:∀ b∈fp,J2 X pins H b) (ho:∀ b∈fp,∃ o,s.heap.get? b=some o∧∀ v,o.data≠.cell v):Inv X (pins++yr fp s.heap) σ H s:=
 I.pins_of fun p hp=>(List.mem_append.mp hp).elim (fun z=>I.pin p (List.mem_append_right _ z)) fun z=>by
  obtain ⟨hb,e⟩:=jbx z
  obtain ⟨f0,f1,f2,_⟩:=hf p.1 hb
  obtain ⟨o,e',d⟩:=ho p.1 hb
  rw [e] at e';cases e'
  exact ⟨e,f0,f1,f2,d⟩
theorem Inv.unpinned {pins pl:List (Addr×Obj)} {σ:St} {H:Hp} {s:Shared} (I:Inv X (pins++pl) σ H s):Inv X pins σ H s:=I.pins_of fun p hp=>I.pin p (List.mem_append_right _ (List.mem_append_left _ hp))
theorem jfj {iter:Expr} {body:List Stmt} {wi:TI} {g:TG} {tb:TS} {pos:Pos} (hp:PassesOwn (model X.prog X.w) X.A X.env X.xe) (hc:X.calm=true) (hi:PI X tg iter wi) (hg:PG X tg g) (hb:PSs X body tb)
  (hs:∀ x,foldedSetIterable iter X.env x=pure x:=by intro _;rfl):PS X (.For tg iter body [] pos) (jfS wi g tb):=by
 intro pins s σ H D I h
 refine wpAny_For (thn (hi pins s σ H _ I h) fun v s1 h1=>thn h1 fun itv s2 h2=>?_) hs
 obtain ⟨it,fp,tn,J,H2,e,I2,T,st2,f2,W,⟨m0,w0⟩,turn⟩:=h2
 subst e
 have stat:∀ {H':Hp},(∀ b∈fp,H' b=none)→∀ b∈fp,J2 X pins H' b:=fun hn b hb=>⟨hn b hb,(f2 b hb).2⟩
 refine codeAny_forLoop_any (fun n s'=>∃ i σ' H',Inv X pins σ' H' s'∧tn i s'.heap∧(∀ b∈fp,H' b=none)∧W i n σ' H') ?_ m0 ⟨0,σ,H2,I2,st2,fun b hb=>(f2 b hb).1,w0⟩
 rintro n s3 ⟨i,σ3,H3,I3,st3,fr3,w3⟩
 rcases turn i n σ3 H3 w3 with ⟨stop,qn⟩ | ⟨go,N,hN,step⟩
 ·refine wpAny_passesOwn hp (thn (T.done X rfl rfl rfl hc i pins s3 σ3 H3 X.xe I3 (stat fr3) st3 stop) fun r s4 ⟨hr,I4⟩=>?_)
  subst hr
  exact wpAny_execs_nil ⟨σ3,H3,I4,qn⟩
 ·refine wpAny_passesOwn hp (thn (T.item X rfl rfl rfl hc i pins s3 σ3 H3 X.xe I3 (stat fr3) st3 go) fun r s4 ⟨u,hr,h4⟩=>?_)
  subst hr
  refine wpAny_passesOwn hp (thn h4 fun _ s5 ⟨x,H5,I5,r5,y5,st5,fr5⟩=>?_)
  have I5':=I5.pinned (stat fr5) (T.obj _ _ st5)
  refine wpAny_passesOwn hp (thn (hg _ s5 σ3 H5 x u _ I5' r5 (step x H5 y5)) fun _ s6 ⟨σ6,H6,I6,q6⟩=>?_)
  refine wpAny_passesOwn hp (thn (hb _ s6 σ6 H6 _ I6 q6) fun f s7 q7=>?_)
  have again:∀ {σ7:St} {H7:Hp},Inv X (pins++yr fp s5.heap) σ7 H7 s7→N σ7 H7→∃ m,m < n∧∃ i σ' H',Inv X pins σ' H' s7∧tn i s7.heap∧(∀ b∈fp,H' b=none)∧W i m σ' H':=fun {σ7 H7} I7 n7=>by
   obtain ⟨m',hm,w7⟩:=hN σ7 H7 n7
   refine ⟨m',hm,i+1,σ7,H7,I7.unpinned,T.keep _ _ _ st5 fun b hb o e=>(I7.pin (b,o) (List.mem_append_right _ (List.mem_append_right _ (zb hb e)))).1,fun b hb=>?_,w7⟩
   obtain ⟨o,e,d⟩:=T.obj _ _ st5 b hb
   exact (I7.pin (b,o) (List.mem_append_right _ (List.mem_append_right _ (zb hb e)))).2.1
  cases f with
  | next=>obtain ⟨σ7,H7,I7,n7⟩:=q7;exact again I7 n7
  | cont=>obtain ⟨σ7,H7,I7,n7⟩:=q7;exact again I7 n7
  | brk=>obtain ⟨σ7,H7,I7,q7⟩:=q7;exact ⟨σ7,H7,I7.unpinned,q7⟩
  | ret v=>obtain ⟨x7,σ7,H7,I7,r7,q7⟩:=q7;exact ⟨x7,σ7,H7,I7.unpinned,r7,q7⟩
end
theorem yF {K:PySem.W.Frag} {a:Addr} {xs:List V} {g:TG} {tb:TS} {D:Ends} {σ:St} {H:Hp} (Pv:Nat→St→Hp→Prop) (h0:Pv 0 σ H) (hl:∀ i σ H,i≤xs.length→Pv i σ H→SqL K H a xs)
  (hs:∀ i x σ H,xs[i]?=some x→Pv i σ H→g x σ H fun σ2 H2=>tb { D with nx:=Pv (i+1),ct:=Pv (i+1),bk:=D.nx } σ2 H2) (hd:∀ σ H,Pv xs.length σ H→D.nx σ H) :
  ∃ W:Nat→Nat→St→Hp→Prop,(∃ m,W 0 m σ H)∧∀ i m σ H,W i m σ H→
   ((Itl K a).stop i H∧D.nx σ H)∨((Itl K a).go i H∧∃ N:St→Hp→Prop,(∀ σ' H',N σ' H'→∃ m',m' < m∧W (i+1) m' σ' H')∧∀ x H',(Itl K a).yld i H x H'→g x σ H' fun σ2 H2=>tb { D with nx:=N,ct:=N,bk:=D.nx } σ2 H2):=by
 refine ⟨fun i m σ H=>m=xs.length - i∧i≤xs.length∧Pv i σ H,⟨xs.length,by simp,Nat.zero_le _,h0⟩,?_⟩
 rintro i m σ H ⟨rfl,hi,p⟩
 have q:=hl i σ H hi p
 by_cases hlt:i < xs.length
 ·refine .inr ⟨⟨xs,xs[i],q,by simp [hlt]⟩,Pv (i+1),fun σ' H' p'=>⟨xs.length - (i+1),by omega,rfl,hlt,p'⟩,fun x H' y=>?_⟩
  obtain ⟨e,y⟩:=y
  subst e
  exact hs i x σ _ (y xs q) p
 ·have e:i=xs.length:=by omega
  subst e
  exact .inl ⟨⟨xs,q,Nat.le_refl _⟩,hd σ H p⟩
theorem zJ {K:PySem.W.Frag} {a:Addr} {xs:List V} {g:TG} {tb:TS} {D:Ends} {σ:St} {H:Hp} (Pv:Nat→St→Hp→Prop) (h0:Pv 0 σ H) (hl:∀ i σ H,i≤xs.length→Pv i σ H→SqT K H a xs)
  (hs:∀ i x σ H,xs[i]?=some x→Pv i σ H→g x σ H fun σ2 H2=>tb { D with nx:=Pv (i+1),ct:=Pv (i+1),bk:=D.nx } σ2 H2) (hd:∀ σ H,Pv xs.length σ H→D.nx σ H) :
  ∃ W:Nat→Nat→St→Hp→Prop,(∃ m,W 0 m σ H)∧∀ i m σ H,W i m σ H→
   ((Itt K a).stop i H∧D.nx σ H)∨((Itt K a).go i H∧∃ N:St→Hp→Prop,(∀ σ' H',N σ' H'→∃ m',m' < m∧W (i+1) m' σ' H')∧∀ x H',(Itt K a).yld i H x H'→g x σ H' fun σ2 H2=>tb { D with nx:=N,ct:=N,bk:=D.nx } σ2 H2):=by
 refine ⟨fun i m σ H=>m=xs.length - i∧i≤xs.length∧Pv i σ H,⟨xs.length,by simp,Nat.zero_le _,h0⟩,?_⟩
 rintro i m σ H ⟨rfl,hi,p⟩
 have q:=hl i σ H hi p
 by_cases hlt:i < xs.length
 ·refine .inr ⟨⟨xs,xs[i],q,by simp [hlt]⟩,Pv (i+1),fun σ' H' p'=>⟨xs.length - (i+1),by omega,rfl,hlt,p'⟩,fun x H' y=>?_⟩
  obtain ⟨e,y⟩:=y
  subst e
  exact hs i x σ _ (y xs q) p
 ·have e:i=xs.length:=by omega
  subst e
  exact .inl ⟨⟨xs,q,Nat.le_refl _⟩,hd σ H p⟩
theorem yT {lo:Int} {n:Nat} {g:TG} {tb:TS} {D:Ends} {σ:St} {H:Hp} (Pv:Nat→St→Hp→Prop) (h0:Pv 0 σ H)
  (hs:∀ i σ H,i < n→Pv i σ H→g (.int (lo+i)) σ H fun σ2 H2=>tb { D with nx:=Pv (i+1),ct:=Pv (i+1),bk:=D.nx } σ2 H2) (hd:∀ σ H,Pv n σ H→D.nx σ H) :
  ∃ W:Nat→Nat→St→Hp→Prop,(∃ m,W 0 m σ H)∧∀ i m σ H,W i m σ H→
   ((Itr lo n).stop i H∧D.nx σ H)∨((Itr lo n).go i H∧∃ N:St→Hp→Prop,(∀ σ' H',N σ' H'→∃ m',m' < m∧W (i+1) m' σ' H')∧∀ x H',(Itr lo n).yld i H x H'→g x σ H' fun σ2 H2=>tb { D with nx:=N,ct:=N,bk:=D.nx } σ2 H2):=by
 refine ⟨fun i m σ H=>m=n - i∧i≤n∧Pv i σ H,⟨n,by simp,Nat.zero_le _,h0⟩,?_⟩
 rintro i m σ H ⟨rfl,hi,p⟩
 by_cases hlt:i < n
 ·refine .inr ⟨hlt,Pv (i+1),fun σ' H' p'=>⟨n - (i+1),by omega,rfl,hlt,p'⟩,fun x H' y=>?_⟩
  obtain ⟨e,y⟩:=y
  subst e y
  exact hs i σ _ hlt p
 ·have e:i=n:=by omega
  subst e
  exact .inl ⟨Nat.le_refl _,hd σ H p⟩
abbrev R2:=V→V→Hp→VK→Prop
def OpR (X:Cx) (f:Value→Value→Sem Value) (r:R2):Prop:=
 ∀ (pins:List (Addr×Obj)) (s:Shared) (σ:St) (H:Hp) (x y:V) (v u:Value) (Q:VK),Inv X pins σ H s→RelV x v→RelV y u→r x y H Q→
  wpAny (model X.prog X.w) X.A (f v u) (EP X pins σ Q) X.xe s
def UnR (X:Cx) (f:Value→Sem Value) (r:V→Hp→VK→Prop):Prop:=
 ∀ (pins:List (Addr×Obj)) (s:Shared) (σ:St) (H:Hp) (x:V) (v:Value) (Q:VK),Inv X pins σ H s→RelV x v→r x H Q→
  wpAny (model X.prog X.w) X.A (f v) (EP X pins σ Q) X.xe s
def q4 (X:Cx) (f:Value) (r:List V→Hp→VK→Prop):Prop:=
 ∀ (pins:List (Addr×Obj)) (s:Shared) (σ:St) (H:Hp) (xs:List V) (us:List Value) (Q:VK),Inv X pins σ H s→Vals xs us→r xs H Q→
  wpAny (model X.prog X.w) X.A (call f us) (EP X pins σ Q) X.xe s
def tOp (r:R2) (ta tb:TE):TE:=fun σ H Q=>ta σ H fun x H1=>tb σ H1 fun y H2=>r x y H2 Q
def tUn (r:V→Hp→VK→Prop) (ta:TE):TE:=fun σ H Q=>ta σ H fun x H1=>r x H1 Q
def rI (C:Int→Int→Prop) (g:Int→Int→V):R2:=fun x y H Q=>∃ i j,x=.int i∧y=.int j∧C i j∧Q (g i j) H
def rI0 (g:Int→Int→V):R2:=fun x y H Q=>∃ i j,x=.int i∧y=.int j∧Q (g i j) H
def rU (g:Int→V):V→Hp→VK→Prop:=fun x H Q=>∃ i,x=.int i∧Q (g i) H
section
variable {X:Cx} {a b c:Expr} {ta tb tc:TE} {pos:Pos}
theorem jgp (ha:PE X a ta) (hb:PE X b tb) {pins:List (Addr×Obj)} {s:Shared} {σ:St} {H:Hp} {R:V→V→Hp→Prop} (I:Inv X pins σ H s)
  (h:ta σ H fun x H1=>tb σ H1 fun y H2=>R x y H2) {Q:Value→Shared→Prop} {f:Value→Value→Sem Value}
  (hf:∀ v u s2 x y H2,Inv X pins σ H2 s2→RelV x v→RelV y u→R x y H2→wpAny (model X.prog X.w) X.A (f v u) Q X.xe s2) :
  wpAny (model X.prog X.w) X.A (eval a X.env) (fun v s₁=>wpAny (model X.prog X.w) X.A (eval b X.env) (fun u s₂=>wpAny (model X.prog X.w) X.A (f v u) Q X.xe s₂) X.xe s₁) X.xe s:=by
 refine thn (ha pins s σ H _ I h) fun v s1 ⟨x,H1,I1,r1,q1⟩=>?_
 refine thn (hb pins s1 σ H1 _ I1 q1) fun u s2 ⟨y,H2,I2,r2,q2⟩=>?_
 exact hf v u s2 x y H2 I2 r1 r2 q2
theorem jf6 {op:Operator} {r:R2} (ho:OpR X (binaryOp op) r) (ha:PE X a ta) (hb:PE X b tb):PE X (.BinOp a op b pos) (tOp r ta tb):=by
 intro pins s σ H Q I h
 exact wpAny_BinOp (jgp ha hb I h fun v u s2 x y H2 I2 rx ry q=>ho pins s2 σ H2 x y v u Q I2 rx ry q)
theorem jf5 {op:UnaryOp} {r:V→Hp→VK→Prop} (ho:UnR X (unaryOp op) r) (ha:PE X a ta):PE X (.UnaryOp op a pos) (tUn r ta):=by
 intro pins s σ H Q I h
 exact UnaryOp_ (thn (ha pins s σ H _ I h) fun v s1 ⟨x,H1,I1,r1,q1⟩=>ho pins s1 σ H1 x v Q I1 r1 q1)
theorem opI {f:Value→Value→Sem Value} {C:Int→Int→Prop} {g:Int→Int→Int}
  (rule:∀ (i j:Int) (t u:Tok) (s:Shared) (Q:Value→Shared→Prop) (E:Value→Shared→Prop),C i j→Q (.int (g i j) s.toks) { s with toks:=s.toks+1 }→wpAny (model X.prog X.w) X.A (f (.int i t) (.int j u)) Q E s) :
  OpR X f (rI C fun i j=>.int (g i j)):=by
 intro pins s σ H x y v u Q I rx ry h
 obtain ⟨i,j,rfl,rfl,hc,q⟩:=h
 obtain ⟨t,rfl⟩:=rx
 obtain ⟨t',rfl⟩:=ry
 exact rule i j t t' s _ _ hc ⟨.int (g i j),H,I.tok _,⟨_,rfl⟩,q⟩
theorem jgd {f:Value→Value→Sem Value} {g:Int→Int→Int}
  (rule:∀ (i j:Int) (t u:Tok) (s:Shared) (Q:Value→Shared→Prop) (E:Value→Shared→Prop),Q (.int (g i j) s.toks) { s with toks:=s.toks+1 }→wpAny (model X.prog X.w) X.A (f (.int i t) (.int j u)) Q E s) :
  OpR X f (rI0 fun i j=>.int (g i j)):=by
 intro pins s σ H x y v u Q I rx ry h
 obtain ⟨i,j,rfl,rfl,q⟩:=h
 obtain ⟨t,rfl⟩:=rx
 obtain ⟨t',rfl⟩:=ry
 exact rule i j t t' s _ _ ⟨.int (g i j),H,I.tok _,⟨_,rfl⟩,q⟩
theorem jd9 {f:Value→Value→Sem Value} {g:Int→Int→Bool}
  (rule:∀ (i j:Int) (t u:Tok) (s:Shared) (Q:Value→Shared→Prop) (E:Value→Shared→Prop),Q (.bool (g i j)) s→wpAny (model X.prog X.w) X.A (f (.int i t) (.int j u)) Q E s) :
  OpR X f (rI0 fun i j=>.bl (g i j)):=by
 intro pins s σ H x y v u Q I rx ry h
 obtain ⟨i,j,rfl,rfl,q⟩:=h
 obtain ⟨t,rfl⟩:=rx
 obtain ⟨t',rfl⟩:=ry
 exact rule i j t t' s _ _ ⟨.bl (g i j),H,I,rfl,q⟩
def jgE (i j:Int):Prop:=0≤j∧j≤1000000∧i.natAbs < 2 ^ 64
def CMul (i j:Int):Prop:=(-(2 ^ 64) < i∧i < 2 ^ 64)∨(-(2 ^ 64) < j∧j < 2 ^ 64)
theorem CMul.ok {i j:Int} (h:CMul i j):IntMulOk i j:=by
 rcases h with ⟨h1,h2⟩ | ⟨h1,h2⟩
 ·exact .of_left (intBits_le_64 h1 h2)
 ·exact .of_right (intBits_le_64 h1 h2)
theorem qX:OpR X (binaryOp .Add) (rI0 fun i j=>.int (i+j)):=jgd fun _ _ _ _ _ _ _ q=>add_int q
theorem JG:OpR X (binaryOp .Sub) (rI0 fun i j=>.int (i - j)):=jgd fun _ _ _ _ _ _ _ q=>sub_int q
theorem zw:OpR X (binaryOp .Mult) (rI CMul fun i j=>.int (i * j)):=opI fun _ _ _ _ _ _ _ hc q=>mul_int q hc.ok
theorem zx:OpR X (binaryOp .Mod) (rI (fun _ j=>0 < j) fun i j=>.int (i % j)):=opI fun i j _ _ _ _ _ hc q=>by
 have h1:(0:Int) < j:=hc
 exact mod_int' (by omega) (by rw [Int.fmod_eq_emod_of_nonneg i (by omega)];exact q)
theorem jcC:OpR X (binaryOp .Pow) (rI jgE fun i j=>.int (i ^ j.toNat)):=opI fun _ _ _ _ _ _ _ hc q=>pow_int_small hc.1 hc.2.1 hc.2.2 q
theorem unI {f:Value→Sem Value} {g:Int→Int}
  (rule:∀ (i:Int) (t:Tok) (s:Shared) (Q:Value→Shared→Prop) (E:Value→Shared→Prop),Q (.int (g i) s.toks) { s with toks:=s.toks+1 }→wpAny (model X.prog X.w) X.A (f (.int i t)) Q E s) :
  UnR X f (rU fun i=>.int (g i)):=by
 intro pins s σ H x v Q I rx h
 obtain ⟨i,rfl,q⟩:=h
 obtain ⟨t,rfl⟩:=rx
 exact rule i t s _ _ ⟨.int (g i),H,I.tok _,⟨_,rfl⟩,q⟩
theorem YJ:UnR X (unaryOp .USub) (rU fun i=>.int (-i)):=unI fun _ _ _ _ _ q=>neg_int q
end
def jfX:V→V→Bool
 | .non,.non=>true | .non,.int _=>true | .int _,.non=>true | .non,.bl _=>true | .bl _,.non=>true | .non,.str _=>true | .str _,.non=>true
 | .int _,.int _=>true | .bl _,.bl _=>true | .str _,.str _=>true | .byt _,.byt _=>true
 | .int _,.str _=>true | .str _,.int _=>true | .bl _,.str _=>true | .str _,.bl _=>true
 | _,_=>false
def rEq:R2:=fun x y H Q=>jfX x y=true∧Q (.bl (decide (x=y))) H
def rNe:R2:=fun x y H Q=>jfX x y=true∧Q (.bl (!decide (x=y))) H
theorem ja2 {i j:Int}:decide (V.int i=V.int j)=(i == j):=by
 rw [Bool.eq_iff_iff]
 simp
theorem jde {i j:Bool}:decide (V.bl i=V.bl j)=(i == j):=by
 rw [Bool.eq_iff_iff]
 simp
theorem ja1 {i j:Str}:decide (V.str i=V.str j)=(i == j):=by
 rw [Bool.eq_iff_iff]
 simp
theorem ja3 {i j:Array UInt8}:decide (V.byt i=V.byt j)=(i.toList == j.toList):=by
 rw [Bool.eq_iff_iff]
 cases i
 cases j
 simp
section
variable {X:Cx} {a b c:Expr} {ta tb tc:TE} {pos:Pos}
theorem ki {pins:List (Addr×Obj)} {σ:St} {H:Hp} {s:Shared} {Q:VK} {k k':Bool} (I:Inv X pins σ H s) (q:Q (.bl k) H) (e:k=k'):EP X pins σ Q (.bool k') s:=by
 subst e
 exact ⟨.bl k,H,I,rfl,q⟩
theorem kq:OpR X (compareOp .Eq) rEq:=by
 intro pins s σ H x y v u Q I rx ry h
 obtain ⟨hs,q⟩:=h
 cases x with
 | non=>
  cases rx
  cases y with
  | non=>cases ry;exact PySem.EqNone.eq_none_none (ki I q (by simp))
  | bl j=>cases ry;exact PySem.EqNone.eq_none_bool (ki I q (by simp))
  | int j=>obtain ⟨t',rfl⟩:=ry;exact PySem.EqNone.eq_none_int (ki I q (by simp))
  | str j=>obtain ⟨t',rfl⟩:=ry;exact PySem.EqNone.eq_none_str (ki I q (by simp))
  | _=>exact absurd (show false=true from hs) Bool.false_ne_true
 | bl i=>
  cases rx
  cases y with
  | non=>cases ry;exact PySem.EqNone.eq_bool_none (ki I q (by simp))
  | bl j=>cases ry;exact eq_bool (ki I q jde)
  | str j=>obtain ⟨t',rfl⟩:=ry;exact PySem.EqMixed.eq_bool_str (ki I q (by simp))
  | _=>exact absurd (show false=true from hs) Bool.false_ne_true
 | int i=>
  obtain ⟨t,rfl⟩:=rx
  cases y with
  | non=>cases ry;exact PySem.EqNone.eq_int_none (ki I q (by simp))
  | int j=>obtain ⟨t',rfl⟩:=ry;exact eq_int (ki I q ja2)
  | str j=>obtain ⟨t',rfl⟩:=ry;exact PySem.EqMixed.eq_int_str (ki I q (by simp))
  | _=>exact absurd (show false=true from hs) Bool.false_ne_true
 | str i=>
  obtain ⟨t,rfl⟩:=rx
  cases y with
  | non=>cases ry;exact PySem.EqNone.eq_str_none (ki I q (by simp))
  | bl j=>cases ry;exact PySem.EqMixed.eq_str_bool (ki I q (by simp))
  | int j=>obtain ⟨t',rfl⟩:=ry;exact PySem.EqMixed.eq_str_int (ki I q (by simp))
  | str j=>obtain ⟨t',rfl⟩:=ry;exact eq_str (ki I q ja1)
  | _=>exact absurd (show false=true from hs) Bool.false_ne_true
 | byt i=>
  obtain ⟨t,rfl⟩:=rx
  cases y with
  | byt j=>obtain ⟨t',rfl⟩:=ry;exact PySem.W.eq_bytes (ki I q ja3)
  | _=>exact absurd (show false=true from hs) Bool.false_ne_true
 | _=>cases y <;> exact absurd (show false=true from hs) Bool.false_ne_true
theorem jaV:OpR X (compareOp .NotEq) rNe:=by
 intro pins s σ H x y v u Q I rx ry h
 obtain ⟨hs,q⟩:=h
 cases x with
 | non=>
  cases rx
  cases y with
  | non=>cases ry;exact PySem.EqNone.ne_none_none (ki I q (by simp))
  | bl j=>cases ry;exact PySem.EqNone.ne_none_bool (ki I q (by simp))
  | int j=>obtain ⟨t',rfl⟩:=ry;exact PySem.EqNone.ne_none_int (ki I q (by simp))
  | str j=>obtain ⟨t',rfl⟩:=ry;exact PySem.EqNone.ne_none_str (ki I q (by simp))
  | _=>exact absurd (show false=true from hs) Bool.false_ne_true
 | bl i=>
  cases rx
  cases y with
  | non=>cases ry;exact PySem.EqNone.ne_bool_none (ki I q (by simp))
  | bl j=>cases ry;exact ne_bool (ki I q (congrArg not jde))
  | str j=>obtain ⟨t',rfl⟩:=ry;exact PySem.EqMixed.ne_bool_str (ki I q (by simp))
  | _=>exact absurd (show false=true from hs) Bool.false_ne_true
 | int i=>
  obtain ⟨t,rfl⟩:=rx
  cases y with
  | non=>cases ry;exact PySem.EqNone.ne_int_none (ki I q (by simp))
  | int j=>obtain ⟨t',rfl⟩:=ry;exact ne_int (ki I q (congrArg not ja2))
  | str j=>obtain ⟨t',rfl⟩:=ry;exact PySem.EqMixed.ne_int_str (ki I q (by simp))
  | _=>exact absurd (show false=true from hs) Bool.false_ne_true
 | str i=>
  obtain ⟨t,rfl⟩:=rx
  cases y with
  | non=>cases ry;exact PySem.EqNone.ne_str_none (ki I q (by simp))
  | bl j=>cases ry;exact PySem.EqMixed.ne_str_bool (ki I q (by simp))
  | int j=>obtain ⟨t',rfl⟩:=ry;exact PySem.EqMixed.ne_str_int (ki I q (by simp))
  | str j=>obtain ⟨t',rfl⟩:=ry;exact ne_str (ki I q (congrArg not ja1))
  | _=>exact absurd (show false=true from hs) Bool.false_ne_true
 | byt i=>
  obtain ⟨t,rfl⟩:=rx
  cases y with
  | byt j=>obtain ⟨t',rfl⟩:=ry;exact PySem.W.ne_bytes (ki I q (congrArg not ja3))
  | _=>exact absurd (show false=true from hs) Bool.false_ne_true
 | _=>cases y <;> exact absurd (show false=true from hs) Bool.false_ne_true
theorem yw:OpR X (compareOp .Lt) (rI0 fun i j=>.bl (decide (i < j))):=jd9 fun _ _ _ _ _ _ _ q=>lt_int q
theorem jgb:OpR X (compareOp .LtE) (rI0 fun i j=>.bl (decide (i≤j))):=jd9 fun _ _ _ _ _ _ _ q=>le_int q
theorem Jp:OpR X (compareOp .Gt) (rI0 fun i j=>.bl (decide (j < i))):=jd9 fun _ _ _ _ _ _ _ q=>gt_int q
theorem jgc:OpR X (compareOp .GtE) (rI0 fun i j=>.bl (decide (j≤i))):=jd9 fun _ _ _ _ _ _ _ q=>ge_int q
theorem jfs:OpR X (compareOp .Is) (fun x y H Q=>y=.non∧Q (.bl (decide (x=.non))) H):=by
 intro pins s σ H x y v u Q I rx ry h
 obtain ⟨rfl,q⟩:=h
 cases ry
 refine is_none_gen (ki I q ?_)
 cases x <;> first
  | (cases rx;rfl)
  | (obtain ⟨t,rfl⟩:=rx;rfl)
theorem jP (b:Expr) {op:CmpOp} (h:op≠.In:=by decide) (h2:op≠.NotIn:=by decide):behindInMarks op b=false:=by
 have e1:(op == CmpOp.In)=false:=by cases op <;> first | rfl | exact absurd rfl h
 have e2:(op == CmpOp.NotIn)=false:=by cases op <;> first | rfl | exact absurd rfl h2
 cases b <;> simp [behindInMarks,e1,e2]
def jeF (t:TE):TT:=fun σ H Q=>t σ H fun x H'=>∃ k,x=.bl k∧Q k H'
theorem jaR {op:CmpOp} {r:R2} (ho:OpR X (compareOp op) r) (ha:PE X a ta) (hb:PE X b tb) (hm:behindInMarks op b=false):PT X (.Compare a [op] [b] pos) (jeF (tOp r ta tb)):=by
 intro pins s σ H Q I h
 refine wpAny_isTrue_Compare1 (thn (ha pins s σ H _ I h) fun v s1 ⟨x,H1,I1,r1,q1⟩=>thn (hb pins s1 σ H1 _ I1 q1) fun u s2 ⟨y,H2,I2,r2,q2⟩=>
  thn (ho pins s2 σ H2 x y v u _ I2 r1 r2 q2) fun c s3 ⟨z,H3,I3,r3,k,e,q3⟩=>?_) hm
 subst e
 cases r3
 exact wpAny_truthy_bool ⟨H3,I3,q3⟩
theorem JI:(sizeLine:Nat) < 2 ^ 63:=by rw [sizeLine_eq];decide
theorem y9:OpR X (binaryOp .Add) (fun x y H Q=>∃ i j,x=.str i∧y=.str j∧i.length+j.length≤sizeLine∧Q (.str (i++j)) H):=by
 intro pins s σ H x y v u Q I rx ry h
 obtain ⟨i,j,rfl,rfl,hz,q⟩:=h
 obtain ⟨t,rfl⟩:=rx
 obtain ⟨t',rfl⟩:=ry
 exact add_str (fun t' tk=>⟨.str (i++j),H,I.tok _,⟨_,rfl⟩,q⟩) hz
theorem Je {x:V} {us:List Value} (r:Vals [x] us):∃ u,us=[u]∧RelV x u:=by
 cases r with
 | cons r1 r2=>cases r2;exact ⟨_,rfl,r1⟩
theorem jax {x y:V} {us:List Value} (r:Vals [x,y] us):∃ u w',us=[u,w']∧RelV x u∧RelV y w':=by
 cases r with
 | cons r1 r2=>
  cases r2 with
  | cons r3 r4=>cases r4;exact ⟨_,_,rfl,r1,r3⟩
theorem ZR:q4 X (.builtin "abs") (fun xs H Q=>∃ i,xs=[.int i]∧Q (.int (if i < 0 then -i else i)) H):=by
 intro pins s σ H xs us Q I r h
 obtain ⟨i,rfl,q⟩:=h
 obtain ⟨u,rfl,t,rfl⟩:=Je r
 exact call_abs_int fun u tk=>⟨.int (if i < 0 then -i else i),H,I.tok _,⟨_,rfl⟩,q⟩
theorem Yw (hc:X.calm=true):q4 X (.builtin "max") (fun xs H Q=>∃ i j,xs=[.int i,.int j]∧Q (.int (if j > i then j else i)) H):=by
 intro pins s σ H xs us Q I r h
 obtain ⟨i,j,rfl,q⟩:=h
 obtain ⟨u,w',rfl,⟨t,rfl⟩,⟨t',rfl⟩⟩:=jax r
 refine max_two_ints (I.ok.hd hc) fun h' tk k=>⟨_,H,I.kept k,?_,q⟩
 by_cases hj:j > i
 ·rw [if_pos hj,if_pos hj];exact ⟨_,rfl⟩
 ·rw [if_neg hj,if_neg hj];exact ⟨_,rfl⟩
theorem jbQ (hc:X.calm=true):q4 X (.builtin "min") (fun xs H Q=>∃ i j,xs=[.int i,.int j]∧Q (.int (if j < i then j else i)) H):=by
 intro pins s σ H xs us Q I r h
 obtain ⟨i,j,rfl,q⟩:=h
 obtain ⟨u,w',rfl,⟨t,rfl⟩,⟨t',rfl⟩⟩:=jax r
 refine min_two_ints (I.ok.hd hc) fun h' tk k=>⟨_,H,I.kept k,?_,q⟩
 by_cases hj:j < i
 ·rw [if_pos hj,if_pos hj];exact ⟨_,rfl⟩
 ·rw [if_neg hj,if_neg hj];exact ⟨_,rfl⟩
end
structure ObjM (h:Heap) (x dx C:Addr) (mA:Str→Option Value):Prop where
 obj:h.get? x=some (PySem.W.instObj C dx)
 ns:h.Ns1 dx mA
 ne:dx≠x
theorem jbC {h:Heap} {dx:Addr} {mA:Str→Option Value} (n:h.Ns1 dx mA):∃ od,h.get? dx=some od∧∀ name,PySem.W.lookIn name od=some (mA name):=by
 obtain ⟨o,es,ep,ho,hd,hk,_,hm⟩:=n
 refine ⟨o,ho,fun name=>?_⟩
 have e:=hm name
 unfold nsFind findBy at e
 rw [← Array.find?_toList] at e
 unfold PySem.W.lookIn
 rw [hd]
 dsimp only
 split
 ·rename_i y q
  rw [q] at e
  exact congrArg some e
 ·rename_i q
  rw [q] at e
  have a:es.toList.any (·.refKey)=false:=by
   rw [List.any_eq_false]
   intro y hy
   obtain ⟨z,t,hkey⟩:=hk y (Array.mem_toList_iff.mp hy)
   simp [DictEntry.refKey,hkey]
  have a':¬ es.toList.any (·.refKey)=true:=by rw [a];exact Bool.false_ne_true
  rw [if_neg a']
  exact congrArg some e
theorem ObjM.look {h:Heap} {x dx C:Addr} {mA:Str→Option Value} (I:ObjM h x dx C mA):∃ od,PySem.W.InstAt h x (PySem.W.instObj C dx) C (some od)∧∀ name,PySem.W.lookIn name od=some (mA name):=
 let ⟨od,ho,hl⟩:=jbC I.ns
 ⟨od,⟨I.obj,rfl,rfl,ho⟩,hl⟩
theorem RelO.some_of {v:V} {o:Option Value} (r:RelO (some v) o):∃ u,o=some u∧RelV v u:=by
 cases o with
 | none=>exact (show False from r).elim
 | some u=>exact ⟨u,rfl,r⟩
theorem RelO.none_of {o:Option Value} (r:RelO none o):o=none:=by
 cases o with
 | none=>rfl
 | some u=>exact (show False from r).elim
section
variable {P:Program} {w:World} {H H':Hp} {h h':Heap} {a C dx:Addr} {fs fs':List (Str×V)}
theorem jeq (hok:HOk P w H h) (e:H a=some (.ins C dx fs)):∃ mA,ObjM h a dx C mA∧(∀ f,RelO (fs.lookup f) (mA f))∧PySem.Within mA (fs.map (·.1))∧fs.length≤1000∧H dx=some (.own a):=by
 obtain ⟨d,z,ne,ob,mA,n,r,q⟩:=(show ObjOk P w H h a (.ins C dx fs) from hok a _ e)
 exact ⟨mA,⟨ob,n,ne⟩,r,q,z,d⟩
end
structure Cls (K:PySem.W.Frag) (C:Addr):Prop where
 pg:PySem.W.plainGet K C Str.empty=true
 hd:PySem.W.hasDictIn K C=true
 po:PySem.W.plainOver K C=true
 sa:PySem.W.findIn K (.ref C) "__setattr__" = some (some (.builtin "object.__setattr__"))
theorem Cls.get {K:PySem.W.Frag} {C:Addr} (c:Cls K C) (f:Str):PySem.W.plainGet K C f=true:=c.pg
section
variable {X:Cx} {pins:List (Addr×Obj)} {σ:St} {H:Hp} {s:Shared} {a C dx:Addr} {fs:List (Str×V)} {f:Str} {v:V} {A:Around} {E:Value→Shared→Prop}
theorem Inv.made (I:Inv X pins σ H s):Inv X pins σ (upd (upd H s.heap.objs.size (.own (s.heap.objs.size+1))) (s.heap.objs.size+1) (.ins C s.heap.objs.size []))
  { s with heap:=(s.heap.push PySem.W.emptyDict).push (PySem.W.instObj C s.heap.objs.size) }:=by
 have e1:(s.heap.push PySem.W.emptyDict).get? s.heap.objs.size=some PySem.W.emptyDict:=Heap.get?_push_size s.heap rfl
 have e2:((s.heap.push PySem.W.emptyDict).push (PySem.W.instObj C s.heap.objs.size)).get? (s.heap.objs.size+1)=some (PySem.W.instObj C s.heap.objs.size):=by
  have:=Heap.get?_push_size (s.heap.push PySem.W.emptyDict) (o:=PySem.W.instObj C s.heap.objs.size) rfl
  rwa [Heap.size_push] at this
 have e3:(s.heap.push PySem.W.emptyDict).Ns s.heap.objs.size (fun _=>none):=⟨PySem.W.emptyDict,#[],_,e1,rfl,(fun e he=>absurd he (by simp)),fun _=>rfl⟩
 have I1:=I.laid (a:=s.heap.objs.size) (o:=.own (s.heap.objs.size+1)) (h':=s.heap.push PySem.W.emptyDict) (t':=s.toks) (fun b u q=>Heap.get?_push_of_some _ q) (Nat.le_refl _) ⟨_,e1⟩
 refine I1.laid (a:=s.heap.objs.size+1) (o:=.ins C s.heap.objs.size []) (t':=s.toks) (fun b u q=>Heap.get?_push_of_some _ q) (Nat.le_of_eq (Heap.size_push _ _)) ?_
 have ne:s.heap.objs.size≠s.heap.objs.size+1:=Nat.ne_of_lt (Nat.lt_succ_self _)
 refine ⟨by rw [jx ne,jg],Nat.zero_le _,ne,e2,fun _=>none,(Heap.Ns1.of_empty e3).at fun o q=>Heap.get?_push_of_some _ q,fun _=>True.intro,fun y hy=>absurd rfl hy⟩
end
section
variable {X:Cx} {pins:List (Addr×Obj)} {σ:St} {H:Hp} {s:Shared} {A:Around} {E:Value→Shared→Prop} {Q:Value→Shared→Prop} {c:Value} {b:Bool}
inductive TyOf (K:PySem.W.Frag) (H:Hp):V→Value→Prop where
 | non:TyOf K H .non (.type "NoneType")
 | bl (x:Bool):TyOf K H (.bl x) (.type "bool")
 | int (i:Int):TyOf K H (.int i) (.type "int")
 | str (x:Str):TyOf K H (.str x) (.type "str")
 | flt (x:UInt64):TyOf K H (.flt x) (.type "float")
 | lst {a:Addr} {xs:List V} (e:H a=some (.lst xs)):TyOf K H (.ref a) (.type "list")
 | frz {a:Addr} {o:Obj} {xs:List V} (e:H a=some (.frz o (.lst xs))):TyOf K H (.ref a) (.type "list")
 | tup {a:Addr} {xs:List V} (e:H a=some (.tup xs)):TyOf K H (.ref a) (.type "tuple")
 | dK {a:Addr} {kvs:List (Key×V)} (e:H a=some (.dK kvs)):TyOf K H (.ref a) (.type "dict")
 | dT {a:Addr} {kvs:List (List Key×V)} (e:H a=some (.dT kvs)):TyOf K H (.ref a) (.type "dict")
 | ins {a C dx:Addr} {fs:List (Str×V)} (e:H a=some (.ins C dx fs)) (cl:Cls K C) (ha:PySem.W.findIn K (.ref C) "__class__" = some (some (.builtin "object.__class__")))
   (hn:PySem.W.specialIn K (.builtin "object.__class__") "__get__" = some (some (.builtin "getset_descriptor.__get__"))) (htk:PySem.W.takesIn K (.builtin "object.__class__")=some true)
   (hm:PySem.W.mroIn K C (.type "object")=some true):TyOf K H (.ref a) (.ref C)
theorem jbH {x:V} {u t:Value} (I:Inv X pins σ H s) (rx:RelV x u) (ty:TyOf X.K H x t) (e:PySem.W.kitOne X.K t c=some b) (h:∀ tk,Q (.bool b) { s with toks:=tk }) :
  wpAny (model X.prog X.w) A (call (.builtin "isinstance") [u,c]) Q E s:=by
 cases ty with
 | non=>cases (show u=Value.none from rx);exact PySem.W.kia_one PySem.W.kitx_none I.kIn True.intro e (fun z=>nomatch z) h
 | bl y=>cases (show u=Value.bool y from rx);exact PySem.W.kia_one PySem.W.kitx_bool I.kIn True.intro e (fun z=>nomatch z) h
 | int i=>obtain ⟨t,q⟩:=(show ∃ t,u=Value.int i t from rx);cases q;exact PySem.W.kia_one PySem.W.kitx_int I.kIn True.intro e (fun z=>nomatch z) h
 | str y=>obtain ⟨t,q⟩:=(show ∃ t,u=Value.str y t from rx);cases q;exact PySem.W.kia_one PySem.W.kitx_str I.kIn True.intro e (fun z=>nomatch z) h
 | flt y=>obtain ⟨t,q⟩:=(show ∃ t,u=Value.float y t from rx);cases q;exact PySem.W.kia_one PySem.W.kitx_float I.kIn True.intro e (fun z=>nomatch z) h
 | @lst a xs ea=>
  cases (show u=Value.ref a from rx)
  obtain ⟨_,_,n,_,h1⟩:=(show ObjOk X.prog X.w H s.heap a (.lst xs) from I.hok a _ ea)
  exact PySem.W.kia_one PySem.W.kitx_list I.kIn ⟨_,h1,rfl⟩ e (fun z=>nomatch z) h
 | @frz a ob xs ea=>
  cases (show u=Value.ref a from rx)
  obtain ⟨_,_,_,n,_,h1⟩:=(show ObjOk X.prog X.w H s.heap a (.frz ob (.lst xs)) from I.hok a _ ea)
  exact PySem.W.kia_one PySem.W.kitx_list I.kIn ⟨_,h1,rfl⟩ e (fun z=>nomatch z) h
 | @tup a xs ea=>
  cases (show u=Value.ref a from rx)
  obtain ⟨_,_,_,p⟩:=(show ObjOk X.prog X.w H s.heap a (.tup xs) from I.hok a _ ea)
  obtain ⟨o,h1,h2,_⟩:=p
  exact PySem.W.kia_one PySem.W.kitx_tuple I.kIn ⟨o,h1,h2⟩ e (fun z=>nomatch z) h
 | @dK a kvs ea=>
  cases (show u=Value.ref a from rx)
  obtain ⟨_,_,vs,_,p⟩:=(show ObjOk X.prog X.w H s.heap a (.dK kvs) from I.hok a _ ea)
  obtain ⟨o,es,ep,h1,h2,_⟩:=p
  exact PySem.W.kia_one PySem.W.kitx_dict I.kIn ⟨o,h1,h2.1⟩ e (fun z=>nomatch z) h
 | @dT a kvs ea=>
  cases (show u=Value.ref a from rx)
  obtain ⟨_,_,xs,_,o,es,ep,h1,h2,_⟩:=(show ObjOk X.prog X.w H s.heap a (.dT kvs) from I.hok a _ ea)
  exact PySem.W.kia_one PySem.W.kitx_dict I.kIn ⟨o,h1,h2.1⟩ e (fun z=>nomatch z) h
 | @ins a C dx fs ea cl ha hn htk hm=>
  cases (show u=Value.ref a from rx)
  obtain ⟨mA,O,_⟩:=jeq I.hok ea
  obtain ⟨od,J,_⟩:=O.look
  exact PySem.W.kia_one (PySem.W.kitx_own (cl.get _) cl.hd ha hn htk hm) I.kIn J e (fun z=>nomatch z) h
end
structure Room (k:Nat) (A:Around):Prop where
 hd:A.handled=none
 dp:A.depth+3 * k+5 < recursionLimit
 un:A.units+16 * k+200 < cLine
 gd:A.guards=some []
theorem Room.mono {j k:Nat} {A:Around} (r:Room k A) (h:j≤k):Room j A:=⟨r.hd,by have:=r.dp;omega,by have:=r.un;omega,r.gd⟩
theorem Room.deeper {k:Nat} {A:Around} (r:Room (k+1) A) (env:Env):Room k (A.deeper env):=
 ⟨r.hd,by have:=r.dp;show A.depth+1+3 * k+5 < _;omega,by have:=r.un;show A.units+3+16 * k+200 < _;omega,r.gd⟩
theorem Room.in1 {k:Nat} {A:Around} (r:Room (k+1) A):Room k A.in1:=
 ⟨r.hd,by have:=r.dp;show A.depth+3 * k+5 < _;omega,by have:=r.un;show A.units+1+16 * k+200 < _;omega,r.gd⟩
theorem Room.depth {k:Nat} {A:Around} (r:Room k A):A.depth < recursionLimit:=by have:=r.dp;omega
theorem Room.units {k:Nat} {A:Around} (r:Room k A):A.units+64 < cLine:=by have:=r.un;omega
def jdF:TA:=fun _ H Q=>Q [] H
def jaC (ta:TE) (tr:TA):TA:=fun σ H Q=>ta σ H fun x H1=>tr σ H1 fun xs H2=>Q (x :: xs) H2
section
variable {X:Cx} {e:Expr} {es:List Expr} {te:TE} {t:TA} {pos:Pos}
theorem yu:PA X [] jdF:=fun _ _ _ _ H Q I h=>Calls.spliced_nil ⟨[],H,I,.nil,h⟩
theorem jd6 (ha:PE X e te) (hr:PA X es t) (hs:starEach (e :: es) X.env=(false,eval e X.env) :: starEach es X.env:=by rfl):PA X (e :: es) (jaC te t):=by
 intro pos pins s σ H Q I h
 rw [hs]
 show wpAny _ _ (spliced ((false,eval e X.env) :: backTo pos (starEach es X.env))) _ _ s
 refine Calls.spliced_cons (thn (ha pins s σ H _ I h) fun u s1 ⟨x,H1,I1,r1,q1⟩=>?_)
 exact thn (hr pos pins s1 σ H1 _ I1 q1) fun us s2 ⟨xs,H2,I2,r2,q2⟩=>⟨x :: xs,H2,I2,.cons r1 r2,q2⟩
def jfP (t:TA):TE:=fun σ H Q=>t σ H fun xs H1=>xs.length≤sizeLine∧∀ p,H1 p=none→Q (.ref p) (upd H1 p (.tup xs))
def jfR (t:TA):TE:=fun σ H Q=>t σ H fun xs H1=>xs.length≤sizeLine∧∀ p,H1 p=none→Q (.ref p) (upd H1 p (.lst xs))
theorem jct {x1} (h:PA X es t):PE X (.Tuple es x1 pos) (jfP t):=by
 intro pins s σ H Q I hq
 refine wpAny_Tuple_spliced (thn (h pos pins s σ H _ I hq) fun us s1 ⟨xs,H1,I1,r,z,q⟩=>⟨by rw [← r.length];exact z,?_⟩)
 have hf:H1 s1.heap.objs.size=none:=I1.hok.fresh (Nat.le_refl _)
 refine ⟨.ref s1.heap.objs.size,upd H1 s1.heap.objs.size (.tup xs),I1.laid (t':=s1.toks) (fun b u e=>Heap.get?_push_of_some _ e) (Nat.le_refl _) ?_,rfl,q _ hf⟩
 exact ⟨z,us,r,⟨_,Heap.get?_push_size _ rfl,rfl,_,rfl⟩⟩
theorem jcx (h:PA X es t):PE X (.List es pos) (jfR t):=by
 intro pins s σ H Q I hq
 refine wpAny_List_spliced (thn (h pos pins s σ H _ I hq) fun us s1 ⟨xs,H1,I1,r,z,q⟩=>⟨by rw [← r.length];exact z,?_⟩)
 have hf:H1 s1.heap.objs.size=none:=I1.hok.fresh (Nat.le_refl _)
 refine ⟨.ref s1.heap.objs.size,upd H1 s1.heap.objs.size (.lst xs),I1.laid (t':=s1.toks) (fun b u e=>Heap.get?_push_of_some _ e) (Nat.le_refl _) ?_,rfl,q _ hf⟩
 exact ⟨z,us,0,r,Heap.get?_push_size _ rfl⟩
end
abbrev Sp:=List V→Hp→VK→XK→Prop
abbrev CXT:=List Env→Hp→Shared→XK→Value→Shared→Prop
structure Env0 (P:Program) (w:World) (K:PySem.W.Frag) (mg:Str→Option Value) (base:Heap) (A:Around) (outer:List Env) (s:Shared) (H:Hp):Prop where
 frames:A.frames=some outer
 mod:Mod K mg base
 bs:∀ b o,base.get? b=some o→s.heap.get? b=some o∧H b=none
 bsz:base.objs.size≤s.heap.objs.size
 funs:s.heap.FunFrames base outer
 frf:∀ b∈frs outer,H b=none
 hok:HOk P w H s.heap
 bare:AllBare s.gens
def CE (outer:List Env) (P:Program) (w:World) (H:Hp) (s:Shared) (Q:VK) (u:Value) (s':Shared):Prop:=
 ∃ v H',s'.os=s.os∧AllBare s'.gens∧Un (frs outer) [] H H' s.heap s'.heap∧HOk P w H' s'.heap∧RelV v u∧Q v H'
def CR (CX:CXT) (outer:List Env) (P:Program) (w:World) (H:Hp) (s:Shared) (Q:VK) (E:XK) (r:Result) (s':Shared):Prop:=
 match r with
 | .ok (.ret u)=>CE outer P w H s Q u s'
 | .ok _=>False
 | .error e=>CX outer H s E e s'
structure FnOk (P:Program) (w:World) (K:PySem.W.Frag) (mg:Str→Option Value) (base:Heap) (CX:CXT) (k:Nat) (f:Addr) (fd:FuncData) (ps:List Str) (sp:Sp):Prop where
 len:∀ vs H Q E,sp vs H Q E→vs.length=ps.length
 run:∀ (A:Around) (outer:List Env) (s:Shared) (H:Hp) (args:Args) (us:List Value) (vs:List V) (Q:VK) (E:XK),Room k A→Env0 P w K mg base A outer s H→BindsTo s fd args (ps.zip us)→Vals vs us→sp vs H Q E→
  codeAny (model P w) A (.call (.ref f) args) (CR CX outer P w H s Q E) s
theorem Env0.in1 {P:Program} {w:World} {K:PySem.W.Frag} {mg:Str→Option Value} {base:Heap} {A:Around} {outer:List Env} {s:Shared} {H:Hp} (e:Env0 P w K mg base A outer s H) :
  Env0 P w K mg base A.in1 outer s H:=⟨e.frames,e.mod,e.bs,e.bsz,e.funs,e.frf,e.hok,e.bare⟩
section
variable {X:Cx} {pins:List (Addr×Obj)} {σ:St} {H:Hp} {s s':Shared}
theorem Inv.env0 (I:Inv X pins σ H s):Env0 X.prog X.w X.K X.mg X.base X.A X.stack s H:=
 ⟨I.ok.frames,I.ok.mod,I.bs,Nat.le_trans I.ok.bsz I.sz,I.stack,I.stkFree,I.hok,I.bare⟩
theorem Inv.after {Q:VK} {u:Value} (I:Inv X pins σ H s) (h:CE X.stack X.prog X.w H s Q u s'):EP X pins σ Q u s':=by
 obtain ⟨v,H',os,bare,un,hok,r,q⟩:=h
 obtain ⟨hh,g,d,t,os'⟩:=s'
 obtain rfl:os'=s.os:=os
 exact ⟨v,H',I.call (h':=hh) (g':=g) (d':=d) (t':=t) (ch:=[]) un hok bare (fun b z=>absurd z (by simp)),r,q⟩
end
def Kl (sp:Sp) (dvs:List V) (E:XK) (t:TA):TE:=fun σ H Q=>t σ H fun vs H1=>sp (vs++dvs) H1 Q E
def Binds (K:PySem.W.Frag) (fd:FuncData) (ps:List Str) (ds:List Value):Prop:=
 ∀ (s:Shared) (us:List Value),K.In s.heap→(us++ds).length=ps.length→BindsTo s fd ⟨us,[]⟩ (ps.zip (us++ds))
theorem Binds.all {K:PySem.W.Frag} {fd:FuncData} {ps:List Str} (h:∀ us:List Value,us.length=ps.length→bindArgs fd ⟨us,[]⟩=pure (ps.zip us)):Binds K fd ps []:=fun s us _ hl=>by
 rw [List.append_nil] at hl ⊢
 exact .of_eq (h us hl)
def KZ (CX:CXT) (X:Cx) (E:XK):Prop:=∀ (pins:List (Addr×Obj)) (σ:St) (H:Hp) (s:Shared) (e:Value) (s':Shared),Inv X pins σ H s→CX X.stack H s E e s'→X.xe e s'
section
variable {X:Cx} {CX:CXT} {k:Nat} {f C:Addr} {fd:FuncData} {ps:List Str} {sp:Sp} {dvs:List V} {ds:List Value} {E:XK} {x m:Str} {p pos apos:Pos} {e o:Expr} {es:List Expr} {ta:TE} {t:TA}
theorem jcg {pins:List (Addr×Obj)} {σ:St} {H:Hp} {s:Shared} {Q:VK} {us:List Value} {vs:List V} (F:FnOk X.prog X.w X.K X.mg X.base CX k f fd ps sp) (hr:Room k X.A) (hb:Binds X.K fd ps ds) (hd:Vals dvs ds) (hx:KZ CX X E)
  (I:Inv X pins σ H s) (r:Vals vs us) (h:sp (vs++dvs) H Q E):wpAny (model X.prog X.w) X.A (call (.ref f) us) (EP X pins σ Q) X.xe s:=by
 have r2:Vals (vs++dvs) (us++ds):=r.append hd
 have hl:(us++ds).length=ps.length:=by rw [← r2.length];exact F.len _ _ _ _ h
 refine wpAny_call (codeAny_mono (F.run X.A X.stack s H ⟨us,[]⟩ (us++ds) (vs++dvs) Q E hr I.env0 (hb s us I.kIn hl) r2 h) fun r s' hq=>?_)
 cases r with
 | error e=>exact hx pins σ H s e s' I hq
 | ok fl=>
  cases fl with
  | ret u=>exact I.after hq
  | next=>exact False.elim hq
  | brk=>exact False.elim hq
  | cont=>exact False.elim hq
theorem jaU (F:FnOk X.prog X.w X.K X.mg X.base CX k f fd ps sp) (hr:Room k X.A) (hg:Gl X x) (hm:X.mg x=some (.ref f)) (hk:PySem.W.keepIn X.K (.ref f)=true) (hb:Binds X.K fd ps ds) (hd:Vals dvs ds) (hx:KZ CX X E)
  (ha:PA X (e :: es) t) (hdb:(x == ("__debug__" : Str))=false:=by decide) (he:starEach (e :: es) X.env=(false,eval e X.env) :: starEach es X.env:=by rfl) (hpl:(backTo pos (starEach es X.env)).any (·.1)=false:=by rfl) :
  PE X (.Call (.Name x p) (e :: es) [] pos) (Kl sp dvs E t):=by
 intro pins s σ H Q I h
 refine wpAny_Call_Name_kw (yR I hg hm ?_ hdb)
 refine PySem.W.callWith_K (h₀:=X.base) I.ok.mod.kin hk (thn (ha pos pins s σ H _ I h) fun us s1 ⟨vs,H1,I1,r,q⟩=>⟨I1.kIn,?_⟩) he hpl
 exact jcg F hr hb hd hx I1 r q
theorem jcA (F:FnOk X.prog X.w X.K X.mg X.base CX k f fd ps sp) (hr:Room k X.A) (hg:Gl X x) (hm:X.mg x=some (.ref f)) (hk:PySem.W.keepIn X.K (.ref f)=true) (hb:Binds X.K fd ps ds) (hd:Vals dvs ds) (hx:KZ CX X E)
  (hdb:(x == ("__debug__" : Str))=false:=by decide):PE X (.Call (.Name x p) [] [] pos) (Kl sp dvs E jdF):=by
 intro pins s σ H Q I h
 refine wpAny_Call_Name_kw (yR I hg hm ?_ hdb)
 exact PySem.W.callWith_K0 I.kIn hk (jcg (us:=[]) F hr hb hd hx I .nil h)
end
structure FnScope (N P:List Str) (sc:Scope):Prop where
 kind:sc.kind=.function
 co:sc.isCoroutine=false
 gen:sc.isGenerator=false
 nd:N.Nodup
 pre:N.take P.length=P
 par:∀ x∈P,sc.names.lookup x=some .local∨sc.names.lookup x=some .cell
 nofree:∀ y∈sc.names,y.2≠.free
theorem Yz {kindOf:Str→Option NameKind} {x:Str}:∀ {binds:List (Str×Value)} {m:Str→Option Value},(∀ v,(x,v) ∉ binds)→bindL kindOf binds m x=m x
 | [],_,_=>rfl
 | (n,v) :: r,m,h=>by
  unfold bindL
  rw [Yz fun w hw=>h w (List.mem_cons_of_mem _ hw)]
  split
  ·have:x≠n:=by rintro rfl;exact h v List.mem_cons_self
   simp [this]
  ·rfl
theorem YB {kindOf:Str→Option NameKind} {x:Str}:∀ {binds:List (Str×Value)} {m:Str→Option Value},(∀ v,(x,v) ∉ binds)→bindC kindOf binds m x=m x
 | [],_,_=>rfl
 | (n,v) :: r,m,h=>by
  unfold bindC
  rw [YB fun w hw=>h w (List.mem_cons_of_mem _ hw)]
  split
  ·rfl
  ·have:x≠n:=by rintro rfl;exact h v List.mem_cons_self
   simp [this]
theorem YA {kindOf:Str→Option NameKind} {x:Str} {v:Value}:∀ {P:List Str} {vs:List Value} {i:Nat} {m:Str→Option Value},P.Nodup→P[i]?=some x→vs[i]?=some v→kindOf x=some .local→
  bindL kindOf (P.zip vs) m x=some v
 | [],_,_,_,_,h,_,_=>by simp at h
 | _ :: _,[],_,_,_,_,h,_=>by simp at h
 | p :: P,w :: vs,0,m,nd,h1,h2,hk=>by
  simp at h1 h2;subst h1;subst h2
  show bindL kindOf ((p,w) :: P.zip vs) m p=_
  unfold bindL
  rw [Yz fun v hv=>(List.nodup_cons.mp nd).1 (List.of_mem_zip hv).1,if_pos hk]
  simp
 | p :: P,w :: vs,i+1,m,nd,h1,h2,hk=>by
  show bindL kindOf ((p,w) :: P.zip vs) m x=_
  unfold bindL
  exact YA (i:=i) (List.nodup_cons.mp nd).2 (by simpa using h1) (by simpa using h2) hk
theorem YC {kindOf:Str→Option NameKind} {x:Str} {v:Value}:∀ {P:List Str} {vs:List Value} {i:Nat} {m:Str→Option Value},P.Nodup→P[i]?=some x→vs[i]?=some v→kindOf x≠some .local→
  bindC kindOf (P.zip vs) m x=some v
 | [],_,_,_,_,h,_,_=>by simp at h
 | _ :: _,[],_,_,_,_,h,_=>by simp at h
 | p :: P,w :: vs,0,m,nd,h1,h2,hk=>by
  simp at h1 h2;subst h1;subst h2
  show bindC kindOf ((p,w) :: P.zip vs) m p=_
  unfold bindC
  rw [YB fun v hv=>(List.nodup_cons.mp nd).1 (List.of_mem_zip hv).1,if_neg hk]
  simp
 | p :: P,w :: vs,i+1,m,nd,h1,h2,hk=>by
  show bindC kindOf ((p,w) :: P.zip vs) m x=_
  unfold bindC
  exact YC (i:=i) (List.nodup_cons.mp nd).2 (by simpa using h1) (by simpa using h2) hk
def yZ (N:List Str) (vs:List V):St:=vs.map some++List.replicate (N.length - vs.length) none
def q0 (CX:CXT) (P:Program) (w:World) (K:PySem.W.Frag) (mg:Str→Option Value) (base:Heap) (N:List Str) (qual:Str) (scope:Scope) (f:Addr) (cd:Value) (A:Around) (outer:List Env) (s:Shared) (H:Hp) (E:XK):Cx where
 prog:=P
 w:=w
 K:=K
 mg:=mg
 base:=base
 A:=A.deeper (envOfC qual scope s.heap.objs.size f cd)
 N:=N
 s₀:=s
 H₀:=H
 env:=envOfC qual scope s.heap.objs.size f cd
 outer:=outer
 stack:=envOfC qual scope s.heap.objs.size f cd :: outer
 ex:=[]
 calm:=true
 fn:=fun _=>true
 pn:=[]
 xe:=fun e s'=>wpAny (model P w) (A.deeper (envOfC qual scope s.heap.objs.size f cd)) (leaving (envOfC qual scope s.heap.objs.size f cd) e) (fun _ s''=>CX outer H s E e s'') (fun e' s''=>CX outer H s E e' s'') s'
theorem ZQ {sc:Scope} {n:Nat} {x:Str} (h:sc.names.lookup x=some .cell):∃ c,(cellsFrom n sc.names []).lookup x=some c:=by
 have q:=PySem.W.cellsFrom_some sc.names n [] (.inl h)
 exact Option.isSome_iff_exists.mp q
theorem jbI {CX:CXT} {P:Program} {w:World} {K:PySem.W.Frag} {mg:Str→Option Value} {base:Heap} {N ps:List Str} {qual:Str} {scope:Scope} {f:Addr} {cd:Value} {A:Around} {outer:List Env} {s s1:Shared} {H:Hp} {E:XK} {us:List Value} {vs:List V}
  (S:FnScope N ps scope) (hd:A.handled=none) (e0:Env0 P w K mg base A outer s H) (hl:vs.length=ps.length) (r:Vals vs us)
  (x:InCallC s s.heap.objs.size (bindL (envOfC qual scope s.heap.objs.size f cd).kindOf (ps.zip us) fun _=>none) (cellsFrom (s.heap.objs.size+1) scope.names []) (bindC (envOfC qual scope s.heap.objs.size f cd).kindOf (ps.zip us) fun _=>none) s1) :
  Inv (q0 CX P w K mg base N qual scope f cd A outer s H E) [] (yZ N vs) H s1:=by
 have hpl:ps.length≤N.length:=by have:=congrArg List.length S.pre;rw [List.length_take] at this;omega
 obtain ⟨h1,tk,rfl,hk⟩:=x.done
 have noA:∀ b:Addr,b ∉ (q0 CX P w K mg base N qual scope f cd A outer s H E).ex:=fun b z=>absurd (show b∈([]:List Addr) from z) (by simp)
 refine ⟨⟨e0.mod,S.kind,rfl,rfl,Nat.le_refl _,fun y z c h1 h2=>?_,fun y hy=>?_,fun y c _ h=>?_,fun _=>hd,Around.frames_deeper e0.frames,.inr ⟨rfl,rfl⟩,fun b z=>absurd z (noA b),e0.bs,e0.bsz,fun b _ _=>noA b,fun b z=>absurd z (noA b),e0.funs,e0.frf⟩,
  rfl,e0.bare,Un.kept hk,⟨_,x.toInCall.ns,fun i y v h1 h2 h3=>?_⟩,fun y c h=>⟨_,x.cell y c h⟩,e0.hok.fresh (Nat.le_refl _),fun y c h=>?_,fun p hp=>absurd (show p∈([]:List (Addr×Obj)) from hp) (by simp),e0.hok.kept hk,?_⟩
 ·exact name_of_addr x.apart (PySem.mem_of_lookup h1) (PySem.mem_of_lookup h2)
 ·have hy:scope.names.lookup y=some .cell∨scope.names.lookup y=some .free:=hy
  rcases hy with hy | hy
  ·exact ZQ hy
  ·exact absurd rfl (S.nofree _ (PySem.mem_of_lookup hy))
 ·exact Nat.le_of_lt (x.above y c (PySem.mem_of_lookup h))
 ·have hi:i < vs.length:=by
   unfold yZ at h2
   by_cases hi:i < vs.length
   ·exact hi
   ·rw [List.getElem?_append_right (by simpa using hi)] at h2
    rw [List.getElem?_replicate] at h2
    split at h2 <;> cases h2
  have ha:vs[i]?=some v:=by
   unfold yZ at h2
   rw [List.getElem?_append_left (by simpa using hi),List.getElem?_map] at h2
   cases e:vs[i]? with
   | none=>rw [e] at h2;cases h2
   | some a=>rw [e] at h2;cases h2;rfl
  obtain ⟨u,hu,rv⟩:=r.get ha
  have hp:ps[i]?=some y:=by
   rw [← S.pre,List.getElem?_take_of_lt (by omega)];exact h1
  have ndP:ps.Nodup:=by rw [← S.pre];exact S.nd.sublist (List.take_sublist _ _)
  refine ⟨u,rv,?_⟩
  rcases S.par y (List.mem_of_getElem? hp) with k | k
  ·exact .inl ⟨k,YA ndP hp hu k⟩
  ·obtain ⟨c,e⟩:=ZQ (n:=s.heap.objs.size+1) k
   refine .inr ⟨.inl k,c,e,?_⟩
   have q:=x.cell y c e
   rw [YC ndP hp hu (by show scope.names.lookup y≠_;rw [k];decide)] at q
   exact q
 ·exact e0.hok.fresh (Nat.le_of_lt (x.above y c (PySem.mem_of_lookup h)))
 ·unfold yZ
  show _=N.length
  rw [List.length_append,List.length_map,List.length_replicate]
  omega
theorem je1 {CX:CXT} {P:Program} {w:World} {K:PySem.W.Frag} {mg:Str→Option Value} {base:Heap} {k:Nat} {f:Addr} {name qual:Str} {params:Arguments} {body:List Stmt} {scope:Scope} {dV kV doc pm cdv ct oc:Value} {an od:Option Addr}
  {osl:Array (Option Value)} {N ps:List Str} {sp:Sp} (lk:K.lookup f=some ⟨oc,od,.func (PySem.W.fnOf name qual params body scope dV kV doc pm an cdv ct),osl⟩) (hcd:PySem.W.codeIn K cdv qual=true) (S:FnScope N ps scope)
  (len:∀ vs H Q E,sp vs H Q E→vs.length=ps.length)
  (hbody:∀ (A:Around) (outer:List Env) (s:Shared) (H:Hp) (vs:List V) (Q:VK) (E:XK),Room k (A.deeper (envOfC qual scope s.heap.objs.size f cdv))→sp vs H Q E→
   ∃ t,PSs (q0 CX P w K mg base N qual scope f cdv A outer s H E) body t∧t { nx:=fun _ H'=>Q .non H',rt:=Q } (yZ N vs) H) :
  FnOk P w K mg base CX (k+1) f (PySem.W.fnOf name qual params body scope dV kV doc pm an cdv ct) ps sp:=by
 refine ⟨len,fun A outer s H args us vs Q E hr e0 hb r hsp=>?_⟩
 have hl:=len _ _ _ _ hsp
 have KX:K.In s.heap:=e0.mod.kin.keeps fun b o e=>(e0.bs b o e).1
 have lim:s.heap.NoLimit:=e0.mod.nolimit.keeps fun b o e=>(e0.bs b o e).1
 have hkind:∀ y∈ps.zip us,scope.names.lookup y.1=some .local∨(scope.names.lookup y.1=some .cell∧((cellsFrom (s.heap.objs.size+1) scope.names []).lookup y.1).isSome=true):=fun ⟨n,v⟩ hy=>by
  rcases S.par n (List.of_mem_zip hy).1 with q | q
  ·exact .inl q
  ·exact .inr ⟨q,PySem.W.cellsFrom_some _ _ _ (.inl q)⟩
 refine codeAny_call_function hr.depth (KX _ _ lk) rfl S.co S.gen rfl (PySem.W.codeRec_of KX hcd) (hb _ _ _ _ ?_)
 refine wpAny_newFunctionEnv_cells S.kind hkind fun env he s1 x=>?_
 subst he
 refine ⟨lim.keeps x.toInCall.keep,codeAny_func ?_⟩
 obtain ⟨t,ht,hq⟩:=hbody A outer s H vs Q E (hr.deeper _) hsp
 have I:Inv (q0 CX P w K mg base N qual scope f cdv A outer s H E) [] (yZ N vs) H s1:=jbI S hr.hd e0 hl r x
 refine wpAny_mono (ht [] s1 (yZ N vs) H _ I hq) (fun fl s' hs=>?_) fun e s' hs=>hs
 have fin:∀ {σ':St} {H':Hp} {v:V} {u:Value},Inv (q0 CX P w K mg base N qual scope f cdv A outer s H E) [] σ' H' s'→RelV v u→Q v H'→CE outer P w H s Q u s':=
  fun {σ' H' v u} J rv q=>⟨v,H',J.os,J.bare,J.base,J.hok,rv,q⟩
 cases fl with
 | ret u=>
  obtain ⟨v,σ',H',J,rv,q⟩:=hs
  exact fin J rv q
 | next=>
  obtain ⟨σ',H',J,q⟩:=hs
  exact fin (v:=V.non) (u:=Value.none) J rfl q
 | brk=>
  obtain ⟨_,_,_,q⟩:=hs
  exact False.elim q
 | cont=>
  obtain ⟨_,_,_,q⟩:=hs
  exact False.elim q
section
variable {X:Cx} {x:Str} {p pos:Pos} {e:Expr} {es:List Expr} {t:TA} {id T:String} {r:List V→Hp→VK→Prop}
def tCB (r:List V→Hp→VK→Prop) (t:TA):TE:=fun σ H Q=>t σ H fun vs H1=>r vs H1 Q
theorem jcz (hc:q4 X (.builtin id) r) (hg:Gl X x) (hm:X.mg x=none) (hv:bootBuiltins x=some (.builtin id)) (ha:PA X (e :: es) t) (hn:x≠"__name__":=by decide) (hdb:(x == ("__debug__" : Str))=false:=by decide)
  (he:starEach (e :: es) X.env=(false,eval e X.env) :: starEach es X.env:=by rfl) (hpl:(backTo pos (starEach es X.env)).any (·.1)=false:=by rfl):PE X (.Call (.Name x p) (e :: es) [] pos) (tCB r t):=by
 intro pins s σ H Q I h
 refine wpAny_Call_Name_kw (jah I hg hm hv ?_ hn hdb)
 exact PyProof.Rows.callWith_builtin1 (thn (ha pos pins s σ H _ I h) fun us s1 ⟨vs,H1,I1,r1,q1⟩=>hc pins s1 σ H1 vs us Q I1 r1 q1) he hpl
theorem jbj (hc:q4 X (.type T) r) (hg:Gl X x) (hm:X.mg x=none) (hv:bootBuiltins x=some (.type T)) (ha:PA X (e :: es) t) (hn:x≠"__name__":=by decide) (hdb:(x == ("__debug__" : Str))=false:=by decide)
  (he:starEach (e :: es) X.env=(false,eval e X.env) :: starEach es X.env:=by rfl) (hpl:(backTo pos (starEach es X.env)).any (·.1)=false:=by rfl):PE X (.Call (.Name x p) (e :: es) [] pos) (tCB r t):=by
 intro pins s σ H Q I h
 refine wpAny_Call_Name_kw (jah I hg hm hv ?_ hn hdb)
 exact PyProof.Rows.callWith_type1 (thn (ha pos pins s σ H _ I h) fun us s1 ⟨vs,H1,I1,r1,q1⟩=>hc pins s1 σ H1 vs us Q I1 r1 q1) he hpl
end
end L2
namespace HT
open PySem PyProof.Rows
section
variable {prog:Program} {w:World} {A:Around} {E:Value→Shared→Prop} {s:Shared}
theorem cat_tup {t b:Addr} {vs ws:List Value} {Q:Value→Shared→Prop} (ht:IsTup s.heap t vs.toArray) (hb:IsTup s.heap b ws.toArray) (hv:vs≠[])
  (h1:ws=[]→Q (.ref t) s) (h2:ws≠[]→Q (.ref s.heap.objs.size) { s with heap:=s.heap.push { cls:=.type "tuple",data:=.seq (vs++ws).toArray } })
  (hsz:vs.length+ws.length≤sizeLine):wpAny (model prog w) A (binaryOp .Add (.ref t) (.ref b)) Q E s:=by
 obtain ⟨⟨cls,dd,data,sl⟩,ho,hc,n,hd⟩:=id ht
 obtain ⟨⟨cls2,dd2,data2,sl2⟩,ho2,hc2,n2,hd2⟩:=id hb
 simp only at hc hd hc2 hd2
 subst hc hd hc2 hd2
 have e:vs.toArray++ws.toArray=(vs++ws).toArray:=by simp
 by_cases hw:ws=[]
 ·exact concat_meets ⟨_,ho,rfl⟩ ⟨_,ho2,rfl⟩ noFill_tuple_add seq_tuple_add PySem.F.slot_tuple_add PySem.F.entry_tuple_add (PySem.F.args_tuple_add_2 _ _)
   (tuple_addW1 t b vs.toArray ws.toArray n n2 dd dd2 sl sl2 (by simpa using hv) (by simp [hw])) ⟨ho,ho2,h1 hw⟩
 ·refine concat_meets ⟨_,ho,rfl⟩ ⟨_,ho2,rfl⟩ noFill_tuple_add seq_tuple_add PySem.F.slot_tuple_add PySem.F.entry_tuple_add (PySem.F.args_tuple_add_2 _ _)
   (tuple_addW2 t b vs.toArray ws.toArray n n2 dd dd2 sl sl2 (by simpa using hv) (by simpa using hw) (by rw [List.size_toArray,List.size_toArray];exact hsz)) ⟨ho,ho2,?_⟩
  rw [e]
  exact h2 hw
def sIx (n d:Nat):Option Int→Nat
 | none=>d
 | some v=>if v < 0 then (v+(n:Int)).toNat else min v.toNat n
theorem sIx_none (n d:Nat):sIx n d none=d:=rfl
theorem sIx_nat (n d k:Nat):sIx n d (some (k:Int))=min k n:=by
 show (if (k:Int) < 0 then ((k:Int)+(n:Int)).toNat else min (k:Int).toNat n)=min k n
 rw [if_neg (by omega),Int.toNat_natCast]
theorem sIx_le (n d:Nat) (hd:d≤n) (o:Option Int):sIx n d o≤n:=by
 cases o with
 | none=>exact hd
 | some v=>
  show (if v < 0 then (v+(n:Int)).toNat else min v.toNat n)≤n
  by_cases hv:v < 0
  ·rw [if_pos hv];omega
  ·rw [if_neg hv];exact Nat.min_le_right _ _
theorem ja5 (v:Int) (n d:Nat):(if v < 0 then max (v+(n:Int)) 0 else min v (n:Int))=((sIx n d (some v):Nat):Int):=by
 show (if v < 0 then max (v+(n:Int)) 0 else min v (n:Int))=(((if v < 0 then (v+(n:Int)).toNat else min v.toNat n):Nat):Int)
 by_cases hv:v < 0
 ·simp only [if_pos hv];omega
 ·simp only [if_neg hv];omega
theorem jan (lo hi:Option Int) (n:Nat):Builtin.Slice.sliceAdjust lo hi 1 (n:Int)=(((sIx n 0 lo:Nat):Int),((sIx n n hi:Nat):Int)):=by
 have h1:¬ ((1:Int) < 0):=by omega
 unfold Builtin.Slice.sliceAdjust
 simp only [h1,if_false]
 refine Prod.ext ?_ ?_
 ·cases lo with
  | none=>rfl
  | some v=>exact ja5 v n 0
 ·cases hi with
  | none=>rfl
  | some v=>exact ja5 v n n
theorem Z7 (i j:Nat):Builtin.Slice.slicePlaces (i:Int) (j:Int) 1=j - i:=by
 unfold Builtin.Slice.slicePlaces
 have h1:(1:Int) > 0:=by omega
 simp only [h1,if_true,Int.ediv_one]
 split <;> omega
theorem Kr {v:Value} {o:Option Int} {Q:Option Int→Shared→Prop} (p:IsPart v o) (h:Q o s):wpAny (model prog w) A (Builtin.Slice.slicePartIndex v) Q E s:=by
 cases p with
 | none=>exact slicePart_none h
 | int i t=>exact slicePart_int h
theorem zR {sl:Addr} {vl vu:Value} {lo hi:Option Int} {n:Nat} {Q:Int×Int×Nat→Shared→Prop} (hs:s.heap.IsSliceOf sl vl vu .none) (pl:IsPart vl lo) (pu:IsPart vu hi)
  (h:Q (((sIx n 0 lo:Nat):Int),1,sIx n n hi - sIx n 0 lo) s):wpAny (model prog w) A (Builtin.Slice.sliceApplied (.ref sl) (pure (n:Int))) Q E s:=by
 obtain ⟨os,hos,hcs,hds⟩:=id hs
 unfold Builtin.Slice.sliceApplied Builtin.Slice.sliceFields
 refine wpAny_bind (wpAny_bind (wpAny_field hos hds (x:=vl) rfl (wpAny_bind (wpAny_field hos hds (x:=vu) rfl (wpAny_bind (wpAny_field hos hds (x:=.none) rfl (wpAny_pure ?_)))))))
 refine wpAny_bind (slicePart_none ?_)
 show wpAny _ _ (if ((1:Int) == 0)=true then _ else _) _ _ s
 rw [if_neg (by decide)]
 refine wpAny_bind (Kr pl (wpAny_bind (Kr pu (wpAny_bind (wpAny_pure ?_)))))
 show wpAny _ _ (match Builtin.Slice.sliceAdjust lo hi 1 (n:Int) with | (lo,hi)=>pure (lo,(1:Int),Builtin.Slice.slicePlaces lo hi 1)) _ _ s
 rw [jan lo hi n]
 show wpAny _ _ (pure (((sIx n 0 lo:Nat):Int),(1:Int),Builtin.Slice.slicePlaces ((sIx n 0 lo:Nat):Int) ((sIx n n hi:Nat):Int) 1)) _ _ s
 rw [Z7]
 exact wpAny_pure h
theorem jcp (xs:Array Value) (i k:Nat):((List.range k).filterMap fun (m:Nat)=>xs[((i:Int)+(m:Int) * 1).toNat]?).toArray=((xs.toList.drop i).take k).toArray:=by
 have e:(fun (m:Nat)=>xs[((i:Int)+(m:Int) * 1).toNat]?)=fun m=>xs[i+m]?:=by
  funext m
  have:((i:Int)+(m:Int) * 1).toNat=i+m:=by omega
  rw [this]
 rw [e]
 have:=pick_run xs i k
 rw [List.filterMap_map] at this
 have e2:((fun x=>xs[x]?) ∘ fun x=>i+x)=fun m=>xs[i+m]?:=rfl
 rw [e2] at this
 rw [this]
theorem getItem_tuple_cut {t sl:Addr} {items:Array Value} {vl vu:Value} {lo hi:Option Int} {Q:Value→Shared→Prop} (ht:IsTup s.heap t items) (hs:s.heap.IsSliceOf sl vl vu .none) (pl:IsPart vl lo) (pu:IsPart vu hi)
  (hw:¬ (sIx items.size 0 lo=0∧sIx items.size items.size hi=items.size))
  (h:Q (.ref s.heap.objs.size) { s with heap:=s.heap.push { cls:=.type "tuple",data:=.seq ((items.toList.drop (sIx items.size 0 lo)).take (sIx items.size items.size hi - sIx items.size 0 lo)).toArray } })
  (hsz:items.size≤sizeLine):wpAny (model prog w) A (getItem (.ref t) (.ref sl)) Q E s:=by
 have htake:sizeOk (.seq ((items.toList.drop (sIx items.size 0 lo)).take (sIx items.size items.size hi - sIx items.size 0 lo)).toArray):=by
  show ((items.toList.drop (sIx items.size 0 lo)).take (sIx items.size items.size hi - sIx items.size 0 lo)).toArray.size≤sizeLine
  rw [List.size_toArray,List.length_take,List.length_drop,Array.length_toList]
  omega
 have hj:sIx items.size items.size hi≤items.size:=sIx_le _ _ (Nat.le_refl _) hi
 obtain ⟨os,hos,hcs,hds⟩:=id hs
 have hTs:s.TypeIs (.ref sl) "slice":=⟨os,hos,hcs⟩
 unfold getItem
 try with_reducible refine wpAny_holding ?_
 first | refine wpAny_bind (wpAny_pure ?_) | skip
 refine wpAny_bind (wpAny_sequenceKey ht.typeIs (by decide) ?_)
 refine wpAny_bind (wpAny_callSpecial?_slot (name:=Str.ofString "__getitem__") ht.typeIs PyProof.Rows.slot_tuple_getitem
  (wpAny_call_entry PyProof.Rows.slot_tuple_getitem ht.typeIs entry_tuple_getitem ?_ (args_tuple_getitem _ _)))
 show wpAny _ _ (Builtin.Tuple.tupleItemsOf (.ref t) >>= _) _ _ s
 refine wpAny_bind (tupleItemsOf_ ht ?_)
 refine wpAny_bind (wpAny_typeOf hTs ?_)
 rw [if_pos (by decide)]
 refine wpAny_bind (zR hs pl pu ?_)
 have hno:¬ ((((sIx items.size 0 lo:Nat):Int) == 0 && (1:Int) == 1 && (sIx items.size items.size hi - sIx items.size 0 lo) == items.size)=true):=by
  intro q
  rw [Bool.and_eq_true,Bool.and_eq_true] at q
  have q1:((sIx items.size 0 lo:Nat):Int)=0:=eq_of_beq q.1.1
  have q2:sIx items.size items.size hi - sIx items.size 0 lo=items.size:=eq_of_beq q.2
  exact hw ⟨by omega,by omega⟩
 show wpAny _ _ (if (((sIx items.size 0 lo:Nat):Int) == 0 && (1:Int) == 1 && (sIx items.size items.size hi - sIx items.size 0 lo) == items.size)=true then _ else _) _ _ s
 rw [if_neg hno,jcp]
 first
  | exact wpAny_bind (m:=Builtin.Tuple.tupleExact _) (wpAny_newObj_type (wpAny_pure ⟨_,rfl,wpAny_pure h⟩) htake)
  | exact wpAny_bind (m:=Builtin.Tuple.tupleExact _) (wpAny_newObj_type (wpAny_bind (wpAny_pure (wpAny_pure ⟨_,rfl,wpAny_pure h⟩))) htake)
  | exact wpAny_bind (wpAny_bind (m:=Builtin.Tuple.tupleExact _) (wpAny_newObj_type (wpAny_pure (wpAny_pure ⟨_,rfl,wpAny_pure h⟩)) htake))
  | exact wpAny_bind (wpAny_bind (m:=Builtin.Tuple.tupleExact _) (wpAny_newObj_type (wpAny_pure ⟨_,rfl,wpAny_pure h⟩) htake))
end
end HT
namespace L2
open PySem PySem.Spec PyProof.Rows
abbrev TO:=St→Hp→(Option Int→Hp→Prop)→Prop
def PO (X:Cx) (e:Option Expr) (t:TO):Prop:=
 ∀ (pins:List (Addr×Obj)) (s:Shared) (σ:St) (H:Hp) (Q:Option Int→Hp→Prop),Inv X pins σ H s→t σ H Q→
  wpAny (model X.prog X.w) X.A (evalPart e X.env) (fun u s'=>∃ o H',Inv X pins σ H' s'∧IsPart u o∧Q o H') X.xe s
def jaz:TO:=fun _ H Q=>Q none H
def jeG (t:TE):TO:=fun σ H Q=>t σ H fun x H1=>∃ i,x=.int i∧Q (some i) H1
section
variable {X:Cx} {e:Expr} {te:TE} {lo hi:Option Expr} {tl th:TO} {pos p2:Pos}
theorem jdW:PO X none jaz:=by
 intro pins s σ H Q I h
 rw [evalPart_none]
 exact wpAny_pure ⟨none,H,I,.none,h⟩
theorem jdV (h:PE X e te):PO X (some e) (jeG te):=by
 intro pins s σ H Q I hw
 rw [evalPart_some]
 refine thn (h pins s σ H _ I hw) fun u s1 ⟨x,H1,I1,r1,q1⟩=>?_
 obtain ⟨i,rfl,q⟩:=q1
 obtain ⟨t,rfl⟩:=r1
 exact ⟨some i,H1,I1,.int i t,q⟩
def SlR (X:Cx) (r:V→Option Int→Option Int→Hp→VK→Prop):Prop:=
 ∀ (pins:List (Addr×Obj)) (s:Shared) (σ:St) (H:Hp) (x:V) (v vl vu:Value) (lo hi:Option Int) (sl:Addr) (Q:VK),Inv X pins σ H s→RelV x v→s.heap.IsSliceOf sl vl vu .none→IsPart vl lo→IsPart vu hi→r x lo hi H Q→
  ∃ T id,typeLookup (.type T) "__getitem__" = pure (some (.builtin id))∧s.TypeIs v T∧wpAny (model X.prog X.w) X.A (getItem v (.ref sl)) (EP X pins σ Q) X.xe s
def tSl (r:V→Option Int→Option Int→Hp→VK→Prop) (te:TE) (tl th:TO):TE:=fun σ H Q=>te σ H fun x H1=>tl σ H1 fun l H2=>th σ H2 fun u H3=>r x l u H3 Q
theorem jcv {r:V→Option Int→Option Int→Hp→VK→Prop} (hr:SlR X r) (he:PE X e te) (hl:PO X lo tl) (hu:PO X hi th):PE X (.Subscript e (.Slice lo hi none p2) pos) (tSl r te tl th):=by
 intro pins s σ H Q I h
 refine Subscript_ (thn (he pins s σ H _ I h) fun v s1 ⟨x,H1,I1,r1,q1⟩=>?_)
 refine wpAny_Slice (thn (hl pins s1 σ H1 _ I1 q1) fun vl s2 ⟨l,H2,I2,pl,q2⟩=>thn (hu pins s2 σ H2 _ I2 q2) fun vu s3 ⟨u,H3,I3,pu,q3⟩=>?_)
 rw [evalPart_none]
 refine wpAny_pure ?_
 have I4:Inv X pins σ H3 { s3 with heap:=s3.heap.push { cls:=.type "slice",data:=.fields #[vl,vu,.none] } }:=I3.kept (t':=s3.toks) fun b ob q=>Heap.get?_push_of_some _ q
 obtain ⟨T,id,hT,ht,hg⟩:=hr pins { s3 with heap:=s3.heap.push { cls:=.type "slice",data:=.fields #[vl,vu,.none] } } σ H3 x v vl vu l u s3.heap.objs.size Q I4 r1 (Heap.IsSliceOf.new ..) pl pu q3
 show wpAny (model X.prog X.w) X.A (subscriptTail e (.Slice lo hi none p2) v (.ref s3.heap.objs.size)) (EP X pins σ Q) X.xe { s3 with heap:=s3.heap.push { cls:=.type "slice",data:=.fields #[vl,vu,.none] } }
 exact tail_any (ops:=[.ref s3.heap.objs.size,v]) ht hT hg (by with_unfolding_all rfl)
def qh (xs:List V) (lo hi:Option Int):List V:=(xs.drop (HT.sIx xs.length 0 lo)).take (HT.sIx xs.length xs.length hi - HT.sIx xs.length 0 lo)
theorem JY (xs:List V) (lo hi:Option Int):(qh xs lo hi).length≤xs.length:=by
 unfold qh
 rw [List.length_take,List.length_drop]
 omega
def jgv (K:PySem.W.Frag):V→Option Int→Option Int→Hp→VK→Prop:=fun x lo hi H Q=>∃ a xs,x=.ref a∧SqT K H a xs∧
 ¬ (HT.sIx xs.length 0 lo=0∧HT.sIx xs.length xs.length hi=xs.length)∧∀ p,H p=none→Q (.ref p) (upd H p (.tup (qh xs lo hi)))
theorem zt:SlR X (jgv X.K):=by
 intro pins s σ H x v vl vu lo hi sl Q I rx hs pl pu h
 obtain ⟨a,xs,rfl,hx,hw,q⟩:=h
 cases rx
 obtain ⟨its,r,ht,hz⟩:=I.tuple hx
 have hlen:its.toArray.size=xs.length:=by rw [List.size_toArray];exact r.length.symm
 refine ⟨"tuple",_,PyProof.Rows.slot_tuple_getitem.lookup,ht.typeIs,?_⟩
 refine HT.getItem_tuple_cut ht hs pl pu (by rw [hlen];exact hw) ?_ (by rw [hlen];exact hz)
 rw [hlen]
 refine ⟨.ref s.heap.objs.size,_,I.laid (t':=s.toks) (o:=.tup (qh xs lo hi)) (fun b ob q=>Heap.get?_push_of_some _ q) (Nat.le_refl _) ?_,rfl,q _ (I.hok.fresh (Nat.le_refl _))⟩
 exact ⟨Nat.le_trans (JY xs lo hi) hz,_,(r.drop (HT.sIx xs.length 0 lo)).take (HT.sIx xs.length xs.length hi - HT.sIx xs.length 0 lo),IsTup.new _ _⟩
def jf2 (K:PySem.W.Frag):R2:=fun x y H Q=>∃ a b xs ys,x=.ref a∧y=.ref b∧SqT K H a xs∧SqT K H b ys∧xs≠[]∧xs.length+ys.length≤sizeLine∧
 (ys=[]→Q (.ref a) H)∧(ys≠[]→∀ p,H p=none→Q (.ref p) (upd H p (.tup (xs++ys))))
theorem Vals.nil_iff {xs:List V} {us:List Value} (r:Vals xs us):us=[]↔xs=[]:=by
 cases r with
 | nil=>simp
 | cons _ _=>simp
theorem jd8:OpR X (binaryOp .Add) (jf2 X.K):=by
 intro pins s σ H x y v u Q I rx ry h
 obtain ⟨a,b,xs,ys,rfl,rfl,ha,hb,hx,hz,q1,q2⟩:=h
 cases rx
 cases ry
 obtain ⟨its,r1,p1,_⟩:=I.tuple ha
 obtain ⟨its2,r2,p2,_⟩:=I.tuple hb
 refine HT.cat_tup p1 p2 (fun z=>hx (r1.nil_iff.mp z)) (fun z=>⟨.ref a,H,I,rfl,q1 (r2.nil_iff.mp z)⟩) (fun z=>?_) (by rw [← r1.length,← r2.length];exact hz)
 refine ⟨.ref s.heap.objs.size,_,I.laid (t':=s.toks) (o:=.tup (xs++ys)) (fun b ob q=>Heap.get?_push_of_some _ q) (Nat.le_refl _) ?_,rfl,q2 (fun w=>z (r2.nil_iff.mpr w)) _ (I.hok.fresh (Nat.le_refl _))⟩
 exact ⟨by rw [List.length_append];exact hz,_,r1.append r2,IsTup.new _ _⟩
end
def ixN (n:Nat) (i:Int):Option Nat:=if 0≤i then (if i < n then some i.toNat else none) else if -(n:Int)≤i then some (i+n).toNat else none
def atI {α:Type} (xs:List α) (i:Int):Option α:=(ixN xs.length i).bind fun j=>xs[j]?
theorem jaW {n:Nat} {i:Int} {j:Nat} (h:ixN n i=some j):seqIndex? i n=some j∧j < n∧-(n:Int)≤i∧i < n:=by
 unfold ixN at h
 by_cases h0:0≤i
 ·rw [if_pos h0] at h
  by_cases h1:i < n
  ·rw [if_pos h1] at h
   have e:i.toNat=j:=Option.some.inj h
   exact ⟨by rw [seqIndex_of h0 h1,e],by omega,by omega,h1⟩
  ·rw [if_neg h1] at h;cases h
 ·rw [if_neg h0] at h
  by_cases h1:-(n:Int)≤i
  ·rw [if_pos h1] at h
   have e:(i+n).toNat=j:=Option.some.inj h
   exact ⟨by rw [seqIndex_neg (by omega) h1,e],by omega,h1,by omega⟩
  ·rw [if_neg h1] at h;cases h
theorem Y6 {α:Type} {xs:List α} {i:Int} {v:α} (h:atI xs i=some v):∃ j,seqIndex? i xs.length=some j∧xs[j]?=some v∧j < xs.length∧-(xs.length:Int)≤i∧i < xs.length:=by
 unfold atI at h
 cases e:ixN xs.length i with
 | none=>rw [e] at h;cases h
 | some j=>
  rw [e] at h
  obtain ⟨h1,h2,h3,h4⟩:=jaW e
  exact ⟨j,h1,h,h2,h3,h4⟩
theorem ko {α:Type} {xs:List α} {j:Nat} {v:α} (h:xs[j]?=some v):atI xs (j:Int)=some v:=by
 have hj:j < xs.length:=(List.getElem?_eq_some_iff.mp h).1
 have e:ixN xs.length (j:Int)=some j:=by
  unfold ixN
  rw [if_pos (by omega),if_pos (by omega)];simp
 unfold atI;rw [e];exact h
def ja7 (b:Expr):Prop:=∀ o i,subscripted b false o i=operate [o,i] (getItem o i)
def IxR (X:Cx) (r:R2):Prop:=
 ∀ (value slice:Expr) (pins:List (Addr×Obj)) (s:Shared) (σ:St) (H:Hp) (x y:V) (v u:Value) (Q:VK),Inv X pins σ H s→RelV x v→RelV y u→r x y H Q→
  subscripted slice false v u=operate [v,u] (getItem v u)→wpAny (model X.prog X.w) X.A (subscriptTail value slice v u) (EP X pins σ Q) X.xe s
def MtR (X:Cx) (id:String) (r:V→List V→Hp→VK→Prop):Prop:=
 ∀ (pins:List (Addr×Obj)) (s:Shared) (σ:St) (H:Hp) (x:V) (xs:List V) (v:Value) (us:List Value) (Q:VK),Inv X pins σ H s→RelV x v→Vals xs us→r x xs H Q→
  wpAny (model X.prog X.w) X.A (call (.builtin id) (v :: us)) (EP X pins σ Q) X.xe s
section
variable {X:Cx} {a b:Expr} {ta tb:TE} {pos:Pos}
theorem jf7 {r:R2} (hr:IxR X r) (ha:PE X a ta) (hb:PE X b tb) (hs:ja7 b):PE X (.Subscript a b pos) (tOp r ta tb):=by
 intro pins s σ H Q I h
 exact Subscript_ (jgp ha hb I h fun v u s2 x y H2 I2 rx ry q=>hr a b pins s2 σ H2 x y v u Q I2 rx ry q (hs _ _))
def jf1 (K:PySem.W.Frag):R2:=fun x y H Q=>∃ p xs i v,x=.ref p∧y=.int i∧SqL K H p xs∧atI xs i=some v∧Q v H
def jf0 (K:PySem.W.Frag):R2:=fun x y H Q=>∃ p xs i v,x=.ref p∧y=.int i∧SqT K H p xs∧atI xs i=some v∧Q v H
def jgx:R2:=fun x y H Q=>∃ z i c,x=.str z∧y=.int i∧z.length≤sizeLine∧atI z.cps.toList i=some c∧Q (.str ⟨#[c]⟩) H
theorem jW:IxR X (jf1 X.K):=by
 intro value slice pins s σ H x y v u Q I rx ry h hs
 obtain ⟨p,xs,i,z,rfl,rfl,hq,he,q⟩:=h
 cases rx
 obtain ⟨t,rfl⟩:=ry
 obtain ⟨its,r,pl,hz⟩:=I.list hq
 obtain ⟨j,h1,h2,h3,h4,h5⟩:=Y6 he
 obtain ⟨w,ew,rw'⟩:=r.get h2
 have hl:=r.length
 have hn:=JI
 have fin:EP X pins σ Q w s:=⟨z,H,I,rw',q⟩
 by_cases h0:0≤i
 ·have hj:i.toNat=j:=by
   rw [seqIndex_of h0 h5] at h1
   exact Option.some.inj h1
  exact item_listR pl.isList h0 (by omega) (by rw [hj];simpa using ew) fin hs
 ·have hj:(i+(its.toArray.size:Int)).toNat=j:=by
   rw [seqIndex_neg (by omega) h4] at h1
   rw [List.size_toArray,← hl]
   exact Option.some.inj h1
  exact subscriptTail_builtinR (x:=w) pl.isList.typeIs slot_list_getitem.lookup
   (wpAny_getItem_list_neg (Q:=fun r s'=>r=w∧EP X pins σ Q r s') pl.isList (by omega) (by rw [List.size_toArray] <;> omega) (by omega) (by rw [hj];simpa using ew) ⟨rfl,fin⟩) hs
theorem jS:IxR X (jf0 X.K):=by
 intro value slice pins s σ H x y v u Q I rx ry h hs
 obtain ⟨p,xs,i,z,rfl,rfl,hq,he,q⟩:=h
 cases rx
 obtain ⟨t,rfl⟩:=ry
 obtain ⟨its,r,pl,hz⟩:=I.tuple hq
 obtain ⟨j,h1,h2,h3,h4,h5⟩:=Y6 he
 obtain ⟨w,ew,rw'⟩:=r.get h2
 have hl:=r.length
 have hn:=JI
 have fin:EP X pins σ Q w s:=⟨z,H,I,rw',q⟩
 exact subscriptTail_builtinR (x:=w) pl.typeIs slot_tuple_getitem.lookup
  (getItem_tuple (j:=j) (Q:=fun r s'=>r=w∧EP X pins σ Q r s') pl (by omega) (by omega) (by rw [List.size_toArray,← hl];exact h1) (by simpa using ew) ⟨rfl,fin⟩) hs
theorem YX:IxR X jgx:=by
 intro value slice pins s σ H x y v u Q I rx ry h hs
 obtain ⟨z,i,c,rfl,rfl,hz,he,q⟩:=h
 obtain ⟨t,rfl⟩:=rx
 obtain ⟨t',rfl⟩:=ry
 obtain ⟨j,h1,h2,h3,h4,h5⟩:=Y6 he
 have hl:z.cps.toList.length=z.length:=by simp [Str.length]
 rw [hl] at h1 h4 h5
 have hn:=JI
 exact tail_any (typeIs_str s z t) slot_str_getitem.lookup (getItem_str (c:=c) (by
  have e1:decide (i < -(2 ^ 63:Int))=false:=decide_eq_false (by omega)
  have e2:decide (i ≥ 2 ^ 63)=false:=decide_eq_false (by omega)
  rw [e1,e2,Bool.or_false]) (by rw [h1];simpa using h2) ⟨.str ⟨#[c]⟩,H,I.tok _,⟨_,rfl⟩,q⟩) hs
theorem jaf (its:List Value) (n j:Nat) (u:Value):Obj.mapSeq (·.setIfInBounds j u) { cls:=.type "list",data:=.seq its.toArray n }={ cls:=.type "list",data:=.seq (its.set j u).toArray n }:=by
 simp [Obj.mapSeq]
theorem Inv.lst {pins:List (Addr×Obj)} {σ:St} {H:Hp} {s:Shared} {p:Addr} {xs:List V} (I:Inv X pins σ H s) (h:H p=some (.lst xs)) :
  ∃ (its:List Value) (n:Nat),Vals xs its∧s.heap.get? p=some { cls:=.type "list",data:=.seq its.toArray n }∧xs.length≤sizeLine:=by
 obtain ⟨z,its,n,r,e⟩:=I.hok p _ h
 exact ⟨its,n,r,e,z⟩
theorem Inv.lstUpd {pins:List (Addr×Obj)} {σ:St} {H:Hp} {s:Shared} {p:Addr} {xs ys:List V} {its its':List Value} {n n':Nat} {f:Obj→Obj} (I:Inv X pins σ H s) (h:H p=some (.lst xs))
  (ho:s.heap.get? p=some { cls:=.type "list",data:=.seq its.toArray n }) (hf:f { cls:=.type "list",data:=.seq its.toArray n }={ cls:=.type "list",data:=.seq its'.toArray n' }) (r:Vals ys its') (hz:ys.length≤sizeLine) (t:Nat) :
  Inv X pins σ (upd H p (.lst ys)) { s with heap:=s.heap.update p f,toks:=t }:=by
 have e:(s.heap.update p f).get? p=some { cls:=.type "list",data:=.seq its'.toArray n' }:=by
  rw [Heap.get?_update_self f ho (by rw [hf] <;> rfl),hf]
 refine I.write (x:=p) (e:=p) (by rw [h];trivial) (.inl rfl) (fun b u hb q=>(Heap.get?_update_other _ _ (Ne.symm hb)).trans q) ⟨_,e⟩ ?_
 exact ⟨hz,its',n',r,e⟩
def jfZ:V→V→V→Hp→(Hp→Prop)→Prop:=fun o i v H Q=>∃ p xs k j,o=.ref p∧i=.int k∧H p=some (.lst xs)∧ixN xs.length k=some j∧Q (upd H p (.lst (xs.set j v)))
theorem Zn:jfK X jfZ:=by
 intro pins s σ H o i v ov iv u Q I ro ri rv h
 obtain ⟨p,xs,k,j,rfl,rfl,hp,hj,q⟩:=h
 cases ro
 obtain ⟨t,rfl⟩:=ri
 obtain ⟨its,n,r,ho,hz⟩:=I.lst hp
 obtain ⟨h1,h2,h3,h4⟩:=jaW hj
 have hl:=r.length
 have hn:=JI
 have I':Inv X pins σ (upd H p (.lst (xs.set j v))) { s with heap:=s.heap.update p (Obj.mapSeq (·.setIfInBounds j u)) }:=
  I.lstUpd hp ho (jaf its n j u) (r.set rv j) (by rw [List.length_set];exact hz) s.toks
 by_cases h0:0≤k
 ·have hk:k.toNat=j:=by
   rw [seqIndex_of h0 h4] at h1
   exact Option.some.inj h1
  exact PySem.W.ki_setAt ho h0 (by omega) (by rw [List.size_toArray,← hl];exact h4) (by rw [hk];exact ⟨_,I',q⟩)
 ·have hk:(k+(its.toArray.size:Int)).toNat=j:=by
   rw [seqIndex_neg (by omega) h3] at h1
   rw [List.size_toArray,← hl]
   exact Option.some.inj h1
  exact PySem.W.ki_setBack ho (by omega) (by rw [List.size_toArray,← hl];exact h3) (by omega) (by rw [hk];exact ⟨_,I',q⟩)
theorem YO (lo hi:Option Int) (n:Nat):(sliceBounds lo hi none n).1=((HT.sIx n 0 lo:Nat):Int)∧(sliceBounds lo hi none n).2.1=((HT.sIx n n hi:Nat):Int)∧(sliceBounds lo hi none n).2.2=1:=by
 refine ⟨?_,?_,rfl⟩
 ·cases lo with
  | none=>simp [sliceBounds,HT.sIx]
  | some i=>
   simp only [sliceBounds,HT.sIx,Option.getD_none,show (1:Int) > 0 by decide,if_true]
   by_cases h:i < 0
   ·simp only [h,if_true] <;> omega
   ·simp only [h,if_false] <;> omega
 ·cases hi with
  | none=>simp [sliceBounds,HT.sIx]
  | some i=>
   simp only [sliceBounds,HT.sIx,Option.getD_none,show (1:Int) > 0 by decide,if_true]
   by_cases h:i < 0
   ·simp only [h,if_true] <;> omega
   ·simp only [h,if_false] <;> omega
theorem K0 (its:List Value) (lo hi:Option Int):slicePick its.toArray lo hi none=((its.drop (HT.sIx its.length 0 lo)).take (HT.sIx its.length its.length hi - HT.sIx its.length 0 lo)).toArray:=by
 obtain ⟨h1,h2,h3⟩:=YO lo hi its.toArray.size
 unfold slicePick
 rw [h1,h2,h3]
 simp only [sliceRange_one,pick_run,List.size_toArray] <;> rfl
def jgw (K:PySem.W.Frag):V→Option Int→Option Int→Hp→VK→Prop:=fun x lo hi H Q=>∃ a xs,x=.ref a∧SqL K H a xs∧∀ p,H p=none→Q (.ref p) (upd H p (.lst (qh xs lo hi)))
theorem jgr:SlR X (jgw X.K):=by
 intro pins s σ H x v vl vu lo hi sl Q I rx hs pl pu h
 obtain ⟨a,xs,rfl,hx,q⟩:=h
 cases rx
 obtain ⟨its,r,ht,hz⟩:=I.list hx
 have hlen:=r.length
 refine ⟨"list",_,slot_list_getitem.lookup,ht.isList.typeIs,?_⟩
 refine wpAny_getItem_list_slice ht.isList hs pl pu .none (by simp) ?_ (by rw [List.size_toArray] <;> omega)
 rw [K0,← hlen]
 refine ⟨.ref s.heap.objs.size,_,I.laid (t':=s.toks) (o:=.lst (qh xs lo hi)) (fun b ob q=>Heap.get?_push_of_some _ q) (Nat.le_refl _) ?_,rfl,q _ (I.hok.fresh (Nat.le_refl _))⟩
 exact ⟨Nat.le_trans (JY xs lo hi) hz,_,0,(r.drop (HT.sIx xs.length 0 lo)).take (HT.sIx xs.length xs.length hi - HT.sIx xs.length 0 lo),Heap.get?_push_size _ rfl⟩
def Js:V→Bool
 | .non=>true
 | .bl _=>true
 | .int _=>true
 | .str _=>true
 | _=>false
def eqV:V→V→Bool
 | .non,.non=>true
 | .bl a,.bl b=>a == b
 | .bl a,.int b=>(if a then 1 else 0) == b
 | .int a,.bl b=>a == (if b then 1 else 0)
 | .int a,.int b=>a == b
 | .str a,.str b=>a == b
 | _,_=>false
theorem jfE {A:Around} {s:Shared} {y x:V} {u v:Value} (ry:RelV y u) (rx:RelV x v) (fy:Js y=true) (fx:Js x=true):SeqAt.EqAt A s u v (eqV y x):=by
 cases y with
 | non=>
  cases ry
  cases x with
  | non=>cases rx;exact SeqAt.EqAt.same _
  | bl b=>cases rx;exact SeqAt.EqAt.none_bool b
  | int b=>obtain ⟨t,rfl⟩:=rx;exact SeqAt.EqAt.none_int b t
  | str b=>obtain ⟨t,rfl⟩:=rx;exact SeqAt.EqAt.none_str b t
  | _=>exact absurd (show false=true from fx) Bool.false_ne_true
 | bl a=>
  cases ry
  cases x with
  | non=>cases rx;exact SeqAt.EqAt.bool_none a
  | bl b=>cases rx;exact SeqAt.EqAt.bool_bool a b
  | int b=>obtain ⟨t,rfl⟩:=rx;exact SeqAt.EqAt.bool_int a b t
  | str b=>obtain ⟨t,rfl⟩:=rx;exact SeqAt.EqAt.bool_str a b t
  | _=>exact absurd (show false=true from fx) Bool.false_ne_true
 | int a=>
  obtain ⟨t',rfl⟩:=ry
  cases x with
  | non=>cases rx;exact SeqAt.EqAt.int_none a t'
  | bl b=>cases rx;exact SeqAt.EqAt.int_bool a t' b
  | int b=>obtain ⟨t,rfl⟩:=rx;exact SeqAt.EqAt.int_int a t' b t
  | str b=>obtain ⟨t,rfl⟩:=rx;exact SeqAt.EqAt.int_str a t' b t
  | _=>exact absurd (show false=true from fx) Bool.false_ne_true
 | str a=>
  obtain ⟨t',rfl⟩:=ry
  cases x with
  | non=>cases rx;exact SeqAt.EqAt.str_none a t'
  | bl b=>cases rx;exact SeqAt.EqAt.str_bool a t' b
  | int b=>obtain ⟨t,rfl⟩:=rx;exact SeqAt.EqAt.str_int a t' b t
  | str b=>obtain ⟨t,rfl⟩:=rx;exact SeqAt.EqAt.str_str a t' b t
  | _=>exact absurd (show false=true from fx) Bool.false_ne_true
 | _=>exact absurd (show false=true from fy) Bool.false_ne_true
def eqU (x:V) (u:Value):Bool:=match u with
 | .none=>eqV .non x
 | .bool b=>eqV (.bl b) x
 | .int i _=>eqV (.int i) x
 | .str z _=>eqV (.str z) x
 | _=>false
theorem jdb {x y:V} {u:Value} (r:RelV y u) (f:Js y=true):eqU x u=eqV y x:=by
 cases y with
 | non=>cases r;rfl
 | bl b=>cases r;rfl
 | int i=>obtain ⟨t,rfl⟩:=r;rfl
 | str z=>obtain ⟨t,rfl⟩:=r;rfl
 | _=>exact absurd (show false=true from f) Bool.false_ne_true
theorem Jz {x:V}:∀ {xs:List V} {us:List Value},Vals xs us→xs.all Js=true→us.any (eqU x)=xs.any fun y=>eqV y x
 | _,_,.nil,_=>rfl
 | y :: xs,u :: us,.cons r t,f=>by
  rw [List.all_cons,Bool.and_eq_true] at f
  rw [List.any_cons,List.any_cons,jdb r f.1,Jz t f.2]
theorem yC {A:Around} {s:Shared} {x:V} {v:Value} (rx:RelV x v) (fx:Js x=true):∀ {xs:List V} {us:List Value},Vals xs us→xs.all Js=true→∀ u∈us,SeqAt.EqAt A s u v (eqU x u)
 | _,_,.nil,_=>fun u hu=>by cases hu
 | y :: xs,u :: us,.cons r t,f=>fun u' hu=>by
  rw [List.all_cons,Bool.and_eq_true] at f
  rcases List.mem_cons.mp hu with rfl | hu
  ·rw [jdb r f.1];exact jfE r rx f.1 fx
  ·exact yC rx fx t f.2 u' hu
def inV (x:V) (xs:List V):Bool:=xs.any fun y=>eqV y x
def rIn (K:PySem.W.Frag) (neg:Bool):R2:=fun x y H Q=>∃ p xs,y=.ref p∧(SqL K H p xs∨SqT K H p xs)∧Js x=true∧xs.all Js=true∧Q (.bl (if neg then !inV x xs else inV x xs)) H
theorem jbl:OpR X (compareOp .In) (rIn X.K false):=by
 intro pins s σ H x y v u Q I rx ry h
 obtain ⟨p,xs,rfl,hq,fx,fs,q⟩:=h
 cases ry
 rcases hq with hq | hq
 ·obtain ⟨its,r,pl,hz⟩:=I.list hq
  refine SeqAt.in_listAt (eqU x) pl.isList (fun w hw=>yC rx fx r fs w (by simpa using hw)) ⟨.bl _,H,I,rfl,?_⟩
  rw [show its.toArray.any (eqU x)=its.any (eqU x) by simp,Jz r fs]
  exact q
 ·obtain ⟨its,r,pl,hz⟩:=I.tuple hq
  refine SeqAt.in_tupleAt (eqU x) pl (fun w hw=>yC rx fx r fs w (by simpa using hw)) ⟨.bl _,H,I,rfl,?_⟩
  rw [show its.toArray.any (eqU x)=its.any (eqU x) by simp,Jz r fs]
  exact q
theorem YU:OpR X (compareOp .NotIn) (rIn X.K true):=by
 intro pins s σ H x y v u Q I rx ry h
 obtain ⟨p,xs,rfl,hq,fx,fs,q⟩:=h
 cases ry
 rcases hq with hq | hq
 ·obtain ⟨its,r,pl,hz⟩:=I.list hq
  refine SeqAt.notIn_listAt (eqU x) pl.isList (fun w hw=>yC rx fx r fs w (by simpa using hw)) ⟨.bl _,H,I,rfl,?_⟩
  rw [show its.toArray.any (eqU x)=its.any (eqU x) by simp,Jz r fs]
  exact q
 ·obtain ⟨its,r,pl,hz⟩:=I.tuple hq
  refine SeqAt.notIn_tupleAt (eqU x) pl (fun w hw=>yC rx fx r fs w (by simpa using hw)) ⟨.bl _,H,I,rfl,?_⟩
  rw [show its.toArray.any (eqU x)=its.any (eqU x) by simp,Jz r fs]
  exact q
theorem jO:q4 X (.builtin "len") (fun xs H Q=>∃ p ys,xs=[.ref p]∧(SqL X.K H p ys∨SqT X.K H p ys)∧Q (.int ys.length) H):=by
 intro pins s σ H xs us Q I r h
 obtain ⟨p,ys,rfl,hq,q⟩:=h
 obtain ⟨u,rfl,rx⟩:=Je r
 cases rx
 have hn:=JI
 rcases hq with hq | hq
 ·obtain ⟨its,r',pl,hz⟩:=I.list hq
  have hlen:=r'.length
  exact Calls.call_len_list pl.isList (by simp only [List.size_toArray] <;> omega) ⟨.int ys.length,H,I.tok _,⟨s.toks+1,by rw [List.size_toArray,hlen]⟩,q⟩
 ·obtain ⟨its,r',pl,hz⟩:=I.tuple hq
  have hlen:=r'.length
  exact len_tuple pl (by simp only [List.size_toArray] <;> omega) ⟨.int ys.length,H,I.tok _,⟨s.toks+1,by rw [List.size_toArray,hlen]⟩,q⟩
theorem Jw:q4 X (.builtin "len") (fun xs H Q=>∃ z,xs=[.str z]∧z.length≤sizeLine∧Q (.int z.length) H):=by
 intro pins s σ H xs us Q I r h
 obtain ⟨z,rfl,hz,q⟩:=h
 obtain ⟨u,rfl,t,rfl⟩:=Je r
 have hn:=JI
 exact len_str (by omega) ⟨.int z.length,H,I.tok _,⟨_,rfl⟩,q⟩
theorem yh:q4 X (.type "list") (fun xs H Q=>∃ p ys,xs=[.ref p]∧(SqL X.K H p ys∨SqT X.K H p ys)∧∀ l,H l=none→Q (.ref l) (upd H l (.lst ys))):=by
 intro pins s σ H xs us Q I r h
 obtain ⟨p,ys,rfl,hq,q⟩:=h
 obtain ⟨u,rfl,rx⟩:=Je r
 cases rx
 have fin:∀ (its:List Value),Vals ys its→ys.length≤sizeLine→∀ (h':Heap) (c':Nat),(∀ b o',s.heap.get? b=some o'→h'.get? b=some o')→
   h'.get? s.heap.objs.size=some { cls:=.type "list",dict:=none,data:=.seq its.toArray c',slots:=#[] }→EP X pins σ Q (.ref s.heap.objs.size) { s with heap:=h' }:=fun its r' hz h' c' kp e=>
  ⟨.ref s.heap.objs.size,_,I.laid (t':=s.toks) kp (Nat.le_refl _) (show ObjOk X.prog X.w _ h' _ (.lst ys) from ⟨hz,its,c',r',e⟩),rfl,q _ (I.hok.fresh (Nat.le_refl _))⟩
 rcases hq with hq | hq
 ·obtain ⟨its,r',pl,hz⟩:=I.list hq
  have hlen:=r'.length
  obtain ⟨o,ho,hc,n,hd⟩:=pl.isList
  exact call_list_seq p (.inl rfl) ho hc hd (fun h' c' kp e=>fin its r' hz h' c' kp e) (by simp only [List.size_toArray] <;> omega)
 ·obtain ⟨its,r',pl,hz⟩:=I.tuple hq
  have hlen:=r'.length
  obtain ⟨o,ho,hc,n,hd⟩:=pl
  exact call_list_seq p (.inr rfl) ho hc hd (fun h' c' kp e=>fin its r' hz h' c' kp e) (by simp only [List.size_toArray] <;> omega)
theorem kS:q4 X (.type "tuple") (fun xs H Q=>∃ p ys,xs=[.ref p]∧((SqL X.K H p ys∧∀ l,H l=none→Q (.ref l) (upd H l (.tup ys)))∨(SqT X.K H p ys∧Q (.ref p) H))):=by
 intro pins s σ H xs us Q I r h
 obtain ⟨p,ys,rfl,h⟩:=h
 obtain ⟨u,rfl,rx⟩:=Je r
 cases rx
 rcases h with ⟨hq,q⟩ | ⟨hq,q⟩
 ·obtain ⟨its,r',pl,hz⟩:=I.list hq
  have hlen:=r'.length
  refine call_tuple_list pl.isList (fun h' kp=>?_) (by simp only [List.size_toArray] <;> omega)
  have I1:Inv X pins σ H { s with heap:=h' }:=I.kept (t':=s.toks) kp
  have I2:Inv X pins σ (upd H h'.objs.size (.tup ys)) { s with heap:=h'.push { cls:=.type "tuple",data:=.seq its.toArray } }:=
   I1.laid (t':=s.toks) (fun b o e=>Heap.get?_push_of_some _ e) (Nat.le_refl _) (show ObjOk X.prog X.w _ _ _ (.tup ys) from ⟨hz,its,r',IsTup.new _ _⟩)
  exact ⟨.ref h'.objs.size,_,I2,rfl,q _ (I1.hok.fresh (Nat.le_refl _))⟩
 ·obtain ⟨its,r',pl,hz⟩:=I.tuple hq
  exact call_tuple_same pl ⟨.ref p,H,I,rfl,q⟩
def tyV (K:PySem.W.Frag) (T:String) (x:V) (H:Hp):Prop:=match x with
 | .str _=>T = "str"
 | .int _=>T = "int"
 | .ref p=>(T = "list"∧∃ xs,SqL K H p xs)∨(T = "tuple"∧∃ o,K.lookup p=some o∧o.cls=.type "tuple"∧o.dict=none)∨
   (T = "dict"∧((∃ kvs,H p=some (.dK kvs))∨∃ kvs,H p=some (.dT kvs)))∨(T = "set"∧∃ S n,H p=some (.set S n))
 | _=>False
theorem je7 {pins:List (Addr×Obj)} {σ:St} {H:Hp} {s:Shared} {T:String} {x:V} {v:Value} (I:Inv X pins σ H s) (r:RelV x v) (ty:tyV X.K T x H) :
  s.TypeIs v T∧∀ a,v=.ref a→∃ ob,s.heap.get? a=some ob∧ob.dict=none:=by
 cases x with
 | str z=>
  obtain ⟨t,rfl⟩:=r
  cases (show T = "str" from ty)
  exact ⟨typeIs_str s z t,fun _ e=>nomatch e⟩
 | int i=>
  obtain ⟨t,rfl⟩:=r
  cases (show T = "int" from ty)
  exact ⟨typeIs_int s i t,fun _ e=>nomatch e⟩
 | ref p=>
  cases r
  rcases ty with ⟨rfl,xs,hq⟩ | ⟨rfl,o,hk,hc,hd⟩ | ⟨rfl,hk⟩ | ⟨rfl,S,n,hk⟩
  ·obtain ⟨its,_,pl,_⟩:=I.list hq
   refine ⟨pl.isList.typeIs,fun a e=>?_⟩
   cases e
   obtain ⟨o,n,e,c,hd,_⟩:=pl
   exact ⟨o,e,hd⟩
  ·refine ⟨⟨o,I.kIn p o hk,hc⟩,fun a e=>?_⟩
   cases e
   exact ⟨o,I.kIn _ o hk,hd⟩
  ·have z:∃ o,s.heap.get? p=some o∧o.ExactDict:=by
    rcases hk with ⟨kvs,hk⟩ | ⟨kvs,hk⟩
    ·obtain ⟨_,_,_,_,o,_,_,e,ex,_⟩:=I.hok p _ hk
     exact ⟨o,e,ex⟩
    ·obtain ⟨_,_,_,_,o,_,_,e,ex,_⟩:=I.hok p _ hk
     exact ⟨o,e,ex⟩
   obtain ⟨o,e,ex⟩:=z
   refine ⟨⟨o,e,ex.1⟩,fun a e2=>?_⟩
   cases e2
   exact ⟨o,e,ex.2.1⟩
  ·obtain ⟨o,_,_,_,e,ex,_⟩:=I.hok p _ hk
   refine ⟨⟨o,e,ex.1⟩,fun a e2=>?_⟩
   cases e2
   exact ⟨o,e,ex.2.1⟩
 | _=>exact False.elim ty
def tBM (K:PySem.W.Frag) (T:String) (r:V→List V→Hp→VK→Prop) (to:TE) (t:TA):TE:=fun σ H Q=>to σ H fun x H1=>tyV K T x H1∧t σ H1 fun xs H2=>r x xs H2 Q
variable {o e:Expr} {es:List Expr} {to:TE} {t:TA} {name:Str} {apos cpos:Pos} {T id:String} {r:V→List V→Hp→VK→Prop}
theorem jcB (pa:PlainAttrs T) (slot:Slot T name id) (hty:typeOf (.builtin id)=pure (.type "method_descriptor")) (hm:MtR X id r) (ho:PE X o to) (ha:PA X (e :: es) t)
  (hbase:attributeBase o name X.env (eval o X.env)=eval o X.env:=by rfl)
  (hfew:((backTo cpos (starEach (e :: es) X.env)).all (fun x=>!x.1) && (backToKw cpos (keywordEach [] X.env)).all (fun x=>x.1.isSome)
   && decide ((e :: es).length+([]:List Keyword).length+(if ([]:List Keyword).isEmpty then 0 else 1) < 30))=true:=by rfl)
  (hline:(apos.endLine == cpos.line)=true:=by rfl) (hs:starEach (e :: es) X.env=(false,eval e X.env) :: starEach es X.env:=by rfl) (hplain:(backTo cpos (starEach es X.env)).any (·.1)=false:=by rfl) :
  PE X (.Call (.Attribute o name apos) (e :: es) [] cpos) (tBM X.K T r to t):=by
 intro pins s σ H Q I h
 refine wpAny_Call_method_late hbase hfew hline rfl (thn (ho pins s σ H _ I h) fun v s1 ⟨x,H1,I1,r1,ty,q1⟩=>?_)
 obtain ⟨h1,h2⟩:=je7 I1 r1 ty
 refine ⟨T,id,pa,slot,hty,h1,h2,?_⟩
 have hA:=ha cpos pins s1 σ H1 _ I1 q1
 rw [hs] at hA ⊢
 refine Calls.callWith_builtin (by show (false || (backTo cpos (starEach es X.env)).any (·.1))=false;rw [hplain] <;> rfl) (Calls.evalArgs_plain ?_)
 exact thn hA fun us s2 ⟨vs,H2,I2,r2,q2⟩=>hm pins s2 σ H2 x vs v us Q I2 r1 r2 q2
end
def MtM (X:Cx) (id:String) (r:V→List V→Hp→VK→Prop):Prop:=
 ∀ (pins:List (Addr×Obj)) (s:Shared) (σ:St) (H:Hp) (x:V) (xs:List V) (v:Value) (us:List Value) (Q:VK),Inv X pins σ H s→RelV x v→Vals xs us→r x xs H Q→
  wpAny (model X.prog X.w) X.A (call (.builtin id) (v :: us)) (EP X pins σ Q) X.xe s
theorem Vals.one:∀ {x:V} {us:List Value},Vals [x] us→∃ u,us=[u]∧RelV x u
 | _,_,.cons r .nil=>⟨_,rfl,r⟩
theorem Vals.eraseIdx:∀ {xs:List V} {us:List Value} (i:Nat),Vals xs us→Vals (xs.eraseIdx i) (us.eraseIdx i)
 | _,_,_,.nil=>.nil
 | _,_,0,.cons _ t=>t
 | _,_,i+1,.cons r t=>.cons r (Vals.eraseIdx i t)
theorem Vals.reverse {xs:List V} {us:List Value} (h:Vals xs us):Vals xs.reverse us.reverse:=by
 induction h with
 | nil=>exact .nil
 | cons r t ih=>rw [List.reverse_cons,List.reverse_cons];exact Vals.append ih (.cons r .nil)
theorem Yn {α:Type}:∀ (l:List α) (i:Nat),(l.eraseIdx i).length≤l.length
 | [],_=>Nat.le_refl _
 | _ :: _,0=>Nat.le_succ _
 | _ :: r,i+1=>Nat.succ_le_succ (Yn r i)
section
variable {X:Cx} {pins:List (Addr×Obj)} {σ:St} {H:Hp} {s:Shared} {l b:Addr} {xs ys zs:List V}
theorem Inv.lset {its its':List Value} {n:Nat} {f:Array Value→Array Value} {t':Nat} (I:Inv X pins σ H s) (hH:H l=some (.lst xs))
  (e:s.heap.get? l=some { cls:=.type "list",data:=.seq its.toArray n }) (hf:f its.toArray=its'.toArray) (hv:Vals ys its') (hz:ys.length≤sizeLine) :
  Inv X pins σ (upd H l (.lst ys)) { s with heap:=s.heap.update l (Obj.mapSeq f),toks:=t' }:=by
 have q:=PySem.IsL.update e f
 rw [hf] at q
 refine I.write (x:=l) (e:=l) (by rw [hH];exact trivial) (.inl rfl) (fun b' u hb hu=>(Heap.get?_update_other s.heap (Obj.mapSeq f) (Ne.symm hb)).trans hu) ⟨_,q⟩ ?_
 exact ⟨hz,its',_,hv,q⟩
theorem Inv.lnew {its:List Value} {t':Nat} (I:Inv X pins σ H s) (hv:Vals ys its) (hz:ys.length≤sizeLine) :
  Inv X pins σ (upd H s.heap.objs.size (.lst ys)) { s with heap:=s.heap.push { cls:=.type "list",data:=.seq its.toArray },toks:=t' }:=
 I.laid (fun _ _ q=>Heap.get?_push_of_some _ q) (Nat.le_refl _) ⟨hz,its,0,hv,Heap.get?_push_size _ rfl⟩
theorem Inv.fresh (I:Inv X pins σ H s):H s.heap.objs.size=none:=I.hok.fresh (Nat.le_refl _)
theorem Inv.lstM (I:Inv X pins σ H s) (hH:H l=some (.lst xs)):xs.length≤sizeLine∧∃ (its:List Value) (n:Nat),Vals xs its∧xs.length=its.length∧s.heap.get? l=some { cls:=.type "list",data:=.seq its.toArray n }:=by
 obtain ⟨z,its,n,r,e⟩:=I.hok l _ hH
 exact ⟨z,its,n,r,r.length,e⟩
theorem jcQ {n:Nat} (h:n≤sizeLine):Builtin.List.listTooLong n=false:=by
 unfold Builtin.List.listTooLong
 exact decide_eq_false (by omega)
end
section
variable {X:Cx}
def jdN:V→List V→Hp→VK→Prop:=fun x vs H Q=>∃ l xs y,x=.ref l∧vs=[y]∧H l=some (.lst xs)∧xs.length < sizeLine∧Q .non (upd H l (.lst (xs++[y])))
theorem za:MtM X "list.append" jdN:=by
 intro pins s σ H x vs v us Q I rx rv h
 obtain ⟨l,xs,y,rfl,rfl,hH,hz,q⟩:=h
 cases rx
 obtain ⟨u,rfl,ru⟩:=rv.one
 obtain ⟨z,its,n,r,hl,e⟩:=I.lstM hH
 refine call_meets F.slot_list_append ⟨_,e,rfl⟩ F.entry_list_append (F.args_list_append_2 _ _) (PySem.list_append l its.toArray n u (by rw [List.size_toArray];omega)) ⟨e,?_⟩
 refine ⟨.non,_,I.lset (its':=its++[u]) hH e (by simp) (r.append (.cons ru .nil)) ?_,rfl,q⟩
 rw [List.length_append,List.length_singleton]
 omega
def jdM:V→List V→Hp→VK→Prop:=fun x vs H Q=>∃ l b xs zs,x=.ref l∧vs=[.ref b]∧H l=some (.lst xs)∧H b=some (.lst zs)∧xs.length+zs.length≤sizeLine∧Q .non (upd H l (.lst (xs++zs)))
theorem yP:MtM X "list.extend" jdM:=by
 intro pins s σ H x vs v us Q I rx rv h
 obtain ⟨l,b,xs,zs,rfl,rfl,hH,hB,hz,q⟩:=h
 cases rx
 obtain ⟨u,rfl,ru⟩:=rv.one
 cases ru
 obtain ⟨z,its,n,r,hl,e⟩:=I.lstM hH
 obtain ⟨z2,its2,n2,r2,hl2,e2⟩:=I.lstM hB
 have hsz:its.toArray.size+its2.toArray.size≤sizeLine:=by rw [List.size_toArray,List.size_toArray];omega
 have hlong:¬ (!its.toArray.isEmpty && Builtin.List.listTooLong (its.toArray.size+its2.toArray.size))=true:=by
  rw [jcQ hsz,Bool.and_false]
  exact Bool.false_ne_true
 refine call_meets F.slot_list_extend ⟨_,e,rfl⟩ F.entry_list_extend (F.args_list_extend_2 _ _)
  (AutoSeq1.list_extend_list_list_0 l its.toArray n b its2.toArray n2 hlong (by rw [List.size_toArray];omega) (by omega)) ⟨e,e2,?_⟩
 refine ⟨.non,_,I.lset (its':=its++its2) hH e (by simp) (r.append r2) ?_,rfl,q⟩
 rw [List.length_append]
 omega
def jfb:V→List V→Hp→VK→Prop:=fun x vs H Q=>∃ l xs i k y,x=.ref l∧vs=[.int i]∧H l=some (.lst xs)∧-(2 ^ 63)≤i∧i < 2 ^ 63∧seqIndex? i xs.length=some k∧xs[k]?=some y∧Q y (upd H l (.lst (xs.eraseIdx k)))
theorem Zx:MtM X "list.pop" jfb:=by
 intro pins s σ H x vs v us Q I rx rv h
 obtain ⟨l,xs,i,k,y,rfl,rfl,hH,h1,h2,hk,hy,q⟩:=h
 cases rx
 obtain ⟨u,rfl,ru⟩:=rv.one
 obtain ⟨t,rfl⟩:=ru
 obtain ⟨z,its,n,r,hl,e⟩:=I.lstM hH
 obtain ⟨w,hw,rw'⟩:=r.get hy
 refine call_meets F.slot_list_pop ⟨_,e,rfl⟩ F.entry_list_pop (F.args_list_pop_2 _ _)
  (MeetsSeq.list_pop_at l its.toArray n i t k w (fitsIndex_both h1 h2) (by rw [List.size_toArray,← hl];exact hk) (by rw [← Array.getElem?_toList];exact hw) (by rw [List.size_toArray];omega)) ⟨e,?_⟩
 refine ⟨y,_,I.lset (its':=its.eraseIdx k) hH e ?_ (r.eraseIdx k) ?_,rw',q⟩
 ·show its.toArray.eraseIdxIfInBounds k=(its.eraseIdx k).toArray
  rw [List.eraseIdxIfInBounds_toArray]
 ·have:=Yn xs k
  omega
def jfd:R2:=fun x y H Q=>∃ l b xs zs,x=.ref l∧y=.ref b∧H l=some (.lst xs)∧H b=some (.lst zs)∧xs.length+zs.length≤sizeLine∧∀ p,H p=none→Q (.ref p) (upd H p (.lst (xs++zs)))
theorem kB:OpR X (binaryOp .Add) jfd:=by
 intro pins s σ H x y v u Q I rx ry h
 obtain ⟨l,b,xs,zs,rfl,rfl,hH,hB,hz,q⟩:=h
 cases rx
 cases ry
 obtain ⟨z,its,n,r,hl,e⟩:=I.lstM hH
 obtain ⟨z2,its2,n2,r2,hl2,e2⟩:=I.lstM hB
 refine PySem.P.add_list e e2 ?_ (by rw [List.size_toArray,List.size_toArray];omega)
 have ea:its.toArray++its2.toArray=(its++its2).toArray:=by simp
 rw [ea]
 exact ⟨.ref _,_,I.lnew (t':=s.toks) (r.append r2) (by rw [List.length_append];omega),rfl,q _ I.fresh⟩
end
section
variable {κ:Type} [DecidableEq κ]
def qw (kvs:List (κ×V)) (k:κ):Option V:=(kvs.find? fun kv=>decide (kv.1=k)).map (·.2)
def q5 (kvs:List (κ×V)) (k:κ) (v:V):List (κ×V):=
 if (kvs.any fun kv=>decide (kv.1=k))=true then kvs.map (fun kv=>if kv.1=k then (kv.1,v) else kv) else kvs++[(k,v)]
theorem qr {p:κ×V} {r:List (κ×V)} {k:κ} (e:p.1=k):qw (p :: r) k=some p.2:=by simp [qw,List.find?_cons,e]
theorem qt {p:κ×V} {r:List (κ×V)} {k:κ} (e:¬ p.1=k):qw (p :: r) k=qw r k:=by simp [qw,List.find?_cons,e]
theorem ym (k:κ):∀ kvs:List (κ×V),(kvs.any fun kv=>decide (kv.1=k))=(qw kvs k).isSome
 | []=>rfl
 | p :: r=>by
  rw [List.any_cons]
  by_cases e:p.1=k
  ·simp only [qr e,decide_eq_true e,Bool.true_or,Option.isSome_some]
  ·rw [qt e,decide_eq_false e,Bool.false_or];exact ym k r
theorem Za (k j:κ) (y:V):∀ kvs:List (κ×V),qw (kvs.map fun kv=>if kv.1=k then (kv.1,y) else kv) j=(qw kvs j).map fun x=>if j=k then y else x
 | []=>rfl
 | p :: r=>by
  have ih:=Za k j y r
  rw [List.map_cons]
  by_cases h:p.1=k
  ·rw [if_pos h]
   by_cases e:p.1=j
   ·rw [qr (p:=(p.1,y)) e,qr e,Option.map_some,if_pos (e.symm.trans h)]
   ·rw [qt (p:=(p.1,y)) e,qt e,ih]
  ·rw [if_neg h]
   by_cases e:p.1=j
   ·rw [qr (p:=p) e,qr e,Option.map_some,if_neg (fun z=>h (e.trans z))]
   ·rw [qt (p:=p) e,qt e,ih]
theorem Yf (k j:κ) (y:V):∀ kvs:List (κ×V),qw kvs k=none→qw (kvs++[(k,y)]) j=if j=k then some y else qw kvs j
 | [],_=>by
  by_cases e:k=j
  ·rw [if_pos e.symm];exact qr (p:=(k,y)) e
  ·rw [if_neg (fun z=>e z.symm)];exact qt (p:=(k,y)) e
 | p :: r,hn=>by
  rw [List.cons_append]
  have hk:¬ p.1=k:=fun z=>by rw [qr z] at hn;cases hn
  rw [qt hk] at hn
  have ih:=Yf k j y r hn
  by_cases e:p.1=j
  ·rw [qr e,qr e,if_neg (fun z=>hk (e.trans z))]
  ·rw [qt e,qt e,ih]
theorem qT (kvs:List (κ×V)) (k j:κ) (y:V):qw (q5 kvs k y) j=if j=k then some y else qw kvs j:=by
 unfold q5
 by_cases a:(kvs.any fun kv=>decide (kv.1=k))=true
 ·rw [if_pos a,Za]
  rw [ym] at a
  by_cases e:j=k
  ·obtain ⟨x,hx⟩:=Option.isSome_iff_exists.mp a
   rw [if_pos e,e,hx,Option.map_some,if_pos rfl]
  ·rw [if_neg e]
   cases qw kvs j with
   | none=>rfl
   | some x=>rw [Option.map_some,if_neg e]
 ·rw [if_neg a]
  refine Yf k j y kvs ?_
  rw [ym] at a
  cases q:qw kvs k with
  | none=>rfl
  | some x=>rw [q] at a;exact (a rfl).elim
theorem qM (kvs:List (κ×V)) (k:κ) (v:V):(q5 kvs k v).length≤kvs.length+1:=by
 unfold q5
 split
 ·rw [List.length_map];omega
 ·rw [List.length_append,List.length_cons,List.length_nil];omega
theorem RelO.isSome_eq {o:Option V} {u:Option Value} (r:RelO o u):o.isSome=u.isSome:=by
 cases o with
 | none=>cases u with
  | none=>rfl
  | some _=>exact (show False from r).elim
 | some _=>cases u with
  | none=>exact (show False from r).elim
  | some _=>rfl
theorem RelO.getD {o:Option V} {u:Option Value} {d:V} {d':Value} (r:RelO o u) (rd:RelV d d'):RelV (o.getD d) (u.getD d'):=by
 cases o with
 | none=>cases u with
  | none=>exact rd
  | some _=>exact (show False from r).elim
 | some _=>cases u with
  | none=>exact (show False from r).elim
  | some _=>exact r
theorem KV.val {kvs:List (κ×V)} {vs:List (κ×Value)} (r:KV kvs vs) (k:κ):RelO (qw kvs k) (valueAt vs k):=by
 unfold KV at r
 induction r with
 | nil=>exact True.intro
 | @cons p q ps qs h t ih=>
  obtain ⟨h1,h2⟩:=h
  by_cases e:p.1=k
  ·have e':q.1=k:=h1.symm.trans e
   have b:valueAt (q :: qs) k=some q.2:=by simp [valueAt,List.find?_cons,e']
   rw [qr e,b];exact h2
  ·have e':¬ q.1=k:=fun z=>e (h1.trans z)
   have b:valueAt (q :: qs) k=valueAt qs k:=by simp [valueAt,List.find?_cons,e']
   rw [qt e,b];exact ih
theorem KV.any {kvs:List (κ×V)} {vs:List (κ×Value)} (r:KV kvs vs) (k:κ):(kvs.any fun kv=>decide (kv.1=k))=vs.any fun kv=>decide (kv.1=k):=by
 unfold KV at r
 induction r with
 | nil=>rfl
 | cons h t ih=>rw [List.any_cons,List.any_cons,ih,h.1]
theorem KV.repl {kvs:List (κ×V)} {vs:List (κ×Value)} (r:KV kvs vs) (k:κ) {y:V} {u:Value} (ry:RelV y u) :
  KV (kvs.map fun kv=>if kv.1=k then (kv.1,y) else kv) (vs.map fun kv=>if kv.1=k then (kv.1,u) else kv):=by
 unfold KV at r ⊢
 induction r with
 | nil=>exact .nil
 | @cons p q ps qs h t ih=>
  rw [List.map_cons,List.map_cons]
  refine .cons ?_ ih
  obtain ⟨h1,h2⟩:=h
  by_cases e:p.1=k
  ·rw [if_pos e,if_pos (h1.symm.trans e)];exact ⟨h1,ry⟩
  ·rw [if_neg e,if_neg (fun z=>e (h1.trans z))];exact ⟨h1,h2⟩
theorem KV.put {kvs:List (κ×V)} {vs:List (κ×Value)} (r:KV kvs vs) (k:κ) {y:V} {u:Value} (ry:RelV y u):KV (q5 kvs k y) (stored vs k u):=by
 unfold q5 stored
 rw [r.any k]
 by_cases e:(vs.any fun kv=>decide (kv.1=k))=true
 ·rw [if_pos e,if_pos e];exact r.repl k ry
 ·rw [if_neg e,if_neg e];exact Paired.snoc r ⟨rfl,ry⟩
theorem KV.keys {kvs:List (κ×V)} {vs:List (κ×Value)} (r:KV kvs vs):kvs.map (·.1)=vs.map (·.1):=by
 unfold KV at r
 induction r with
 | nil=>rfl
 | cons h t ih=>rw [List.map_cons,List.map_cons,ih,h.1]
theorem KV.length {kvs:List (κ×V)} {vs:List (κ×Value)} (r:KV kvs vs):kvs.length=vs.length:=Paired.length r
end
theorem KC {P:Program} {w:World} {k:Key} {u:Value} (r:RelV (kV k) u):(kU P w).is k u=true:=by
 cases k with
 | inl i=>obtain ⟨t,e⟩:=(show ∃ t,u=Value.int i t from r);subst e;exact Zz P w i t
 | inr x=>obtain ⟨t,e⟩:=(show ∃ t,u=Value.str x t from r);subst e;exact Zy P w x t
theorem Yr {P:Program} {w:World}:∀ {ks:List Key} {us:List Value},Vals (ks.map kV) us→ItemsAre (kU P w) ks us
 | [],_,r=>by rw [List.map_nil] at r;cases r;exact .nil
 | k :: ks,_,r=>by
  rw [List.map_cons] at r
  cases r with
  | cons h t=>exact .cons (KC h) (Yr t)
abbrev KT (H:Hp):List (List Key×V)→List (List Key×Addr×Value)→Prop:=Paired fun p q=>p.1=q.1∧H q.2.1=some (.tup (p.1.map kV))∧RelV p.2 q.2.2
theorem KT.val {H:Hp} {kvs:List (List Key×V)} {xs:List (List Key×Addr×Value)} (r:KT H kvs xs) (k:List Key):RelO (qw kvs k) ((atKey xs k).map (·.2)):=by
 induction r with
 | nil=>exact True.intro
 | @cons p q ps qs h t ih=>
  obtain ⟨h1,_,h2⟩:=h
  by_cases e:p.1=k
  ·have e':q.1=k:=h1.symm.trans e
   have b:atKey (q :: qs) k=some q.2:=by simp [atKey,List.find?_cons,e']
   rw [qr e,b];exact h2
  ·have e':¬ q.1=k:=fun z=>e (h1.trans z)
   have b:atKey (q :: qs) k=atKey qs k:=by simp [atKey,List.find?_cons,e']
   rw [qt e,b];exact ih
theorem KT.repl {H:Hp} {kvs:List (List Key×V)} {xs:List (List Key×Addr×Value)} (r:KT H kvs xs) (k:List Key) {y:V} {u:Value} (ry:RelV y u) :
  KT H (kvs.map fun kv=>if kv.1=k then (kv.1,y) else kv) (xs.map (putAt k u)):=by
 induction r with
 | nil=>exact .nil
 | @cons p q ps qs h t ih=>
  rw [List.map_cons,List.map_cons]
  refine .cons ?_ ih
  obtain ⟨h1,h2,h3⟩:=h
  unfold putAt
  by_cases e:p.1=k
  ·rw [if_pos e,if_pos (h1.symm.trans e)];exact ⟨h1,h2,ry⟩
  ·rw [if_neg e,if_neg (fun z=>e (h1.trans z))];exact ⟨h1,h2,h3⟩
theorem KT.put {H:Hp} {kvs:List (List Key×V)} {xs:List (List Key×Addr×Value)} (r:KT H kvs xs) (k:List Key) {b:Addr} {y:V} {u:Value} (hb:H b=some (.tup (k.map kV))) (ry:RelV y u) :
  KT H (q5 kvs k y) (storedH xs k b u):=by
 have e:(kvs.any fun kv=>decide (kv.1=k))=(atKey xs k).isSome:=by
  rw [ym,(r.val k).isSome_eq,Option.isSome_map]
 unfold q5 storedH
 rw [e]
 by_cases q:(atKey xs k).isSome=true
 ·rw [if_pos q,if_pos q];exact r.repl k ry
 ·rw [if_neg q,if_neg q];exact Paired.snoc r ⟨rfl,hb,ry⟩
theorem KT.keeps {H H':Hp} {kvs:List (List Key×V)} {xs:List (List Key×Addr×Value)} (r:KT H kvs xs) (ht:∀ b ys,H b=some (.tup ys)→H' b=some (.tup ys)):KT H' kvs xs:=
 Paired.mapP r fun _ _ z=>⟨z.1,ht _ _ z.2.1,z.2.2⟩
section
variable {P:Program} {w:World} {H:Hp} {h:Heap} {a:Addr}
theorem jeO {u:HO} (ok:HOk P w H h) (e:Rd H a u):ObjOk P w H h a u:=e.ok ok
theorem ZL {kvs:List (Key×V)} (ok:HOk P w H h) (e:Rd H a (.dK kvs)):kvs.length≤sizeLine∧(a == sysModules)=false∧∃ vs,KV kvs vs∧h.DictOf (kU P w) a vs:=
 show ObjOk P w H h a (.dK kvs) from jeO ok e
theorem jdd {kvs:List (Key×V)} (ok:HOk P w H h) (e:H a=some (.dK kvs)):kvs.length≤sizeLine∧(a == sysModules)=false∧∃ vs,KV kvs vs∧h.DictOf (kU P w) a vs:=ZL ok (.inl e)
theorem KB {ks:List Key} (ok:HOk P w H h) (e:H a=some (.tup (ks.map kV))):(tupleKind (kU P w)).is h ks a:=by
 obtain ⟨_,its,r,o,h1,h2,n,h3⟩:=(show ObjOk P w H h a (.tup (ks.map kV)) from ok a _ e)
 exact ⟨o,its.toArray,n,h1,h2,h3,by simpa using Yr r⟩
theorem ZK {kvs:List (List Key×V)} (ok:HOk P w H h) (e:Rd H a (.dT kvs)):kvs.length≤sizeLine∧(a == sysModules)=false∧
  ∃ xs,KT H kvs xs∧h.DictOfH (tupleKind (kU P w)) a xs:=by
 obtain ⟨z,y,xs,r,o,es,ep,h1,h2,h3,h4,h5⟩:=(show ObjOk P w H h a (.dT kvs) from jeO ok e)
 refine ⟨z,y,xs,r,o,es,ep,h1,h2,h3,h4,fun x hx=>?_,h5⟩
 have all:∀ {l:List (List Key×V)} {m:List (List Key×Addr×Value)},KT H l m→∀ x∈m,(tupleKind (kU P w)).is h x.1 x.2.1:=by
  intro l m q
  induction q with
  | nil=>intro x hx;exact nomatch hx
  | @cons p q ps qs hq t ih=>
   intro x hx
   rcases List.mem_cons.mp hx with e | hx
   ·subst e
    exact KB ok (by rw [← hq.1];exact hq.2.1)
   ·exact ih x hx
 exact all r x hx
theorem jgn {kvs:List (List Key×V)} (ok:HOk P w H h) (e:H a=some (.dT kvs)):kvs.length≤sizeLine∧(a == sysModules)=false∧
  ∃ xs,KT H kvs xs∧h.DictOfH (tupleKind (kU P w)) a xs:=ZK ok (.inl e)
end
def DGet (H:Hp) (a:Addr) (y:V) (r:Option V):Prop:=
 (∃ kvs k,Rd H a (.dK kvs)∧y=kV k∧r=qw kvs k)∨∃ kvs k b,Rd H a (.dT kvs)∧y=.ref b∧H b=some (.tup (k.map kV))∧r=qw kvs k
def DPut (H:Hp) (a:Addr) (y v:V) (H':Hp):Prop:=
 (∃ kvs k,H a=some (.dK kvs)∧y=kV k∧kvs.length < sizeLine∧H'=upd H a (.dK (q5 kvs k v)))∨
 ∃ kvs k b,H a=some (.dT kvs)∧y=.ref b∧H b=some (.tup (k.map kV))∧kvs.length < sizeLine∧H'=upd H a (.dT (q5 kvs k v))
theorem DGet.t {H:Hp} {a b:Addr} {kvs:List (List Key×V)} {k:List Key} (e:H a=some (.dT kvs)) (eb:H b=some (.tup (k.map kV))):DGet H a (.ref b) (qw kvs k):=.inr ⟨kvs,k,b,.inl e,rfl,eb,rfl⟩
theorem DPut.k {H:Hp} {a:Addr} {kvs:List (Key×V)} {k:Key} {v:V} (e:H a=some (.dK kvs)) (hl:kvs.length < sizeLine):DPut H a (kV k) v (upd H a (.dK (q5 kvs k v))):=.inl ⟨kvs,k,e,rfl,hl,rfl⟩
theorem DPut.t {H:Hp} {a b:Addr} {kvs:List (List Key×V)} {k:List Key} {v:V} (e:H a=some (.dT kvs)) (eb:H b=some (.tup (k.map kV))) (hl:kvs.length < sizeLine) :
  DPut H a (.ref b) v (upd H a (.dT (q5 kvs k v))):=.inr ⟨kvs,k,b,e,rfl,eb,hl,rfl⟩
section
variable {X:Cx} {pins:List (Addr×Obj)} {σ:St} {H:Hp} {s:Shared} {a:Addr} {y v:V} {u r:Value} {o:Option V} {A:Around} {E:Value→Shared→Prop}
theorem Inv.big (I:Inv X pins σ H s):sysModules < s.heap.objs.size:=by
 have h:mainGlobals < s.heap.objs.size:=(I.mod.glob.keeps I.bk).lt
 exact Nat.lt_trans (by decide) h
theorem jbO {Q:Value→Shared→Prop} (hu:A.units+1 < cLine) (I:Inv X pins σ H s) (g:DGet H a y (some v)) (ry:RelV y u) (h:∀ w' s',Inv X pins σ H s'→RelV v w'→Q w' s') :
  wpAny (model X.prog X.w) A (getItem (.ref a) u) Q E s:=by
 rcases g with ⟨kvs,k,e,ey,l⟩ | ⟨kvs,k,b,e,ey,eb,l⟩
 ·subst ey
  obtain ⟨z,hd,vs,rel,dd⟩:=ZL I.hok e
  obtain ⟨w',hw,rw'⟩:=RelO.some_of (v:=v) (o:=valueAt vs k) (by rw [l];exact rel.val k)
  exact wpAny_getItem_of (KC ry) dd.mapOf hw (h w' _ (I.tok _) rw')
 ·subst ey
  cases (show u=Value.ref b from ry)
  obtain ⟨z,hd,xs,rel,dd⟩:=ZK I.hok e
  obtain ⟨w',hw,rw'⟩:=RelO.some_of (v:=v) (o:=(atKey xs k).map (·.2)) (by rw [l];exact rel.val k)
  obtain ⟨p,hp,hp2⟩:=Option.map_eq_some_iff.mp hw
  refine wpAny_getItem_heap (tupleKind_room_in1 hu) (KB I.hok eb) dd hp ?_
  rw [hp2]
  exact h w' _ (I.tok _) rw'
theorem jgB {Q:Value→Shared→Prop} (hu:A.units+1 < cLine) (I:Inv X pins σ H s) (g:DGet H a y o) (ry:RelV y u) (h:∀ s',Inv X pins σ H s'→Q (.bool o.isSome) s') :
  wpAny (model X.prog X.w) A (compareOp .In u (.ref a)) Q E s:=by
 rcases g with ⟨kvs,k,e,ey,l⟩ | ⟨kvs,k,b,e,ey,eb,l⟩
 ·subst ey
  obtain ⟨z,hd,vs,rel,dd⟩:=ZL I.hok e
  refine wpAny_in_of (KC ry) hd dd.mapOf ?_
  rw [← (rel.val k).isSome_eq,← l]
  exact h _ (I.tok _)
 ·subst ey
  cases (show u=Value.ref b from ry)
  obtain ⟨z,hd,xs,rel,dd⟩:=ZK I.hok e
  refine wpAny_in_heap (tupleKind_room_in1 hu) (KB I.hok eb) hd dd ?_
  have q:=(rel.val k).isSome_eq
  rw [Option.isSome_map] at q
  rw [← q,← l]
  exact h _ (I.tok _)
theorem jew {Q:Value→Shared→Prop} (hu:A.units+1 < cLine) (I:Inv X pins σ H s) (g:DGet H a y o) (ry:RelV y u) (h:∀ s',Inv X pins σ H s'→Q (.bool (!o.isSome)) s') :
  wpAny (model X.prog X.w) A (compareOp .NotIn u (.ref a)) Q E s:=by
 rcases g with ⟨kvs,k,e,ey,l⟩ | ⟨kvs,k,b,e,ey,eb,l⟩
 ·subst ey
  obtain ⟨z,hd,vs,rel,dd⟩:=ZL I.hok e
  refine wpAny_notIn_of (KC ry) hd dd.mapOf ?_
  rw [← (rel.val k).isSome_eq,← l]
  exact h _ (I.tok _)
 ·subst ey
  cases (show u=Value.ref b from ry)
  obtain ⟨z,hd,xs,rel,dd⟩:=ZK I.hok e
  refine wpAny_notIn_heap (tupleKind_room_in1 hu) (KB I.hok eb) hd dd ?_
  have q:=(rel.val k).isSome_eq
  rw [Option.isSome_map] at q
  rw [← q,← l]
  exact h _ (I.tok _)
theorem Kf {h':Heap} {t':Nat} {ob:HO} (I:Inv X pins σ H s) (mu:Mut (H a)) (hs:Heap.SameBut a s.heap h') (he:∃ q,h'.get? a=some q) (new:ObjOk X.prog X.w (upd H a ob) h' a ob) :
  Inv X pins σ (upd H a ob) { s with heap:=h',toks:=t' }:=
 I.write (x:=a) (e:=a) mu (.inl rfl) (fun b q hb z=>(hs.2 b hb).trans z) he new
theorem jaj {P:Program} {w:World} {H':Hp} {h':Heap} {kvs:List (Key×V)} {vs:List (Key×Value)} (z:kvs.length≤sizeLine) (hd:(a == sysModules)=false) (rel:KV kvs vs) (dd:h'.DictOf (kU P w) a vs) :
  ObjOk P w H' h' a (.dK kvs):=⟨z,hd,vs,rel,dd⟩
theorem jbN {H':Hp} {Q:Unit→Shared→Prop} (hu:A.units+1 < cLine) (I:Inv X pins σ H s) (g:DPut H a y v H') (ry:RelV y u) (rv:RelV v r) (h:∀ s',Inv X pins σ H' s'→Q () s') :
  wpAny (model X.prog X.w) A (setItem (.ref a) u r) Q E s:=by
 rcases g with ⟨kvs,k,e,ey,l,eH⟩ | ⟨kvs,k,b,e,ey,eb,l,eH⟩
 ·subst ey eH
  obtain ⟨z,hd,vs,rel,dd⟩:=jdd I.hok e
  have hz:vs.length≤sizeLine:=by rw [← rel.length];exact z
  have hl:(q5 kvs k v).length≤sizeLine:=by have:=qM kvs k v;omega
  refine wpAny_setItem_pairs (hsz:=hz) (KC ry) dd fun h' dd' hs=>h _ ?_
  have he:∃ q,h'.get? a=some q:=let ⟨q,_,_,hq,_⟩:=dd';⟨q,hq⟩
  exact Kf I (by rw [e];exact True.intro) hs he (jaj hl hd (rel.put k rv) dd')
 ·subst ey eH
  cases (show u=Value.ref b from ry)
  obtain ⟨z,hd,xs,rel,dd⟩:=jgn I.hok e
  have hz:xs.length≤sizeLine:=by rw [← Paired.length rel];exact z
  have hl:(q5 kvs k v).length≤sizeLine:=by have:=qM kvs k v;omega
  refine wpAny_setItem_heap (hsz:=hz) (tupleKind_room_in1 hu) (KB I.hok eb) dd fun h' dd' hs=>h _ ?_
  obtain ⟨q,es,ep,hq,h2,h3,h4,_,h5⟩:=dd'
  refine Kf I (by rw [e];exact True.intro) hs ⟨q,hq⟩ ⟨hl,hd,_,(rel.put k eb rv).keeps fun c ys ec=>?_,q,es,ep,hq,h2,h3,h4,h5⟩
  rw [jx (jeT ec e (fun z=>nomatch z))]
  exact ec
end
def jfM (i:Expr):Prop:=∀ ov iv,subscripted i false ov iv=operate [ov,iv] (getItem ov iv)
theorem jdH {prog:Program} {w:World} {A:Around} {E:Value→Shared→Prop} {s:Shared} {env:Env} {value slice:Expr} {pos:Pos} {T id:String} {Q:Value→Shared→Prop}
  (hl:typeLookup (.type T) "__getitem__" = pure (some (.builtin id))) (hs:jfM slice)
  (h:wpAny (model prog w) A (eval value env) (fun o s₁=>wpAny (model prog w) A (eval slice env) (fun i s₂=>s₂.TypeIs o T∧wpAny (model prog w) A (getItem o i) Q E s₂) E s₁) E s) :
  wpAny (model prog w) A (eval (.Subscript value slice pos) env) Q E s:=by
 refine Subscript_ (wpAny_mono h (fun o s₁ h₁=>wpAny_mono h₁ (fun i s₂ h₂=>?_) fun _ _ x=>x) fun _ _ x=>x)
 obtain ⟨hT,h₂⟩:=h₂
 unfold subscriptTail
 refine wpAny_bind ?_
 rw [getitemInPython_of_ne hT.not_modules]
 refine wpAny_bind (wpAny_specialOf hT hl ?_)
 have fin:wpAny (model prog w) A (subscripted slice false o i) (fun r s₃=>wpAny (model prog w) A (letTemporaryGo value o r >>= fun _=>pure r) Q E s₃) E s₂:=by
  rw [hs o i]
  exact wpAny_operating (wpAny_mono h₂ (fun r s₃ h₃=>wpAny_bind (wpAny_letTemporaryGo (wpAny_pure h₃))) fun _ _ x=>x)
 first
  | exact wpAny_pure (wpAny_bind fin)
  | exact wpAny_bind (wpAny_pure (wpAny_bind fin))
  | exact wpAny_bind fin
theorem ZN {X:Cx} {pins:List (Addr×Obj)} {σ:St} {H:Hp} {s:Shared} {a:Addr} {y:V} {o:Option V} (I:Inv X pins σ H s) (g:DGet H a y o):s.TypeIs (.ref a) "dict":=by
 rcases g with ⟨kvs,k,e,_,_⟩ | ⟨kvs,k,b,e,_,_,_⟩
 ·obtain ⟨_,_,vs,_,dd⟩:=ZL I.hok e
  exact dd.typeIs
 ·obtain ⟨_,_,xs,_,dd⟩:=ZK I.hok e
  exact dd.typeIs
def jeL (td ty:TE):TE:=fun σ H Q=>td σ H fun x H1=>ty σ H1 fun y H2=>∃ a v,x=.ref a∧DGet H2 a y (some v)∧Q v H2
def jfT (ty td:TE):TE:=fun σ H Q=>ty σ H fun y H1=>td σ H1 fun x H2=>∃ a o,x=.ref a∧DGet H2 a y o∧Q (.bl o.isSome) H2
def jaB (ty td:TE):TE:=fun σ H Q=>ty σ H fun y H1=>td σ H1 fun x H2=>∃ a o,x=.ref a∧DGet H2 a y o∧Q (.bl (!o.isSome)) H2
def jeN (td ty tv:TE):TS:=fun D σ H=>tv σ H fun v H1=>td σ H1 fun x H2=>ty σ H2 fun y H3=>∃ a H4,x=.ref a∧DPut H3 a y v H4∧D.nx σ H4
section
variable {X:Cx} {o i e value:Expr} {pos pos' tpos:Pos} {td ty tv:TE}
theorem jd3 (hu:X.A.units+1 < cLine) (ho:PE X o td) (hi:PE X i ty) (hs:jfM i):PE X (.Subscript o i pos) (jeL td ty):=by
 intro pins s σ H Q I h
 refine jdH PySem.F.slot_dict_getitem.lookup hs (thn (ho pins s σ H _ I h) fun u s1 ⟨x,H1,I1,rx,q1⟩=>thn (hi pins s1 σ H1 _ I1 q1) fun iv s2 ⟨y,H2,I2,ry,a,v,ex,g,q2⟩=>?_)
 subst ex
 obtain rfl:u=Value.ref a:=rx
 exact ⟨ZN I2 g,jbO hu I2 g ry fun w' s3 I3 rw'=>⟨v,H2,I3,rw',q2⟩⟩
theorem jfr (hu:X.A.units+1 < cLine) (hi:PE X i ty) (ho:PE X o td):PC X .In i o (jfT ty td):=by
 intro pins s σ H Q I h
 refine thn (hi pins s σ H _ I h) fun iv s1 ⟨y,H1,I1,ry,q1⟩=>thn (ho pins s1 σ H1 _ I1 q1) fun u s2 ⟨x,H2,I2,rx,a,ov,ex,g,q2⟩=>?_
 subst ex
 obtain rfl:u=Value.ref a:=rx
 exact jgB hu I2 g ry fun s3 I3=>⟨.bl ov.isSome,H2,I3,rfl,q2⟩
theorem jbk (hu:X.A.units+1 < cLine) (hi:PE X i ty) (ho:PE X o td):PC X .NotIn i o (jaB ty td):=by
 intro pins s σ H Q I h
 refine thn (hi pins s σ H _ I h) fun iv s1 ⟨y,H1,I1,ry,q1⟩=>thn (ho pins s1 σ H1 _ I1 q1) fun u s2 ⟨x,H2,I2,rx,a,ov,ex,g,q2⟩=>?_
 subst ex
 obtain rfl:u=Value.ref a:=rx
 exact jew hu I2 g ry fun s3 I3=>⟨.bl (!ov.isSome),H2,I3,rfl,q2⟩
theorem jdT (hu:X.A.units+1 < cLine) (ho:PE X o td) (hi:PE X i ty) (hv:PE X value tv) (hs:swapsWith value (some (.Subscript o i pos')) pos.line X.env=pure false) :
  PS X (.Assign [.Subscript o i pos'] value pos) (jeN td ty tv):=by
 intro pins s σ H D I h
 refine wpAny_Assign_Subscript (thn (hv pins s σ H _ I h) fun r s1 ⟨v,H1,I1,rv,q1⟩=>thn (ho pins s1 σ H1 _ I1 q1) fun u s2 ⟨x,H2,I2,rx,q2⟩=>thn (hi pins s2 σ H2 _ I2 q2) fun iv s3 ⟨y,H3,I3,ry,a,H4,ex,g,q3⟩=>?_) hs
 subst ex
 obtain rfl:u=Value.ref a:=rx
 exact jbN hu I3 g ry rv fun s4 I4=>⟨σ,H4,I4,q3⟩
end
theorem ZM {P:Program} {w:World} {H:Hp} (h:Heap) (hb:sysModules < h.objs.size):ObjOk P w H (h.push { cls:=.type "dict",data:=.dict #[] }) h.objs.size (.dK []):=
 ⟨Nat.zero_le _,beq_eq_false_iff_ne.mpr (Ne.symm (Nat.ne_of_lt hb)),[],.nil,Heap.DictOf.new h⟩
def jb6:TE:=fun _ H Q=>∀ p,H p=none→Q (.ref p) (upd H p (.dK []))
section
variable {X:Cx} {pos:Pos}
theorem jcy:PE X (.Dict [] [] pos) jb6:=fun pins s σ H Q I h=>
 wpAny_Dict_empty ⟨.ref s.heap.objs.size,_,I.laid (a:=s.heap.objs.size) (o:=.dK []) (t':=s.toks) (fun _ _ q=>Heap.get?_push_of_some _ q) (Nat.le_refl _) (ZM s.heap I.big),rfl,h _ (I.hok.fresh (Nat.le_refl _))⟩
end
def Z0:List (TE×TE)→St→Hp→(List (V×V)→Hp→Prop)→Prop
 | [],_,H,Q=>Q [] H
 | (tk,tv) :: r,σ,H,Q=>tk σ H fun x H1=>tv σ H1 fun y H2=>Z0 r σ H2 fun ps H3=>Q ((x,y) :: ps) H3
abbrev VV:List (V×V)→List (Value×Value)→Prop:=Paired fun p q=>RelV p.1 q.1∧RelV p.2 q.2
def PPs (X:Cx) (pos:Pos) (keys:List (Option Expr)) (values:List Expr) (trs:List (TE×TE)):Prop:=
 ∀ (pins:List (Addr×Obj)) (s:Shared) (σ:St) (H:Hp) (Q:List (V×V)→Hp→Prop),Inv X pins σ H s→Z0 trs σ H Q→
  wpAny (model X.prog X.w) X.A (evalPairs (pairTrees keys values X.env pos)) (fun vs s'=>∃ ps H',Inv X pins σ H' s'∧VV ps vs∧Q ps H') X.xe s
theorem jdU {X:Cx} {pos:Pos}:PPs X pos [] [] []:=fun pins s σ H Q I h=>pairTrees_nil_walk ⟨[],H,I,.nil,h⟩
theorem jco {X:Cx} {pos:Pos} {k v:Expr} {ks:List (Option Expr)} {vs:List Expr} {tk tv:TE} {trs:List (TE×TE)} (hk:PE X k tk) (hv:PE X v tv) (hr:PPs X pos ks vs trs) :
  PPs X pos (some k :: ks) (v :: vs) ((tk,tv) :: trs):=fun pins s σ H Q I h=>
 pairTrees_cons_walk (thn (hk pins s σ H _ I h) fun u s1 ⟨x,H1,I1,rx,q1⟩=>thn (hv pins s1 σ H1 _ I1 q1) fun w2 s2 ⟨y,H2,I2,ry,q2⟩=>
  thn (hr pins s2 σ H2 _ I2 q2) fun ws s3 ⟨ps,H3,I3,rel,q3⟩=>⟨(x,y) :: ps,H3,I3,.cons ⟨rx,ry⟩ rel,q3⟩)
def yB (kvs more:List (Key×V)):List (Key×V):=more.foldl (fun acc kv=>q5 acc kv.1 kv.2) kvs
theorem KV.merge:∀ {more:List (Key×V)} {rs:List (Key×Value)} {kvs:List (Key×V)} {vs:List (Key×Value)},KV more rs→KV kvs vs→KV (yB kvs more) (merged vs rs):=by
 intro more rs kvs vs r
 unfold KV at r
 induction r generalizing kvs vs with
 | nil=>intro q;exact q
 | @cons p q ps qs h t ih=>
  intro r0
  have e:KV (q5 kvs p.1 p.2) (stored vs q.1 q.2):=by
   have:=r0.put p.1 h.2
   rw [← h.1];exact this
  exact ih e
theorem zL:∀ (more kvs:List (Key×V)),(yB kvs more).length≤kvs.length+more.length
 | [],kvs=>by show kvs.length≤kvs.length+0;omega
 | p :: r,kvs=>by
  have h1:=zL r (q5 kvs p.1 p.2)
  have h2:=qM kvs p.1 p.2
  show (yB (q5 kvs p.1 p.2) r).length≤_
  rw [List.length_cons];omega
theorem KP {P:Program} {w:World}:∀ {kvs:List (Key×V)} {ws:List (Value×Value)},VV (kvs.map fun kv=>(kV kv.1,kv.2)) ws→∃ rs,Carries (kU P w) ws rs∧KV kvs rs
 | [],_,r=>by rw [List.map_nil] at r;cases r;exact ⟨[],True.intro,.nil⟩
 | p :: kvs,_,r=>by
  rw [List.map_cons] at r
  cases r with
  | @cons a b as bs h t=>
   obtain ⟨rs,c,q⟩:=KP (P:=P) (w:=w) t
   obtain ⟨b1,b2⟩:=b
   exact ⟨(p.1,b2) :: rs,⟨KC h.1,rfl,c⟩,.cons ⟨rfl,h.2⟩ q⟩
def jeK (trs:List (TE×TE)):TE:=fun σ H Q=>∀ p,H p=none→Z0 trs σ (upd H p (.dK [])) fun ps H2=>H2 p=some (.dK [])∧∃ kvs:List (Key×V),ps=kvs.map (fun kv=>(kV kv.1,kv.2))∧kvs.length≤15∧Q (.ref p) (upd H2 p (.dK (yB [] kvs)))
theorem jd2 {X:Cx} {pos:Pos} {keys:List (Option Expr)} {values:List Expr} {trs:List (TE×TE)} (h:PPs X pos keys values trs) (hall:keys.all (·.isSome)=true) (hl:keys.length=values.length) (h0:keys≠[])
  (h15:keys.length≤15):PE X (.Dict keys values pos) (jeK trs):=by
 intro pins s σ H Q I q
 have hn:=I.hok.fresh (Nat.le_refl s.heap.objs.size)
 have I1:=I.laid (a:=s.heap.objs.size) (o:=.dK []) (h':=s.heap.push { cls:=.type "dict",data:=.dict #[] }) (t':=s.toks) (fun _ _ q=>Heap.get?_push_of_some _ q) (Nat.le_refl _) (ZM s.heap I.big)
 refine wpAny_Dict_walk (knd:=kU X.prog X.w) hall hl h0 h15 (thn (h pins _ σ _ _ I1 (q _ hn)) fun ws s2 ⟨ps,H2,I2,rel,e,kvs,ep,lk,q2⟩=>?_)
 subst ep
 obtain ⟨rs,c,rk⟩:=KP (P:=X.prog) (w:=X.w) rel
 obtain ⟨z,hd,vs0,r0,dd⟩:=jdd I2.hok e
 cases r0
 refine ⟨rs,c,dd,fun h' dd' hs=>⟨.ref s.heap.objs.size,_,?_,rfl,q2⟩⟩
 have hz:(yB [] kvs).length≤sizeLine:=by
  have h1:=zL kvs []
  rw [List.length_nil] at h1
  rw [sizeLine_eq];omega
 have he:∃ q,h'.get? s.heap.objs.size=some q:=let ⟨q,_,_,hq,_⟩:=dd';⟨q,hq⟩
 exact Kf I2 (by rw [e];exact True.intro) hs he (jaj hz hd (rk.merge .nil) dd')
end L2
namespace Att
open PySem PySem.W PySem.Calls PyProof.Rows
theorem J0 {P:Params} {h:Heap}:∀ (ns:List Int) (vs:List Value),WellAll P h vs (ns.map WData.int)→IntsAre vs ns:=by
 intro ns
 induction ns with
 | nil=>
  intro vs w
  rw [List.map_nil] at w
  cases w
  exact .nil
 | cons n ns ih=>
  intro vs w
  rw [List.map_cons] at w
  cases w with
  | cons a b=>
   cases a
   exact .cons _ _ (ih _ b)
theorem jbf {l:OpenLaw} {n:Nat} (hn:l.most=some n) {P:Params} {h:Heap} {args:List WData} {vals:List Value}
  (hpre:l.row.toRowW.claim.pre args=true) (hwl:WellAll P h vals args) :
  ∃ a vs ns,vals=[Value.ref a]∧args=[WData.list (ns.map WData.int)]∧h.get? a=some { cls:=.type "list",data:=.seq vs.toArray }∧IntsAre vs ns∧ns.length≤n:=by
 have hsh:WShape.hasAll [] args [.list .int]=true:=(pre_splitW hpre).1
 have hc:l.pre.holds [] { args:=args }=true:=(pre_splitW hpre).2
 obtain ⟨d,r,rfl,h1,h2⟩:=hasAllW_cons hsh
 obtain rfl:=hasAllW_nil h2
 obtain ⟨xs,rfl,h3⟩:=hasW_list h1
 obtain ⟨ns,rfl⟩:=items_int h3
 have hlen:ns.length≤n:=by
  unfold OpenLaw.pre at hc
  have h4:(WTm.not (.lt (.lit (.int (n:Int))) (.len (.arg 0)))).holds [] { args:=[.list (ns.map .int)] }=true:=by
   have h4:=(holds_andW hc).1
   rw [hn] at h4
   exact h4
  have h5:=condW_of h4 (w_not (w_lt w_lit (w_len_list (w_arg rfl))))
  rw [List.length_map] at h5
  refine Nat.le_of_not_lt fun q=>?_
  have q':(n:Int) < ((ns.length:Nat):Int):=by omega
  first
   | (rw [decide_eq_true q'] at h5;exact absurd h5 (by decide))
   | (simp at h5;omega)
 cases hwl with
 | cons w1 w2=>
  cases w2
  cases w1 with
  | list ho hall=>exact ⟨_,_,ns,rfl,rfl,ho,J0 ns _ hall,hlen⟩
theorem jbg (l:OpenLaw) (args:List WData):l.row.toRowW.claim.post args (.bool true) args=true:=
 postW_of (r:=l.row.toRowW) (X:=(true == true))
  (show WShape.has [] (.bool true) .bool=true by first | rfl | decide | simp [WShape.has,WShape.arms,WShape.armsAll])
  (show (WTm.eq .res (.lit (.bool true))).value [] { args:=args,res:=some (.bool true),after:=args }=some (.bool (true == true)) from w_eq_bool (w_res rfl) w_lit) rfl
theorem attach_call {l:OpenLaw} {n:Nat} {q:Program} {loose:List Str} {XP:(Str→Option Value)→Heap→Prop} {YP:World→Heap→Prop} {d:DefRec}
  (hn:l.most=some n) (hdf:d.params.defaults=[])
  (call:∀ (w:World) (s₀ s₁:Shared) (mg mb:Str→Option Value) (fa:Addr) (o:Obj) (pm cd doc:Value) (a:Addr) (vs:List Value) (ns:List Int),
   Ground q loose [] XP w s₀ mg mb s₁.heap→YP w s₁.heap→
   s₁.heap.get? fa=some o→o.data=.func (docDef d.name d.params d.body d.scope pm cd doc)→s₁.heap.CodeRec cd d.name→mg d.name=some (.ref fa)→
   s₁.heap.get? a=some { cls:=.type "list",data:=.seq vs.toArray }→IntsAre vs ns→ns.length≤n→s₁.gens=#[]→
   codeAny (model l.prog w) callerA (.call (.ref fa) ⟨[.ref a],[]⟩) (fun r s'=>r=.ok (.ret (.bool true))∧OldK s₁.heap s'.heap∧s'.os=s₁.os∧AllBare s'.gens) s₁) :
  WalkO q loose XP YP l.row.toRowW d [] (fun f vs=>PySem.call f vs):=by
 intro w s₀ s₁ mg mb G Y fa o pm cd doc dV kV ho hd hcd hD hmg hg args vals as hpre hlay hrd hwl hlo
 obtain rfl:dV=.none:=Dflts.none hD hdf
 obtain rfl:kV=.none:=Dflts.noKw hD
 obtain ⟨a,vs,ns,rfl,rfl,hobj,hints,hlen⟩:=jbf hn hpre hwl
 refine enter_call (codeAny_mono (call w s₀ s₁ mg mb fa o pm cd doc a vs ns G Y ho (fd_plain hd) hcd hmg hobj hints hlen hg) fun r s' hq=>?_)
 obtain ⟨rfl,h2,h3,h4⟩:=hq
 exact ⟨.inl ⟨.bool true,.bool true,[],rfl,fun _=>rfl,.bool true,jbg l _,fun _=>⟨List.Pairwise.nil,fun _ hm=>(nomatch hm)⟩⟩,h2,h3,h4⟩
end Att
namespace L2
open PySem PySem.Spec PyProof.Rows
theorem Ye:∀ {vs:List Value} {ns:List Int},IntsAre vs ns→Vals (ns.map V.int) vs
 | _,_,.nil=>.nil
 | _,_,.cons n t h=>.cons ⟨t,rfl⟩ (Ye h)
def jfL (H:Hp):Prop:=∀ b,H b=none∨∃ o xs,H b=some (.frz o (.lst xs))
theorem jc1 {P:Program} {w:World} {K:PySem.W.Frag} {mg mb:Str→Option Value} {CX:CXT} {k:Nat} {fa a:Addr} {fd:FuncData} {x:Str} {sp:Sp} {s₁:Shared} {vs:List Value} {ns:List Int}
  (KX:K.In s₁.heap) (hns:s₁.heap.Ns mainGlobals mg) (hb:s₁.heap.Ns builtinsNs mb) (hbb:∀ x:Str,x≠"__name__"→mb x=bootBuiltins x) (hlim:s₁.heap.NoLimit) (hg:s₁.gens=#[])
  (ha:s₁.heap.get? a=some { cls:=.type "list",data:=.seq vs.toArray }) (hi:IntsAre vs ns) (hl:ns.length≤sizeLine) (hr:Room k callerA)
  (F:∀ base:Heap,K.In base→base.Ns mainGlobals mg→FnOk P w K mg base CX k fa fd [x] sp) (hbind:∀ (s:Shared) (u:Value),BindsTo s fd ⟨[u],[]⟩ [(x,u)])
  (hsp:∀ H:Hp,jfL H→SqL K H a (ns.map V.int)→sp [.ref a] H (fun v _=>v=.bl true) fun _ _ _=>False)
  (hCX:∀ H e s',CX [] H s₁ (fun _ _ _=>False) e s'→False) :
  codeAny (model P w) callerA (.call (.ref fa) ⟨[.ref a],[]⟩) (fun r s'=>r=.ok (.ret (.bool true))∧OldK s₁.heap s'.heap∧s'.os=s₁.os∧AllBare s'.gens) s₁:=by
 have rv:=Ye hi
 have lenV:=hi.length
 have core:∀ H:Hp,jfL H→SqL K H a (ns.map V.int)→HOk P w H s₁.heap→(∀ b,H b≠none→b=a)→(H a≠none→K.lookup a=none)→
   codeAny (model P w) callerA (.call (.ref fa) ⟨[.ref a],[]⟩) (fun r s'=>r=.ok (.ret (.bool true))∧OldK s₁.heap s'.heap∧s'.os=s₁.os∧AllBare s'.gens) s₁:=by
  intro H hO hS hok hA hK
  have base_of:∀ {b:Addr} {o:Obj},s₁.heap.get? b=some o→H b=none→(YY s₁.heap H).get? b=some o:=fun e n=>jc4 e n
  have noA:∀ {b:Addr} {o:Obj} {es:Array DictEntry} {ep:Nat},s₁.heap.get? b=some o→o.data=.dict es ep→H b=none:=fun {b o es ep} e d=>by
   cases q:H b with
   | none=>rfl
   | some u=>
    have e':b=a:=hA b (by rw [q];simp)
    subst e'
    rw [ha] at e;cases e
    have d':Data.seq vs.toArray _=Data.dict es ep:=d
    cases d'
  have nsK:∀ {b:Addr} {m:Str→Option Value},s₁.heap.Ns b m→(YY s₁.heap H).Ns b m:=fun {b m} ⟨o,es,ep,e,d,r⟩=>⟨o,es,ep,base_of e (noA e d),d,r⟩
  have hKb:K.In (YY s₁.heap H):=fun b o e=>base_of (KX b o e) (by
   cases q:H b with
   | none=>rfl
   | some u=>
    have e':b=a:=hA b (by rw [q];simp)
    subst e'
    rw [hK (by rw [q];simp)] at e;cases e)
  have hM:Mod K mg (YY s₁.heap H):=⟨hKb,nsK hns,⟨mb,nsK hb,hbb⟩,let ⟨mc,h1,h2⟩:=hlim;⟨mc,nsK h1,h2⟩⟩
  have e0:Env0 P w K mg (YY s₁.heap H) callerA [] s₁ H:=⟨rfl,hM,fun b o e=>jei e,Nat.le_of_eq (jbK _ _),trivial,fun b hb=>absurd (show b∈([]:List Addr) from hb) (by simp),hok,.of_eq hg⟩
  refine codeAny_mono ((F _ hKb (nsK hns)).run callerA [] s₁ H ⟨[.ref a],[]⟩ [.ref a] [.ref a] _ _ hr e0 (hbind s₁ (.ref a)) (.cons rfl .nil) (hsp H hO hS)) fun r s' h=>?_
  cases r with
  | error e=>exact (hCX H e s' h).elim
  | ok fl=>
   cases fl with
   | next=>exact False.elim h
   | brk=>exact False.elim h
   | cont=>exact False.elim h
   | ret u=>
    obtain ⟨v,H',os,bare,un,hok',r',q⟩:=h
    have q':v=.bl true:=q
    subst q'
    obtain rfl:u=Value.bool true:=r'
    refine ⟨rfl,OldK.of_keep fun b o e=>?_,os,bare⟩
    cases q:H b with
    | none=>exact un.keep b o e q (by intro z;exact absurd (show b∈([]:List Addr) from z) (by simp)) (by simp)
    | some u=>
     rcases hO b with z | ⟨ob,xs,z⟩
     ·rw [q] at z;cases z
     ·have z2:=un.frzs b ob _ z
      obtain ⟨e1,_⟩:=hok b _ z
      obtain ⟨e2,_⟩:=hok' b _ z2
      rw [e] at e1;cases e1
      exact e2
 cases hk:K.lookup a with
 | some o=>
  have e:=KX a o hk
  rw [ha] at e
  cases e
  refine core (fun _=>none) (fun _=>.inl rfl) (.inr ⟨_,vs.toArray,_,hk,rfl,rfl,rfl,by rw [List.size_toArray,lenV];exact hl,by simpa using rv⟩) (fun b u z=>by have z':(none:Option HO)=some u:=z;cases z') (fun b z=>absurd rfl z) fun z=>absurd rfl z
 | none=>
  refine core (fun b=>if b=a then some (.frz { cls:=.type "list",data:=.seq vs.toArray } (.lst (ns.map V.int))) else none) (fun b=>?_) (.inl (.inr ⟨{ cls:=.type "list",data:=.seq vs.toArray },if_pos rfl⟩)) (fun b u z=>?_) (fun b z=>?_) fun _=>hk
  ·by_cases hb:b=a
   ·exact .inr ⟨_,_,if_pos hb⟩
   ·exact .inl (if_neg hb)
  ·by_cases hb:b=a
   ·have z':=(if_pos hb).symm.trans z
    cases z'
    subst hb
    exact ⟨ha,by rw [List.length_map];exact hl,vs,_,rv,ha⟩
   ·have z':=(if_neg hb).symm.trans z
    cases z'
  ·by_cases hb:b=a
   ·exact hb
   ·exact absurd (if_neg hb) z
theorem walk_of {l:PySem.W.OpenLaw} {n k:Nat} {q:Program} {loose:List Str} {XP:(Str→Option Value)→Heap→Prop} {YP:World→Heap→Prop} {d:DefRec} {K:Params→PySem.W.Frag} {CX:World→CXT} {sp:World→Sp} {x:Str}
  (hn:l.most=some n) (hn2:n≤sizeLine) (hdf:d.params.defaults=[]) (hr:Room k callerA)
  (hY:∀ (w:World) (h:Heap),YP w h→(K w.params).In h)
  (F:∀ (w:World) (mg:Str→Option Value) (fa:Addr) (h:Heap),(K w.params).In h→h.Ns mainGlobals mg→mg d.name=some (.ref fa)→
   ∃ fd:FuncData,(∀ (s:Shared) (u:Value),BindsTo s fd ⟨[u],[]⟩ [(x,u)])∧
    ∀ base:Heap,(K w.params).In base→base.Ns mainGlobals mg→FnOk l.prog w (K w.params) mg base (CX w) k fa fd [x] (sp w))
  (hsp:∀ (w:World) (H:Hp) (a:Addr) (ns:List Int),ns.length≤n→jfL H→SqL (K w.params) H a (ns.map V.int)→sp w [.ref a] H (fun v _=>v=.bl true) fun _ _ _=>False)
  (hCX:∀ (w:World) (H:Hp) (s:Shared) (e:Value) (s':Shared),CX w [] H s (fun _ _ _=>False) e s'→False) :
  PySem.W.WalkO q loose XP YP l.row.toRowW d [] (fun f vs=>PySem.call f vs):=by
 refine Att.attach_call hn hdf fun w s₀ s₁ mg mb fa o pm cd doc a vs ns G Y ho hd hcd hmg hobj hints hlen hg=>?_
 have KX:=hY w _ Y
 obtain ⟨fd,hb,hF⟩:=F w mg fa _ KX G.T.g hmg
 exact jc1 KX G.T.g G.T.b G.T.builtins G.T.nolimit hg hobj hints (Nat.le_trans hlen hn2) hr hF hb (fun H hO hS=>hsp w H a ns hlen hO hS) fun H e s'=>hCX w H s₁ e s'
def yV (s:Stmt):Arguments:=match s with
 | .FunctionDef _ a _ _ _ _ _ _ _ _=>a
 | _=>{ posonlyargs:=[],args:=[],vararg:=none,kwonlyargs:=[],kw_defaults:=[],kwarg:=none,defaults:=[] }
def zo (s:Stmt):List Stmt:=match s with
 | .FunctionDef _ _ b _ _ _ _ _ _ _=>b
 | _=>[]
def jw (s:Stmt):Scope:=match s with
 | .FunctionDef _ _ _ _ _ _ sc _ _ _=>sc
 | _=>{ kind:=.function,names:=[],isGenerator:=false,isCoroutine:=false }
abbrev CX0:CXT:=fun _ _ _ _ _ _=>False
abbrev E0:XK:=fun _ _ _=>False
theorem jeR {X:Cx}:KZ CX0 X E0:=fun _ _ _ _ _ _ _ h=>h.elim
structure Fun (K:PySem.W.Frag) (x qual:Str) (st:Stmt) (f:Addr) (fd:FuncData):Prop where
 ex:∃ (oc:Value) (od:Option Addr) (kV doc pm:Value) (an:Option Addr) (cdv ct:Value) (osl:Array (Option Value)),
  fd=PySem.W.fnOf x qual (yV st) (zo st) (jw st) .none kV doc pm an cdv ct∧K.lookup f=some ⟨oc,od,.func fd,osl⟩∧PySem.W.codeIn K cdv qual=true
 kp:PySem.W.keepIn K (.ref f)=true
section
variable {P:Program} {w:World} {K:PySem.W.Frag} {mg:Str→Option Value} {base:Heap}
theorem Fun.ok {x qual:Str} {st:Stmt} {f:Addr} {fd:FuncData} {N ps:List Str} {k:Nat} {sp:Sp} (F:Fun K x qual st f fd) (S:FnScope N ps (jw st)) (len:∀ vs H Q E,sp vs H Q E→vs.length=ps.length)
  (hbody:∀ (cdv:Value) (A:Around) (outer:List Env) (s:Shared) (H:Hp) (vs:List V) (Q:VK) (E:XK),Room k (A.deeper (envOfC qual (jw st) s.heap.objs.size f cdv))→sp vs H Q E→
   ∃ t,PSs (q0 CX0 P w K mg base N qual (jw st) f cdv A outer s H E).nox (zo st) t∧t { nx:=fun _ H'=>Q .non H',rt:=Q } (yZ N vs) H):FnOk P w K mg base CX0 (k+1) f fd ps sp:=by
 obtain ⟨oc,od,kV,doc,pm,an,cdv,ct,osl,rfl,lk,hcd⟩:=F.ex
 refine je1 lk hcd S len fun A outer s H vs Q E hr hsp=>?_
 obtain ⟨t,h,q⟩:=hbody cdv A outer s H vs Q E hr hsp
 exact ⟨t,h.nox,q⟩
theorem Fun.binds {x qual:Str} {st:Stmt} {f:Addr} {fd:FuncData} {ps:List Str} (F:Fun K x qual st f fd)
  (h:∀ (kV doc pm:Value) (an:Option Addr) (cdv ct:Value) (us:List Value),us.length=ps.length→bindArgs (PySem.W.fnOf x qual (yV st) (zo st) (jw st) .none kV doc pm an cdv ct) ⟨us,[]⟩=pure (ps.zip us)):Binds K fd ps []:=by
 obtain ⟨oc,od,kV,doc,pm,an,cdv,ct,osl,rfl,lk,hcd⟩:=F.ex
 exact .all (h kV doc pm an cdv ct)
theorem j4 {x qual:Str} {st:Stmt} {f:Addr} {oc:Value} {od an:Option Addr} {osl:Array (Option Value)} {kV doc pm cdv ct:Value} (l:K.lookup f=some ⟨oc,od,.func (PySem.W.fnOf x qual (yV st) (zo st) (jw st) .none kV doc pm an cdv ct),osl⟩)
  (c:PySem.W.codeIn K cdv qual=true) (k:PySem.W.keepIn K (.ref f)=true):Fun K x qual st f (PySem.W.fnOf x qual (yV st) (zo st) (jw st) .none kV doc pm an cdv ct):=⟨⟨oc,od,kV,doc,pm,an,cdv,ct,osl,rfl,l,c⟩,k⟩
end
theorem jeX {A:Around} {k:Nat} (hr:Room k A):A.units+1 < cLine:=Nat.lt_of_le_of_lt (Nat.add_le_add_left (by decide:1≤64) _) hr.units
theorem j8 {n:Nat} (h:n≤1000):n < sizeLine:=Nat.lt_of_le_of_lt h (by decide)
section
variable {X:Cx}
theorem pv (i:Nat) {x:Str} {pos:Pos} (hN:X.N[i]?=some x:=by rfl) (hv:Vis X.env.scope x:=by first | exact Or.inl rfl | exact Or.inr (Or.inl rfl) | exact Or.inr (Or.inr rfl)) (hd:(x == ("__debug__" : Str))=false:=by decide)
  (hcd:(x == ("__classdict__" : Str))=false:=by decide):PE X (.Name x pos) (jb4 i):=jcs hN hv hd hcd
end
theorem Ja {A B:Prop} (h:B):if false=true then A else B:=by
 rw [if_neg Bool.false_ne_true]
 exact h
theorem yl {A B:Prop} (h:A):if true=true then A else B:=by
 rw [if_pos rfl]
 exact h
theorem jU {c A B:Prop} [Decidable c] (h1:c→A) (h2:¬ c→B):if c then A else B:=by
 by_cases h:c
 ·rw [if_pos h]
  exact h1 h
 ·rw [if_neg h]
  exact h2 h
def Same (H H':Hp):Prop:=∀ b o,H b=some o→H' b=some o
theorem Same.refl (H:Hp):Same H H:=fun _ _ h=>h
theorem Same.trans {H H1 H2:Hp} (a:Same H H1) (b:Same H1 H2):Same H H2:=fun c o h=>b c o (a c o h)
theorem Same.free {H H':Hp} (e:Same H H') {l:Addr} (h:H' l=Option.none):H l=Option.none:=by
 cases q:H l with
 | none=>rfl
 | some o=>
  rw [e l o q] at h
  cases h
theorem Same.seq {K:PySem.W.Frag} {H H':Hp} {a:Addr} {xs:List V} (e:Same H H') (h:SqL K H a xs):SqL K H' a xs:=by
 rcases h with (h | ⟨o,h⟩) | h
 ·exact .inl (.inl (e _ _ h))
 ·exact .inl (.inr ⟨o,e _ _ h⟩)
 ·exact .inr h
theorem Ju {prog:Program} {w:World} {A:Around} {s:Shared} {elt target iter:Expr} {ifs:List Expr} {scope:Scope} {pos:Pos} {it acc:Value} {env:Env} {R:Result→Shared→Prop} (I:Nat→Shared→Prop)
  (turn:∀ n s,I n s→wpAny (model prog w) A (pyNext it) (fun r s1=>match r with
   | none=>R (.ok .next) s1
   | some v=>wpAny (model prog w) A (letOwnedTupleGo target it v) (fun _ s1'=>wpAny (model prog w) A (assign target env v) (fun _ s2=>
     wpAny (model prog w) A (forIn ifs true fun c r=>if r=true then do let ok ← isTrue c env (eval c env);pure (ForInStep.yield ok) else pure (ForInStep.yield r)) (fun ok s3=>
      if ok=true then wpAny (model prog w) A (eval elt env) (fun x s4=>
       wpAny (model prog w) A (call (.builtin "list.append") [acc,x]) (fun _ s5=>∃ m,m < n∧I m s5) (fun _ _=>False) s4) (fun _ _=>False) s3
      else ∃ m,m < n∧I m s3) (fun _ _=>False) s2) (fun _ _=>False) s1') (fun _ _=>False) s1) (fun _ _=>False) s)
  (n:Nat) (h:I n s):codeAny (model prog w) A (.compLoop (.ListComp elt [⟨target,iter,ifs,0⟩] scope pos) 0 it acc env) R s:=by
 have no:∀ (x:Value) (s':Shared),False→notedBy (model prog w) A env (fun e s'=>R (.error e) s') x s':=fun _ _ z=>z.elim
 refine codeAny_loop rfl I (fun n s hI=>?_) n h
 show wpAny _ A ((compTurn (.ListComp elt [⟨target,iter,ifs,0⟩] scope pos) 0 it acc env).onRaise (fun x=>do noteFrame x env;theTreesLotGoes x)) _ _ s
 refine wpAny_noted ?_
 rw [compTurn_list]
 refine wpAny_bind (wpAny_standAt (wpAny_bind (wpAny_mono (turn n s hI) (fun r s1 h1=>?_) no)))
 cases r with
 | none=>exact wpAny_pure h1
 | some v=>
  refine wpAny_bind (wpAny_mono h1 (fun _ s1' h1'=>?_) no)
  refine wpAny_bind (wpAny_mono h1' (fun _ s2 h2=>wpAny_bind (wpAny_mono h2 (fun ok s3 h3=>?_) no)) no)
  cases ok with
  | false=>exact wpAny_pure ⟨rfl,h3⟩
  | true=>
   exact wpAny_bind (wpAny_bind (wpAny_mono h3 (fun x s4 h4=>wpAny_bind (wpAny_mono h4 (fun _ s5 h5=>wpAny_pure (wpAny_pure ⟨rfl,h5⟩)) no)) no))
theorem jc9:(NameKind.free == NameKind.free)=true:=rfl
def yH (cells:List (Str×Addr)):List (Str×NameKind)→List (Str×Addr)→List (Str×Addr)
 | [],acc=>acc
 | (n,k) :: r,acc=>if k == .free then yH cells r ((n,(cells.lookup n).getD 0) :: acc) else yH cells r acc
theorem ZG {env:Env}:∀ (names:List (Str×NameKind)) (acc:List (Str×Addr)),(∀ x∈names,x.2=.free→(env.cells.lookup x.1).isSome=true)→
  (forIn names acc fun x (cs:List (Str×Addr))=>(match x with | (name,kind)=>if (kind == NameKind.free)=true then do let c ← cellOf env name;pure (ForInStep.yield ((name,c) :: cs)) else pure (ForInStep.yield cs):Sem (ForInStep (List (Str×Addr)))))=(pure (yH env.cells names acc):Sem (List (Str×Addr)))
 | [],acc,_=>by simp only [List.forIn_nil];rfl
 | (n,k) :: r,acc,h=>by
  have ih:=fun a=>ZG (env:=env) r a fun x hx=>h x (List.mem_cons_of_mem _ hx)
  rw [List.forIn_cons]
  by_cases hk:k=.free
  ·subst hk
   have q:=h (n,.free) List.mem_cons_self rfl
   obtain ⟨c,hc⟩:=Option.isSome_iff_exists.mp q
   have e:cellOf env n=pure c:=by unfold cellOf;rw [show env.cells.lookup n=some c from hc]
   simp only [beq_self_eq_true,if_true,e,pure_bind]
   rw [ih]
   show _=pure (if (NameKind.free == NameKind.free)=true then yH env.cells r ((n,(env.cells.lookup n).getD 0) :: acc) else _)
   rw [if_pos jc9,show env.cells.lookup n=some c from hc]
   rfl
  ·have hb:(k == NameKind.free)=false:=by simpa using hk
   simp only [hb,Bool.false_eq_true,if_false,pure_bind]
   rw [ih]
   show _=pure (if (k == NameKind.free)=true then _ else yH env.cells r acc)
   rw [hb]
   rfl
theorem KO {scope:Scope} {env:Env} (h:∀ x∈scope.names,x.2=.free→(env.cells.lookup x.1).isSome=true):closureFor scope env=pure (yH env.cells scope.names []):=by
 unfold closureFor
 have e:=ZG (env:=env) scope.names [] h
 simp only [bind_pure] at *
 exact e
theorem jal {cells:List (Str×Addr)}:∀ (names:List (Str×NameKind)) (acc:List (Str×Addr)),(∀ x∈names,x.2=.free→(cells.lookup x.1).isSome=true)→(∀ x c,acc.lookup x=some c→cells.lookup x=some c)→
  ∀ x c,(yH cells names acc).lookup x=some c→cells.lookup x=some c
 | [],acc,_,ha=>ha
 | (n,k) :: r,acc,h,ha=>by
  unfold yH
  by_cases hk:k=.free
  ·subst hk
   rw [if_pos jc9]
   refine jal r _ (fun x hx=>h x (List.mem_cons_of_mem _ hx)) fun x c e=>?_
   by_cases hx:x=n
   ·subst hx
    rw [List.lookup_cons_self] at e
    obtain ⟨d,hd⟩:=Option.isSome_iff_exists.mp (h (x,.free) List.mem_cons_self rfl)
    have hd':cells.lookup x=some d:=hd
    rw [hd'] at e ⊢
    exact e
   ·rw [List.lookup_cons,beq_eq_false_iff_ne.mpr hx] at e
    exact ha x c e
  ·rw [if_neg (by simpa using hk)]
   exact jal r _ (fun x hx=>h x (List.mem_cons_of_mem _ hx)) ha
theorem Y3 {cells:List (Str×Addr)}:∀ (names:List (Str×NameKind)) (acc:List (Str×Addr)) (x:Str),(acc.lookup x).isSome=true→((yH cells names acc).lookup x).isSome=true
 | [],acc,_,ha=>ha
 | (n,k) :: r,acc,x,ha=>by
  unfold yH
  split
  ·refine Y3 r _ x ?_
   rw [List.lookup_cons]
   split
   ·rfl
   ·exact ha
  ·exact Y3 r _ x ha
theorem jam {cells:List (Str×Addr)}:∀ (names:List (Str×NameKind)) (acc:List (Str×Addr)) (x:Str),(x,NameKind.free)∈names→((yH cells names acc).lookup x).isSome=true
 | [],_,_,h=>by simp at h
 | (n,k) :: r,acc,x,h=>by
  unfold yH
  rcases List.mem_cons.mp h with e | h
  ·obtain ⟨e1,e2⟩:=Prod.mk.inj e
   subst e1 e2
   rw [if_pos jc9]
   refine Y3 r _ _ ?_
   rw [List.lookup_cons_self]
   rfl
  ·split
   ·exact jam r _ x h
   ·exact jam r _ x h
theorem zz {env:Env}:∀ {names:List (Str×NameKind)} {x:Str} {k:NameKind},
  (names.map fun (n,k)=>if (k == NameKind.free && env.scope.kind == .function && env.kindOf n == some .cell) then (n,NameKind.cell) else (n,k)).lookup x=some k→
   names.lookup x=some k∨(k=.cell∧names.lookup x=some .free)
 | [],_,_,h=>by simp at h
 | (n,k') :: r,x,k,h=>by
  rw [List.map_cons] at h
  by_cases hx:x=n
  ·subst hx
   rw [List.lookup_cons_self]
   by_cases hc:(k' == NameKind.free && env.scope.kind == .function && env.kindOf x == some .cell)=true
   ·simp only [hc,if_true] at h
    rw [List.lookup_cons_self] at h
    have hk:k'=.free:=by
     simp only [Bool.and_eq_true,beq_iff_eq] at hc
     exact hc.1.1
    exact .inr ⟨(Option.some.inj h).symm,by rw [hk]⟩
   ·simp only [hc] at h
    rw [if_neg (by simp),List.lookup_cons_self] at h
    exact .inl h
  ·have e:(x == n)=false:=beq_eq_false_iff_ne.mpr hx
   have h':(r.map fun (n,k)=>if (k == NameKind.free && env.scope.kind == .function && env.kindOf n == some .cell) then (n,NameKind.cell) else (n,k)).lookup x=some k:=by
    by_cases hc:(k' == NameKind.free && env.scope.kind == .function && env.kindOf n == some .cell)=true
    ·simp only [hc,if_true] at h
     rw [List.lookup_cons,e] at h
     exact h
    ·simp only [hc] at h
     rw [if_neg (by simp),List.lookup_cons,e] at h
     exact h
   have ih:=@zz env r x k h'
   rw [List.lookup_cons,e]
   exact ih
theorem Jn {env:Env}:∀ {names:List (Str×NameKind)} {x:Str},names.lookup x=some .free→
  (names.map fun (n,k)=>if (k == NameKind.free && env.scope.kind == .function && env.kindOf n == some .cell) then (n,NameKind.cell) else (n,k)).lookup x=some .cell∨
  (names.map fun (n,k)=>if (k == NameKind.free && env.scope.kind == .function && env.kindOf n == some .cell) then (n,NameKind.cell) else (n,k)).lookup x=some .free
 | [],_,h=>by simp at h
 | (n,k') :: r,x,h=>by
  rw [List.map_cons]
  by_cases hx:x=n
  ·subst hx
   rw [List.lookup_cons_self] at h
   cases h
   by_cases hc:(NameKind.free == NameKind.free && env.scope.kind == .function && env.kindOf x == some .cell)=true
   ·simp only [hc,if_true]
    exact .inl List.lookup_cons_self
   ·simp only [hc]
    rw [if_neg (by simp)]
    exact .inr List.lookup_cons_self
  ·have e:(x == n)=false:=beq_eq_false_iff_ne.mpr hx
   rw [List.lookup_cons,e] at h
   have ih:=@Jn env r x h
   by_cases hc:(k' == NameKind.free && env.scope.kind == .function && env.kindOf n == some .cell)=true
   ·simp only [hc,if_true]
    rw [List.lookup_cons,e]
    exact ih
   ·simp only [hc]
    rw [if_neg (by simp),List.lookup_cons,e]
    exact ih
def blk (X:Cx) (scope:Scope) (own:List Str) (fr:List Nat) (s:Shared) (H:Hp) (ex:List Addr):Cx where
 prog:=X.prog
 w:=X.w
 K:=X.K
 mg:=X.mg
 base:=X.base
 A:=X.A
 N:=own++fr.map fun j=>X.N.getD j (Str.ofString "")
 s₀:=s
 H₀:=H
 env:=compEnvC scope (yH X.env.cells scope.names []) s.heap.objs.size X.env
 outer:=X.stack
 stack:=X.stack
 ex:=ex
 fn:=fun _=>false
 calm:=X.calm
 pn:=[]
 xe:=fun _ _=>False
def jdr (own:List Str) (fr:List Nat) (σ:St):St:=own.map (fun _=>none)++fr.map fun j=>(σ[j]?).join
structure CompOk (X:Cx) (scope:Scope) (fr:List Nat):Prop where
 kind:scope.kind=.function
 nocell:∀ y∈scope.names,y.2≠.cell
 loc:∀ y∈scope.names,y.2=.local→scope.names.lookup y.1=some .local
 frees:∀ y∈scope.names,y.2=.free→X.env.scope.names.lookup y.1=some .cell∨X.env.scope.names.lookup y.1=some .free
 fr:∀ j∈fr,scope.names.lookup (X.N.getD j (Str.ofString ""))=some .free
theorem jaX {X:Cx} {scope:Scope} {own:List Str} {fr:List Nat} {pins:List (Addr×Obj)} {σ:St} {H:Hp} {s:Shared} {ex:List Addr} {h1:Heap} {t1:Nat} (I:Inv X pins σ H s) (O:CompOk X scope fr)
  (hex:∀ b∈ex,J2 X pins H b∧b < s.heap.objs.size) (hns:h1.Ns s.heap.objs.size fun _=>none) (hk:∀ b o,s.heap.get? b=some o→h1.get? b=some o) :
  Inv (blk X scope own fr s H ex) [] (jdr own fr σ) H { s with heap:=h1,toks:=t1 }:=by
 have hsome:∀ x∈scope.names,x.2=.free→(X.env.cells.lookup x.1).isSome=true:=fun x hx e=>by
  obtain ⟨c,hc⟩:=I.ok.has x.1 (O.frees x hx e)
  rw [hc];rfl
 have sub:∀ x c,(yH X.env.cells scope.names []).lookup x=some c→X.env.cells.lookup x=some c:=jal scope.names [] hsome fun x c e=>by simp at e
 have hasc:∀ x,scope.names.lookup x=some .free→∃ c,(yH X.env.cells scope.names []).lookup x=some c:=fun x e=>Option.isSome_iff_exists.mp (jam scope.names [] x (PySem.mem_of_lookup e))
 have hcne:∀ x c,X.env.cells.lookup x=some c→c < s.heap.objs.size:=fun x c e=>by
  obtain ⟨v,q⟩:=I.cell x c e
  exact q.lt
 have hN:σ.length=X.N.length:=I.len
 refine ⟨⟨I.ok.mod,O.kind,I.ok.glob,I.ok.blt,Nat.le_refl _,fun x y c e1 e2=>I.ok.inj x y c (sub x c e1) (sub y c e2),fun x hx=>?_,fun x c z=>absurd z (by simp [blk]),I.ok.hd,I.ok.frames,.inl rfl,fun b hb=>⟨Nat.ne_of_lt (hex b hb).2,fun x c e=>(hex b hb).1.2.2.2.2.1 x c (sub x c e)⟩,
  fun b o e=>I.bs b o e,Nat.le_trans I.ok.bsz I.sz,fun b o e hb=>?_,fun b hb z=>?_,I.stack,I.stkFree⟩,
  rfl,I.bare,Un.kept hk,⟨_,hns,fun i x v e1 e2 e3=>?_⟩,fun x c e=>?_,I.fresh,fun x c e=>I.freeC x c (sub x c e),fun p hp=>absurd hp (by simp [blk]),I.hok.kept hk,?_⟩
 ·have hx':(relabel scope X.env).names.lookup x=some .cell∨(relabel scope X.env).names.lookup x=some .free:=hx
  rcases hx' with hx | hx
  ·rcases zz hx with q | ⟨_,q⟩
   ·exact absurd rfl (O.nocell _ (PySem.mem_of_lookup q))
   ·exact hasc x q
  ·rcases zz hx with q | ⟨q,_⟩
   ·exact hasc x q
   ·cases q
 ·rcases (hex b hb).1.2.2.2.1 with z | z
  ·exact I.ok.noex b o e z
  ·exact absurd (Nat.lt_of_lt_of_le (Heap.lt_size e) (Nat.le_trans I.ok.bsz z)) (Nat.lt_irrefl _)
 ·obtain ⟨_,f1,f2,_⟩:=(hex b hb).1
  rcases List.mem_cons.mp (I.stkSub b z) with q | q
  ·exact f1 q
  ·exact f2 q
 ·have e1':(own++fr.map fun j=>X.N.getD j (Str.ofString ""))[i]?=some x:=e1
  unfold jdr at e2
  have hi:own.length≤i:=by
   by_cases h:own.length≤i
   ·exact h
   ·rw [List.getElem?_append_left (by simpa using Nat.lt_of_not_le h),List.getElem?_map] at e2
    cases q:own[i]? with
    | none=>rw [q] at e2;cases e2
    | some z=>rw [q] at e2;cases e2
  rw [List.getElem?_append_right hi,List.getElem?_map] at e1'
  rw [List.getElem?_append_right (by simpa using hi),List.getElem?_map,List.length_map] at e2
  cases q:fr[i - own.length]? with
  | none=>rw [q] at e2;cases e2
  | some j=>
   rw [q] at e1' e2
   have e1'':X.N.getD j (Str.ofString "")=x:=Option.some.inj e1'
   have e2':(σ[j]?).join=some v:=Option.some.inj e2
   have e2'':σ[j]?=some (some v):=by
    cases z:σ[j]? with
    | none=>rw [z] at e2';cases e2'
    | some y=>rw [z] at e2';rw [← e2'];rfl
   have hj:j < X.N.length:=by rw [← hN];exact (List.getElem?_eq_some_iff.mp e2'').1
   have e3':X.N[j]?=some x:=by
    rw [List.getElem?_eq_getElem hj,← e1'',List.getD_eq_getElem?_getD,List.getElem?_eq_getElem hj]
    rfl
   have hf:=O.fr j (List.mem_of_getElem? q)
   rw [e1''] at hf
   have hv:=O.frees _ (PySem.mem_of_lookup hf) rfl
   obtain ⟨m,_,hl⟩:=I.loc
   obtain ⟨u,ru,lk⟩:=hl j x v e3' e2'' (.inr hv)
   refine ⟨u,ru,.inr ⟨?_,?_⟩⟩
   ·exact Jn hf
   ·obtain ⟨c,hc⟩:=hasc x hf
    refine ⟨c,hc,?_⟩
    rcases lk with ⟨k,_⟩ | ⟨_,c',hc',z⟩
    ·have k':X.env.scope.names.lookup x=some .local:=k
     rcases hv with hv | hv <;> · rw [k'] at hv;cases hv
    ·have:=sub x c hc
     rw [hc'] at this
     cases this
     obtain ⟨o,ho,hd⟩:=z
     exact ⟨o,hk _ _ ho,hd⟩
 ·obtain ⟨v,o,ho,hd⟩:=I.cell x c (sub x c e)
  exact ⟨v,o,hk _ _ ho,hd⟩
 ·show (jdr own fr σ).length=(own++fr.map fun j=>X.N.getD j (Str.ofString "")).length
  unfold jdr
  rw [List.length_append,List.length_append,List.length_map,List.length_map,List.length_map]
theorem Jx {X:Cx} {scope:Scope} {own:List Str} {fr:List Nat} {pins:List (Addr×Obj)} {σ σ':St} {H H':Hp} {s s':Shared} {ex:List Addr} (I:Inv X pins σ H s) (hex:∀ b∈ex,J2 X pins H b∧b < s.heap.objs.size)
  (J:Inv (blk X scope own fr s H ex) [] σ' H' s') {h':Heap} (hs:Heap.SameBut s.heap.objs.size s'.heap h'):Inv X pins σ H' { s' with heap:=h' }:=by
 have hC:H' s.heap.objs.size=none:=J.free
 have u:Un (frs X.stack) ex H H' s.heap s'.heap:=J.base
 have ne:∀ b o,s.heap.get? b=some o→b≠s.heap.objs.size:=fun b o e=>Nat.ne_of_lt (Heap.lt_size e)
 have at':∀ b o,b≠s.heap.objs.size→s'.heap.get? b=some o→h'.get? b=some o:=fun b o hb e=>(hs.2 b hb).trans e
 refine I.call' (ch:=ex) J.os ⟨fun b o e n hb hx=>?_,fun b o e n hb hx=>?_,u.free,fun b o e hx=>?_,u.tups,u.frzs,u.tbls⟩ (fun b o e=>?_) J.bare fun b hb=>?_
 ·exact at' b o (ne b o e) (u.keep b o e n hb hx)
 ·obtain ⟨sl,q⟩:=u.slot b o e n hb hx
  exact ⟨sl,at' b _ (ne b o e) q⟩
 ·obtain ⟨o',q⟩:=u.there b o e hx
  exact ⟨o',at' b _ (ne b o e) q⟩
 ·refine (J.hok b o e).stay (fun c v hc q=>at' c v ?_ q) (fun _ q=>q) fun _ _ q=>q
  rintro z
  rcases hc with y | y
  ·rw [y] at z;rw [z,hC] at e;cases e
  ·rw [z,hC] at y;cases y
 ·obtain ⟨f0,f1,f2,f3,f4,f5⟩:=(hex b hb).1
  exact ⟨f3,f1,f4,f5⟩
def PTs (X:Cx) (ifs:List Expr) (t:TT):Prop:=
 ∀ (pins:List (Addr×Obj)) (s:Shared) (σ:St) (H:Hp) (Q:Bool→Hp→Prop),Inv X pins σ H s→t σ H Q→
  wpAny (model X.prog X.w) X.A (forIn ifs true fun c r=>if r=true then do let ok ← isTrue c X.env (eval c X.env);pure (ForInStep.yield ok) else pure (ForInStep.yield r)) (TP X pins σ Q) X.xe s
def JB:TT:=fun _ H Q=>Q true H
theorem jdQ {X:Cx}:PTs X [] JB:=fun _ _ _ H _ I h=>wpAny_tests_nil ⟨H,I,h⟩
theorem jdP {X:Cx} {c:Expr} {t:TT} (h:PT X c t):PTs X [c] t:=fun pins s σ H Q I q=>wpAny_tests_one (h pins s σ H Q I q)
def Y8 (J:It) (p:Addr) (g:TG) (tt:TT) (te:TE) (Q:VK) (σ:St) (H:Hp):Prop:=∃ W:Nat→Nat→St→Hp→Prop,(∃ m,W 0 m σ H)∧
 ∀ i m σ' H',W i m σ' H'→(J.stop i H'∧Q (.ref p) H')∨(J.go i H'∧∃ N:St→Hp→Prop,(∀ σ3 H3,N σ3 H3→∃ m',m' < m∧W (i+1) m' σ3 H3)∧∀ x H2,J.yld i H' x H2→g x σ' H2 fun σ3 H3=>tt σ3 H3 fun c H4=>
  if c=true then te σ3 H4 fun y H5=>∃ ys,H5 p=some (.lst ys)∧ys.length < sizeLine∧N σ3 (upd H5 p (.lst (ys++[y]))) else N σ3 H4)
def Yg (own:List Str) (fr:List Nat) (wi:TI) (g:TG) (tt:TT) (te:TE):TE:=fun σ H Q=>wi σ H fun J H1=>∀ p,H1 p=none→Y8 J p g tt te Q (jdr own fr σ) (upd H1 p (.lst []))
theorem jdh {X:Cx} {scope:Scope} {own:List Str} {fr:List Nat} {elt tg iter:Expr} {ifs:List Expr} {pos:Pos} {wi:TI} {g:TG} {tt:TT} {te:TE} {use:Option (Value→Sem Unit)} (hc:X.calm=true) (O:CompOk X scope fr) (hi:PI X tg iter wi)
  (hb:∀ s H ex,PG (blk X scope own fr s H ex) tg g∧PTs (blk X scope own fr s H ex) ifs tt∧PE (blk X scope own fr s H ex) elt te)
  (hs:∀ x,foldedSetIterable iter X.env x=pure x) {pins:List (Addr×Obj)} {s:Shared} {σ:St} {H:Hp} {Q:VK} {R:Value→Shared→Prop} (I:Inv X pins σ H s) (h:Yg own fr wi g tt te σ H Q) (hx:∀ e s',X.xe e s'↔False)
  (fin:∀ (p C:Addr) (H':Hp) (s':Shared) (m:Str→Option Value),s'.heap.Ns C m→H' C=none→C≠X.env.locals→(∀ x c,X.env.cells.lookup x=some c→c≠C)→Inv X pins σ H' s'→(∀ h',Heap.SameBut C s'.heap h'→Inv X pins σ H' { s' with heap:=h' })→Q (.ref p) H'→
   compPost (model X.prog X.w) X.A X.xe use R (.ref p) C (.ok .next) s') :
  wpAny (model X.prog X.w) X.A (comprehension (.ListComp elt [⟨tg,iter,ifs,0⟩] scope pos) scope X.env (firstIterPos [⟨tg,iter,ifs,0⟩] pos) (newList []) false (eval iter X.env) use) R X.xe s:=by
 have hsome:∀ x∈scope.names,x.2=.free→(X.env.cells.lookup x.1).isSome=true:=fun x hx' e=>by
  obtain ⟨c,hc⟩:=I.ok.has x.1 (O.frees x hx' e)
  rw [hc];rfl
 have no:∀ (E:Value→Shared→Prop) (x:Value) (s':Shared),X.xe x s'→E x s':=fun E x s' z=>((hx x s').mp z).elim
 refine wpAny_comprehension_free (cl:=yH X.env.cells scope.names []) rfl hs (KO hsome) O.kind O.loc ?_
 refine thn (hi pins s σ H _ I h) fun v s1 h1=>thn h1 fun itv s2 h2=>?_
 obtain ⟨it,fp,tn,J,H2,e,I2,T,st2,f2,q2⟩:=h2
 subst e
 refine wpAny_newObj_type ?_
 have nw:H2 s2.heap.objs.size=none:=I2.fresh
 obtain ⟨W,⟨m0,w0⟩,turn⟩:=q2 _ nw
 generalize hp:s2.heap.objs.size=p at *
 have I3:Inv X pins σ (upd H2 p (.lst [])) { s2 with heap:=s2.heap.push { cls:=.type "list",dict:=none,data:=.seq ([]:List Value).toArray } }:=by
  have:=I2.lnew (ys:=[]) (its:=[]) (t':=s2.toks) .nil (Nat.zero_le _)
  rw [hp] at this
  exact this
 have lt2:∀ b∈fp,b < s2.heap.objs.size:=fun b hb=>by
  obtain ⟨o,ho,_⟩:=T.obj _ _ st2 b hb
  exact Heap.lt_size ho
 have fpn:∀ b∈fp,(upd H2 p (.lst [])) b=none:=fun b hb=>by
  rw [jx (by rw [← hp];exact Nat.ne_of_lt (lt2 b hb))]
  exact (f2 b hb).1
 generalize hs3:({ s2 with heap:=s2.heap.push { cls:=.type "list",dict:=none,data:=.seq ([]:List Value).toArray } }:Shared)=s3 at *
 have sz3:s3.heap.objs.size=p+1:=by
  rw [← hs3]
  show (s2.heap.push _).objs.size=_
  rw [Heap.size_push,hp]
 have st3:tn 0 s3.heap:=T.keep 0 _ _ st2 fun b hb o e=>by
  rw [← hs3]
  exact Heap.get?_push_of_some _ e
 refine wpAny_newFunctionEnv O.nocell (by intro y hy;simp at hy) (fun h4 hns4 hsb4=>?_) O.kind
 have k4:∀ b o,s3.heap.get? b=some o→h4.get? b=some o:=fun b o e=>hsb4.extBut b o (Nat.ne_of_lt (Heap.lt_size e)) (Heap.get?_push_of_some _ e)
 have hns4':h4.Ns s3.heap.objs.size fun _=>none:=by
  have z:(fun x:Str=>([]:List (Str×Value)).reverse.lookup x)=fun _=>none:=by funext x;rfl
  rw [z] at hns4
  exact hns4
 have fo:∀ b∈fp,J2 X pins (upd H2 p (.lst [])) b∧b < s3.heap.objs.size:=fun b hb=>⟨⟨fpn b hb,(f2 b hb).2⟩,by rw [sz3,← hp];exact Nat.lt_succ_of_lt (lt2 b hb)⟩
 have I4:=jaX (own:=own) (fr:=fr) (t1:=s3.toks+([]:List (Str×Value)).length) I3 O fo hns4' k4
 have st4:tn 0 h4:=T.keep 0 _ _ st3 fun b hb o e=>k4 b o e
 obtain ⟨hg,ht,he⟩:=hb s3 (upd H2 p (.lst [])) fp
 have stat:∀ {H':Hp} {pn:List (Addr×Obj)} {s':Shared} {σ':St},Inv (blk X scope own fr s3 (upd H2 p (.lst [])) fp) [] σ' H' s'→(∀ b∈fp,H' b=none)→∀ b∈fp,J2 (blk X scope own fr s3 (upd H2 p (.lst [])) fp) [] H' b:=fun {H' pn s' σ'} J hn b hb'=>
  ⟨hn b hb',(J.ok.exf b hb').1,J.ok.exfs b hb',.inl hb',(J.ok.exf b hb').2,fun p hp=>absurd hp (by simp [blk])⟩
 have nocells:∀ x c,X.env.cells.lookup x=some c→c≠s3.heap.objs.size:=fun x c e=>by
  obtain ⟨v,q⟩:=I3.cell x c e
  exact Nat.ne_of_lt q.lt
 have loop:∀ s5:Shared,s5={ s3 with heap:=h4,toks:=s3.toks+([]:List (Str×Value)).length }→
   codeAny (model X.prog X.w) X.A (.compLoop (.ListComp elt [⟨tg,iter,ifs,0⟩] scope pos) 0 (.ref it) (.ref p) (blk X scope own fr s3 (upd H2 p (.lst [])) fp).env) (compPost (model X.prog X.w) X.A X.xe use R (.ref p) s3.heap.objs.size) s5:=by
  rintro s5 rfl
  refine Ju (fun n s'=>∃ i σ' H',Inv (blk X scope own fr s3 (upd H2 p (.lst [])) fp) [] σ' H' s'∧tn i s'.heap∧(∀ b∈fp,H' b=none)∧W i n σ' H') ?_ m0 ⟨0,_,_,I4,st4,fpn,w0⟩
  rintro n s6 ⟨i,σ6,H6,I6,st6,fr6,w6⟩
  rcases turn i n σ6 H6 w6 with ⟨stop,qn⟩ | ⟨go,N,hN,step⟩
  ·refine thn (T.done (blk X scope own fr s3 (upd H2 p (.lst [])) fp) rfl rfl rfl hc i [] s6 σ6 H6 _ I6 (stat (pn:=[]) I6 fr6) st6 stop) fun r s7 ⟨hr,I7⟩=>?_
   subst hr
   obtain ⟨m,hm,_⟩:=I7.loc
   exact fin p _ H6 s7 m hm I7.free (Nat.ne_of_gt I3.lt) nocells (Jx I3 fo I7 (Heap.SameBut.refl ..)) (fun h' hs'=>Jx I3 fo I7 hs') qn
  ·refine thn (T.item (blk X scope own fr s3 (upd H2 p (.lst [])) fp) rfl rfl rfl hc i [] s6 σ6 H6 _ I6 (stat (pn:=[]) I6 fr6) st6 go) fun r s7 ⟨u,hr,h7⟩=>?_
   subst hr
   refine thn h7 fun _ s8 ⟨x,H8,I8,r8,y8,st8,fr8⟩=>?_
   have I8':=I8.pinned (stat (pn:=[]) I8 fr8) (T.obj _ _ st8)
   refine thn (hg _ s8 σ6 H8 x u _ I8' r8 (step x H8 y8)) fun _ s9 ⟨σ9,H9,I9,q9⟩=>?_
   refine thn (ht _ s9 σ9 H9 _ I9 q9) fun ok s10 ⟨H10,I10,q10⟩=>?_
   have again:∀ {H11:Hp} {s11:Shared},Inv (blk X scope own fr s3 (upd H2 p (.lst [])) fp) ([]++yr fp s8.heap) σ9 H11 s11→(∃ m',m' < n∧W (i+1) m' σ9 H11)→
     ∃ m,m < n∧∃ i σ' H',Inv (blk X scope own fr s3 (upd H2 p (.lst [])) fp) [] σ' H' s11∧tn i s11.heap∧(∀ b∈fp,H' b=none)∧W i m σ' H':=fun {H11 s11} I11 ⟨m',hm,w11⟩=>by
    refine ⟨m',hm,i+1,σ9,H11,I11.unpinned,T.keep _ _ _ st8 fun b hb' o e=>(I11.pin (b,o) (List.mem_append_right _ (List.mem_append_right _ (zb hb' e)))).1,fun b hb'=>?_,w11⟩
    obtain ⟨o,e,d⟩:=T.obj _ _ st8 b hb'
    exact (I11.pin (b,o) (List.mem_append_right _ (List.mem_append_right _ (zb hb' e)))).2.1
   cases ok with
   | false=>
    rw [if_neg Bool.false_ne_true] at q10 ⊢
    exact again I10 (hN _ _ q10)
   | true=>
    rw [if_pos rfl] at q10 ⊢
    refine thn (he _ s10 σ9 H10 _ I10 q10) fun yv s11 ⟨y,H11,I11,r11,ys,hys,hlen,q11⟩=>?_
    have ap:=za (X:=blk X scope own fr s3 (upd H2 p (.lst [])) fp) ([]++yr fp s8.heap) s11 σ9 H11 (.ref p) [y] (.ref p) [yv] (fun _ H12=>∃ m',m' < n∧W (i+1) m' σ9 H12) I11 rfl (.cons r11 .nil) ⟨p,ys,y,rfl,rfl,hys,hlen,hN _ _ q11⟩
    exact thn ap fun _ s12 ⟨_,H12,I12,_,q12⟩=>again I12 q12
 refine codeAny_compStart_list (loop _ rfl) (T.self X.A 0 _ _ _ st4 (loop _ rfl))
theorem jd4 {X:Cx} {scope:Scope} {elt tg iter:Expr} {ifs:List Expr} {pos:Pos} {wi:TI} {g:TG} {tt:TT} {te:TE} (own:List Str) (fr:List Nat) (hc:X.calm=true) (O:CompOk X scope fr) (hi:PI X.nox tg iter wi)
  (hb:∀ s H ex,PG (blk X.nox scope own fr s H ex) tg g∧PTs (blk X.nox scope own fr s H ex) ifs tt∧PE (blk X.nox scope own fr s H ex) elt te)
  (hs:∀ x,foldedSetIterable iter X.env x=pure x:=by intro _;rfl):PE X.nox (.ListComp elt [⟨tg,iter,ifs,0⟩] scope pos) (Yg own fr wi g tt te):=by
 intro pins s σ H Q I h
 rw [eval_ListComp]
 refine jdh (X:=X.nox) (use:=none) (Q:=Q) hc ⟨O.kind,O.nocell,O.loc,O.frees,O.fr⟩ hi hb hs I h (fun _ _=>Iff.rfl) fun p C H' s' m hm hC _ _ I' back q=>?_
 exact ⟨m,hm,fun h' hs'=>⟨.ref p,H',back h' hs',rfl,q⟩⟩
section
variable {p:Addr} {g:TG} {tt:TT} {te:TE} {σ:St} {H:Hp} {Q:VK}
theorem ja4 (J:It) (n:Nat) (Pv:Nat→St→Hp→Prop) (h0:Pv 0 σ H) (stop:∀ σ' H',Pv n σ' H'→J.stop n H') (go:∀ i σ' H',i < n→Pv i σ' H'→J.go i H')
  (hs:∀ i σ' H',i < n→Pv i σ' H'→∀ x H2,J.yld i H' x H2→g x σ' H2 fun σ3 H3=>tt σ3 H3 fun c H4=>if c=true then te σ3 H4 fun y H5=>∃ ys,H5 p=some (.lst ys)∧ys.length < sizeLine∧Pv (i+1) σ3 (upd H5 p (.lst (ys++[y]))) else Pv (i+1) σ3 H4)
  (hd:∀ σ' H',Pv n σ' H'→Q (.ref p) H'):Y8 J p g tt te Q σ H:=by
 refine ⟨fun i m σ H=>m=n - i∧i≤n∧Pv i σ H,⟨n,by simp,Nat.zero_le _,h0⟩,?_⟩
 rintro i m σ1 H1 ⟨rfl,hi,pv⟩
 by_cases hlt:i < n
 ·exact .inr ⟨go i σ1 H1 hlt pv,Pv (i+1),fun σ3 H3 q=>⟨n - (i+1),by omega,rfl,hlt,q⟩,hs i σ1 H1 hlt pv⟩
 ·have e:i=n:=by omega
  subst e
  exact .inl ⟨stop σ1 H1 pv,hd σ1 H1 pv⟩
theorem kR {lo:Int} {n:Nat} (Pv:Nat→St→Hp→Prop) (h0:Pv 0 σ H)
  (hs:∀ i σ' H',i < n→Pv i σ' H'→g (.int (lo+i)) σ' H' fun σ3 H3=>tt σ3 H3 fun c H4=>if c=true then te σ3 H4 fun y H5=>∃ ys,H5 p=some (.lst ys)∧ys.length < sizeLine∧Pv (i+1) σ3 (upd H5 p (.lst (ys++[y]))) else Pv (i+1) σ3 H4)
  (hd:∀ σ' H',Pv n σ' H'→Q (.ref p) H'):Y8 (Itr lo n) p g tt te Q σ H:=
 ja4 (Itr lo n) n Pv h0 (fun _ _ _=>Nat.le_refl _) (fun i _ _ h _=>h) (fun i σ' H' h pv x H2 y=>by
  obtain ⟨e1,e2⟩:=y
  subst e1 e2
  exact hs i σ' _ h pv) hd
theorem Yu {K:PySem.W.Frag} {a:Addr} {xs:List V} (Pv:Nat→St→Hp→Prop) (h0:Pv 0 σ H) (hl:∀ i σ' H',i≤xs.length→Pv i σ' H'→SqL K H' a xs)
  (hs:∀ i x σ' H',xs[i]?=some x→Pv i σ' H'→g x σ' H' fun σ3 H3=>tt σ3 H3 fun c H4=>if c=true then te σ3 H4 fun y H5=>∃ ys,H5 p=some (.lst ys)∧ys.length < sizeLine∧Pv (i+1) σ3 (upd H5 p (.lst (ys++[y]))) else Pv (i+1) σ3 H4)
  (hd:∀ σ' H',Pv xs.length σ' H'→Q (.ref p) H'):Y8 (Itl K a) p g tt te Q σ H:=
 ja4 (Itl K a) xs.length Pv h0 (fun σ' H' pv=>⟨xs,hl _ σ' H' (Nat.le_refl _) pv,Nat.le_refl _⟩) (fun i σ' H' h pv=>⟨xs,xs[i],hl i σ' H' (Nat.le_of_lt h) pv,by simp [h]⟩) (fun i σ' H' h pv x H2 y=>by
  obtain ⟨e1,e2⟩:=y
  subst e1
  exact hs i x σ' _ (e2 xs (hl i σ' _ (Nat.le_of_lt h) pv)) pv) hd
end
inductive D where
 | int (i:Int) | str (x:Str) | tup (ds:List D)
mutual
def Held (H:Hp):D→V→Prop
 | .int i,v=>v=.int i
 | .str x,v=>v=.str x
 | .tup ds,v=>∃ a xs,v=.ref a∧H a=some (.tup xs)∧HeldL H ds xs
def HeldL (H:Hp):List D→List V→Prop
 | [],vs=>vs=[]
 | d :: ds,vs=>∃ v r,vs=v :: r∧Held H d v∧HeldL H ds r
end
mutual
theorem Held.mono {H H':Hp} (e:Same H H'):∀ {d:D} {v:V},Held H d v→Held H' d v
 | .int i,v,h=>by unfold Held at h ⊢;exact h
 | .str x,v,h=>by unfold Held at h ⊢;exact h
 | .tup ds,v,h=>by
  unfold Held at h ⊢
  obtain ⟨a,xs,e1,e2,e3⟩:=h
  exact ⟨a,xs,e1,e a _ e2,HeldL.mono e e3⟩
theorem HeldL.mono {H H':Hp} (e:Same H H'):∀ {ds:List D} {vs:List V},HeldL H ds vs→HeldL H' ds vs
 | [],vs,h=>by unfold HeldL at h ⊢;exact h
 | d :: ds,vs,h=>by
  unfold HeldL at h ⊢
  obtain ⟨v,r,e1,e2,e3⟩:=h
  exact ⟨v,r,e1,Held.mono e e2,HeldL.mono e e3⟩
end
theorem kP {H:Hp} {i:Int}:Held H (.int i) (.int i):=by unfold Held;rfl
theorem jj {H:Hp} {x:Str}:Held H (.str x) (.str x):=by unfold Held;rfl
theorem jQ {H:Hp} {a:Addr} {xs:List V} {ds:List D} (e:H a=some (.tup xs)) (h:HeldL H ds xs):Held H (.tup ds) (.ref a):=by unfold Held;exact ⟨a,xs,rfl,e,h⟩
theorem jt {H:Hp}:HeldL H [] []:=by unfold HeldL;rfl
theorem jh {H:Hp} {d:D} {ds:List D} {v:V} {r:List V} (h:Held H d v) (t:HeldL H ds r):HeldL H (d :: ds) (v :: r):=by unfold HeldL;exact ⟨v,r,rfl,h,t⟩
theorem HeldL.length {H:Hp}:∀ {ds:List D} {vs:List V},HeldL H ds vs→ds.length=vs.length
 | [],vs,h=>by unfold HeldL at h;subst h;rfl
 | d :: ds,vs,h=>by
  unfold HeldL at h
  obtain ⟨v,r,e1,_,e3⟩:=h
  subst e1
  rw [List.length_cons,List.length_cons,HeldL.length e3]
theorem HeldL.get {H:Hp}:∀ {ds:List D} {vs:List V} {j:Nat} {d:D},HeldL H ds vs→ds[j]?=some d→∃ v,vs[j]?=some v∧Held H d v
 | [],_,_,_,_,e=>by simp at e
 | d :: ds,vs,0,d',h,e=>by
  unfold HeldL at h
  obtain ⟨v,r,e1,e2,e3⟩:=h
  simp at e;subst e e1
  exact ⟨v,rfl,e2⟩
 | d :: ds,vs,j+1,d',h,e=>by
  unfold HeldL at h
  obtain ⟨v,r,e1,e2,e3⟩:=h
  subst e1
  obtain ⟨w,h1,h2⟩:=HeldL.get (j:=j) (d:=d') e3 (by simpa using e)
  exact ⟨w,by simpa using h1,h2⟩
mutual
def D.depth:D→Nat
 | .int _=>0
 | .str _=>0
 | .tup ds=>D.depthL ds+1
def D.depthL:List D→Nat
 | []=>0
 | d :: ds=>max (D.depth d) (D.depthL ds)
end
theorem D.depthL_get:∀ {ds:List D} {j:Nat} {d:D},ds[j]?=some d→d.depth≤D.depthL ds
 | [],_,_,e=>by simp at e
 | d :: ds,0,d',e=>by simp at e;subst e;unfold D.depthL;exact Nat.le_max_left _ _
 | d :: ds,j+1,d',e=>by unfold D.depthL;exact Nat.le_trans (D.depthL_get (j:=j) (by simpa using e)) (Nat.le_max_right _ _)
section
variable {prog:Program} {w:World} {A:Around} {E:Value→Shared→Prop}
theorem Yt {it t:Addr} {items:Array Value} (hne:t≠it):∀ (n i:Nat) (s:Shared) (Q:List Value→Shared→Prop),s.heap.IsListIter it t i→s.heap.IsList t items→i+n≤items.size→
  (∀ h',h'.IsListIter it t (i+n)→Heap.SameBut it s.heap h'→Q ((items.toList.drop i).take n) { s with heap:=h' })→wpAny (model prog w) A (draw (.ref it) n) Q E s
 | 0,i,s,Q,hit,_,_,hQ=>by
  show wpAny _ _ (pure []) Q E s
  exact wpAny_pure (by simpa using hQ s.heap hit (Heap.SameBut.refl ..))
 | n+1,i,s,Q,hit,ht,hle,hQ=>by
  have hlt:i < items.size:=by omega
  show wpAny _ _ (pyNext (.ref it) >>= _) Q E s
  refine wpAny_bind (wpAny_pyNext_list_item hit ht (x:=items[i]) (by simp [hlt]) fun h1 hit1 hs1=>?_)
  refine wpAny_bind (wpAny_holding (Yt hne n (i+1) _ _ hit1 (ht.extBut hs1.extBut hne) (by omega) fun h2 hit2 hs2=>wpAny_pure ?_))
  have hd:items.toList.drop i=items[i] :: items.toList.drop (i+1):=by simp [List.drop_eq_getElem_cons,hlt]
  have:=hQ h2 (by rw [show i+(n+1)=i+1+n by omega];exact hit2) (hs1.trans hs2)
  rw [hd,List.take_succ_cons] at this
  exact this
theorem JA {s:Shared} {t:Addr} {items:Array Value} {Q:List Value→Shared→Prop} (hh:A.handled=none) (ht:s.heap.IsList t items)
  (hQ:∀ h',Heap.ExtBut s.heap.objs.size s.heap h'→Q items.toList { s with heap:=h' }):wpAny (model prog w) A (unpackItems (.ref t) items.size none) Q E s:=by
 have hlt:t≠s.heap.objs.size:=by obtain ⟨o,ho,_⟩:=ht;exact Nat.ne_of_lt (Heap.lt_size ho)
 unfold unpackItems
 refine wpAny_bind ?_
 unfold notIterableAtAll
 refine wpAny_bind (wpAny_specialOf ht.typeIs slot_list_iter.lookup ?_)
 refine wpAny_pure ?_
 simp only [Bool.false_eq_true,if_false]
 refine wpAny_bind (wpAny_holding (wpAny_pyIter_list ht ?_))
 refine wpAny_bind (wpAny_holding (Yt hlt items.size 0 _ _ ⟨_,Heap.get?_push_size _ rfl,rfl,rfl⟩ (ht.at fun o e=>Heap.get?_push_of_some _ e) (by omega) fun h1 hit1 hs1=>?_))
 have hall:List.take items.size (List.drop 0 items.toList)=items.toList:=by
  rw [List.drop_zero];exact List.take_of_length_le (by simp)
 rw [hall]
 rw [if_neg (by simp)]
 have ht1:h1.IsList t items:=(ht.at fun o e=>Heap.get?_push_of_some _ e).extBut hs1.extBut hlt
 refine wpAny_bind (wpAny_holding (wpAny_pyNext_list_end hh hit1 ht1 (by simp) fun h2 he2=>?_))
 simp only [Option.isSome_none,Bool.false_eq_true,if_false]
 refine wpAny_pure (hQ h2 fun b o hb e=>he2 b o hb (hs1.extBut b o hb (Heap.get?_push_of_some _ e)))
theorem Jy {s:Shared} {env:Env} {elts:List Expr} {x1} {pos:Pos} {t:Addr} {items:Array Value} {Q:Unit→Shared→Prop} (hh:A.handled=none) (ht:s.heap.IsList t items)
  (hn:(assignEach elts env).length=items.size) (hstar:(assignEach elts env).findIdx? (·.1)=none)
  (h:∀ h',Heap.ExtBut s.heap.objs.size s.heap h'→wpAny (model prog w) A (assignInOrder ((assignEach elts env).map (·.2)) items.toList) Q E { s with heap:=h' }) :
  wpAny (model prog w) A (assign (.Tuple elts x1 pos) env (.ref t)) Q E s:=by
 rw [assign_Tuple]
 refine wpAny_bind (wpAny_standAt ?_)
 unfold unpack
 rw [hn,hstar]
 exact wpAny_bind (wpAny_holding (JA hh ht h))
end
def jgm (K:PySem.W.Frag) (n:Nat) (t:TGs):TG:=fun v σ H Q=>∃ a xs,v=.ref a∧SqL K H a xs∧xs.length=n∧t xs σ H Q
theorem jfn {X:Cx} {pos:Pos} {es:List Expr} {k:Nat} {t:TGs} {n:Nat} (hc:X.calm=true) (h:PGs X es t)
  (hn:(assignEach es X.env).length=n:=by rfl) (hst:(assignEach es X.env).findIdx? (·.1)=none:=by rfl):PG X (.Tuple es k pos) (jgm X.K n t):=by
 intro pins s σ H v u Q I r hw
 obtain ⟨a,xs,e1,hq,hl,hw⟩:=hw
 subst e1
 cases r
 obtain ⟨its,rv,ht,hz⟩:=I.list hq
 refine Jy (I.ok.hd hc) ht.isList (by simp [hn,← hl,rv.length]) hst fun h' hx=>?_
 have I1:Inv X pins σ H { s with heap:=h' }:=I.kept (t':=s.toks) fun b o e=>hx b o (Nat.ne_of_lt (Heap.lt_size e)) e
 exact h pins _ σ H xs _ Q I1 (by simpa using rv) hw
theorem yx {X:Cx}:OpR X (binaryOp .FloorDiv) (rI (fun _ j=>0 < j∧j < 2 ^ 200) fun i j=>.int (i / j)):=opI fun i j _ _ _ _ _ hc q=>by
 refine floordiv_int (by omega) ?_ (.inl (PyProof.noPylong_of_log2 ?_))
 ·rw [Int.fdiv_eq_ediv_of_nonneg _ (by omega)]
  exact q
 ·have h0:j.natAbs≠0:=by omega
  exact Nat.lt_trans ((Nat.log2_lt h0).mpr (show j.natAbs < 2 ^ 200 by omega)) (by decide)
def qk:Expr→Bool
 | .Starred _ _=>false
 | _=>true
theorem zg {e:Expr} (h:qk e=true) (qQ:List Expr) (env:Env):starEach (e :: qQ) env=(false,eval e env) :: starEach qQ env:=by
 cases e <;> first | rfl | cases h
theorem y6 (pos:Pos) (env:Env):∀ es:List Expr,es.all qk=true→(backTo pos (starEach es env)).any (·.1)=false
 | [],_=>rfl
 | e :: es,h=>by
  rw [List.all_cons,Bool.and_eq_true] at h
  rw [zg h.1]
  have ih:=y6 pos env es h.2
  show (false || (backTo pos (starEach es env)).any (·.1))=false
  rw [ih]
  rfl
theorem Kz {X:Cx} {e:Expr} {es:List Expr} {te:TE} {t:TA} (ha:PE X e te) (hr:PA X es t) (hp:qk e=true:=by rfl):PA X (e :: es) (jaC te t):=jd6 ha hr (zg hp es X.env)
theorem Zu {X:Cx} {x:Str} {p pos:Pos} {e:Expr} {es:List Expr} {t:TA} {id:String} {r:List V→Hp→VK→Prop} (hc:q4 X (.builtin id) r) (hg:Gl X x) (hm:X.mg x=none) (hv:bootBuiltins x=some (.builtin id)) (ha:PA X (e :: es) t) (hp:(e :: es).all qk=true:=by rfl) (hn:x≠"__name__":=by decide) (hdb:(x == ("__debug__" : Str))=false:=by decide) :
  PE X (.Call (.Name x p) (e :: es) [] pos) (tCB r t):=by
 rw [List.all_cons,Bool.and_eq_true] at hp
 exact jcz hc hg hm hv ha hn hdb (zg hp.1 es X.env) (y6 pos X.env es hp.2)
theorem jf8 {X:Cx} {x:Str} {p pos:Pos} {e:Expr} {es:List Expr} {t:TA} {T:String} {r:List V→Hp→VK→Prop} (hc:q4 X (.type T) r) (hg:Gl X x) (hm:X.mg x=none) (hv:bootBuiltins x=some (.type T)) (ha:PA X (e :: es) t) (hp:(e :: es).all qk=true:=by rfl) (hn:x≠"__name__":=by decide) (hdb:(x == ("__debug__" : Str))=false:=by decide) :
  PE X (.Call (.Name x p) (e :: es) [] pos) (tCB r t):=by
 rw [List.all_cons,Bool.and_eq_true] at hp
 exact jbj hc hg hm hv ha hn hdb (zg hp.1 es X.env) (y6 pos X.env es hp.2)
structure Fn (P:Program) (w:World) (K:PySem.W.Frag) (mg:Str→Option Value) (base:Heap) (k:Nat) (x:Str) (ps:List Str) (sp:Sp):Prop where
 ex:∃ f fd,FnOk P w K mg base CX0 k f fd ps sp∧Binds K fd ps []∧PySem.W.keepIn K (.ref f)=true∧mg x=some (.ref f)
theorem jeQ {X:Cx} {k k':Nat} {x:Str} {ps:List Str} {sp:Sp} {e:Expr} {es:List Expr} {t:TA} {p pos:Pos} (F:Fn X.prog X.w X.K X.mg X.base k x ps sp) (hr:Room k' X.A) (ha:PA X (e :: es) t) (hk:k≤k':=by decide) (hg:Gl X x:=by rfl)
  (hd:(x == ("__debug__" : Str))=false:=by decide) (hp:(e :: es).all qk=true:=by rfl):PE X (.Call (.Name x p) (e :: es) [] pos) (Kl sp [] E0 t):=by
 obtain ⟨f,fd,G,b,kp,m⟩:=F.ex
 rw [List.all_cons,Bool.and_eq_true] at hp
 exact jaU G (hr.mono hk) hg m kp b .nil jeR ha hd (zg hp.1 es X.env) (y6 pos X.env es hp.2)
theorem Fn.mk' {P:Program} {w:World} {K:PySem.W.Frag} {mg:Str→Option Value} {base:Heap} {k:Nat} {x:Str} {ps:List Str} {sp:Sp} {st:Stmt} {f:Addr} {fd:FuncData} (F:Fun K x x st f fd) (b:Binds K fd ps []) (m:mg x=some (.ref f)) (G:FnOk P w K mg base CX0 k f fd ps sp):Fn P w K mg base k x ps sp:=⟨f,fd,G,b,F.kp,m⟩
theorem qH {X:Cx} {scope:Scope} {fr:List Nat} {sc:Scope} {N:List Str} (h1:X.env.scope=sc) (h2:X.N=N) (h:scope.kind=.function∧(∀ y∈scope.names,y.2≠.cell)∧(∀ y∈scope.names,y.2=.local→scope.names.lookup y.1=some .local)∧
  (∀ y∈scope.names,y.2=.free→sc.names.lookup y.1=some .cell∨sc.names.lookup y.1=some .free)∧∀ j∈fr,scope.names.lookup (N.getD j (Str.ofString ""))=some .free):CompOk X scope fr:=by
 obtain ⟨a,b,c,d,e⟩:=h
 exact ⟨a,b,c,by rw [h1];exact d,by rw [h2];exact e⟩
theorem ke:bootBuiltins "len" = some (.builtin "len"):=by decide +kernel
theorem jdp:bootBuiltins "max" = some (.builtin "max"):=by decide +kernel
theorem jfG:bootBuiltins "min" = some (.builtin "min"):=by decide +kernel
theorem qj:bootBuiltins "isinstance" = some (.builtin "isinstance"):=by decide +kernel
theorem jdq:bootBuiltins "abs" = some (.builtin "abs"):=by decide +kernel
theorem zA:bootBuiltins "tuple" = some (.type "tuple"):=by decide +kernel
theorem Y5:bootBuiltins "list" = some (.type "list"):=by decide +kernel
theorem jdo:bootBuiltins "set" = some (.type "set"):=by decide +kernel
structure Free0 (mg:Str→Option Value):Prop where
 len_:mg "len" = none
 max_:mg "max" = none
 min_:mg "min" = none
 all_:mg "all" = none
 isinstance_:mg "isinstance" = none
 abs_:mg "abs" = none
 sorted_:mg "sorted" = none
 int_:mg "int" = none
 str_:mg "str" = none
 bool_:mg "bool" = none
 tuple_:mg "tuple" = none
 list_:mg "list" = none
 dict_:mg "dict" = none
 range_:mg "range" = none
 set_:mg "set" = none
theorem jc2 {X:Cx} {K:PySem.W.Frag} (h:X.K=K:=by rfl):IxR X (jf1 K):=by subst h;exact jW
theorem jep {X:Cx} {K:PySem.W.Frag} (h:X.K=K:=by rfl):IxR X (jf0 K):=by subst h;exact jS
theorem zN {X:Cx} {K:PySem.W.Frag} (h:X.K=K:=by rfl):q4 X (.builtin "len") (fun xs H Q=>∃ p ys,xs=[.ref p]∧(SqL K H p ys∨SqT K H p ys)∧Q (.int ys.length) H):=by subst h;exact jO
theorem jdZ {X:Cx} {K:PySem.W.Frag} {pos:Pos} {es:List Expr} {k:Nat} {t:TGs} {n:Nat} (hc:X.calm=true) (h:PGs X es t) (hK:X.K=K:=by rfl)
  (hn:(assignEach es X.env).length=n:=by rfl) (hst:(assignEach es X.env).findIdx? (·.1)=none:=by rfl):PG X (.Tuple es k pos) (jes K n t):=by subst hK;exact jcr hc h hn hst
structure QS (X:Cx) (st:Stmt) (t:TS):Prop where
 h:PS X st t
structure QSs (X:Cx) (st:List Stmt) (t:TS):Prop where
 h:PSs X st t
theorem qs {X:Cx} {st:Stmt} {t:TS} (h:PS X st t):QS X st t:=⟨h⟩
open PySem PySem.Spec PyProof.Rows PySem.W
def OkP (N:Nat) (p:Array Nat):Prop:=p.toList.Perm (List.range N)
theorem OkP.size {N:Nat} {p:Array Nat} (h:OkP N p):p.size=N:=by
 have:=h.length_eq
 rw [List.length_range] at this
 simpa using this
end L2
namespace PySem
open Sem (wp)
namespace F
end F
end PySem
namespace L2
open PySem PySem.Spec PyProof.Rows PySem.W
theorem Inv.more {X:Cx} {pins:List (Addr×Obj)} {σ:St} {H H':Hp} {s:Shared} {h':Heap} {t':Nat} (I:Inv X pins σ H s) (k:∀ b u,s.heap.get? b=some u→h'.get? b=some u) (same:Same H H')
  (new:∀ b o,H b=none→H' b=some o→s.heap.objs.size≤b∧ObjOk X.prog X.w H' h' b o):Inv X pins σ H' { s with heap:=h',toks:=t' }:=by
 refine I.un ⟨fun b u q _ _ _=>k b u q,fun b u q _ _ _=>⟨u.slots,k b u q⟩,fun b u q n _=>?_,fun b u q _=>⟨u,k b u q⟩,fun b xs q=>same _ _ q,fun b u xs q=>same _ _ q,fun b ps q=>⟨#[],by rw [same _ _ q];simp⟩⟩ fun b o e=>?_
 ·cases e:H' b with
  | none=>rfl
  | some o=>exact absurd (Heap.lt_size q) (Nat.not_lt.mpr (new b o n e).1)
 ·cases q:H b with
  | none=>exact (new b o q e).2
  | some u=>
   have:=same _ _ q
   rw [e] at this
   cases this
   exact (I.hok b o q).stay (fun c v _ q=>k c v q) (fun c q=>same _ _ q) fun c xs q=>same _ _ q
abbrev Up (xs:Array Nat):Prop:=xs.toList.Pairwise (· < ·)
structure TabOk (led:Bool) (t:SetTable):Prop where
 led_:t.led=led
 none_:t.dummies=#[]
 up:Up t.place
theorem jb2 {xs:Array Nat} (h:Up xs) {i j:Nat} (hij:i < j) (hj:j < xs.size):xs.getD i 0 < xs.getD j 0:=by
 have hi:i < xs.size:=by omega
 have:=List.pairwise_iff_getElem.mp h i j (by simpa using hi) (by simpa using hj) hij
 simpa [Array.getD,hi,hj] using this
theorem KU {xs:Array Nat} (h:Up xs) (j:Nat):∀ (f lo hi:Nat),lo≤hi→hi≤xs.size→hi≤lo+f→(∀ i,i < lo→xs.getD i 0 < j)→(∀ i,hi≤i→i < xs.size→j≤xs.getD i 0)→
  (SetTable.below.go xs j f lo hi)≤xs.size∧(∀ i,i < SetTable.below.go xs j f lo hi→xs.getD i 0 < j)∧∀ i,SetTable.below.go xs j f lo hi≤i→i < xs.size→j≤xs.getD i 0
 | 0,lo,hi,h1,h2,h3,a,b=>by
  unfold SetTable.below.go
  exact ⟨by omega,a,fun i hi'=>b i (by omega)⟩
 | f+1,lo,hi,h1,h2,h3,a,b=>by
  unfold SetTable.below.go
  by_cases e:lo < hi
  ·rw [if_pos e]
   dsimp only
   have hm:(lo+hi) / 2 < xs.size:=by omega
   have eg:xs.getD ((lo+hi) / 2) j=xs.getD ((lo+hi) / 2) 0:=by simp [Array.getD,hm]
   rw [eg]
   by_cases c:xs.getD ((lo+hi) / 2) 0 < j
   ·rw [if_pos c]
    refine KU h j f ((lo+hi) / 2+1) hi (by omega) h2 (by omega) (fun i hi'=>?_) b
    rcases Nat.lt_or_ge i ((lo+hi) / 2) with z | z
    ·exact Nat.lt_trans (jb2 h z hm) c
    ·have:i=(lo+hi) / 2:=by omega
     subst this
     exact c
   ·rw [if_neg c]
    refine KU h j f lo ((lo+hi) / 2) (by omega) (by omega) (by omega) a fun i hi' hs=>?_
    rcases Nat.lt_or_ge ((lo+hi) / 2) i with z | z
    ·exact Nat.le_trans (Nat.le_of_not_lt c) (Nat.le_of_lt (jb2 h z hs))
    ·have:i=(lo+hi) / 2:=by omega
     subst this
     exact Nat.le_of_not_lt c
  ·rw [if_neg e]
   exact ⟨by omega,a,fun i hi'=>b i (by omega)⟩
theorem jds {xs:Array Nat} (h:Up xs) (j:Nat):SetTable.below xs j≤xs.size∧(∀ i,i < SetTable.below xs j→xs.getD i 0 < j)∧∀ i,SetTable.below xs j≤i→i < xs.size→j≤xs.getD i 0:=
 KU h j xs.size 0 xs.size (Nat.zero_le _) (Nat.le_refl _) (by omega) (fun i h=>by omega) fun i h1 h2=>by omega
theorem jer {xs:Array Nat} {i:Nat} (h:i < xs.size):xs[i]?=some (xs.getD i 0):=by simp [Array.getD,h]
theorem jbJ {xs:Array Nat} (h:Up xs) {j:Nat} (hj:xs[SetTable.below xs j]?≠some j):Up (SetTable.insertAt xs (SetTable.below xs j) j):=by
 obtain ⟨b1,b2,b3⟩:=jds h j
 unfold Up
 rw [SetTable.toList_insertAt]
 have hd:∀ x∈xs.toList.drop (SetTable.below xs j),j < x:=fun x hx=>by
  obtain ⟨i,hi,rfl⟩:=List.mem_iff_getElem.mp hx
  rw [List.length_drop] at hi
  rw [List.getElem_drop]
  have hs:SetTable.below xs j+i < xs.size:=by simpa using (by omega:SetTable.below xs j+i < xs.toList.length)
  have e:xs.toList[SetTable.below xs j+i]'(by simpa using hs)=xs.getD (SetTable.below xs j+i) 0:=by simp [Array.getD,hs]
  rw [e]
  have ge:=b3 (SetTable.below xs j+i) (by omega) hs
  rcases Nat.lt_or_ge j (xs.getD (SetTable.below xs j+i) 0) with z | z
  ·exact z
  ·have eq:xs.getD (SetTable.below xs j+i) 0=j:=by omega
   rcases Nat.eq_zero_or_pos i with rfl | hp
   ·exact absurd (by rw [Nat.add_zero] at eq hs;rw [jer hs,eq]) hj
   ·have:=jb2 h (i:=SetTable.below xs j) (j:=SetTable.below xs j+i) (by omega) hs
    have:=b3 (SetTable.below xs j) (Nat.le_refl _) (by omega)
    omega
 have ht:∀ x∈xs.toList.take (SetTable.below xs j),x < j:=fun x hx=>by
  obtain ⟨i,hi,rfl⟩:=List.mem_iff_getElem.mp hx
  rw [List.length_take] at hi
  rw [List.getElem_take]
  have hs:i < xs.size:=by simpa using (by omega:i < xs.toList.length)
  have e:xs.toList[i]'(by simpa using hs)=xs.getD i 0:=by simp [Array.getD,hs]
  rw [e]
  exact b2 i (by omega)
 refine List.pairwise_append.mpr ⟨h.sublist (List.take_sublist _ _),List.pairwise_cons.mpr ⟨hd,h.sublist (List.drop_sublist _ _)⟩,fun x hx y hy=>?_⟩
 rcases List.mem_cons.mp hy with rfl | hy
 ·exact ht x hx
 ·exact Nat.lt_trans (ht x hx) (hd y hy)
theorem Zt {led:Bool} {t:SetTable} (h:TabOk led t) {hashAt:Nat→Int} {hh:Int} (hne:∀ i,(hashAt i == hh)=false):∀ (f:Nat) (p:SetTable.Probe) (m:SetTable.Met),p.dummy=none→SetTable.probe.go t hashAt hh f p=some m→∃ j,m=.empty j none∧t.slot j=.empty
 | 0,p,m,_,e=>by
  unfold SetTable.probe.go at e
  cases e
 | f+1,p,m,hd,e=>by
  unfold SetTable.probe.go at e
  cases hs:t.slot p.j with
  | empty=>
   rw [hs] at e
   cases e
   exact ⟨p.j,by rw [hd],hs⟩
  | dummy=>
   exfalso
   unfold SetTable.slot at hs
   dsimp only at hs
   rw [h.none_] at hs
   split at hs
   ·cases hs
   ·simp [SetTable.has] at hs
  | live i=>
   rw [hs] at e
   dsimp only at e
   rw [hne i] at e
   rw [if_neg Bool.false_ne_true] at e
   refine Zt h hne f _ m ?_ e
   unfold SetTable.advance
   split
   ·exact hd
   ·exact hd
theorem ja0 {led:Bool} {t:SetTable} (h:TabOk led t) {hh:Int} {j:Nat} {d:Bool} (e:t.freeSlot hh=some (j,d)):t.place[SetTable.below t.place j]?≠some j:=by
 unfold SetTable.freeSlot at e
 cases hp:t.probe (fun _=>hh+1) hh (t.probeStart hh) with
 | none=>rw [hp] at e;cases e
 | some m=>
  obtain ⟨j',rfl,hs⟩:=Zt h (fun _=>beq_eq_false_iff_ne.mpr (by omega)) _ _ m rfl (show SetTable.probe.go t (fun _=>hh+1) hh _ _=some m from hp)
  rw [hp] at e
  cases e
  unfold SetTable.slot at hs
  dsimp only at hs
  intro z
  split at hs
  ·cases hs
  ·next c=>
   refine c ?_
   have z':t.place[SetTable.below t.place j']?=some j':=z
   rw [z']
   simp
theorem jb1 (n:Nat):Up (Array.range n):=by
 unfold Up
 rw [Array.toList_range]
 exact List.pairwise_lt_range
theorem Jg {led:Bool} {t:SetTable} (h:t.led=led) (n:Nat):TabOk led (t.standIn n):=⟨h,rfl,jb1 n⟩
theorem put_ok {led:Bool} {t:SetTable} (h:TabOk led t) {j:Nat} (hj:t.place[SetTable.below t.place j]?≠some j):TabOk led (t.put j).1:=by
 refine ⟨h.led_,?_,jbJ h.up hj⟩
 unfold SetTable.put
 dsimp only
 rw [h.none_]
 split
 ·simp [SetTable.eraseAt]
 ·rfl
theorem jbD {led:Bool} {t:SetTable} (h:TabOk led t) (es:Array (Int×Value)) (hh:Int) (x:Value):TabOk led (layNew t es hh x).2.1:=by
 unfold layNew
 split
 ·next slot d e=>
  dsimp only
  unfold SetTable.orStandIn
  split
  ·exact put_ok h (ja0 h e)
  ·exact Jg (put_ok h (ja0 h e)).led_ _
 ·exact Jg h.led_ _
theorem jen {mask finger moves:Nat} {led plain:Bool} {hashes:Array Int} {t:SetTable} {o:Array Nat} (h:SetTable.laid mask finger moves led plain hashes=some (t,o)):TabOk led t:=by
 unfold SetTable.laid at h
 cases hl:SetTable.layClean mask hashes with
 | none=>rw [hl] at h;cases h
 | some owner=>
  rw [hl] at h
  cases h
  refine ⟨rfl,rfl,?_⟩
  unfold Up
  dsimp only
  have key:∀ l:List Nat,(l.filterMap fun j=>(owner.getD j none).map (fun k=>(j,k))).map (·.1)=l.filter fun j=>(owner.getD j none).isSome:=by
   intro l
   induction l with
   | nil=>rfl
   | cons a l ih=>
    rw [List.filterMap_cons,List.filter_cons]
    cases owner.getD a none with
    | none=>simpa using ih
    | some k=>
     show a :: List.map _ _=_
     rw [ih]
     rfl
  show List.Pairwise _ (List.map _ _)
  rw [key]
  exact List.pairwise_lt_range.sublist List.filter_sublist
theorem jch {led:Bool} {t:SetTable} (h:TabOk led t) (es:Array (Int×Value)) (n:Nat):TabOk led (relayAll t es n).2.1:=by
 unfold relayAll
 split
 ·next t' o e=>
  dsimp only
  split
  ·have:=jen (show SetTable.laid _ _ _ _ _ _=some (t',o) from e)
   rw [h.led_] at this
   exact this
  ·exact Jg h.led_ _
 ·exact Jg h.led_ _
theorem jbh {led:Bool} {t:SetTable} (h:TabOk led t):TabOk led { t with plain:=false }:=⟨h.led_,h.none_,h.up⟩
abbrev ledOf (w:World):Bool:=!(w.params.followText "set-order")
end L2
namespace PySem
section
variable {prog:Program} {w:World} {A:Around} {E:Value→Shared→Prop} {s:Shared}
theorem Zm (a:Value) {Q₁:Value→Shared→Prop}
  (h:Q₁ (.ref s.heap.objs.size) { s with heap:=s.heap.push { cls:=.type "set",dict:=none,data:=.set #[] 0 (.fresh 0 0 (L2.ledOf w)) } }) :
  codeAny (model prog w) A (.call (.builtin "set.__new__") ⟨[.type "set",a],[]⟩) (wants Q₁ E) s:=by
 refine codeAny_of_tree ?_
 show wpAny _ A.in1 (do checkBuiltinCall "set.__new__" ⟨[.type "set",a],[]⟩;again (.builtin "set.__new__" ⟨[.type "set",a],[]⟩)) _ _ s
 refine wpAny_bind (wpAny_of_eq (F.newCall_set_1 a) (wpAny_pure ⟨plainId_quiet F.plain_set_new _,codeAny_builtin F.entry_set_new ?_⟩))
 rw [Around.under_plainId F.plain_set_new _]
 unfold Builtin.«set.__new__» Builtin.Frozenset.newClass
 have hsub:=sub_set_self
 obtain ⟨hp,g,d,tk,os⟩:=s
 dsimp only
 wp_walk
 refine wpAny_askSetting (wpAny_pure ?_)
 dsimp only
 simp only [newObj]
 refine wpAny_bind (wpAny_alloc (wpAny_pure ?_))
 exact wpAny_pure h
end
namespace F
end F
end PySem
namespace L2
open PySem PySem.Spec PyProof.Rows PySem.W
abbrev jcf (es:Array (Int×Value)) (ep:Nat) (t:SetTable):Obj:={ cls:=.type "set",dict:=none,data:=.set es ep t }
open PySem PySem.Spec PySem.Calls PyProof.Rows PySem.W
theorem Inv.drawn {X:Cx} {pins:List (Addr×Obj)} {σ:St} {H:Hp} {s:Shared} {h':Heap} {d':Drawn} (I:Inv X pins σ H s) (k:∀ b u,s.heap.get? b=some u→h'.get? b=some u):Inv X pins σ H { s with heap:=h',drawn:=d' }:=
 I.call (g':=s.gens) (t':=s.toks) (d':=d') (ch:=[]) (Un.kept k) (I.hok.kept k) I.bare fun _ z=>nomatch z
theorem jbP {X:Cx} {scope:Scope} {own:List Str} {fr:List Nat} {elt tg iter:Expr} {ifs:List Expr} {pos:Pos} {wi:TI} {g:TG} {tt:TT} {te:TE} {use:Option (Value→Sem Unit)} (hc:X.calm=true) (O:CompOk X scope fr) (hi:PI X tg iter wi)
  (hb:∀ s H ex,PG (blk X scope own fr s H ex) tg g∧PTs (blk X scope own fr s H ex) ifs tt∧PE (blk X scope own fr s H ex) elt te)
  (hs:∀ x,foldedSetIterable iter X.env x=pure x) {pins:List (Addr×Obj)} {s:Shared} {σ:St} {H:Hp} {Q:VK} {R:Value→Shared→Prop} (I:Inv X pins σ H s) (h:Yg own fr wi g tt te σ H Q) (hx:∀ e s',X.xe e s'↔False)
  (fin:∀ (p C:Addr) (H':Hp) (s':Shared) (m:Str→Option Value),s'.heap.Ns C m→H' C=none→C≠X.env.locals→(∀ x c,X.env.cells.lookup x=some c→c≠C)→X.s₀.heap.objs.size≤C→(∀ p∈X.pn++pins,p.1≠C)→Inv X pins σ H' s'→(∀ h',Heap.SameBut C s'.heap h'→Inv X pins σ H' { s' with heap:=h' })→Q (.ref p) H'→
   compPost (model X.prog X.w) X.A X.xe use R (.ref p) C (.ok .next) s') :
  wpAny (model X.prog X.w) X.A (comprehension (.ListComp elt [⟨tg,iter,ifs,0⟩] scope pos) scope X.env (firstIterPos [⟨tg,iter,ifs,0⟩] pos) (newList []) false (eval iter X.env) use) R X.xe s:=by
 have hsome:∀ x∈scope.names,x.2=.free→(X.env.cells.lookup x.1).isSome=true:=fun x hx' e=>by
  obtain ⟨c,hc⟩:=I.ok.has x.1 (O.frees x hx' e)
  rw [hc];rfl
 have no:∀ (E:Value→Shared→Prop) (x:Value) (s':Shared),X.xe x s'→E x s':=fun E x s' z=>((hx x s').mp z).elim
 refine wpAny_comprehension_free (cl:=yH X.env.cells scope.names []) rfl hs (KO hsome) O.kind O.loc ?_
 refine thn (hi pins s σ H _ I h) fun v s1 h1=>thn h1 fun itv s2 h2=>?_
 obtain ⟨it,fp,tn,J,H2,e,I2,T,st2,f2,q2⟩:=h2
 subst e
 refine wpAny_newObj_type ?_
 have nw:H2 s2.heap.objs.size=none:=I2.fresh
 obtain ⟨W,⟨m0,w0⟩,turn⟩:=q2 _ nw
 generalize hp:s2.heap.objs.size=p at *
 have I3:Inv X pins σ (upd H2 p (.lst [])) { s2 with heap:=s2.heap.push { cls:=.type "list",dict:=none,data:=.seq ([]:List Value).toArray } }:=by
  have:=I2.lnew (ys:=[]) (its:=[]) (t':=s2.toks) .nil (Nat.zero_le _)
  rw [hp] at this
  exact this
 have lt2:∀ b∈fp,b < s2.heap.objs.size:=fun b hb=>by
  obtain ⟨o,ho,_⟩:=T.obj _ _ st2 b hb
  exact Heap.lt_size ho
 have fpn:∀ b∈fp,(upd H2 p (.lst [])) b=none:=fun b hb=>by
  rw [jx (by rw [← hp];exact Nat.ne_of_lt (lt2 b hb))]
  exact (f2 b hb).1
 generalize hs3:({ s2 with heap:=s2.heap.push { cls:=.type "list",dict:=none,data:=.seq ([]:List Value).toArray } }:Shared)=s3 at *
 have sz3:s3.heap.objs.size=p+1:=by
  rw [← hs3]
  show (s2.heap.push _).objs.size=_
  rw [Heap.size_push,hp]
 have st3:tn 0 s3.heap:=T.keep 0 _ _ st2 fun b hb o e=>by
  rw [← hs3]
  exact Heap.get?_push_of_some _ e
 refine wpAny_newFunctionEnv O.nocell (by intro y hy;simp at hy) (fun h4 hns4 hsb4=>?_) O.kind
 have k4:∀ b o,s3.heap.get? b=some o→h4.get? b=some o:=fun b o e=>hsb4.extBut b o (Nat.ne_of_lt (Heap.lt_size e)) (Heap.get?_push_of_some _ e)
 have hns4':h4.Ns s3.heap.objs.size fun _=>none:=by
  have z:(fun x:Str=>([]:List (Str×Value)).reverse.lookup x)=fun _=>none:=by funext x;rfl
  rw [z] at hns4
  exact hns4
 have fo:∀ b∈fp,J2 X pins (upd H2 p (.lst [])) b∧b < s3.heap.objs.size:=fun b hb=>⟨⟨fpn b hb,(f2 b hb).2⟩,by rw [sz3,← hp];exact Nat.lt_succ_of_lt (lt2 b hb)⟩
 have I4:=jaX (own:=own) (fr:=fr) (t1:=s3.toks+([]:List (Str×Value)).length) I3 O fo hns4' k4
 have st4:tn 0 h4:=T.keep 0 _ _ st3 fun b hb o e=>k4 b o e
 obtain ⟨hg,ht,he⟩:=hb s3 (upd H2 p (.lst [])) fp
 have stat:∀ {H':Hp} {pn:List (Addr×Obj)} {s':Shared} {σ':St},Inv (blk X scope own fr s3 (upd H2 p (.lst [])) fp) [] σ' H' s'→(∀ b∈fp,H' b=none)→∀ b∈fp,J2 (blk X scope own fr s3 (upd H2 p (.lst [])) fp) [] H' b:=fun {H' pn s' σ'} J hn b hb'=>
  ⟨hn b hb',(J.ok.exf b hb').1,J.ok.exfs b hb',.inl hb',(J.ok.exf b hb').2,fun p hp=>absurd hp (by simp [blk])⟩
 have nocells:∀ x c,X.env.cells.lookup x=some c→c≠s3.heap.objs.size:=fun x c e=>by
  obtain ⟨v,q⟩:=I3.cell x c e
  exact Nat.ne_of_lt q.lt
 have loop:∀ s5:Shared,s5={ s3 with heap:=h4,toks:=s3.toks+([]:List (Str×Value)).length }→
   codeAny (model X.prog X.w) X.A (.compLoop (.ListComp elt [⟨tg,iter,ifs,0⟩] scope pos) 0 (.ref it) (.ref p) (blk X scope own fr s3 (upd H2 p (.lst [])) fp).env) (compPost (model X.prog X.w) X.A X.xe use R (.ref p) s3.heap.objs.size) s5:=by
  rintro s5 rfl
  refine Ju (fun n s'=>∃ i σ' H',Inv (blk X scope own fr s3 (upd H2 p (.lst [])) fp) [] σ' H' s'∧tn i s'.heap∧(∀ b∈fp,H' b=none)∧W i n σ' H') ?_ m0 ⟨0,_,_,I4,st4,fpn,w0⟩
  rintro n s6 ⟨i,σ6,H6,I6,st6,fr6,w6⟩
  rcases turn i n σ6 H6 w6 with ⟨stop,qn⟩ | ⟨go,N,hN,step⟩
  ·refine thn (T.done (blk X scope own fr s3 (upd H2 p (.lst [])) fp) rfl rfl rfl hc i [] s6 σ6 H6 _ I6 (stat (pn:=[]) I6 fr6) st6 stop) fun r s7 ⟨hr,I7⟩=>?_
   subst hr
   obtain ⟨m,hm,_⟩:=I7.loc
   exact fin p _ H6 s7 m hm I7.free (Nat.ne_of_gt I3.lt) nocells I3.sz (fun p hp=>Nat.ne_of_lt (Heap.lt_size (I3.pin p hp).1)) (Jx I3 fo I7 (Heap.SameBut.refl ..)) (fun h' hs'=>Jx I3 fo I7 hs') qn
  ·refine thn (T.item (blk X scope own fr s3 (upd H2 p (.lst [])) fp) rfl rfl rfl hc i [] s6 σ6 H6 _ I6 (stat (pn:=[]) I6 fr6) st6 go) fun r s7 ⟨u,hr,h7⟩=>?_
   subst hr
   refine thn h7 fun _ s8 ⟨x,H8,I8,r8,y8,st8,fr8⟩=>?_
   have I8':=I8.pinned (stat (pn:=[]) I8 fr8) (T.obj _ _ st8)
   refine thn (hg _ s8 σ6 H8 x u _ I8' r8 (step x H8 y8)) fun _ s9 ⟨σ9,H9,I9,q9⟩=>?_
   refine thn (ht _ s9 σ9 H9 _ I9 q9) fun ok s10 ⟨H10,I10,q10⟩=>?_
   have again:∀ {H11:Hp} {s11:Shared},Inv (blk X scope own fr s3 (upd H2 p (.lst [])) fp) ([]++yr fp s8.heap) σ9 H11 s11→(∃ m',m' < n∧W (i+1) m' σ9 H11)→
     ∃ m,m < n∧∃ i σ' H',Inv (blk X scope own fr s3 (upd H2 p (.lst [])) fp) [] σ' H' s11∧tn i s11.heap∧(∀ b∈fp,H' b=none)∧W i m σ' H':=fun {H11 s11} I11 ⟨m',hm,w11⟩=>by
    refine ⟨m',hm,i+1,σ9,H11,I11.unpinned,T.keep _ _ _ st8 fun b hb' o e=>(I11.pin (b,o) (List.mem_append_right _ (List.mem_append_right _ (zb hb' e)))).1,fun b hb'=>?_,w11⟩
    obtain ⟨o,e,d⟩:=T.obj _ _ st8 b hb'
    exact (I11.pin (b,o) (List.mem_append_right _ (List.mem_append_right _ (zb hb' e)))).2.1
   cases ok with
   | false=>
    rw [if_neg Bool.false_ne_true] at q10 ⊢
    exact again I10 (hN _ _ q10)
   | true=>
    rw [if_pos rfl] at q10 ⊢
    refine thn (he _ s10 σ9 H10 _ I10 q10) fun yv s11 ⟨y,H11,I11,r11,ys,hys,hlen,q11⟩=>?_
    have ap:=za (X:=blk X scope own fr s3 (upd H2 p (.lst [])) fp) ([]++yr fp s8.heap) s11 σ9 H11 (.ref p) [y] (.ref p) [yv] (fun _ H12=>∃ m',m' < n∧W (i+1) m' σ9 H12) I11 rfl (.cons r11 .nil) ⟨p,ys,y,rfl,rfl,hys,hlen,hN _ _ q11⟩
    exact thn ap fun _ s12 ⟨_,H12,I12,_,q12⟩=>again I12 q12
 refine codeAny_compStart_list (loop _ rfl) (T.self X.A 0 _ _ _ st4 (loop _ rfl))
theorem Z5 {X:Cx} {scope:Scope} {elt tg iter:Expr} {ifs:List Expr} {pos:Pos} {wi:TI} {g:TG} {tt:TT} {te:TE} {i:Nat} {y:Str} {py spos:Pos} (hN:X.N.Nodup) (hi':X.N[i]?=some y) (hy:Loc X.env.scope y) (own:List Str) (fr:List Nat) (hc:X.calm=true) (O:CompOk X scope fr) (hi:PI X.nox tg iter wi)
  (hb:∀ s H ex,PG (blk X.nox scope own fr s H ex) tg g∧PTs (blk X.nox scope own fr s H ex) ifs tt∧PE (blk X.nox scope own fr s H ex) elt te)
  (hs:∀ x,foldedSetIterable iter X.env x=pure x:=by intro _;rfl)
  (hsw:swapsWith (.ListComp elt [⟨tg,iter,ifs,0⟩] scope pos) (some (.Name y py)) spos.line X.env=pure true:=by rfl)
  (hf:X.fn y=true∨X.env.scope.names.lookup y=some .local:=by first | exact .inl rfl | exact .inr rfl | assumption) :
  PS X.nox (.Assign [.Name y py] (.ListComp elt [⟨tg,iter,ifs,0⟩] scope pos) spos) (jbc (Yg own fr wi g tt te) (qN i)):=by
 intro pins s σ H D I h
 rw [exec_Assign_Name_used _ _ _ _ hsw]
 refine wpAny_bind (wpAny_standAt (wpAny_bind ?_))
 show wpAny _ _ (do let _ ← comprehension (.ListComp elt [⟨tg,iter,ifs,0⟩] scope pos) scope X.nox.env _ (newList []) false (eval iter X.nox.env) (some (assign (.Name y py) X.nox.env))) _ _ s
 refine wpAny_bind (wpAny_mono (jbP (X:=X.nox) (use:=some (assign (.Name y py) X.nox.env)) (R:=fun _ s'=>SP X.nox pins D .next s') hc ⟨O.kind,O.nocell,O.loc,O.frees,O.fr⟩ hi hb hs I h (fun _ _=>Iff.rfl)
  fun p C H' s' m hm hC hL hcs hz hpn I' back q=>?_) (fun _ s' hq=>wpAny_pure (wpAny_pure hq)) fun _ _ e=>e)
 show wpAny _ _ (assign (.Name y py) X.nox.env (.ref p)) _ _ _
 refine wpAny_assign_Name (Yj (v:=.ref p) I' hN hi' hy rfl (fun s2 I2 hsb=>?_) hf)
 obtain ⟨a,hsa,ha⟩:=hsb
 have hCa:C≠a:=by
  rcases ha with rfl | e
  ·exact hL
  ·exact fun z=>hcs _ _ e z.symm
 refine ⟨m,hm.sameBut hsa hCa,fun h' hs'=>?_⟩
 exact ⟨_,H',I2.turned (t':=s2.toks) (fun b o hb e=>(hs'.2 b hb).trans e) hC hL (.inr hz) hcs hpn,q⟩
section
variable {X:Cx} {pins:List (Addr×Obj)} {σ:St} {H:Hp} {s:Shared} {tg:Expr}
theorem Inv.relabel {a:Addr} {u v:HO} (I:Inv X pins σ H s) (hu:H a=some u) (h1:∀ xs,u≠.tup xs) (h2:∀ ps,u≠.tbl ps) (h3:∀ o z,X.H₀ a≠some (.frz o z)) (h4:∀ x,u≠.own x) (hv:ObjOk X.prog X.w (upd H a v) s.heap a v):Inv X pins σ (upd H a v) s:=by
 have ne:∀ b,H b=none→b≠a:=fun b n z=>by rw [z,hu] at n;cases n
 have nt:∀ b xs,H b=some (.tup xs)→b≠a:=fun b xs n z=>by rw [z,hu] at n;exact h1 xs (Option.some.inj n)
 have no:∀ b x,H b=some (.own x)→b≠a:=fun b x n z=>by rw [z,hu] at n;exact h4 x (Option.some.inj n)
 refine ⟨I.ok,I.os,I.bare,⟨I.base.keep,I.base.slot,fun b o e n hx=>?_,I.base.there,fun b xs e=>?_,fun b o z e=>?_,fun b ps e=>?_⟩,I.loc,I.cell,?_,fun x c e=>?_,fun p hp=>?_,fun b o e=>?_,I.len⟩
 ·have q:=I.base.free b o e n hx
  rw [jx (ne b q)];exact q
 ·have q:=I.base.tups b xs e
  rw [jx (nt b xs q)];exact q
 ·have hb:b≠a:=fun z'=>by subst z';exact h3 _ _ e
  rw [jx hb]
  exact I.base.frzs b o z e
 ·obtain ⟨m,q⟩:=I.base.tbls b ps e
  have hb:b≠a:=fun z'=>by rw [z',hu] at q;exact h2 _ (Option.some.inj q)
  exact ⟨m,by rw [jx hb];exact q⟩
 ·rw [jx (ne _ I.free)];exact I.free
 ·rw [jx (ne _ (I.freeC x c e))];exact I.freeC x c e
 ·obtain ⟨q1,q2,q3⟩:=I.pin p hp
  exact ⟨q1,by rw [jx (ne _ q2)];exact q2,q3⟩
 ·by_cases hb:b=a
  ·subst hb
   rw [jg] at e
   cases e
   exact hv
  ·rw [jx hb] at e
   exact (I.hok b o e).stay (fun _ _ _ q=>q) (fun c q=>by rw [jx (no c _ q)];exact q) fun c xs q=>by rw [jx (nt c xs q)];exact q
end
end L2
namespace PySem
open AutoSeq1 (wpAny_loadPart')
end PySem
namespace L2
open PySem PySem.Spec PyProof.Rows
open PySem PySem.Spec PyProof.Rows PySem.W
mutual
def dEq:D→D→Bool
 | .int i,.int j=>i == j
 | .str x,.str y=>x == y
 | .tup a,.tup b=>dEqL a b
 | _,_=>false
def dEqL:List D→List D→Bool
 | [],[]=>true
 | a :: as,b :: bs=>dEq a b && dEqL as bs
 | _,_=>false
end
mutual
theorem yX:∀ {a b:D},dEq a b=true↔a=b
 | .int i,.int j=>by unfold dEq;rw [beq_iff_eq];exact ⟨(fun h=>by rw [h]),(fun h=>by injection h)⟩
 | .str i,.str j=>by unfold dEq;rw [beq_iff_eq];exact ⟨(fun h=>by rw [h]),(fun h=>by injection h)⟩
 | .tup a,.tup b=>by unfold dEq;rw [dEqL_iff];exact ⟨(fun h=>by rw [h]),(fun h=>by injection h)⟩
 | .int i,.str j=>by unfold dEq;exact ⟨(fun h=>by cases h),(fun h=>by cases h)⟩
 | .int i,.tup j=>by unfold dEq;exact ⟨(fun h=>by cases h),(fun h=>by cases h)⟩
 | .str i,.int j=>by unfold dEq;exact ⟨(fun h=>by cases h),(fun h=>by cases h)⟩
 | .str i,.tup j=>by unfold dEq;exact ⟨(fun h=>by cases h),(fun h=>by cases h)⟩
 | .tup i,.int j=>by unfold dEq;exact ⟨(fun h=>by cases h),(fun h=>by cases h)⟩
 | .tup i,.str j=>by unfold dEq;exact ⟨(fun h=>by cases h),(fun h=>by cases h)⟩
theorem dEqL_iff:∀ {a b:List D},dEqL a b=true↔a=b
 | [],[]=>by unfold dEqL;exact ⟨(fun _=>rfl),(fun _=>rfl)⟩
 | a :: as,b :: bs=>by
  unfold dEqL
  rw [Bool.and_eq_true,yX,dEqL_iff]
  exact ⟨(fun h=>by rw [h.1,h.2]),(fun h=>by injection h with h1 h2;exact ⟨h1,h2⟩)⟩
 | [],b :: bs=>by unfold dEqL;exact ⟨(fun h=>by cases h),(fun h=>by cases h)⟩
 | a :: as,[]=>by unfold dEqL;exact ⟨(fun h=>by cases h),(fun h=>by cases h)⟩
end
instance:DecidableEq D:=fun a b=>if h:dEq a b=true then isTrue (yX.mp h) else isFalse fun e=>h (yX.mpr e)
theorem ZP (a b:List D):dEqL a b=decide (a=b):=by
 apply Bool.eq_iff_iff.mpr
 rw [dEqL_iff,decide_eq_true_iff]
mutual
theorem ZD {H:Hp}:∀ {d d':D} {v:V},Held H d v→Held H d' v→d=d'
 | .int i,.int j,v,h,h'=>by unfold Held at h h';subst h;injection h' with h';rw [h']
 | .str i,.str j,v,h,h'=>by unfold Held at h h';subst h;injection h' with h';rw [h']
 | .tup a,.tup b,v,h,h'=>by
  unfold Held at h h'
  obtain ⟨p,xs,rfl,e,h⟩:=h
  obtain ⟨p',xs',e0,e',h'⟩:=h'
  injection e0 with e0
  subst e0
  rw [e] at e'
  injection e' with e'
  injection e' with e'
  subst e'
  rw [heldL_inj h h']
 | .int i,.str j,v,h,h'=>by unfold Held at h h';subst h;cases h'
 | .int i,.tup j,v,h,h'=>by unfold Held at h h';subst h;obtain ⟨p,xs,e,_⟩:=h';cases e
 | .str i,.int j,v,h,h'=>by unfold Held at h h';subst h;cases h'
 | .str i,.tup j,v,h,h'=>by unfold Held at h h';subst h;obtain ⟨p,xs,e,_⟩:=h';cases e
 | .tup i,.int j,v,h,h'=>by unfold Held at h h';subst h';obtain ⟨p,xs,e,_⟩:=h;cases e
 | .tup i,.str j,v,h,h'=>by unfold Held at h h';subst h';obtain ⟨p,xs,e,_⟩:=h;cases e
theorem heldL_inj {H:Hp}:∀ {d d':List D} {v:List V},HeldL H d v→HeldL H d' v→d=d'
 | [],[],_,_,_=>rfl
 | a :: as,b :: bs,v,h,h'=>by
  unfold HeldL at h h'
  obtain ⟨u,r,rfl,h1,h2⟩:=h
  obtain ⟨u',r',e,h1',h2'⟩:=h'
  injection e with e1 e2
  subst e1 e2
  rw [ZD h1 h1',heldL_inj h2 h2']
 | [],b :: bs,v,h,h'=>by unfold HeldL at h h';subst h;obtain ⟨u',r',e,_⟩:=h';cases e
 | a :: as,[],v,h,h'=>by unfold HeldL at h h';subst h';obtain ⟨u',r',e,_⟩:=h;cases e
end
theorem KN:∀ (a b:List D),((List.range (min a.length b.length)).all (fun j=>dEq (a.getD j (.int 0)) (b.getD j (.int 0))) && a.length == b.length)=dEqL a b:=by
 intro a b
 apply Bool.eq_iff_iff.mpr
 rw [dEqL_iff,Bool.and_eq_true,List.all_eq_true,beq_iff_eq]
 constructor
 ·rintro ⟨h1,h2⟩
  apply List.ext_getElem h2
  intro j hj hj'
  have:=h1 j (List.mem_range.mpr (by omega))
  rw [yX] at this
  simpa [hj,hj'] using this
 ·rintro rfl
  exact ⟨fun j _=>yX.mpr rfl,rfl⟩
section
variable {X:Cx} {pins:List (Addr×Obj)} {σ:St} {H:Hp} {s:Shared}
theorem jev (I:Inv X pins σ H s):∀ (n:Nat) (A:Around) (d d':D) (x y:V) (u v:Value),d.depth≤n→A.units+n < cLine→Held H d x→Held H d' y→RelV x u→RelV y v→SeqAt.EqAt A s u v (dEq d d'):=by
 intro n
 induction n with
 | zero=>
  intro A d d' x y u v hd hA hx hy ru rv
  have hA':A.units < cLine:=by omega
  cases d with
  | int i=>
   unfold Held at hx;subst hx
   obtain ⟨t,rfl⟩:=ru
   cases d' with
   | int j=>
    unfold Held at hy;subst hy
    obtain ⟨t',rfl⟩:=rv
    unfold dEq
    exact SeqAt.EqAt.int_int i t j t'
   | str j=>
    unfold Held at hy;subst hy
    obtain ⟨t',rfl⟩:=rv
    unfold dEq
    exact SeqAt.EqAt.int_str i t j t'
   | tup ds=>
    unfold Held at hy
    obtain ⟨b,ys,rfl,hb,_⟩:=hy
    cases rv
    obtain ⟨its,_,tb,_⟩:=I.tuple (SqT.of hb)
    unfold dEq
    exact SeqAt.EqAt.int_tuple i t (show s.heap.IsTuple b its.toArray from tb) hA'
  | str i=>
   unfold Held at hx;subst hx
   obtain ⟨t,rfl⟩:=ru
   cases d' with
   | int j=>
    unfold Held at hy;subst hy
    obtain ⟨t',rfl⟩:=rv
    unfold dEq
    exact SeqAt.EqAt.str_int i t j t'
   | str j=>
    unfold Held at hy;subst hy
    obtain ⟨t',rfl⟩:=rv
    unfold dEq
    exact SeqAt.EqAt.str_str i t j t'
   | tup ds=>
    unfold Held at hy
    obtain ⟨b,ys,rfl,hb,_⟩:=hy
    cases rv
    obtain ⟨its,_,tb,_⟩:=I.tuple (SqT.of hb)
    unfold dEq
    exact SeqAt.EqAt.str_tuple i t (show s.heap.IsTuple b its.toArray from tb) hA'
  | tup ds=>unfold D.depth at hd;omega
 | succ n ih=>
  intro A d d' x y u v hd hA hx hy ru rv
  have hA':A.units < cLine:=by omega
  cases d with
  | int i=>exact ih A (.int i) d' x y u v (by unfold D.depth;omega) (by omega) hx hy ru rv
  | str z=>exact ih A (.str z) d' x y u v (by unfold D.depth;omega) (by omega) hx hy ru rv
  | tup ds=>
   have hx0:=hx
   unfold Held at hx
   obtain ⟨a,xs,rfl,ha,hxs⟩:=hx
   cases ru
   obtain ⟨its,rva,ta,_⟩:=I.tuple (SqT.of ha)
   cases d' with
   | int j=>
    unfold Held at hy;subst hy
    obtain ⟨t',rfl⟩:=rv
    unfold dEq
    exact SeqAt.EqAt.tuple_int j t' (show s.heap.IsTuple a its.toArray from ta) hA'
   | str j=>
    unfold Held at hy;subst hy
    obtain ⟨t',rfl⟩:=rv
    unfold dEq
    exact SeqAt.EqAt.tuple_str j t' (show s.heap.IsTuple a its.toArray from ta) hA'
   | tup ds'=>
    have hy0:=hy
    unfold Held at hy
    obtain ⟨b,ys,rfl,hb,hys⟩:=hy
    cases rv
    by_cases hab:a=b
    ·subst hab
     rw [yX.mpr (ZD hx0 hy0)]
     exact SeqAt.EqAt.same _
    ·obtain ⟨its2,rvb,tb,_⟩:=I.tuple (SqT.of hb)
     refine SeqAt.EqAt.of_refs hab ?_
     have l1:=hxs.length
     have l2:=hys.length
     have l3:=rva.length
     have l4:=rvb.length
     have key:=SeqAt.RcAt.tuples (A:=A) (s:=s) (e:=fun j=>dEq (ds.getD j (.int 0)) (ds'.getD j (.int 0))) (show s.heap.IsTuple a its.toArray from ta) (show s.heap.IsTuple b its2.toArray from tb) (by omega) (fun j h1 h2=>by
      have hj:j < ds.length:=by
       have:j < its.length:=by simpa using h1
       omega
      have hj':j < ds'.length:=by
       have:j < its2.length:=by simpa using h2
       omega
      have ej:ds[j]?=some ds[j]:=List.getElem?_eq_getElem hj
      obtain ⟨x',hx',gx⟩:=hxs.get ej
      obtain ⟨y',hy',gy⟩:=hys.get (List.getElem?_eq_getElem hj')
      obtain ⟨u',hu',ru'⟩:=rva.get hx'
      obtain ⟨v',hv',rv'⟩:=rvb.get hy'
      have eu:its.toArray[j]=u':=by
       have:=(List.getElem?_eq_some_iff.mp hu').2
       simpa using this
      have ev:its2.toArray[j]=v':=by
       have:=(List.getElem?_eq_some_iff.mp hv').2
       simpa using this
      rw [eu,ev]
      unfold D.depth at hd
      have g1:ds.getD j (.int 0)=ds[j]:=by simp [hj]
      have g2:ds'.getD j (.int 0)=ds'[j]:=by simp [hj']
      rw [g1,g2]
      exact ih A.in1 ds[j] ds'[j] x' y' u' v' (by have:=D.depthL_get ej;omega) (by show A.units+1+n < cLine;omega) gx gy ru' rv')
     have e:((List.range (min its.toArray.size its2.toArray.size)).all (fun j=>dEq (ds.getD j (.int 0)) (ds'.getD j (.int 0))) && its.toArray.size == its2.toArray.size)=dEqL ds ds':=by
      have e1:its.toArray.size=ds.length:=by simp;omega
      have e2:its2.toArray.size=ds'.length:=by simp;omega
      rw [e1,e2]
      exact KN ds ds'
     rw [e] at key
     unfold dEq
     exact key
theorem KL (I:Inv X pins σ H s) {n:Nat} {A:Around} {ds ds':List D} {xs ys:List V} {its its2:List Value} (hd:D.depthL ds≤n) (hA:A.units+n < cLine) (hxs:HeldL H ds xs) (hys:HeldL H ds' ys) (rva:Vals xs its) (rvb:Vals ys its2) :
  ∀ j (h1:j < its.toArray.size) (h2:j < its2.toArray.size),SeqAt.EqAt A s its.toArray[j] its2.toArray[j] (dEq (ds.getD j (.int 0)) (ds'.getD j (.int 0))):=fun j h1 h2=>by
 have l1:=hxs.length
 have l2:=hys.length
 have l3:=rva.length
 have l4:=rvb.length
 have hj:j < ds.length:=by
  have:j < its.length:=by simpa using h1
  omega
 have hj':j < ds'.length:=by
  have:j < its2.length:=by simpa using h2
  omega
 have ej:ds[j]?=some ds[j]:=List.getElem?_eq_getElem hj
 obtain ⟨x',hx',gx⟩:=hxs.get ej
 obtain ⟨y',hy',gy⟩:=hys.get (List.getElem?_eq_getElem hj')
 obtain ⟨u',hu',ru'⟩:=rva.get hx'
 obtain ⟨v',hv',rv'⟩:=rvb.get hy'
 have eu:its.toArray[j]=u':=by
  have:=(List.getElem?_eq_some_iff.mp hu').2
  simpa using this
 have ev:its2.toArray[j]=v':=by
  have:=(List.getElem?_eq_some_iff.mp hv').2
  simpa using this
 rw [eu,ev]
 have g1:ds.getD j (.int 0)=ds[j]:=by simp [hj]
 have g2:ds'.getD j (.int 0)=ds'[j]:=by simp [hj']
 rw [g1,g2]
 exact jev I n A ds[j] ds'[j] x' y' u' v' (by have:=D.depthL_get ej;omega) hA gx gy ru' rv'
theorem jgs (n:Nat) (hu:X.A.units+1+n < cLine):OpR X (compareOp .Eq) (fun x y H Q=>∃ a b xs ys ds ds',x=.ref a∧y=.ref b∧H a=some (.tup xs)∧H b=some (.tup ys)∧D.depthL ds≤n∧HeldL H ds xs∧HeldL H ds' ys∧Q (.bl (decide (ds=ds'))) H):=by
 intro pins s σ H x y v u Q I rx ry h
 obtain ⟨a,b,xs,ys,ds,ds',rfl,rfl,ha,hb,hd,hxs,hys,q⟩:=h
 cases rx;cases ry
 obtain ⟨its,rva,ta,_⟩:=I.tuple (SqT.of ha)
 obtain ⟨its2,rvb,tb,_⟩:=I.tuple (SqT.of hb)
 have l1:=hxs.length
 have l2:=hys.length
 have l3:=rva.length
 have l4:=rvb.length
 have key:=SeqAt.RcAt.tuples (A:=X.A) (s:=s) (e:=fun j=>dEq (ds.getD j (.int 0)) (ds'.getD j (.int 0))) (show s.heap.IsTuple a its.toArray from ta) (show s.heap.IsTuple b its2.toArray from tb) (by omega) (KL I (A:=X.A.in1) hd (by show X.A.units+1+n < cLine;exact hu) hxs hys rva rvb)
 have e:((List.range (min its.toArray.size its2.toArray.size)).all (fun j=>dEq (ds.getD j (.int 0)) (ds'.getD j (.int 0))) && its.toArray.size == its2.toArray.size)=decide (ds=ds'):=by
  have e1:its.toArray.size=ds.length:=by simp;omega
  have e2:its2.toArray.size=ds'.length:=by simp;omega
  rw [e1,e2,KN,ZP]
 rw [e] at key
 exact key X.prog X.w X.xe _ ⟨.bl (decide (ds=ds')),H,I,rfl,q⟩
theorem jd7 (n:Nat) (hu:X.A.units+1+n < cLine):OpR X (compareOp .NotEq) (fun x y H Q=>∃ a b xs ys ds ds',x=.ref a∧y=.ref b∧H a=some (.tup xs)∧H b=some (.tup ys)∧D.depthL ds≤n∧HeldL H ds xs∧HeldL H ds' ys∧Q (.bl (!decide (ds=ds'))) H):=by
 intro pins s σ H x y v u Q I rx ry h
 obtain ⟨a,b,xs,ys,ds,ds',rfl,rfl,ha,hb,hd,hxs,hys,q⟩:=h
 cases rx;cases ry
 obtain ⟨its,rva,ta,_⟩:=I.tuple (SqT.of ha)
 obtain ⟨its2,rvb,tb,_⟩:=I.tuple (SqT.of hb)
 have l1:=hxs.length
 have l2:=hys.length
 have l3:=rva.length
 have l4:=rvb.length
 have key:=SeqAt.RcNeAt.tuples (A:=X.A) (s:=s) (e:=fun j=>dEq (ds.getD j (.int 0)) (ds'.getD j (.int 0))) (show s.heap.IsTuple a its.toArray from ta) (show s.heap.IsTuple b its2.toArray from tb) (by omega) (KL I (A:=X.A.in1) hd (by show X.A.units+1+n < cLine;exact hu) hxs hys rva rvb)
 have e:(!((List.range (min its.toArray.size its2.toArray.size)).all (fun j=>dEq (ds.getD j (.int 0)) (ds'.getD j (.int 0))) && its.toArray.size == its2.toArray.size))=!decide (ds=ds'):=by
  have e1:its.toArray.size=ds.length:=by simp;omega
  have e2:its2.toArray.size=ds'.length:=by simp;omega
  rw [e1,e2,KN,ZP]
 rw [e] at key
 exact key X.prog X.w X.xe _ ⟨.bl (!decide (ds=ds')),H,I,rfl,q⟩
end
def LikeV (K:PySem.W.Frag) (H:Hp):Nat→V→V→Prop
 | 0,x,y=>(∃ i,x=.int i∧y=.int i)∨∃ z,x=.str z∧y=.str z
 | n+1,x,y=>LikeV K H n x y∨
  (∃ a b xs ys,x=.ref a∧y=.ref b∧SqT K H a xs∧SqT K H b ys∧xs.length=ys.length∧∀ (j:Nat) x' y',xs[j]?=some x'→ys[j]?=some y'→LikeV K H n x' y')∨
  ∃ a b xs ys,x=.ref a∧y=.ref b∧SqL K H a xs∧SqL K H b ys∧xs.length=ys.length∧∀ (j:Nat) x' y',xs[j]?=some x'→ys[j]?=some y'→LikeV K H n x' y'
theorem LikeV.up {K:PySem.W.Frag} {H:Hp} {n m:Nat} {x y:V} (h:LikeV K H n x y) (hm:n≤m):LikeV K H m x y:=by
 induction hm with
 | refl=>exact h
 | step _ ih=>exact .inl ih
theorem Zf:∀ {ys:List Str} {its:List Value},Vals (ys.map V.str) its→StrsAre its ys
 | [],_,r=>by cases r;exact .nil
 | y :: ys,_,r=>by
  cases r with
  | cons h t=>
   obtain ⟨k,rfl⟩:=h
   exact .cons y k (Zf t)
theorem jel {X:Cx}:MtR X "str.join" (fun x xs H Q=>∃ (sep:Str) (l:Addr) (ys:List Str),x=.str sep∧xs=[.ref l]∧SqL X.K H l (ys.map V.str)∧(ys.map (·.length)).sum+ys.length * sep.length≤16777216∧Q (.str (Txt.join sep ys)) H):=by
 intro pins s σ H x xs v us Q I rx rs h
 obtain ⟨sep,l,ys,rfl,rfl,hl,hb,q⟩:=h
 obtain ⟨t,rfl⟩:=rx
 obtain ⟨u,rfl,ru⟩:=Je rs
 cases ru
 obtain ⟨its,rv,pl,hz⟩:=I.list hl
 refine join_list pl.isList (by simpa using Zf rv) hb fun t' k=>?_
 exact ⟨.str (Txt.join sep ys),H,I.kept (t':=k) fun b o e=>e,⟨t',rfl⟩,q⟩
section
variable {prog:Program} {w:World} {A:Around} {E:Value→Shared→Prop} {s:Shared}
theorem jdm {t b:Addr} {vs ws:List Value} {Q:Value→Shared→Prop} (ht:IsTup s.heap t vs.toArray) (hb:IsTup s.heap b ws.toArray) (hv:vs=[]) (h:Q (.ref b) s):wpAny (model prog w) A (binaryOp .Add (.ref t) (.ref b)) Q E s:=by
 obtain ⟨⟨cls,dd,data,sl⟩,ho,hc,n,hd⟩:=id ht
 obtain ⟨⟨cls2,dd2,data2,sl2⟩,ho2,hc2,n2,hd2⟩:=id hb
 simp only at hc hd hc2 hd2
 subst hc hd hc2 hd2
 exact concat_meets ⟨_,ho,rfl⟩ ⟨_,ho2,rfl⟩ noFill_tuple_add seq_tuple_add PySem.F.slot_tuple_add PySem.F.entry_tuple_add (PySem.F.args_tuple_add_2 _ _)
   (tuple_addW0 t b vs.toArray ws.toArray n n2 dd dd2 sl sl2 (by simp [hv])) ⟨ho,ho2,h⟩
end
def jfc:R2:=fun x y H Q=>∃ a b xs ys,x=.ref a∧y=.ref b∧H a=some (.tup xs)∧H b=some (.tup ys)∧xs.length+ys.length≤sizeLine∧∀ p H',Same H H'→H' p=some (.tup (xs++ys))→Q (.ref p) H'
theorem qD {X:Cx}:OpR X (binaryOp .Add) jfc:=by
 intro pins s σ H x y v u Q I rx ry h
 obtain ⟨a,b,xs,ys,rfl,rfl,ha,hb,hz,q⟩:=h
 by_cases hx:xs=[]
 ·cases rx
  cases ry
  obtain ⟨its,r1,p1,_⟩:=I.tuple (SqT.of ha)
  obtain ⟨its2,r2,p2,_⟩:=I.tuple (SqT.of hb)
  subst hx
  exact jdm p1 p2 (r1.nil_iff.mpr rfl) ⟨.ref b,H,I,rfl,q b H (Same.refl _) hb⟩
 ·refine jd8 pins s σ H (.ref a) (.ref b) v u Q I rx ry ⟨a,b,xs,ys,rfl,rfl,SqT.of ha,SqT.of hb,hx,hz,fun hy=>q a H (Same.refl _) (by rw [hy,List.append_nil];exact ha),fun _ p hp=>q p _ (fun c o e=>by rw [jx (ju e hp)];exact e) jg⟩
def jeH (t:TS):TS:=fun D σ H=>∃ J:St→Hp→Prop,t { D with nx:=J } σ H∧∀ σ' H',J σ' H'→D.nx σ' H'
theorem jdR {X:Cx} {st:Stmt} {t:TS} (h:PS X st t):PS X st (jeH t):=by
 intro pins s σ H D I q
 obtain ⟨J,q,k⟩:=q
 refine thn (h pins s σ H _ I q) fun f s1 q1=>?_
 cases f with
 | next=>
  obtain ⟨σ',H',I',e⟩:=q1
  exact ⟨σ',H',I',k _ _ e⟩
 | cont=>exact q1
 | brk=>exact q1
 | ret v=>exact q1
end L2
namespace LW
open PySem L2
theorem qK {H:Hp}:∀ {ds:List D} {vs:List V} {d:D} {v:V},HeldL H ds vs→Held H d v→HeldL H (ds++[d]) (vs++[v])
 | [],vs,d,v,h,hv=>by
  unfold HeldL at h
  subst h
  exact jh hv jt
 | d' :: ds,vs,d,v,h,hv=>by
  unfold HeldL at h
  obtain ⟨u,r,rfl,h1,h2⟩:=h
  exact jh h1 (qK h2 hv)
mutual
theorem jaZ {H H':Hp} (e:∀ b xs,H b=some (.tup xs)→H' b=some (.tup xs)):∀ {d:D} {v:V},Held H d v→Held H' d v
 | .int i,v,h=>by unfold Held at h ⊢;exact h
 | .str x,v,h=>by unfold Held at h ⊢;exact h
 | .tup ds,v,h=>by
  unfold Held at h ⊢
  obtain ⟨a,xs,e1,e2,e3⟩:=h
  exact ⟨a,xs,e1,e a _ e2,heldL_tk e e3⟩
theorem heldL_tk {H H':Hp} (e:∀ b xs,H b=some (.tup xs)→H' b=some (.tup xs)):∀ {ds:List D} {vs:List V},HeldL H ds vs→HeldL H' ds vs
 | [],vs,h=>by unfold HeldL at h ⊢;exact h
 | d :: ds,vs,h=>by
  unfold HeldL at h ⊢
  obtain ⟨v,r,e1,e2,e3⟩:=h
  exact ⟨v,r,e1,jaZ e e2,heldL_tk e e3⟩
end
def TK (G G':Hp):Prop:=∀ b xs,G b=some (.tup xs)→G' b=some (.tup xs)
theorem TK.upd {G:Hp} {a:Addr} {o u:HO} (h:G a=some o) (hn:∀ xs,o≠.tup xs):TK G (L2.upd G a u):=fun b xs e=>by
 rw [jx (jeT e h (fun z=>hn xs z.symm))]
 exact e
theorem TK.heldL {G G':Hp} (h:TK G G') {d:List D} {v:List V} (x:HeldL G d v):HeldL G' d v:=heldL_tk h x
theorem TK.held {G G':Hp} (h:TK G G') {d:D} {v:V} (x:Held G d v):Held G' d v:=jaZ h x
end LW
namespace L2
open PySem PySem.Spec PyProof.Rows PySem.W
abbrev RD:=St→Hp→D→Prop
abbrev RDL:=St→Hp→List D→Prop
def tHD (R:RD):TE:=fun σ H Q=>∃ d,R σ H d∧∀ v H',Same H H'→Held H' d v→Q v H'
def jgt (R:RDL):TA:=fun σ H Q=>∃ ds,R σ H ds∧∀ vs H',Same H H'→HeldL H' ds vs→Q vs H'
structure PD (X:Cx) (e:Expr) (R:RD):Prop where
 h:PE X e (tHD R)
 m:∀ {σ H H' d},Same H H'→R σ H d→R σ H' d
structure PDs (X:Cx) (es:List Expr) (R:RDL):Prop where
 h:PA X es (jgt R)
 m:∀ {σ H H' d},Same H H'→R σ H d→R σ H' d
def rV (i:Nat):RD:=fun σ H d=>∃ v,σ[i]?=some (some v)∧Held H d v
def rK (c:D):RD:=fun _ _ d=>d=c
def rN:RDL:=fun _ _ ds=>ds=[]
def rC (R:RD) (Rs:RDL):RDL:=fun σ H ds=>∃ d r,ds=d :: r∧R σ H d∧Rs σ H r
def rT (R:RDL):RD:=fun σ H d=>∃ ds,d=.tup ds∧ds.length≤1000∧R σ H ds
def rE (t:TE):RD:=fun σ H d=>∀ G,Same H G→∀ Q:VK,(∀ v G',Same G G'→Held G' d v→Q v G')→t σ G Q
theorem PE.weak {X:Cx} {e:Expr} {t t':TE} (h:PE X e t) (w:∀ σ H Q,t' σ H Q→t σ H Q):PE X e t':=fun pins s σ H Q I q=>h pins s σ H Q I (w σ H Q q)
theorem PA.weak {X:Cx} {es:List Expr} {t t':TA} (h:PA X es t) (w:∀ σ H Q,t' σ H Q→t σ H Q):PA X es t':=fun pos pins s σ H Q I q=>h pos pins s σ H Q I (w σ H Q q)
theorem fQ {a b c} (h:FnScope a b c:=by exact ⟨rfl,rfl,rfl,by decide +kernel,rfl,by decide +kernel,by decide +kernel⟩):FnScope a b c:=h
theorem oQ {p q:Prop} (h:p∨q:=by first|exact .inl rfl|exact .inr rfl):p∨q:=h
theorem jgz {i:Nat} {v:V} {σ σ':St} {H:Hp} {Q:St→Hp→Prop} (e:σ.set i (some v)=σ') (h:Q σ' H):qN i v σ H Q:=by subst e;exact h
theorem gQ {i:Nat} {v:V} {σ σ':St} {H:Hp} {Q:St→Hp→Prop} (h:Q σ' H) (e:σ.set i (some v)=σ':=by simp only [List.set_cons_succ,List.set_cons_zero];rfl):qN i v σ H Q:=jgz e h
theorem kb {t:TS} {D:Ends} {σ σ':St} {H:Hp} (e:σ=σ') (h:t D σ' H):t D σ H:=by subst e;exact h
theorem jG {H:Hp} {p:Addr} (h:H p=none) (o:HO):Same H (upd H p o):=fun b u q=>by rw [jx (ju q h)];exact q
theorem zS (H:Hp):Same H H:=fun _ _ e=>e
section
variable {X:Cx}
theorem jo (i:Nat) {x:Str} {pos:Pos} (hN:X.N[i]?=some x:=by rfl) (hv:Vis X.env.scope x:=by first | exact Or.inl rfl | exact Or.inr (Or.inl rfl) | exact Or.inr (Or.inr rfl)) (hd:(x == ("__debug__" : Str))=false:=by decide)
  (hcd:(x == ("__classdict__" : Str))=false:=by decide):PD X (.Name x pos) (rV i):=
 ⟨(jcs hN hv hd hcd).weak fun σ H Q ⟨d,⟨v,e,hv⟩,q⟩=>⟨v,e,q v H (zS H) hv⟩,fun s ⟨v,e,h⟩=>⟨v,e,h.mono s⟩⟩
theorem kg {i j pos}:PD X (.Constant (.int i) j pos) (rK (.int i)):=⟨yt.weak fun σ H Q ⟨d,e,q⟩=>by cases e;exact q _ H (zS H) kP,fun _ h=>h⟩
theorem jF {x j pos}:PD X (.Constant (.str x) j pos) (rK (.str x)):=⟨jcu.weak fun σ H Q ⟨d,e,q⟩=>by cases e;exact q _ H (zS H) jj,fun _ h=>h⟩
theorem jga {e:Expr} {t:TE} (h:PE X e t):PD X e (rE t):=⟨h.weak fun σ H Q ⟨d,r,q⟩=>r H (zS H) Q q,fun s r G sG Q q=>r G (s.trans sG) Q q⟩
theorem jm:PDs X [] rN:=⟨yu.weak fun σ H Q ⟨d,e,q⟩=>by cases e;exact q _ H (zS H) jt,fun _ h=>h⟩
theorem ja {e:Expr} {es:List Expr} {R:RD} {Rs:RDL} (h:PD X e R) (hs:PDs X es Rs) (hp:qk e=true:=by rfl):PDs X (e :: es) (rC R Rs):=by
 refine ⟨(Kz h.h hs.h hp).weak fun σ H Q ⟨ds,⟨d,r,e,h1,h2⟩,q⟩=>?_,fun s ⟨d,r,e,h1,h2⟩=>⟨d,r,e,h.m s h1,hs.m s h2⟩⟩
 subst e
 exact ⟨d,h1,fun v H1 s1 hv=>⟨r,hs.m s1 h2,fun vs H2 s2 hvs=>q _ _ (s1.trans s2) (jh (hv.mono s2) hvs)⟩⟩
theorem jp {es:List Expr} {R:RDL} {x1} {pos:Pos} (h:PDs X es R):PD X (.Tuple es x1 pos) (rT R):=by
 refine ⟨(jct h.h).weak fun σ H Q ⟨d,⟨ds,e,hl,hr⟩,q⟩=>?_,fun s ⟨ds,e,hl,hr⟩=>⟨ds,e,hl,h.m s hr⟩⟩
 subst e
 refine ⟨ds,hr,fun vs H1 s1 hvs=>⟨?_,fun p hp=>?_⟩⟩
 ·rw [← hvs.length]
  exact Nat.le_of_lt (j8 hl)
 ·exact q _ _ (s1.trans (jG hp _)) (jQ jg (hvs.mono (jG hp _)))
structure QA (X:Cx) (es:List Expr) (t:TA):Prop where
 h:PA X es t
structure QE (X:Cx) (e:Expr) (t:TE):Prop where
 h:PE X e t
end
end L2
namespace PySem
open Sem (wp)
namespace F
end F
end PySem
namespace L2
open PySem PySem.Spec PyProof.Rows PySem.W
end L2
namespace HT
open PySem PySem.Spec PyProof.Rows L2
open PySem.SeqAt
open PySem.AutoSeq1 (wpAny_loadPart')
open PySem.MeetsSeq PySem.MeetsSeq2 PySem.MeetsSeq3
section
variable {prog:Program} {w:World} {A:Around} {E:Value→Shared→Prop} {s:Shared}
theorem getItem_tuple_whole {t sl:Addr} {items:Array Value} {vl vu:Value} {lo hi:Option Int} {Q:Value→Shared→Prop} (ht:IsTup s.heap t items) (hs:s.heap.IsSliceOf sl vl vu .none) (pl:IsPart vl lo) (pu:IsPart vu hi)
  (hw:sIx items.size 0 lo=0∧sIx items.size items.size hi=items.size) (h:Q (.ref t) s):wpAny (model prog w) A (getItem (.ref t) (.ref sl)) Q E s:=by
 obtain ⟨os,hos,hcs,hds⟩:=id hs
 have hTs:s.TypeIs (.ref sl) "slice":=⟨os,hos,hcs⟩
 unfold getItem
 try with_reducible refine wpAny_holding ?_
 first | refine wpAny_bind (wpAny_pure ?_) | skip
 refine wpAny_bind (wpAny_sequenceKey ht.typeIs (by decide) ?_)
 refine wpAny_bind (wpAny_callSpecial?_slot (name:=Str.ofString "__getitem__") ht.typeIs PyProof.Rows.slot_tuple_getitem
  (wpAny_call_entry PyProof.Rows.slot_tuple_getitem ht.typeIs entry_tuple_getitem ?_ (args_tuple_getitem _ _)))
 show wpAny _ _ (Builtin.Tuple.tupleItemsOf (.ref t) >>= _) _ _ s
 refine wpAny_bind (tupleItemsOf_ ht ?_)
 refine wpAny_bind (wpAny_typeOf hTs ?_)
 rw [if_pos (by decide)]
 refine wpAny_bind (zR hs pl pu ?_)
 have hyes:(((sIx items.size 0 lo:Nat):Int) == 0 && (1:Int) == 1 && (sIx items.size items.size hi - sIx items.size 0 lo) == items.size)=true:=by
  rw [hw.1,hw.2]
  simp
 show wpAny _ _ (if (((sIx items.size 0 lo:Nat):Int) == 0 && (1:Int) == 1 && (sIx items.size items.size hi - sIx items.size 0 lo) == items.size)=true then _ else _) _ _ s
 rw [if_pos hyes]
 refine wpAny_bind ?_
 unfold Builtin.Tuple.tupleIsExact
 first
  | refine wpAny_bind (wpAny_typeOf ht.typeIs (wpAny_pure ?_))
  | trace_state
 rw [if_pos (by decide)]
 refine wpAny_bind (wpAny_rule ?_)
 exact wpAny_pure ⟨_,rfl,wpAny_pure h⟩
end
end HT
namespace L2
open PySem PySem.Spec PyProof.Rows
def jfY (K:W.Frag):V→Option Int→Option Int→Hp→VK→Prop:=fun x lo hi H Q=>∃ a xs,x=.ref a∧SqT K H a xs∧
 ((HT.sIx xs.length 0 lo=0∧HT.sIx xs.length xs.length hi=xs.length)→Q (.ref a) H)∧(¬ (HT.sIx xs.length 0 lo=0∧HT.sIx xs.length xs.length hi=xs.length)→∀ p,H p=none→Q (.ref p) (upd H p (.tup (qh xs lo hi))))
theorem jdI {X:Cx}:SlR X (jfY X.K):=by
 intro pins s σ H x v vl vu lo hi sl Q I rx hs pl pu h
 obtain ⟨a,xs,rfl,hx,q1,q2⟩:=h
 by_cases hw:HT.sIx xs.length 0 lo=0∧HT.sIx xs.length xs.length hi=xs.length
 ·cases rx
  obtain ⟨its,r,ht,hz⟩:=I.tuple hx
  have hlen:its.toArray.size=xs.length:=by rw [List.size_toArray];exact r.length.symm
  refine ⟨"tuple",_,PyProof.Rows.slot_tuple_getitem.lookup,ht.typeIs,?_⟩
  exact HT.getItem_tuple_whole ht hs pl pu (by rw [hlen];exact hw) ⟨.ref a,H,I,rfl,q1 hw⟩
 ·exact zt pins s σ H (.ref a) v vl vu lo hi sl Q I rx hs pl pu ⟨a,xs,rfl,hx,hw,q2 hw⟩
theorem jak {xs:List V} {lo hi:Option Int} (h:HT.sIx xs.length 0 lo=0∧HT.sIx xs.length xs.length hi=xs.length):qh xs lo hi=xs:=by
 unfold qh
 rw [h.1,h.2,List.drop_zero,Nat.sub_zero,List.take_length]
variable {X:Cx}
theorem jfq {K:W.Frag} {o e:Expr} {es:List Expr} {to:TE} {t:TA} {name:Str} {apos cpos:Pos} {T id:String} {r:V→List V→Hp→VK→Prop} (pa:PlainAttrs T) (slot:Slot T name id) (hty:typeOf (.builtin id)=pure (.type "method_descriptor")) (hm:MtR X id r) (ho:PE X o to) (ha:PA X (e :: es) t)
  (hbase:attributeBase o name X.env (eval o X.env)=eval o X.env:=by rfl)
  (hfew:((backTo cpos (starEach (e :: es) X.env)).all (fun x=>!x.1) && (backToKw cpos (keywordEach [] X.env)).all (fun x=>x.1.isSome)
   && decide ((e :: es).length+([]:List Keyword).length+(if ([]:List Keyword).isEmpty then 0 else 1) < 30))=true:=by rfl)
  (hline:(apos.endLine == cpos.line)=true:=by rfl) (hs:starEach (e :: es) X.env=(false,eval e X.env) :: starEach es X.env:=by rfl) (hplain:(backTo cpos (starEach es X.env)).any (·.1)=false:=by rfl) (hK:X.K=K:=by rfl) :
  PE X (.Call (.Attribute o name apos) (e :: es) [] cpos) (tBM K T r to t):=by
 subst hK
 exact jcB pa slot hty hm ho ha hbase hfew hline hs hplain
variable {X:Cx} {pos:Pos}
structure QT (X:Cx) (e:Expr) (t:TT):Prop where
 h:PT X e t
structure QW (X:Cx) (e:Expr) (t:TT):Prop where
 h:PW X e t
structure QG (X:Cx) (e:Expr) (t:TG):Prop where
 h:PG X e t
structure QGs (X:Cx) (e:List Expr) (t:TGs):Prop where
 h:PGs X e t
structure QI (X:Cx) (tg e:Expr) (t:TI):Prop where
 h:PI X tg e t
structure QO (X:Cx) (e:Option Expr) (t:TO):Prop where
 h:PO X e t
structure QC (X:Cx) (op:CmpOp) (a b:Expr) (t:TE):Prop where
 h:PC X op a b t
structure QTs (X:Cx) (e:List Expr) (t:TT):Prop where
 h:PTs X e t
structure QPs (X:Cx) (pos:Pos) (ks:List (Option Expr)) (vs:List Expr) (t:List (TE×TE)):Prop where
 h:PPs X pos ks vs t
theorem QW.pt {X:Cx} {e:Expr} {t:TT} (h:QW X e t):QT X e t:=⟨h.h.pt⟩
theorem YG {X:Cx} {e:Expr} {t:TE} (h:QE X e t) (he:∀ whole,isTrue e X.env whole=(do let v ← whole;standAt e.pos;holding [v] (truthy v)):=by intro _;rfl):QT X e (tB t):=⟨jfg h.h he⟩
theorem jaq {X:Cx} {pos:Pos} {o i:Expr} {to ti:TE} {t:jeD} (ho:QE X o to) (hi:QE X i ti) (hs:jfK X t)
  (ha:∀ v,assign (.Subscript o i pos) X.env v=(do
   let ov ← holding [v] (eval o X.env)
   let iv ← holding [v,ov] (eval i X.env)
   standAt pos
   holding [v,ov,iv] (setItem ov iv v)
   release [v,ov,iv] []):=by intro _;rfl):QG X (.Subscript o i pos) (jgk to ti t):=⟨jfm ho.h hi.h hs ha⟩
theorem zpv {X:Cx} (i:Nat) {x:Str} {pos:Pos} (h1:(Cx.N X)[i]?=some x:=by rfl) (h2:Vis (Env.scope (Cx.env X)) x:=by first | exact Or.inl rfl | exact Or.inr (Or.inl rfl) | exact Or.inr (Or.inr rfl)) (h3:(x == Str.ofString "__debug__")=false:=by decide) (h4:(x == Str.ofString "__classdict__")=false:=by decide):QE X (Expr.Name x pos) (jb4 i):=
 ⟨@pv _ i _ _ h1 h2 h3 h4⟩
theorem ji {X:Cx} {i:Int} {j:Nat} {pos:Pos}:QE X (Expr.Constant (Const.int i) j pos) (tC (V.int i)):=
 ⟨@yt _ _ _ _⟩
theorem jq {X:Cx} {x:Str} {j:Nat} {pos:Pos}:QE X (Expr.Constant (Const.str x) j pos) (tC (V.str x)):=
 ⟨@jcu _ _ _ _⟩
theorem Kj {X:Cx} {b:Bool} {j:Nat} {pos:Pos}:QE X (Expr.Constant (Const.bool b) j pos) (tC (V.bl b)):=
 ⟨@jf9 _ _ _ _⟩
theorem jar {X:Cx} {j:Nat} {pos:Pos}:QE X (Expr.Constant Const.none j pos) (tC V.non):=
 ⟨@jfo _ _ _⟩
theorem jD {X:Cx} {a b:Expr} {ta tb:TE} {pos:Pos} {op:Operator} {r:R2} (h1:OpR X (binaryOp op) r) (h2:QE X a ta) (h3:QE X b tb):QE X (Expr.BinOp a op b pos) (tOp r ta tb):=
 ⟨@jf6 _ _ _ _ _ _ _ _ h1 h2.h h3.h⟩
theorem YH {X:Cx} {a:Expr} {ta:TE} {pos:Pos} {op:UnaryOp} {r:V→Hp→VK→Prop} (h1:UnR X (unaryOp op) r) (h2:QE X a ta):QE X (Expr.UnaryOp op a pos) (tUn r ta):=
 ⟨@jf5 _ _ _ _ _ _ h1 h2.h⟩
theorem kA {X:Cx} {e:Expr} {te:TE} {lo hi:Option Expr} {tl th:TO} {pos p2:Pos} {r:V→Option Int→Option Int→Hp→VK→Prop} (h1:SlR X r) (h2:QE X e te) (h3:QO X lo tl) (h4:QO X hi th):QE X (Expr.Subscript e (Expr.Slice lo hi none p2) pos) (tSl r te tl th):=
 ⟨@jcv _ _ _ _ _ _ _ _ _ _ h1 h2.h h3.h h4.h⟩
theorem qB {X:Cx} {o i:Expr} {pos:Pos} {td ty:TE} (h1:Around.units (Cx.A X)+1 < cLine) (h2:QE X o td) (h3:QE X i ty) (h4:jfM i):QE X (Expr.Subscript o i pos) (jeL td ty):=
 ⟨@jd3 _ _ _ _ _ _ h1 h2.h h3.h h4⟩
theorem jz {X:Cx} {a b:Expr} {ta tb:TE} {pos:Pos} {r:R2} (h1:IxR X r) (h2:QE X a ta) (h3:QE X b tb) (h4:ja7 b):QE X (Expr.Subscript a b pos) (tOp r ta tb):=
 ⟨@jf7 _ _ _ _ _ _ _ h1 h2.h h3.h h4⟩
theorem jM {X:Cx} {es:List Expr} {t:TA} {pos:Pos} (h1:QA X es t):QE X (Expr.List es pos) (jfR t):=
 ⟨@jcx _ _ _ _ h1.h⟩
theorem jX {X:Cx} {es:List Expr} {t:TA} {pos:Pos} {x1:Nat} (h1:QA X es t):QE X (Expr.Tuple es x1 pos) (jfP t):=
 ⟨@jct _ _ _ _ _ h1.h⟩
theorem Yb {X:Cx} {pos:Pos}:QE X (Expr.Dict [] [] pos) jb6:=
 ⟨@jcy _ _⟩
theorem jbX {X:Cx} {pos:Pos} {keys:List (Option Expr)} {values:List Expr} {trs:List (TE×TE)} (h1:QPs X pos keys values trs) (h2:(List.all keys fun x=>Option.isSome x)=true) (h3:List.length keys=List.length values) (h4:keys≠[]) (h5:List.length keys≤15):QE X (Expr.Dict keys values pos) (jeK trs):=
 ⟨@jd2 _ _ _ _ _ h1.h h2 h3 h4 h5⟩
theorem jbV {X:Cx} {pos:Pos}:QPs X pos [] [] []:=
 ⟨@jdU _ _⟩
theorem zO {X:Cx} {pos:Pos} {k v:Expr} {ks:List (Option Expr)} {vs:List Expr} {tk tv:TE} {trs:List (TE×TE)} (h1:QE X k tk) (h2:QE X v tv) (h3:QPs X pos ks vs trs):QPs X pos (some k :: ks) (v :: vs) ((tk,tv) :: trs):=
 ⟨@jco _ _ _ _ _ _ _ _ _ h1.h h2.h h3.h⟩
theorem ze {X:Cx} {scope:Scope} {elt tg iter:Expr} {ifs:List Expr} {pos:Pos} {wi:TI} {g:TG} {tt:TT} {te:TE} (own:List Str) (fr:List Nat) (h1:Cx.calm X=true) (h2:CompOk X scope fr) (h3:QI (Cx.nox X) tg iter wi) (h4:∀ (s:PySem.Shared) (H:Hp) (ex:List PySem.Addr),QG (blk (Cx.nox X) scope own fr s H ex) tg g∧QTs (blk (Cx.nox X) scope own fr s H ex) ifs tt∧QE (blk (Cx.nox X) scope own fr s H ex) elt te) (h5:∀ (x:Value),foldedSetIterable iter (Cx.env X) x=pure x:=by intro _;rfl):QE (Cx.nox X) (Expr.ListComp elt [{ target:=tg,iter:=iter,ifs:=ifs,is_async:=0 }] scope pos) (Yg own fr wi g tt te):=
 ⟨@jd4 _ _ _ _ _ _ _ _ _ _ _ own fr h1 h2 h3.h (fun s H ex=>⟨(h4 s H ex).1.h,(h4 s H ex).2.1.h,(h4 s H ex).2.2.h⟩) h5⟩
theorem jH {X:Cx} {k k':Nat} {x:Str} {ps:List Str} {sp:Sp} {e:Expr} {es:List Expr} {t:TA} {p pos:Pos} (h1:Fn (Cx.prog X) (Cx.w X) (Cx.K X) (Cx.mg X) (Cx.base X) k x ps sp) (h2:Room k' (Cx.A X)) (h3:QA X (e :: es) t) (h4:k≤k':=by decide) (h5:Gl X x:=by rfl) (h6:(x == Str.ofString "__debug__")=false:=by decide) (h7:List.all (e :: es) qk=true:=by rfl):QE X (Expr.Call (Expr.Name x p) (e :: es) [] pos) (Kl sp [] E0 t):=
 ⟨@jeQ _ _ _ _ _ _ _ _ _ _ _ h1 h2 h3.h h4 h5 h6 h7⟩
theorem j0 {X:Cx} {x:Str} {p pos:Pos} {e:Expr} {es:List Expr} {t:TA} {id:String} {r:List V→Hp→VK→Prop} (h1:q4 X (Value.builtin id) r) (h2:Gl X x) (h3:Cx.mg X x=none) (h4:bootBuiltins x=some (Value.builtin id)) (h5:QA X (e :: es) t) (h6:List.all (e :: es) qk=true:=by rfl) (h7:x≠Str.ofString "__name__":=by decide) (h8:(x == Str.ofString "__debug__")=false:=by decide):QE X (Expr.Call (Expr.Name x p) (e :: es) [] pos) (tCB r t):=
 ⟨@Zu _ _ _ _ _ _ _ _ _ h1 h2 h3 h4 h5.h h6 h7 h8⟩
theorem zi {X:Cx} {x:Str} {p pos:Pos} {e:Expr} {es:List Expr} {t:TA} {T:String} {r:List V→Hp→VK→Prop} (h1:q4 X (Value.type T) r) (h2:Gl X x) (h3:Cx.mg X x=none) (h4:bootBuiltins x=some (Value.type T)) (h5:QA X (e :: es) t) (h6:List.all (e :: es) qk=true:=by rfl) (h7:x≠Str.ofString "__name__":=by decide) (h8:(x == Str.ofString "__debug__")=false:=by decide):QE X (Expr.Call (Expr.Name x p) (e :: es) [] pos) (tCB r t):=
 ⟨@jf8 _ _ _ _ _ _ _ _ _ h1 h2 h3 h4 h5.h h6 h7 h8⟩
theorem qS {X:Cx} {o e:Expr} {es:List Expr} {to:TE} {t:TA} {name:Str} {apos cpos:Pos} {T id:String} {r:V→List V→Hp→VK→Prop} (h1:PlainAttrs T) (h2:Slot T name id) (h3:typeOf (Value.builtin id)=pure (Value.type "method_descriptor")) (h4:MtR X id r) (h5:QE X o to) (h6:QA X (e :: es) t) (h7:attributeBase o name (Cx.env X) (eval o (Cx.env X))=eval o (Cx.env X):=by rfl) (h8:(((List.all (backTo cpos (starEach (e :: es) (Cx.env X))) fun x=>!Prod.fst x) && List.all (backToKw cpos (keywordEach [] (Cx.env X))) fun x=>Option.isSome (Prod.fst x)) && decide ((List.length (e :: es)+List.length ([]:List PySem.Keyword)+if List.isEmpty ([]:List PySem.Keyword)=true then 0 else 1) < 30))=true:=by rfl) (h9:(Pos.endLine apos == Pos.line cpos)=true:=by rfl) (h10:starEach (e :: es) (Cx.env X)=(false,eval e (Cx.env X)) :: starEach es (Cx.env X):=by rfl) (h11:(List.any (backTo cpos (starEach es (Cx.env X))) fun x=>Prod.fst x)=false:=by rfl):QE X (Expr.Call (Expr.Attribute o name apos) (e :: es) [] cpos) (tBM (Cx.K X) T r to t):=
 ⟨@jcB _ _ _ _ _ _ _ _ _ _ _ _ h1 h2 h3 h4 h5.h h6.h h7 h8 h9 h10 h11⟩
theorem jv {X:Cx} {a b:Expr} {ta tb:TE} {pos:Pos} {op:CmpOp} {r:R2} (h1:OpR X (compareOp op) r) (h2:QE X a ta) (h3:QE X b tb) (h4:behindInMarks op b=false):QT X (Expr.Compare a [op] [b] pos) (jeF (tOp r ta tb)):=
 ⟨@jaR _ _ _ _ _ _ _ _ h1 h2.h h3.h h4⟩
theorem jap {X:Cx} {a b:Expr} {pos:Pos} {op:CmpOp} {t:TE} (h1:QC X op a b t) (h2:behindInMarks op b=false:=by rfl):QT X (Expr.Compare a [op] [b] pos) (tB t):=
 ⟨@jfh _ _ _ _ _ _ h1.h h2⟩
theorem qE {X:Cx} {a b:Expr} {pos:Pos} {tA tB':TT} {qQ:List Expr} (h1:QT X a tA) (h2:QW X (Expr.BoolOp BoolOp.And (b :: qQ) pos) tB'):QW X (Expr.BoolOp BoolOp.And (a :: b :: qQ) pos) (jfU tA tB'):=
 ⟨@jff _ _ _ _ _ _ _ h1.h h2.h⟩
theorem qg {X:Cx} {a:Expr} {pos:Pos} {tA:TT} (h1:QT X a tA):QW X (Expr.BoolOp BoolOp.And [a] pos) tA:=
 ⟨@jdO _ _ _ _ h1.h⟩
theorem Ki {X:Cx} {a b:Expr} {pos:Pos} {tA tB':TT} {qQ:List Expr} (h1:QT X a tA) (h2:QW X (Expr.BoolOp BoolOp.Or (b :: qQ) pos) tB'):QW X (Expr.BoolOp BoolOp.Or (a :: b :: qQ) pos) (tOr tA tB'):=
 ⟨@jf3 _ _ _ _ _ _ _ h1.h h2.h⟩
theorem YF {X:Cx} {a:Expr} {pos:Pos} {tA:TT} (h1:QT X a tA):QW X (Expr.BoolOp BoolOp.Or [a] pos) tA:=
 ⟨@jfe _ _ _ _ h1.h⟩
theorem qA {X:Cx}:QO X none jaz:=
 ⟨@jdW _⟩
theorem kj {X:Cx} {e:Expr} {te:TE} (h1:QE X e te):QO X (some e) (jeG te):=
 ⟨@jdV _ _ _ h1.h⟩
theorem jdB {X:Cx} {o i:Expr} {td ty:TE} (h1:Around.units (Cx.A X)+1 < cLine) (h2:QE X i ty) (h3:QE X o td):QC X CmpOp.In i o (jfT ty td):=
 ⟨@jfr _ _ _ _ _ h1 h2.h h3.h⟩
theorem ZU {X:Cx} {o i:Expr} {td ty:TE} (h1:Around.units (Cx.A X)+1 < cLine) (h2:QE X i ty) (h3:QE X o td):QC X CmpOp.NotIn i o (jaB ty td):=
 ⟨@jbk _ _ _ _ _ h1 h2.h h3.h⟩
theorem kx {X:Cx} {tg a:Expr} {ta:TA} {p pos:Pos} (h1:Gl X (Str.ofString "range")) (h2:Cx.mg X (Str.ofString "range")=none) (h3:QA X [a] ta) (h4:starEach [a] (Cx.env X)=[(false,eval a (Cx.env X))]:=by rfl):QI X tg (Expr.Call (Expr.Name (Str.ofString "range") p) [a] [] pos) (jeV ta):=
 ⟨@jbi _ _ _ _ _ _ h1 h2 h3.h h4⟩
theorem zr {X:Cx} {tg l:Expr} {tl:TE} (h1:QE X l tl):QI X tg l (jeW (Cx.K X) tl):=
 ⟨@jdX _ _ _ _ h1.h⟩
theorem zk {X:Cx} {tg l:Expr} {tl:TE} (h1:QE X l tl):QI X tg l (jgf (Cx.K X) tl):=
 ⟨@jfl _ _ _ _ h1.h⟩
theorem js {X:Cx} {pos:Pos} {i:Nat} {x:Str} {e:Expr} {te:TE} {pos':Pos} (h1:List.Nodup (Cx.N X)) (h2:(Cx.N X)[i]?=some x) (h3:L2.Loc (Env.scope (Cx.env X)) x) (h4:QE X e te) (h5:swapsWith e (some (Expr.Name x pos')) (Pos.line pos) (Cx.env X)=pure false:=by rfl) (h6:Cx.fn X x=true∨List.lookup x (Scope.names (Env.scope (Cx.env X)))=some NameKind.local:=by first | exact .inl rfl | exact .inr rfl | assumption):QS X (Stmt.Assign [Expr.Name x pos'] e pos) (jbc te (qN i)):=
 ⟨@jfi _ _ _ _ _ _ _ h1 h2 h3 h4.h h5 h6⟩
theorem zC {X:Cx} {scope:Scope} {elt tg iter:Expr} {ifs:List Expr} {pos:Pos} {wi:TI} {g:TG} {tt:TT} {te:TE} {i:Nat} {y:Str} {py spos:Pos} (h1:List.Nodup (Cx.N X)) (h2:(Cx.N X)[i]?=some y) (h3:L2.Loc (Env.scope (Cx.env X)) y) (own:List Str) (fr:List Nat) (h4:Cx.calm X=true) (h5:CompOk X scope fr) (h6:QI (Cx.nox X) tg iter wi) (h7:∀ (s:PySem.Shared) (H:Hp) (ex:List PySem.Addr),QG (blk (Cx.nox X) scope own fr s H ex) tg g∧QTs (blk (Cx.nox X) scope own fr s H ex) ifs tt∧QE (blk (Cx.nox X) scope own fr s H ex) elt te) (h8:∀ (x:Value),foldedSetIterable iter (Cx.env X) x=pure x:=by intro _;rfl) (h9:swapsWith (Expr.ListComp elt [{ target:=tg,iter:=iter,ifs:=ifs,is_async:=0 }] scope pos) (some (Expr.Name y py)) (Pos.line spos) (Cx.env X)=pure true:=by rfl) (h10:Cx.fn X y=true∨List.lookup y (Scope.names (Env.scope (Cx.env X)))=some NameKind.local:=by first | exact .inl rfl | exact .inr rfl | assumption):QS (Cx.nox X) (Stmt.Assign [Expr.Name y py] (Expr.ListComp elt [{ target:=tg,iter:=iter,ifs:=ifs,is_async:=0 }] scope pos) spos) (jbc (Yg own fr wi g tt te) (qN i)):=
 ⟨@Z5 _ _ _ _ _ _ _ _ _ _ _ _ _ _ _ h1 h2 h3 own fr h4 h5 h6.h (fun s H ex=>⟨(h7 s H ex).1.h,(h7 s H ex).2.1.h,(h7 s H ex).2.2.h⟩) h8 h9 h10⟩
theorem Y9 {X:Cx} {o i value:Expr} {pos pos':Pos} {td ty tv:TE} (h1:Around.units (Cx.A X)+1 < cLine) (h2:QE X o td) (h3:QE X i ty) (h4:QE X value tv) (h5:swapsWith value (some (Expr.Subscript o i pos')) (Pos.line pos) (Cx.env X)=pure false):QS X (Stmt.Assign [Expr.Subscript o i pos'] value pos) (jeN td ty tv):=
 ⟨@jdT _ _ _ _ _ _ _ _ _ h1 h2.h h3.h h4.h h5⟩
theorem ql {X:Cx} {pos:Pos} {tg e:Expr} {te:TE} {g:TG} (h1:QE X e te) (h2:QG X tg g) (h3:swapsWithSole [tg] e (Pos.line pos) (Cx.env X)=pure false:=by rfl) (h4:swappedStores [tg] e (Cx.env X)=pure none:=by rfl) (h5:List.map (fun x=>Prod.snd x) (assignEach [tg] (Cx.env X))=[assign tg (Cx.env X)]:=by rfl):QS X (Stmt.Assign [tg] e pos) (jbc te g):=
 ⟨@jfk _ _ _ _ _ _ h1.h h2.h h3 h4 h5⟩
theorem jB {X:Cx} {e:Expr} {te:TE} {pos:Pos} (h1:QE X e te):QS X (Stmt.Return (some e) pos) (jfQ te):=
 ⟨@YS _ _ _ _ h1.h⟩
theorem jT {X:Cx} {t u:TS} {pos:Pos} {c:Expr} {a b:List Stmt} {tc:TT} (h1:QT X c tc) (h2:QSs X a t) (h3:QSs X b u):QS X (Stmt.If c a b pos) (Zd tc t u):=
 ⟨@jeP _ _ _ _ _ _ _ _ h1.h h2.h h3.h⟩
theorem kK {X:Cx} {tg iter:Expr} {body:List Stmt} {wi:TI} {g:TG} {tb:TS} {pos:Pos} (h1:PassesOwn (model (Cx.prog X) (Cx.w X)) (Cx.A X) (Cx.env X) (Cx.xe X)) (h2:Cx.calm X=true) (h3:QI X tg iter wi) (h4:QG X tg g) (h5:QSs X body tb) (h6:∀ (x:Value),foldedSetIterable iter (Cx.env X) x=pure x:=by intro _;rfl):QS X (Stmt.For tg iter body [] pos) (jfS wi g tb):=
 ⟨@jfj _ _ _ _ _ _ _ _ h1 h2 h3.h h4.h h5.h h6⟩
theorem ja8 {X:Cx} {pos:Pos} {c:Expr} {body:List Stmt} {tc:TT} {tb:TS} (h1:PassesOwn (model (Cx.prog X) (Cx.w X)) (Cx.A X) (Cx.env X) (Cx.xe X)) (h2:QT X c tc) (h3:QSs X body tb):QS X (Stmt.While c body [] pos) (ZY tc tb):=
 ⟨@jck _ _ _ _ _ _ h1 h2.h h3.h⟩
theorem kE {X:Cx} {e:Expr} {te:TE} {pos:Pos} (h1:QE X e te) (h2:swapsWith e none (Pos.line pos) (Cx.env X)=pure false:=by rfl):QS X (Stmt.Expr e pos) (jeJ te):=
 ⟨@jdS _ _ _ _ h1.h h2⟩
theorem jy {X:Cx} {pos:Pos} {i:Nat} {x:Str} (h1:List.Nodup (Cx.N X)) (h2:(Cx.N X)[i]?=some x) (h3:L2.Loc (Env.scope (Cx.env X)) x) (h4:Cx.fn X x=true∨List.lookup x (Scope.names (Env.scope (Cx.env X)))=some NameKind.local:=by first | exact .inl rfl | exact .inr rfl | assumption):QG X (Expr.Name x pos) (qN i):=
 ⟨@jd0 _ _ _ _ h1 h2 h3 h4⟩
theorem qR {X:Cx} {pos:Pos} {es:List Expr} {k:Nat} {t:TGs} {n:Nat} (h1:Cx.calm X=true) (h2:QGs X es t) (h3:List.length (assignEach es (Cx.env X))=n:=by rfl) (h4:List.findIdx? (fun x=>Prod.fst x) (assignEach es (Cx.env X))=none:=by rfl):QG X (Expr.Tuple es k pos) (jes (Cx.K X) n t):=
 ⟨@jcr _ _ _ _ _ _ h1 h2.h h3 h4⟩
theorem jdz {X:Cx} {pos:Pos} {es:List Expr} {k:Nat} {t:TGs} {n:Nat} (h1:Cx.calm X=true) (h2:QGs X es t) (h3:List.length (assignEach es (Cx.env X))=n:=by rfl) (h4:List.findIdx? (fun x=>Prod.fst x) (assignEach es (Cx.env X))=none:=by rfl):QG X (Expr.Tuple es k pos) (jgm (Cx.K X) n t):=
 ⟨@jfn _ _ _ _ _ _ h1 h2.h h3 h4⟩
theorem kX {X:Cx}:QGs X [] jgl:=
 ⟨@jdY _⟩
theorem jJ {X:Cx} {e:Expr} {es:List Expr} {t:TG} {u:TGs} (h1:QG X e t) (h2:QGs X es u) (h3:List.map (fun x=>Prod.snd x) (assignEach (e :: es) (Cx.env X))=assign e (Cx.env X) :: List.map (fun x=>Prod.snd x) (assignEach es (Cx.env X)):=by rfl):QGs X (e :: es) (je0 t u):=
 ⟨@jcq _ _ _ _ _ h1.h h2.h h3⟩
theorem jA {X:Cx}:QSs X [] Zc:=
 ⟨@jaS _⟩
theorem jn {X:Cx} {st:Stmt} {t:TS} (h1:QS X st t):QSs X [st] t:=
 ⟨@Kb _ _ _ h1.h⟩
theorem je {X:Cx} {st:Stmt} {qQ:List Stmt} {t u:TS} (h1:QS X st t) (h2:QSs X qQ u):QSs X (st :: qQ) (jI t u):=
 ⟨@Zr _ _ _ _ _ h1.h h2.h⟩
theorem qm {X:Cx}:QTs X [] JB:=
 ⟨@jdQ _⟩
theorem jbT {X:Cx} {c:Expr} {t:TT} (h1:QT X c t):QTs X [c] t:=
 ⟨@jdP _ _ _ h1.h⟩
theorem jd {X:Cx}:QA X [] jdF:=
 ⟨@yu _⟩
theorem jb {X:Cx} {e:Expr} {es:List Expr} {te:TE} {t:TA} (h1:QE X e te) (h2:QA X es t) (h3:qk e=true:=by rfl):QA X (e :: es) (jaC te t):=
 ⟨@Kz _ _ _ _ _ h1.h h2.h h3⟩
theorem jbW {X:Cx} {K:W.Frag} {pos:Pos} {es:List Expr} {k:Nat} {t:TGs} {n:Nat} (h1:Cx.calm X=true) (h2:QGs X es t) (h3:Cx.K X=K:=by rfl) (h4:List.length (assignEach es (Cx.env X))=n:=by rfl) (h5:List.findIdx? (fun x=>Prod.fst x) (assignEach es (Cx.env X))=none:=by rfl):QG X (Expr.Tuple es k pos) (jes K n t):=
 ⟨@jdZ _ _ _ _ _ _ _ h1 h2.h h3 h4 h5⟩
theorem jdA {X:Cx} {K:W.Frag} {o e:Expr} {es:List Expr} {to:TE} {t:TA} {name:Str} {apos cpos:Pos} {T id:String} {r:V→List V→Hp→VK→Prop} (h1:PlainAttrs T) (h2:Slot T name id) (h3:typeOf (Value.builtin id)=pure (Value.type "method_descriptor")) (h4:MtR X id r) (h5:QE X o to) (h6:QA X (e :: es) t) (h7:attributeBase o name (Cx.env X) (eval o (Cx.env X))=eval o (Cx.env X):=by rfl) (h8:(((List.all (backTo cpos (starEach (e :: es) (Cx.env X))) fun x=>!Prod.fst x) && List.all (backToKw cpos (keywordEach [] (Cx.env X))) fun x=>Option.isSome (Prod.fst x)) && decide ((List.length (e :: es)+List.length ([]:List PySem.Keyword)+if List.isEmpty ([]:List PySem.Keyword)=true then 0 else 1) < 30))=true:=by rfl) (h9:(Pos.endLine apos == Pos.line cpos)=true:=by rfl) (h10:starEach (e :: es) (Cx.env X)=(false,eval e (Cx.env X)) :: starEach es (Cx.env X):=by rfl) (h11:(List.any (backTo cpos (starEach es (Cx.env X))) fun x=>Prod.fst x)=false:=by rfl) (h12:Cx.K X=K:=by rfl):QE X (Expr.Call (Expr.Attribute o name apos) (e :: es) [] cpos) (tBM K T r to t):=
 ⟨@jfq _ _ _ _ _ _ _ _ _ _ _ _ _ h1 h2 h3 h4 h5.h h6.h h7 h8 h9 h10 h11 h12⟩
theorem zP {X:Cx} {x:Str} {v:V} {u:Value} {pos:Pos} (h1:Gl X x) (h2:Cx.mg X x=some u) (h3:RelV v u) (h4:(x == Str.ofString "__debug__")=false:=by decide):QE X (Expr.Name x pos) (tC v):=
 ⟨@jd1 _ _ _ _ _ h1 h2 h3 h4⟩
theorem jbU {X:Cx} {st:Stmt} {t:TS} (h:QS X st t):QS X st (jeH t):=⟨jdR h.h⟩
theorem Fun.okZ {P:Program} {w:World} {K:W.Frag} {mg:Str→Option Value} {base:Heap} {x qual:Str} {st:Stmt} {f:Addr} {fd:FuncData} {N ps:List Str} {k:Nat} {sp:Sp} (F:Fun K x qual st f fd) (S:FnScope N ps (jw st)) (len:∀ vs H Q E,sp vs H Q E→vs.length=ps.length)
  (hbody:∀ (cdv:Value) (A:Around) (outer:List Env) (s:Shared) (H:Hp) (vs:List V) (Q:VK) (E:XK),Room k (A.deeper (envOfC qual (jw st) s.heap.objs.size f cdv))→sp vs H Q E→
   ∃ t,QSs (q0 CX0 P w K mg base N qual (jw st) f cdv A outer s H E).nox (zo st) t∧t { nx:=fun _ H'=>Q .non H',rt:=Q } (yZ N vs) H):FnOk P w K mg base CX0 (k+1) f fd ps sp:=
 F.ok S len fun cdv A outer s H vs Q E hr h=>let ⟨t,a,b⟩:=hbody cdv A outer s H vs Q E hr h;⟨t,a.h,b⟩
theorem je2 {X:Cx} {e:Expr} {t:TE} (h:QE X e t):PD X e (rE t):=jga h.h
theorem zpd {X:Cx} {e:Expr} {R:RD} (h:PD X e R):QE X e (tHD R):=⟨h.h⟩
open PySem PySem.Spec PyProof.Rows PySem.W
def SetAtS (prog:Program) (w:World) (h:Heap) (a:Addr) (led:Bool) (σ:List Str):Prop:=∃ (es:Array (Int×Value)) (ep:Nat) (t:SetTable),
 h.get? a=some { cls:=.type "set",dict:=none,data:=.set es ep t }∧ElemsOf (PySem.strKind prog w) es.toList∧(∃ l:List Str,StrsAre (es.toList.map (·.2)) l∧l.Perm σ)∧es.size < scanBound∧t.fits es.size=true∧TabOk led t
theorem SetAtS.kept {prog:Program} {w:World} {h h':Heap} {a:Addr} {led:Bool} {σ:List Str} (x:SetAtS prog w h a led σ) (k:∀ o,h.get? a=some o→h'.get? a=some o):SetAtS prog w h' a led σ:=by
 obtain ⟨es,ep,t,e,r⟩:=x
 exact ⟨es,ep,t,k _ e,r⟩
theorem jb7 {vs:List Value} {l:List Str} (h:StrsAre vs l) {v:Str}:v∈l↔∃ t,Value.str v t∈vs:=by
 induction h with
 | nil=>simp
 | cons n t h ih=>
  constructor
  ·intro hv
   rcases List.mem_cons.mp hv with rfl | hv
   ·exact ⟨t,List.mem_cons_self⟩
   ·obtain ⟨t',ht⟩:=ih.mp hv
    exact ⟨t',List.mem_cons_of_mem _ ht⟩
  ·rintro ⟨t',ht⟩
   rcases List.mem_cons.mp ht with e | ht
   ·cases e
    exact List.mem_cons_self
   ·exact List.mem_cons_of_mem _ (ih.mpr ⟨t',ht⟩)
theorem Yh:∀ {vs:List Value} {l:List Str} {v:Str} {t:Tok},StrsAre vs l→StrsAre (vs++[.str v t]) (l++[v])
 | _,_,v,t,.nil=>.cons v t .nil
 | _,_,v,t,.cons n t' h=>.cons n t' (Yh h)
theorem Yi {vs vs':List Value} {l:List Str} (h:StrsAre vs l) (p:vs'.Perm vs):∃ l',StrsAre vs' l'∧l'.Perm l:=by
 refine ⟨vs'.map strOf,strsAre_map vs' fun v hv=>h.all v (p.mem_iff.mp hv),?_⟩
 rw [← h.strs]
 exact p.map _
section
variable {prog:Program} {w:World} {A:Around} {E:Value→Shared→Prop} {s:Shared}
theorem Ym {es:Array (Int×Value)} {l:List Str} (hI:StrsAre (es.toList.map (·.2)) l) {v:Str}:(∃ j,List.findIdx? (fun e=>(PySem.strKind prog w).is v e.2) es.toList=some j)↔v∈l:=by
 rw [jb7 hI]
 constructor
 ·rintro ⟨j,hj⟩
  obtain ⟨hlt,h1,_⟩:=List.findIdx?_eq_some_iff_getElem.mp hj
  obtain ⟨x,t,e⟩:=hI.all es.toList[j].2 (List.mem_map.mpr ⟨_,List.getElem_mem hlt,rfl⟩)
  have:v=x:=by
   rw [e] at h1
   exact (PySem.strKind prog w).inj _ _ _ h1 (strKind_is _ _ _ _)
  subst this
  exact ⟨t,List.mem_map.mpr ⟨_,List.getElem_mem hlt,e⟩⟩
 ·rintro ⟨t,ht⟩
  obtain ⟨e,he,e2⟩:=List.mem_map.mp ht
  cases hf:List.findIdx? (fun e=>(PySem.strKind prog w).is v e.2) es.toList with
  | some j=>exact ⟨j,rfl⟩
  | none=>
   have:=List.findIdx?_eq_none_iff.mp hf e he
   rw [e2,strKind_is] at this
   cases this
theorem Ks {a:Addr} {led:Bool} {σ:List Str} {es es':Array (Int×Value)} {ep:Nat} {t t':SetTable} {h:Heap} (ho:h.get? a=some { cls:=.type "set",dict:=none,data:=.set es ep t })
  (hel:ElemsOf (PySem.strKind prog w) es'.toList) (hl:∃ l:List Str,StrsAre (es'.toList.map (·.2)) l∧l.Perm σ) (hb:es'.size < scanBound) (hf:t'.fits es'.size=true) (ht:TabOk led t') :
  (h.update a (Obj.putSet es' t')).get? a=some { cls:=.type "set",dict:=none,data:=.set es' (ep+1) t' }∧SetAtS prog w (h.update a (Obj.putSet es' t')) a led σ:=by
 have hg:(h.update a (Obj.putSet es' t')).get? a=some { cls:=.type "set",dict:=none,data:=.set es' (ep+1) t' }:=by
  have:=Heap.get?_update_self (Obj.putSet es' t') ho (by rw [putSet_of es' t' rfl];rfl)
  rw [putSet_of es' t' rfl] at this
  exact this
 exact ⟨hg,es',ep+1,t',hg,hel,hl,hb,hf,ht⟩
theorem jce {a:Addr} {led:Bool} {σ:List Str} {v:Str} {tk:Tok} {Q:Bool→Shared→Prop} (hS:SetAtS prog w s.heap a led σ) (hroom:σ.length+1 < scanBound)
  (h:∀ b h',Heap.SameBut a s.heap h'→SetAtS prog w h' a led (if v∈σ then σ else σ++[v])→Q b { s with heap:=h' }):wpAny (model prog w) A (setAddHashed a (.str v tk) ((PySem.strKind prog w).hash v)) Q E s:=by
 obtain ⟨es,ep,t,ho,hel,⟨l,hI,hp⟩,hb,hf,ht⟩:=hS
 have hsz:es.size=σ.length:=by
  have h1:=hI.length
  have h2:=hp.length_eq
  rw [List.length_map,Array.length_toList] at h1
  omega
 unfold setAddHashed setAddHashedIn
 refine wpAny_holding (wpAny_bind (wpAny_setState_of ho rfl hf ?_))
 dsimp only
 rw [byScan_of (knd:=PySem.strKind prog w) rfl hb hel]
 simp only [↓reduceIte]
 unfold setAddByScan
 refine wpAny_bind (wpAny_bind (wpAny_rule (wpAny_bind (wpAny_setScan_of (knd:=PySem.strKind prog w) (strKind_is _ _ _ _) ho rfl hf hel ?_))))
 cases hr:List.findIdx? (fun e=>(PySem.strKind prog w).is v e.2) es.toList with
 | some j=>
  have hv:v∈σ:=hp.mem_iff.mp ((Ym hI).mp ⟨j,hr⟩)
  dsimp only
  refine wpAny_pure (wpAny_pure ?_)
  have:=h false s.heap (Heap.SameBut.refl a s.heap) (by rw [if_pos hv];exact ⟨es,ep,t,ho,hel,⟨l,hI,hp⟩,hb,hf,ht⟩)
  exact this
 | none=>
  have hv:¬ v∈σ:=fun z=>by
   obtain ⟨j,hj⟩:=(Ym (prog:=prog) (w:=w) hI).mpr (hp.mem_iff.mpr z)
   rw [hr] at hj
   cases hj
  rw [if_neg hv] at h
  dsimp only
  have gw:∀ (b:Bool) {s₁:Shared} {Q':Unit→Shared→Prop},Q' () s₁→wpAny (model prog w) A (match b with | true=>rule "set.scan.the-table-gave-way" | false=>pure ()) Q' E s₁:=fun b s₁ Q' hq=>by
   cases b
   ·exact wpAny_pure hq
   ·exact wpAny_rule hq
  have p1:=layNew_perm t es ((PySem.strKind prog w).hash v) (.str v tk)
  have f1:=layNew_fits t es ((PySem.strKind prog w).hash v) (.str v tk)
  have k1:=jbD ht es ((PySem.strKind prog w).hash v) (.str v tk)
  generalize layNew t es ((PySem.strKind prog w).hash v) (.str v tk)=L at p1 f1 k1 ⊢
  obtain ⟨es1,t1,wd,gv⟩:=L
  dsimp only at p1 f1 k1 ⊢
  rw [Array.toList_push] at p1
  have hel1:ElemsOf (PySem.strKind prog w) es1.toList:=(hel.push (strKind_is _ _ _ _) rfl).perm p1
  have hI1:∃ l:List Str,StrsAre (es1.toList.map (·.2)) l∧l.Perm (σ++[v]):=by
   have pm:=p1.map (·.2)
   rw [List.map_append] at pm
   obtain ⟨l',i1,i2⟩:=Yi (Yh (t:=tk) hI) pm
   exact ⟨l',i1,i2.trans (hp.append_right _)⟩
  have hs1:es1.size=es.size+1:=by
   have:=p1.length_eq
   rw [List.length_append,Array.length_toList,Array.length_toList] at this
   simpa using this
  have hb1:es1.size < scanBound:=by omega
  refine wpAny_bind (gw _ ?_)
  have fin:∀ t2:SetTable,t2.fits es1.size=true→TabOk led t2→wpAny (model prog w) A (do
    storeSet a es1 t2
    if (!wd && t2.tooFull)=true then do
      (match (relayAll t2 es1 (SetTable.grown es1.size)).2.2 with | true=>rule "set.scan.the-table-gave-way" | false=>pure ():Sem Unit)
      storeSet a (relayAll t2 es1 (SetTable.grown es1.size)).1 (relayAll t2 es1 (SetTable.grown es1.size)).2.1
      pure (some true)
     else pure (some true)) (fun a_1 s'=>wpAny (model prog w) A (match a_1 with | some added=>pure added | none=>setAddHashedIn a (.str v tk) ((PySem.strKind prog w).hash v) 99999) Q E s') E s:=by
   intro t2 f2 k2
   refine wpAny_bind (wpAny_storeSet_of ho rfl ?_ (fits_of_scanBound hb1))
   obtain ⟨ho1,hS1⟩:=Ks (prog:=prog) (w:=w) (σ:=σ++[v]) ho hel1 hI1 hb1 f2 k2
   have sb1:=Heap.SameBut.update s.heap a (Obj.putSet es1 t2)
   split
   ·have p2:=relayAll_perm t2 es1 (SetTable.grown es1.size)
    have f3:=relayAll_fits t2 es1 (SetTable.grown es1.size)
    have k3:=jch k2 es1 (SetTable.grown es1.size)
    generalize relayAll t2 es1 (SetTable.grown es1.size)=L at p2 f3 k3 ⊢
    obtain ⟨es2,t3,gv2⟩:=L
    dsimp only at p2 f3 k3 ⊢
    have hs2:es2.size=es1.size:=by rw [← Array.length_toList,p2.length_eq,Array.length_toList]
    have hI2:∃ l:List Str,StrsAre (es2.toList.map (·.2)) l∧l.Perm (σ++[v]):=by
     obtain ⟨l1,i1,i2⟩:=hI1
     obtain ⟨l',j1,j2⟩:=Yi i1 (p2.map (·.2))
     exact ⟨l',j1,j2.trans i2⟩
    refine wpAny_bind (gw _ (wpAny_bind (wpAny_storeSet_of ho1 rfl ?_ (fits_of_scanBound (by omega)))))
    obtain ⟨_,hS2⟩:=Ks (prog:=prog) (w:=w) (σ:=σ++[v]) ho1 (hel1.perm p2) hI2 (by omega) f3 k3
    exact wpAny_pure (wpAny_pure (h true _ (sb1.trans (Heap.SameBut.update _ a _)) hS2))
   ·exact wpAny_pure (wpAny_pure (h true _ sb1 hS1))
  split
  ·refine wpAny_bind ?_
   rw [hashByValue_scannable 8 rfl]
   refine wpAny_pure ?_
   refine fin _ ?_ ?_
   ·split
    ·exact f1
    ·exact SetTable.fits_plain_off f1
   ·split
    ·exact k1
    ·exact jbh k1
  ·refine wpAny_bind (wpAny_pure ?_)
   simp only [↓reduceIte]
   exact fin _ f1 k1
end
def dedupS (ns:List Str):List Str:=ns.foldl (fun σ v=>if v∈σ then σ else σ++[v]) []
theorem JX (ns:List Str) (v:Str):dedupS (ns++[v])=if v∈dedupS ns then dedupS ns else dedupS ns++[v]:=by unfold dedupS;rw [List.foldl_append];rfl
theorem yW (ns:List Str):(dedupS ns).Nodup∧(dedupS ns).length≤ns.length∧∀ x,x∈dedupS ns↔x∈ns:=by
 have key:∀ (l:List Str),(dedupS l.reverse).Nodup∧(dedupS l.reverse).length≤l.reverse.length∧∀ x,x∈dedupS l.reverse↔x∈l.reverse:=by
  intro l
  induction l with
  | nil=>exact ⟨List.nodup_nil,Nat.le_refl _,fun x=>Iff.rfl⟩
  | cons v l ih=>
   rw [List.reverse_cons,JX]
   obtain ⟨h1,h2,h3⟩:=ih
   split
   ·next h=>
    refine ⟨h1,by rw [List.length_append];omega,fun x=>?_⟩
    rw [List.mem_append,h3]
    constructor
    ·exact .inl
    ·rintro (z | z)
     ·exact z
     ·rw [List.mem_singleton.mp z]
      exact (h3 v).mp h
   ·next h=>
    refine ⟨?_,by rw [List.length_append,List.length_append];simp;simpa using h2,fun x=>by rw [List.mem_append,List.mem_append,h3]⟩
    rw [List.nodup_append]
    refine ⟨h1,by simp,fun x hx y hy e=>?_⟩
    rw [List.mem_singleton] at hy
    subst hy e
    exact h hx
 have:=key ns.reverse
 rw [List.reverse_reverse] at this
 exact this
end L2
namespace PySem
end PySem
namespace L2
open PySem PySem.Spec PySem.Calls PyProof.Rows PySem.W
abbrev jfW (X:Cx) (v:Addr) (σ:List Str):HO:=.ext fun h=>SetAtS X.prog X.w h v (ledOf X.w) σ
theorem Ze:∀ {xs:List Str} {us:List Value},Vals (xs.map V.str) us→StrsAre us xs
 | [],us,h=>by cases h;exact .nil
 | x :: r,us,h=>by
  cases h with
  | cons h1 h2=>
   obtain ⟨t,rfl⟩:=h1
   exact .cons x t (Ze h2)
section
variable {prog:Program} {w:World} {A:Around} {E:Value→Shared→Prop} {R:Result→Shared→Prop}
theorem set_loopST {S it l:Addr} {led:Bool} {its:List Value} {ns:List Str} (hh:A.handled=none) (hI:StrsAre its ns) (hSl:S≠l) (hSi:S≠it) (hli:l≠it) (hz:ns.length+1 < scanBound) :
  ∀ (k i:Nat) (s:Shared),i+k=ns.length→s.heap.IsTupleIter it l i→s.heap.IsTuple l its.toArray→SetAtS prog w s.heap S led (dedupS (ns.take i))→
   (∀ h' tk,(∀ b o,b≠S→b≠it→s.heap.get? b=some o→h'.get? b=some o)→SetAtS prog w h' S led (dedupS ns)→R (.ok (.ret .none)) { s with heap:=h',toks:=tk })→
   codeAny (model prog w) A (.builtin "set.update.loop" ⟨[.ref S,.ref it],[]⟩) R s:=by
 intro k
 induction k with
 | zero=>
  intro i s hk hit ht hS hR
  have hl:=hI.length
  refine codeAny_builtin F.entry_set_update_loop ?_
  rw [Around.under_plainId F.plain_set_update_loop _]
  show wpAny _ A.in1 (pyNext (.ref it) >>= _) _ _ s
  refine wpAny_bind (wpAny_pyNext_tuple_end (A:=A.in1) hh hit ht (by simp;omega) fun h1 he1=>?_)
  show wpAny _ A.in1 (ret Value.none) _ _ _
  refine wpAny_pure ?_
  rw [show ns.take i=ns from List.take_of_length_le (by omega)] at hS
  exact hR h1 s.toks (fun b o _ hb e=>he1 b o hb e) (hS.kept fun o e=>he1 S o hSi e)
 | succ k ih=>
  intro i s hk hit ht hS hR
  have hl:=hI.length
  have hlt:i < ns.length:=by omega
  have hgi:its.toArray[i]?=some its[i]:=by simp [hl,hlt]
  obtain ⟨t,et⟩:∃ t,its[i]=.str ns[i] t:=by
   obtain ⟨t,ht⟩:=hI.get i ns[i] (by simp [hlt])
   exact ⟨t,by rw [List.getElem?_eq_getElem (by omega)] at ht;exact Option.some.inj ht⟩
  refine codeAny_builtin F.entry_set_update_loop ?_
  rw [Around.under_plainId F.plain_set_update_loop _]
  show wpAny _ A.in1 (pyNext (.ref it) >>= _) _ _ s
  refine wpAny_bind (wpAny_pyNext_tuple_item hit ht hgi fun h1 hit1 hs1=>?_)
  have ht1:h1.IsTuple l its.toArray:=ht.extBut hs1.extBut hli
  have hS1:SetAtS prog w h1 S led (dedupS (ns.take i)):=hS.kept fun o e=>(hs1.2 S hSi).trans e
  rw [et]
  show wpAny _ A.in1 (holding [Value.str ns[i] t] (setAdd S (.str ns[i] t)) >>= _) _ _ _
  refine wpAny_bind (wpAny_holding ?_)
  unfold setAdd
  refine wpAny_holding ?_
  refine wpAny_bind ((PySem.strKind prog w).pyHash (k:=ns[i]) (strKind_is _ _ _ _) ?_)
  have hroom:(dedupS (ns.take i)).length+1 < scanBound:=by
   have:=(yW (ns.take i)).2.1
   rw [List.length_take] at this
   omega
  refine jce (s:={ s with heap:=h1,toks:=s.toks+1 }) hS1 hroom fun b h2 hs2 hS2=>?_
  have e2:dedupS (ns.take (i+1))=if ns[i]∈dedupS (ns.take i) then dedupS (ns.take i) else dedupS (ns.take i)++[ns[i]]:=by
   rw [List.take_succ,List.getElem?_eq_getElem hlt]
   exact JX _ _
  rw [← e2] at hS2
  have hb2:∀ b o,b≠S→h1.get? b=some o→h2.get? b=some o:=fun b o hb e=>(hs2.2 b hb).trans e
  refine wpAny_pure ⟨plainId_quiet F.plain_set_update_loop _,ih (i+1) _ (by omega) ?_ ?_ hS2 fun h' tk hk' hS'=>hR h' tk (fun b o b1 b2 e=>hk' b o b1 b2 (hb2 b o b1 ((hs1.2 b b2).trans e))) hS'⟩
  ·obtain ⟨oi,z1,z2⟩:=hit1
   exact ⟨oi,hb2 it oi hSi.symm z1,z2⟩
  ·obtain ⟨oi,z1,z2⟩:=ht1
   exact ⟨oi,hb2 l oi hSl.symm z1,z2⟩
end
end L2
namespace PySem
section
variable {prog:Program} {w:World} {A:Around} {E:Value→Shared→Prop} {s:Shared}
set_option maxHeartbeats 3200000 in
theorem set_of_tupleS {l:Addr} {its:List Value} {ns:List Str} {nl:Nat} {sl:Array (Option Value)} {dd:Option Addr} {Q:Value→Shared→Prop} (hh:A.handled=none) (hol:s.heap.get? l=some { cls:=.type "tuple",dict:=dd,data:=.seq its.toArray nl,slots:=sl }) (hi:PyProof.Rows.StrsAre its ns) (hb:ns.length+1 < scanBound)
  (h:∀ (h':Heap) (tk:Nat),L2.SetAtS prog w h' s.heap.objs.size (L2.ledOf w) (L2.dedupS ns)→(∀ b o,s.heap.get? b=some o→h'.get? b=some o)→Q (.ref s.heap.objs.size) { s with heap:=h',toks:=tk }) :
  wpAny (model prog w) A (call (.type "set") [.ref l]) Q E s:=by
 obtain ⟨c,tl,hmro⟩:=F.called_set.mro
 have hmade:=F.called_set.made
 have hsub:=F.called_set.sub
 refine wpAny_call (codeAny_of_tree ?_)
 show wpAny _ _ (callAny (.type "set") _) _ _ _
 refine wpAny_pure ⟨Code.quiet_builtin _ (by decide +kernel),codeAny_builtin F.entry_type_call ?_⟩
 rw [Around.under_plain (weight_type_call_type "set" [.ref l] []) rfl]
 have h1:=F.called_set.notType
 have h2:=F.called_set.canCreate
 have hct:=F.typeCall_set_1 (.ref l)
 repeat (any_goals (first | assumption | wp_step))
 refine codeAny_mono (Zm (.ref l) (E:=E) (Q₁:=fun obj s₁=>obj=.ref s.heap.objs.size∧s₁={ s with heap:=s.heap.push { cls:=.type "set",dict:=none,data:=.set #[] 0 (.fresh 0 0 (L2.ledOf w)) } }) ⟨rfl,rfl⟩) fun r s₁ hr=>?_
 cases r with
 | error e=>exact hr
 | ok fl=>
  cases fl with
  | ret obj=>
   obtain ⟨rfl,rfl⟩:=hr
   have hS:(s.heap.push { cls:=.type "set",dict:=none,data:=.set #[] 0 (.fresh 0 0 (L2.ledOf w)) }).get? s.heap.objs.size=some { cls:=.type "set",dict:=none,data:=.set #[] 0 (.fresh 0 0 (L2.ledOf w)) }:=Heap.get?_push_size _ rfl
   have hT:Shared.TypeIs { s with heap:=s.heap.push { cls:=.type "set",dict:=none,data:=.set #[] 0 (.fresh 0 0 (L2.ledOf w)) } } (.ref s.heap.objs.size) "set":=⟨_,hS,rfl⟩
   have hli:=F.called_set.init.lookup
   have hbi:=F.called_set.init.bind (.ref s.heap.objs.size)
   repeat (any_goals (first | assumption | wp_step))
   refine codeAny_mono (codeAny_call_builtin (R:=wants (fun r s₂=>r=.none∧∃ h' tk,s₂={ s with heap:=h',toks:=tk }∧L2.SetAtS prog w h' s.heap.objs.size (L2.ledOf w) (L2.dedupS ns)∧
     (∀ b o,s.heap.get? b=some o→h'.get? b=some o)) E) F.called_set.init.plain F.entry_set_init (check_set_init_1 hT ?_)) fun r₂ s₂ hr₂=>?_
   ·have hol':(s.heap.push { cls:=.type "set",dict:=none,data:=.set #[] 0 (.fresh 0 0 (L2.ledOf w)) }).get? l=some { cls:=.type "tuple",dict:=dd,data:=.seq its.toArray nl,slots:=sl }:=Heap.get?_push_of_some _ hol
    have hsls:=F.sub_tuple_set
    have hslf:=F.sub_tuple_frozenset
    have hne:(Value.type "tuple" == Value.type "dict")=false:=by decide
    have hl1:(s.heap.push { cls:=.type "set",dict:=none,data:=.set #[] 0 (.fresh 0 0 (L2.ledOf w)) }).IsTuple l its.toArray:=⟨_,hol',rfl,nl,rfl⟩
    unfold Builtin.«set.__init__» noKeywords Builtin.Frozenset.updateFrom
    generalize hPI:pyIter=PI
    wp_walk
    subst hPI
    refine wpAny_pyIter_tuple hl1 ?_
    refine wpAny_bind (wpAny_runValue ?_)
    have hlS:l < s.heap.objs.size:=Heap.lt_size hol
    have hh3:A.in1.in1.handled=none:=by simp [hh]
    have lt1:s.heap.objs.size < (s.heap.push { cls:=.type "set",dict:=none,data:=.set #[] 0 (.fresh 0 0 (L2.ledOf w)) }).objs.size:=Heap.lt_size hS
    refine L2.set_loopST (its:=its) (ns:=ns) (led:=L2.ledOf w) hh3 hi (Nat.ne_of_gt hlS) (Nat.ne_of_lt lt1) (Nat.ne_of_lt (Nat.lt_trans hlS lt1)) hb ns.length 0 _ (by omega) ?_ ?_ ?_ ?_
    ·exact ⟨_,Heap.get?_push_size _ rfl,rfl,rfl⟩
    ·exact hl1.push _
    ·refine ⟨#[],0,.fresh 0 0 (L2.ledOf w),?_,fun e he=>by simp at he,⟨[],.nil,.nil⟩,by decide,rfl,⟨rfl,rfl,List.Pairwise.nil⟩⟩
     exact Heap.get?_push_of_some _ hS
    ·intro h' tk hk hS'
     show wpAny _ _ _ _ _ _
     refine wpAny_pure ?_
     show wpAny _ _ (ret Value.none) _ _ _
     refine wpAny_pure ⟨rfl,h',tk,rfl,hS',fun b o e=>?_⟩
     have hb0:=Heap.lt_size e
     exact hk b o (Nat.ne_of_lt hb0) (Nat.ne_of_lt (Nat.lt_trans hb0 lt1)) (Heap.get?_push_of_some _ (Heap.get?_push_of_some _ e))
   ·cases r₂ with
    | error e=>exact hr₂
    | ok fl₂=>
     cases fl₂ with
     | ret r=>
      obtain ⟨rfl,h',tk,rfl,hS',hk'⟩:=hr₂
      repeat (any_goals (first | assumption | wp_step))
      exact h _ _ hS' hk'
     | _=>exact hr₂.elim
  | _=>exact hr.elim
end
end PySem
namespace L2
open PySem PySem.Spec PySem.Calls PyProof.Rows PySem.W
theorem KQ {X:Cx} (hc:X.calm=true):q4 X (.type "set") (fun xs H Q=>∃ (p:Addr) (ns:List Str),xs=[.ref p]∧SqT X.K H p (ns.map V.str)∧ns.length≤1000∧∀ v,H v=none→Q (.ref v) (upd H v (jfW X v (dedupS ns)))):=by
 intro pins s σ H xs us Q I r h
 obtain ⟨p,ns,rfl,hq,hz,q⟩:=h
 obtain ⟨u,rfl,rx⟩:=Je r
 cases rx
 obtain ⟨its,rv,tp,hz1⟩:=I.tuple hq
 obtain ⟨⟨c1,d1,t1,l1⟩,o1,z1,n1,z2⟩:=tp
 simp only at z1 z2
 subst z1 z2
 refine PySem.set_of_tupleS (I.ok.hd hc) o1 (Ze rv) (by unfold scanBound;omega) fun h' tk hS hk=>?_
 have hS':=hS
 obtain ⟨es,ep,t,e,_⟩:=hS'
 refine ⟨.ref s.heap.objs.size,_,I.laid (t':=tk) hk (Nat.le_refl _) (show ObjOk X.prog X.w _ _ _ (jfW X s.heap.objs.size (dedupS ns)) from ⟨hS,⟨_,e⟩,fun h1 h2 x k=>x.kept k⟩),rfl,q _ (I.hok.fresh (Nat.le_refl _))⟩
def jbS (m:Nat):Prop:=m=7∨m=15∨m=31∨m=63
structure SmS (prog:Program) (w:World) (h:Heap) (a:Addr) (led:Bool) (σ:List Str) (es:Array (Int×Value)) (ep:Nat) (t:SetTable):Prop where
 o:h.get? a=some (jcf es ep t)
 el:ElemsOf (PySem.strKind prog w) es.toList
 pm:∃ l:List Str,StrsAre (es.toList.map (·.2)) l∧l.Perm σ
 fit:t.fits es.size=true
 tab:TabOk led t
 sm:jbS t.mask
theorem SmS.len {prog:Program} {w:World} {h:Heap} {a:Addr} {led:Bool} {σ:List Str} {es:Array (Int×Value)} {ep:Nat} {t:SetTable} (x:SmS prog w h a led σ es ep t):es.size=σ.length:=by
 obtain ⟨l,h1,h2⟩:=x.pm
 have:=h1.length
 rw [List.length_map,Array.length_toList] at this
 rw [this,h2.length_eq]
end L2
namespace PySem.F
end PySem.F
namespace L2
open PySem PySem.Spec PyProof.Rows PySem.W
section
variable {prog:Program} {w:World} {A:Around} {E:Value→Shared→Prop} {s:Shared}
theorem SetAtS.type {h:Heap} {a:Addr} {led:Bool} {σ:List Str} (x:SetAtS prog w h a led σ):∃ es ep t,h.get? a=some (jcf es ep t)∧t.fits es.size=true:=by
 obtain ⟨es,ep,t,e,_,_,_,hf,_⟩:=x
 exact ⟨es,ep,t,e,hf⟩
end
end L2
namespace LW
open PySem L2
theorem kc {n:Nat} (h:n≤1000):n≤sizeLine:=Nat.le_of_lt (j8 h)
theorem sm {n:Nat} (h:n.ble 1000=true):n≤sizeLine:=kc (Nat.le_of_ble_eq_true h)
def jaA:TE:=fun _ _ _=>False
theorem jcw {X:Cx} {e:Expr}:PE X e jaA:=fun _ _ _ _ _ _ h=>h.elim
theorem Ya {X:Cx} {e:Expr}:QE X e jaA:=⟨jcw⟩
inductive Tm where
 | is (x:Str) | at_ (r x:Str) (d:Int)
inductive Bd where
 | is (x:Str) | row (r:Str)
inductive Cl where
 | least (a b:Tm) (c:Int) | each (t:Str) (td:Int) (u:Str) (ud:Int) (r way:Str) (b:Bd) (c:Int) | rise (t:Str) (td:Int) (u:Str) (ud:Int) (r:Str)
inductive Sm where
 | set (x:Str) (t:Tm) (c:Int) | put (r x:Str) (d:Int) (t:Tm) (c:Int) | any (x:Str) | claim (C:Cl) | call (x f:Str) (as rs:List Str)
def plD (x:Str) (d:Int):D:=.tup [.str x,.int d]
def Tm.toD:Tm→D
 | .is x=>.tup [.str "is",.str x]
 | .at_ r x d=>.tup [.str "at",.str r,plD x d]
def Bd.toD:Bd→D
 | .is x=>.tup [.str "is",.str x]
 | .row r=>.tup [.str "row",.str r]
def Cl.toD:Cl→D
 | .least a b c=>.tup [.str "least",a.toD,b.toD,.int c]
 | .each t td u ud r way b c=>.tup [.str "each",plD t td,plD u ud,.str r,.str way,b.toD,.int c]
 | .rise t td u ud r=>.tup [.str "rise",plD t td,plD u ud,.str r]
def Sm.toD:Sm→D
 | .set x t c=>.tup [.str "set",.str x,t.toD,.int c]
 | .put r x d t c=>.tup [.str "put",.str r,plD x d,t.toD,.int c]
 | .any x=>.tup [.str "any",.str x]
 | .claim C=>.tup [.str "claim",C.toD]
 | .call x f as rs=>.tup [.str "call",.str x,.str f,.tup (as.map D.str),.tup (rs.map D.str)]
def Tm.ns:Tm→List Str
 | .is x=>[x]
 | .at_ _ x _=>[x]
def Cl.ns:Cl→List Str
 | .least a b _=>a.ns++b.ns
 | .each t _ u _ _ _ b _=>[t,u]++(match b with | .is x=>[x] | .row _=>[])
 | .rise t _ u _ _=>[t,u]
def Sm.ns:Sm→List Str
 | .set x t _=>[x]++t.ns
 | .put _ x _ t _=>[x]++t.ns
 | .any x=>[x]
 | .claim C=>C.ns
 | .call x _ as _=>[x]++as
theorem Cl.ns_len:∀ C:Cl,C.ns.length≤3
 | .least a b _=>by cases a <;> cases b <;> exact Nat.le_of_ble_eq_true rfl
 | .each _ _ _ _ _ _ b _=>by cases b <;> (unfold Cl.ns;simp)
 | .rise _ _ _ _ _=>by unfold Cl.ns;simp
def Sm.few:Sm→Prop
 | .call _ _ as rs=>as.length≤6∧rs.length≤6
 | _=>True
theorem Sm.ns_len:∀ {S:Sm},S.few→S.ns.length≤7
 | .set x t _,_=>by cases t <;> (unfold Sm.ns Tm.ns;simp)
 | .put _ x _ t _,_=>by cases t <;> (unfold Sm.ns Tm.ns;simp)
 | .any x,_=>by unfold Sm.ns;simp
 | .claim C,_=>Nat.le_trans C.ns_len (by decide)
 | .call x f as rs,h=>by unfold Sm.ns;have:=h.1;simp;omega
theorem qc {H:Hp} {x:Int} {v:V} (h:Held H (.int x) v):v=.int x:=by unfold Held at h;exact h
theorem jC {H:Hp} {ds:List D} {v:V} (h:Held H (.tup ds) v):∃ a xs,v=.ref a∧H a=some (.tup xs)∧HeldL H ds xs:=by unfold Held at h;exact h
theorem jK {H:Hp} {vs:List V} (h:HeldL H [] vs):vs=[]:=by unfold HeldL at h;exact h
theorem jk {H:Hp} {d:D} {ds:List D} {vs:List V} (h:HeldL H (d :: ds) vs):∃ v r,vs=v :: r∧Held H d v∧HeldL H ds r:=by unfold HeldL at h;exact h
theorem jN {H:Hp} {x:Str} {v:V} (h:Held H (.str x) v):v=.str x:=by unfold Held at h;exact h
theorem JE {H:Hp} {x:Str} {d:Int} {v:V} (h:Held H (plD x d) v):∃ a,v=.ref a∧H a=some (.tup [.str x,.int d]):=by
 obtain ⟨a,xs,rfl,ha,h1⟩:=jC h
 obtain ⟨v1,r1,rfl,e1,h2⟩:=jk h1
 obtain ⟨v2,r2,rfl,e2,h3⟩:=jk h2
 cases jK h3
 cases jN e1
 cases qc e2
 exact ⟨a,rfl,ha⟩
theorem zf {H:Hp} {x y:Str} {v:V} (h:Held H (.tup [.str x,.str y]) v):∃ a,v=.ref a∧H a=some (.tup [.str x,.str y]):=by
 obtain ⟨a,xs,rfl,ha,h1⟩:=jC h
 obtain ⟨v1,r1,rfl,e1,h2⟩:=jk h1
 obtain ⟨v2,r2,rfl,e2,h3⟩:=jk h2
 cases jK h3
 cases jN e1
 cases jN e2
 exact ⟨a,rfl,ha⟩
theorem jdu {H:Hp} {r x:Str} {d:Int} {v:V} (h:Held H (Tm.at_ r x d).toD v):∃ a b,v=.ref a∧H a=some (.tup [.str "at",.str r,.ref b])∧H b=some (.tup [.str x,.int d]):=by
 obtain ⟨a,xs,rfl,ha,h1⟩:=jC h
 obtain ⟨v1,r1,rfl,e1,h2⟩:=jk h1
 obtain ⟨v2,r2,rfl,e2,h3⟩:=jk h2
 obtain ⟨v3,r3,rfl,e3,h4⟩:=jk h3
 cases jK h4
 cases jN e1
 cases jN e2
 obtain ⟨b,rfl,hb⟩:=JE e3
 exact ⟨a,b,rfl,ha,hb⟩
theorem Yo {H:Hp} {a b:Tm} {c:Int} {v:V} (h:Held H (Cl.least a b c).toD v):∃ t va vb,v=.ref t∧H t=some (.tup [.str "least",va,vb,.int c])∧Held H a.toD va∧Held H b.toD vb:=by
 obtain ⟨t,xs,rfl,ht,h1⟩:=jC h
 obtain ⟨v1,r1,rfl,e1,h2⟩:=jk h1
 obtain ⟨v2,r2,rfl,e2,h3⟩:=jk h2
 obtain ⟨v3,r3,rfl,e3,h4⟩:=jk h3
 obtain ⟨v4,r4,rfl,e4,h5⟩:=jk h4
 cases jK h5
 cases jN e1
 cases qc e4
 exact ⟨t,v2,v3,rfl,ht,e2,e3⟩
theorem Zq {H:Hp} {x y r:Str} {d e:Int} {v:V} (h:Held H (Cl.rise x d y e r).toD v):∃ t a b,v=.ref t∧H t=some (.tup [.str "rise",.ref a,.ref b,.str r])∧H a=some (.tup [.str x,.int d])∧H b=some (.tup [.str y,.int e]):=by
 obtain ⟨t,xs,rfl,ht,h1⟩:=jC h
 obtain ⟨v1,r1,rfl,e1,h2⟩:=jk h1
 obtain ⟨v2,r2,rfl,e2,h3⟩:=jk h2
 obtain ⟨v3,r3,rfl,e3,h4⟩:=jk h3
 obtain ⟨v4,r4,rfl,e4,h5⟩:=jk h4
 cases jK h5
 cases jN e1
 cases jN e4
 obtain ⟨a,rfl,ha⟩:=JE e2
 obtain ⟨b,rfl,hb⟩:=JE e3
 exact ⟨t,a,b,rfl,ht,ha,hb⟩
theorem ZJ {H:Hp} {x y r way:Str} {d e c:Int} {bd:Bd} {v:V} (h:Held H (Cl.each x d y e r way bd c).toD v):∃ t a b vb,v=.ref t∧H t=some (.tup [.str "each",.ref a,.ref b,.str r,.str way,.ref vb,.int c])∧H a=some (.tup [.str x,.int d])∧H b=some (.tup [.str y,.int e])∧H vb=some (.tup (match bd with | .is z=>[.str "is",.str z] | .row z=>[.str "row",.str z])):=by
 obtain ⟨t,xs,rfl,ht,h1⟩:=jC h
 obtain ⟨v1,r1,rfl,e1,h2⟩:=jk h1
 obtain ⟨v2,r2,rfl,e2,h3⟩:=jk h2
 obtain ⟨v3,r3,rfl,e3,h4⟩:=jk h3
 obtain ⟨v4,r4,rfl,e4,h5⟩:=jk h4
 obtain ⟨v5,r5,rfl,e5,h6⟩:=jk h5
 obtain ⟨v6,r6,rfl,e6,h7⟩:=jk h6
 obtain ⟨v7,r7,rfl,e7,h8⟩:=jk h7
 cases jK h8
 cases jN e1
 cases jN e4
 cases jN e5
 cases qc e7
 obtain ⟨a,rfl,ha⟩:=JE e2
 obtain ⟨b,rfl,hb⟩:=JE e3
 cases bd with
 | is z=>
  obtain ⟨vb,rfl,hvb⟩:=zf e6
  exact ⟨t,a,b,vb,rfl,ht,ha,hb,hvb⟩
 | row z=>
  obtain ⟨vb,rfl,hvb⟩:=zf e6
  exact ⟨t,a,b,vb,rfl,ht,ha,hb,hvb⟩
abbrev jad (H:Hp) (Q:VK) (xs:List Str):Prop:=∀ l H',Same H H'→H l=none→H' l=some (.lst (xs.map V.str))→Q (.ref l) H'
def YM:Sp:=fun vs H Q _=>∃ (v:V) (t:Tm),vs=[v]∧Held H t.toD v∧jad H Q t.ns
def Zk:Sp:=fun vs H Q _=>∃ (v:V) (C:Cl),vs=[v]∧Held H C.toD v∧jad H Q C.ns
def JD:Sp:=fun vs H Q _=>∃ (a:Addr) (vs':List V) (Cs:List Cl),vs=[.ref a]∧H a=some (.tup vs')∧HeldL H (Cs.map Cl.toD) vs'∧Cs.length≤100∧jad H Q (Cs.flatMap Cl.ns)
inductive Fo (α:Type) where
 | leaf (S:Sm) | ite (a b:Tm) (c:Int) (x y:List α) | whl (a b:Tm) (c:Int) (ks:List Cl) (x:List α)
def StN:Nat→Type
 | 0=>Empty
 | n+1=>Fo (StN n)
inductive Nd where
 | leaf (S:Sm) | ite (a b:Tm) (c:Int) (x y:List D) | whl (a b:Tm) (c:Int) (ks:List Cl) (x:List D)
def Nd.toD:Nd→D
 | .leaf S=>S.toD
 | .ite a b c x y=>.tup [.str "if",(Cl.least a b c).toD,.tup x,.tup y]
 | .whl a b c ks x=>.tup [.str "while",(Cl.least a b c).toD,.tup (ks.map Cl.toD),.tup x]
def Nd.ns:Nd→List Str
 | .leaf S=>S.ns
 | .ite a b c _ _=>(Cl.least a b c).ns
 | .whl a b c ks _=>(Cl.least a b c :: ks).flatMap Cl.ns
def Nd.bods:Nd→List (List D)
 | .leaf _=>[]
 | .ite _ _ _ x y=>[x,y]
 | .whl _ _ _ _ x=>[x]
def Nd.few:Nd→Prop
 | .leaf S=>S.few
 | .whl _ _ _ ks _=>ks.length≤20
 | _=>True
def Fo.nd {α:Type} (f:α→D):Fo α→Nd
 | .leaf S=>.leaf S
 | .ite a b c x y=>.ite a b c (x.map f) (y.map f)
 | .whl a b c ks x=>.whl a b c ks (x.map f)
def Fo.bods {α:Type}:Fo α→List (List α)
 | .leaf _=>[]
 | .ite _ _ _ x y=>[x,y]
 | .whl _ _ _ _ x=>[x]
theorem Fo.nd_bods {α:Type} (f:α→D):∀ s:Fo α,(s.nd f).bods=s.bods.map fun x=>x.map f
 | .leaf _=>rfl
 | .ite _ _ _ _ _=>rfl
 | .whl _ _ _ _ _=>rfl
def stD:(n:Nat)→StN n→D
 | 0=>fun e=>nomatch (show Empty from e)
 | n+1=>fun s=>(Fo.nd (stD n) s).toD
def JC {n:Nat} (s:StN (n+1)):Nd:=Fo.nd (stD n) s
def kQ {n:Nat} (s:StN (n+1)):List (List (StN n)):=Fo.bods s
theorem je8 {n:Nat} (s:StN (n+1)):stD (n+1) s=(JC s).toD:=rfl
theorem jbd {n:Nat} (s:StN (n+1)):(JC s).bods=(kQ s).map fun x=>x.map (stD n):=Fo.nd_bods (stD n) s
def ku:(n:Nat)→List (StN n)→List Nd
 | 0=>fun _=>[]
 | n+1=>fun l=>l.flatMap fun (s:StN (n+1))=>JC s :: (kQ s).flatMap (ku n)
theorem jgu {l:List (StN 0)}:l=[]:=by
 cases l with
 | nil=>rfl
 | cons e _=>exact nomatch (show Empty from e)
theorem zX {n:Nat} (s:StN (n+1)) (l:List (StN (n+1))):ku (n+1) (s :: l)=(JC s :: (kQ s).flatMap (ku n))++ku (n+1) l:=rfl
theorem KY {n:Nat}:∀ (l r:List (StN (n+1))),ku (n+1) (l++r)=ku (n+1) l++ku (n+1) r
 | [],r=>rfl
 | s :: l,r=>by rw [List.cons_append,zX,zX,KY l r,List.append_assoc]
theorem YE {n:Nat} {l:List (StN (n+1))} {i:Nat} (hi:i < l.length):ku (n+1) (l.take (i+1))=ku (n+1) (l.take i)++(JC l[i] :: (kQ l[i]).flatMap (ku n)):=by
 rw [show l.take (i+1)=l.take i++[l[i]] by rw [List.take_succ,List.getElem?_eq_getElem hi];rfl,KY,zX]
 exact congrArg _ (List.append_nil _)
theorem yc {α β:Type} (f:α→List β):∀ (l:List α) (i:Nat),((l.take i).flatMap f).length≤(l.flatMap f).length
 | [],i=>by simp
 | a :: l,0=>by simp
 | a :: l,i+1=>by
  rw [List.take_succ_cons,List.flatMap_cons,List.flatMap_cons,List.length_append,List.length_append]
  have:=yc f l i
  omega
theorem Jq {H:Hp} {a b:Tm} {c:Int} {x y:List D} {v:V} (h:Held H (Nd.ite a b c x y).toD v):∃ t u p q xs ys,v=.ref t∧H t=some (.tup [.str "if",u,.ref p,.ref q])∧Held H (Cl.least a b c).toD u∧H p=some (.tup xs)∧HeldL H x xs∧H q=some (.tup ys)∧HeldL H y ys:=by
 obtain ⟨t,us,rfl,ht,h1⟩:=jC h
 obtain ⟨v1,r1,rfl,e1,h2⟩:=jk h1
 obtain ⟨v2,r2,rfl,e2,h3⟩:=jk h2
 obtain ⟨v3,r3,rfl,e3,h4⟩:=jk h3
 obtain ⟨v4,r4,rfl,e4,h5⟩:=jk h4
 cases jK h5
 cases jN e1
 obtain ⟨p,xs,rfl,hp,hx⟩:=jC e3
 obtain ⟨q,ys,rfl,hq,hy⟩:=jC e4
 exact ⟨t,v2,p,q,xs,ys,rfl,ht,e2,hp,hx,hq,hy⟩
theorem Jd {H:Hp} {a b:Tm} {c:Int} {ks:List Cl} {x:List D} {v:V} (h:Held H (Nd.whl a b c ks x).toD v):∃ t u p q xs ys,v=.ref t∧H t=some (.tup [.str "while",u,.ref p,.ref q])∧Held H (Cl.least a b c).toD u∧H p=some (.tup xs)∧HeldL H (ks.map Cl.toD) xs∧H q=some (.tup ys)∧HeldL H x ys:=by
 obtain ⟨t,us,rfl,ht,h1⟩:=jC h
 obtain ⟨v1,r1,rfl,e1,h2⟩:=jk h1
 obtain ⟨v2,r2,rfl,e2,h3⟩:=jk h2
 obtain ⟨v3,r3,rfl,e3,h4⟩:=jk h3
 obtain ⟨v4,r4,rfl,e4,h5⟩:=jk h4
 cases jK h5
 cases jN e1
 obtain ⟨p,xs,rfl,hp,hx⟩:=jC e3
 obtain ⟨q,ys,rfl,hq,hy⟩:=jC e4
 exact ⟨t,v2,p,q,xs,ys,rfl,ht,e2,hp,hx,hq,hy⟩
def Nd.cls:Nd→List Cl
 | .leaf (.claim C)=>[C]
 | .leaf _=>[]
 | .ite a b c _ _=>[.least a b c]
 | .whl a b c ks _=>.least a b c :: ks
def Zj:Sp:=fun vs H Q _=>∃ (v:V) (N:Nd),vs=[v]∧Held H N.toD v∧N.few∧jad H Q N.ns
def top (i:Nat):Stmt:=PySem.Challenge.pw_outlineward_k22_programs_refused.main.body.getD i (.Pass ⟨0,0,0,0⟩)
abbrev zc:Stmt:=top 23
abbrev qV:Stmt:=top 21
abbrev qF:Stmt:=top 20
section
variable {P:Program} {w:World} {K:W.Frag} {mg:Str→Option Value} {base:Heap}
theorem jcF {f:Addr} {fd:FuncData} (F:Fun K "term_numbers" "term_numbers" zc f fd):FnOk P w K mg base CX0 1 f fd ["term"] YM:=by
 have sc:FnScope ["term"] ["term"] (jw zc):=fQ
 refine F.okZ sc (fun vs H Q E h=>?_) (fun cdv A outer s H vs Q E hr h=>?_)
 ·obtain ⟨v,t,rfl,_⟩:=h
  rfl
 obtain ⟨v,t,rfl,ht,q⟩:=h
 refine ⟨_,(je (jT (jv kq (jz jS (zpv 0) ji (fun _ _=>rfl)) jq (jP _)) (jn (jB (jM (jb (jz jS (zpv 0) ji (fun _ _=>rfl)) jd)))) jA)
   (jn (jB (jM (jb (jz jS (jz jS (zpv 0) ji (fun _ _=>rfl)) ji (fun _ _=>rfl)) jd))))),?_⟩
 cases t with
 | is x=>
  obtain ⟨a,rfl,ha⟩:=zf ht
  refine ⟨_,rfl,a,_,_,_,rfl,rfl,SqT.of ha,rfl,rfl,_,rfl,jU (fun _=>?_) (fun d=>absurd (decide_eq_true rfl) d)⟩
  exact ⟨_,rfl,a,_,_,_,rfl,rfl,SqT.of ha,rfl,sm rfl,fun l hl=>q l _ (jG hl _) hl jg⟩
 | at_ r x d=>
  obtain ⟨a,b,rfl,ha,hb⟩:=jdu ht
  refine ⟨_,rfl,a,_,_,_,rfl,rfl,SqT.of ha,rfl,rfl,_,rfl,jU (fun d=>absurd (of_decide_eq_true d) (by decide)) (fun _=>?_)⟩
  exact ⟨_,rfl,a,_,_,_,rfl,rfl,SqT.of ha,rfl,b,_,_,_,rfl,rfl,SqT.of hb,rfl,sm rfl,fun l hl=>q l _ (jG hl _) hl jg⟩
theorem jbt {f:Addr} {fd:FuncData} (F:Fun K "claim_numbers" "claim_numbers" qV f fd) (F_term_numbers:Fn P w K mg base 1 "term_numbers" ["term"] YM):FnOk P w K mg base CX0 2 f fd ["claim"] Zk:=by
 have sc:FnScope ["claim","ends"] ["claim"] (jw qV):=fQ
 refine F.okZ sc (fun vs H Q E h=>?_) (fun cdv A outer s H vs Q E hr h=>?_)
 ·obtain ⟨v,C,rfl,_⟩:=h
  rfl
 obtain ⟨v,C,rfl,hC,q⟩:=h
 refine ⟨_,(je (jT (jv kq (jz jS (zpv 0) ji (fun _ _=>rfl)) jq (jP _)) (jn (jB (jD kB (jH F_term_numbers hr (jb (jz jS (zpv 0) ji (fun _ _=>rfl)) jd)) (jH F_term_numbers hr (jb (jz jS (zpv 0) ji (fun _ _=>rfl)) jd))))) jA)
   (je (js (i:=1) sc.nd rfl oQ (jM (jb (jz jS (jz jS (zpv 0) ji (fun _ _=>rfl)) ji (fun _ _=>rfl)) (jb (jz jS (jz jS (zpv 0) ji (fun _ _=>rfl)) ji (fun _ _=>rfl)) jd))))
   (je (jbU (jT (qE (jv kq (jz jS (zpv 0) ji (fun _ _=>rfl)) jq (jP _)) (qg (jv kq (jz jS (jz jS (zpv 0) ji (fun _ _=>rfl)) ji (fun _ _=>rfl)) jq (jP _)))).pt (jn (jB (jD kB (zpv 1) (jM (jb (jz jS (jz jS (zpv 0) ji (fun _ _=>rfl)) ji (fun _ _=>rfl)) jd))))) jA))
   (jn (jB (zpv 1)))))),?_⟩
 refine kb (σ':=[some v,none]) rfl ?_
 have tnl:∀ t:Tm,t.ns.length=1:=fun t=>by cases t <;> rfl
 cases C with
 | least a b c=>
  obtain ⟨t,va,vb,rfl,ht,ha,hb⟩:=Yo hC
  refine ⟨_,rfl,t,_,_,_,rfl,rfl,SqT.of ht,rfl,rfl,_,rfl,jU (fun _=>?_) (fun d=>absurd (decide_eq_true rfl) d)⟩
  refine ⟨_,rfl,t,_,_,_,rfl,rfl,SqT.of ht,rfl,va,a,rfl,ha,fun l1 H1 s1 n1 e1=>?_⟩
  refine ⟨_,rfl,t,_,_,_,rfl,rfl,SqT.of (s1 _ _ ht),rfl,vb,b,rfl,hb.mono s1,fun l2 H2 s2 n2 e2=>?_⟩
  refine ⟨l1,l2,_,_,rfl,rfl,s2 _ _ e1,e2,Nat.le_trans (by rw [List.length_map,List.length_map,tnl,tnl];exact (by decide:1+1≤1000)) (kc (Nat.le_refl 1000)),fun l3 hl3=>?_⟩
  refine q l3 _ (s1.trans (s2.trans (jG hl3 _))) (s1.free (s2.free hl3)) ?_
  rw [jg,← List.map_append]
  rfl
 | rise x d y e r=>
  obtain ⟨t,a,b,rfl,ht,ha,hb⟩:=Zq hC
  refine ⟨_,rfl,t,_,_,_,rfl,rfl,SqT.of ht,rfl,rfl,_,rfl,jU (fun d=>absurd (of_decide_eq_true d) (by decide)) (fun _=>?_)⟩
  refine ⟨_,rfl,t,_,_,_,rfl,rfl,SqT.of ht,rfl,a,_,_,_,rfl,rfl,SqT.of ha,rfl,_,rfl,t,_,_,_,rfl,rfl,SqT.of ht,rfl,b,_,_,_,rfl,rfl,SqT.of hb,rfl,sm rfl,fun l hl=>?_⟩
  have s1:=jG hl (.lst [V.str x,V.str y])
  have e1:upd H l (.lst [V.str x,V.str y]) l=some (.lst [V.str x,V.str y]):=jg
  generalize upd H l (.lst [V.str x,V.str y])=H1 at *
  refine gQ ?_
  refine ⟨fun σ' G=>σ'=[some (.ref t),some (.ref l)]∧G=H1,?_,?_⟩
  ·exact ⟨_,rfl,t,_,_,_,rfl,rfl,SqT.of (s1 _ _ ht),rfl,rfl,_,rfl,jU (fun d=>absurd (of_decide_eq_true d) (by decide)) (fun _=>Ja ⟨rfl,rfl⟩)⟩
  ·rintro σ' G ⟨rfl,rfl⟩
   exact ⟨_,rfl,q l _ s1 hl e1⟩
 | each x d y e r way bd c=>
  obtain ⟨t,a,b,vb,rfl,ht,ha,hb,hvb⟩:=ZJ hC
  refine ⟨_,rfl,t,_,_,_,rfl,rfl,SqT.of ht,rfl,rfl,_,rfl,jU (fun d=>absurd (of_decide_eq_true d) (by decide)) (fun _=>?_)⟩
  refine ⟨_,rfl,t,_,_,_,rfl,rfl,SqT.of ht,rfl,a,_,_,_,rfl,rfl,SqT.of ha,rfl,_,rfl,t,_,_,_,rfl,rfl,SqT.of ht,rfl,b,_,_,_,rfl,rfl,SqT.of hb,rfl,sm rfl,fun l hl=>?_⟩
  have s1:=jG hl (.lst [V.str x,V.str y])
  have e1:upd H l (.lst [V.str x,V.str y]) l=some (.lst [V.str x,V.str y]):=jg
  generalize upd H l (.lst [V.str x,V.str y])=H1 at *
  refine gQ ?_
  refine ⟨fun σ' G=>σ'=[some (.ref t),some (.ref l)]∧G=H1∧∃ z,bd=.row z,?_,?_⟩
  ·refine ⟨_,rfl,t,_,_,_,rfl,rfl,SqT.of (s1 _ _ ht),rfl,rfl,_,rfl,jU (fun _=>?_) (fun d=>absurd (decide_eq_true rfl) d)⟩
   cases bd with
   | row z=>exact ⟨_,rfl,t,_,_,_,rfl,rfl,SqT.of (s1 _ _ ht),rfl,vb,_,_,_,rfl,rfl,SqT.of (s1 _ _ hvb),rfl,rfl,_,rfl,jU (fun d=>absurd (of_decide_eq_true d) (by decide)) (fun _=>⟨rfl,rfl,z,rfl⟩)⟩
   | is z=>
    refine ⟨_,rfl,t,_,_,_,rfl,rfl,SqT.of (s1 _ _ ht),rfl,vb,_,_,_,rfl,rfl,SqT.of (s1 _ _ hvb),rfl,rfl,_,rfl,jU (fun _=>?_) (fun d=>absurd (decide_eq_true rfl) d)⟩
    refine ⟨_,rfl,_,rfl,t,_,_,_,rfl,rfl,SqT.of (s1 _ _ ht),rfl,vb,_,_,_,rfl,rfl,SqT.of (s1 _ _ hvb),rfl,sm rfl,fun l2 hl2=>?_⟩
    have s2:=jG hl2 (.lst [V.str z])
    refine ⟨l,l2,_,_,rfl,rfl,s2 _ _ e1,jg,Nat.le_trans (Nat.le_of_ble_eq_true rfl) (kc (Nat.le_refl 1000)),fun l3 hl3=>?_⟩
    exact q l3 _ (s1.trans (s2.trans (jG hl3 _))) (s1.free (s2.free hl3)) jg
  ·rintro σ' G ⟨rfl,rfl,z,rfl⟩
   exact ⟨_,rfl,q l _ s1 hl e1⟩
theorem jab {f:Addr} {fd:FuncData} (F:Fun K "claims_numbers" "claims_numbers" qF f fd) (F_claim_numbers:Fn P w K mg base 2 "claim_numbers" ["claim"] Zk):FnOk P w K mg base CX0 3 f fd ["claims"] JD:=by
 have sc:FnScope ["claims","told","claim"] ["claims"] (jw qF):=fQ
 refine F.okZ sc (fun vs H Q E h=>?_) (fun cdv A outer s H vs Q E hr h=>?_)
 ·obtain ⟨a,vs',Cs,rfl,_⟩:=h
  rfl
 obtain ⟨a,us,Cs,rfl,ha,hCs,hlen,q⟩:=h
 refine ⟨_,(je (js (i:=1) sc.nd rfl oQ (jM jd))
   (je (kK PassesOwn.never rfl (zk (zpv 0)) (jy (i:=2) sc.nd rfl oQ) (jn (kE (qS PySem.F.plainAttrs_list PySem.F.slot_list_extend PySem.F.type_list_extend yP (zpv 1) (jb (jH F_claim_numbers hr (jb (zpv 2) jd)) jd)))))
   (jn (jB (zpv 1))))),?_⟩
 refine kb (σ':=[some (.ref a),none,none]) rfl ?_
 refine ⟨sm rfl,fun l hl=>?_⟩
 have s1:=jG hl (.lst [])
 have e1:upd H l (.lst []) l=some (.lst []):=jg
 generalize upd H l (.lst [])=H1 at *
 refine gQ ?_
 have hul:=hCs.length
 rw [List.length_map] at hul
 refine ⟨_,rfl,a,rfl,⟨_,SqT.of (s1 _ _ ha)⟩,?_⟩
 refine zJ (xs:=us) (fun i σ G=>∃ u2,σ=[some (.ref a),some (.ref l),u2]∧Same H G∧G l=some (.lst (((Cs.take i).flatMap Cl.ns).map V.str))) ⟨none,rfl,s1,e1⟩ ?_ ?_ ?_
 ·rintro i σ G _ ⟨u2,rfl,sG,_⟩
  exact SqT.of (sG _ _ ha)
 ·rintro i x σ G hx ⟨u2,rfl,sG,hG⟩
  have hi:i < Cs.length:=by have:=(List.getElem?_eq_some_iff.mp hx).1;omega
  obtain ⟨x',hx',hxH⟩:=hCs.get (show (Cs.map Cl.toD)[i]?=some Cs[i].toD by rw [List.getElem?_map,List.getElem?_eq_getElem hi];rfl)
  rw [hx] at hx'
  cases hx'
  have hfl:((Cs.take i).flatMap Cl.ns).length≤3 * i:=by
   have:∀ l:List Cl,(l.flatMap Cl.ns).length≤3 * l.length:=fun l=>by
    induction l with
    | nil=>exact Nat.zero_le _
    | cons c r ih=>rw [List.flatMap_cons,List.length_append,List.length_cons];have:=c.ns_len;omega
   have h1:=this (Cs.take i)
   rw [List.length_take] at h1
   omega
  refine gQ ?_
  refine ⟨_,rfl,.inl ⟨rfl,_,SqL.of hG⟩,_,rfl,x,Cs[i],rfl,hxH.mono sG,fun l2 G2 s2 n2 e2=>?_⟩
  have hG2:=s2 _ _ hG
  have hn3:=Cs[i].ns_len
  refine ⟨l,l2,_,_,rfl,rfl,hG2,e2,Nat.le_trans (by rw [List.length_map,List.length_map];omega) (kc (Nat.le_refl 1000)),?_⟩
  refine ⟨_,rfl,fun b o e=>?_,?_⟩
  ·rw [jx (ju e hl)];exact s2 _ _ (sG _ _ e)
  ·rw [jg,List.take_succ,List.getElem?_eq_getElem hi,List.flatMap_append,List.map_append]
   simp
 rintro σ G ⟨u2,rfl,sG,hG⟩
 have et:Cs.take us.length=Cs:=by rw [← hul,List.take_length]
 rw [et] at hG
 exact ⟨_,rfl,q l G sG hl hG⟩
end
abbrev zF:Stmt:=top 17
abbrev qU:Stmt:=top 18
abbrev ya:Stmt:=top 16
abbrev kD:Stmt:=top 15
def Nd.asks:Nd→Prop
 | .leaf (.claim _)=>True
 | .leaf _=>False
 | _=>True
def jcb:Sp:=fun vs H Q _=>∃ (v:V) (N:Nd),vs=[v]∧Held H N.toD v∧N.asks∧N.few∧∀ t us H',Same H H'→H' t=some (.tup us)→HeldL H' (N.cls.map Cl.toD) us→Q (.ref t) H'
def Kq:Sp:=fun vs H Q _=>∃ (v:V) (N:Nd),vs=[v]∧Held H N.toD v∧∀ t us H',Same H H'→H' t=some (.tup us)→HeldL H' (N.bods.map D.tup) us→Q (.ref t) H'
def Zl (n:Nat):Sp:=fun vs H Q _=>∃ (a:Addr) (us:List V) (Ss:List (StN n)),vs=[.ref a]∧H a=some (.tup us)∧HeldL H (Ss.map (stD n)) us∧(ku n Ss).length≤100∧∀ l us' H',Same H H'→H l=none→H' l=some (.lst us')→HeldL H' ((ku n Ss).map Nd.toD) us'→Q (.ref l) H'
theorem J4 {H:Hp} {x:Str} {t:Tm} {c:Int} {v:V} (h:Held H (Sm.set x t c).toD v):∃ a u,v=.ref a∧H a=some (.tup [.str "set",.str x,u,.int c])∧Held H t.toD u:=by
 obtain ⟨a,xs,rfl,ha,h1⟩:=jC h
 obtain ⟨v1,r1,rfl,e1,h2⟩:=jk h1
 obtain ⟨v2,r2,rfl,e2,h3⟩:=jk h2
 obtain ⟨v3,r3,rfl,e3,h4⟩:=jk h3
 obtain ⟨v4,r4,rfl,e4,h5⟩:=jk h4
 cases jK h5
 cases jN e1
 cases jN e2
 cases qc e4
 exact ⟨a,v3,rfl,ha,e3⟩
theorem Ka {H:Hp} {r x:Str} {d:Int} {t:Tm} {c:Int} {v:V} (h:Held H (Sm.put r x d t c).toD v):∃ a b u,v=.ref a∧H a=some (.tup [.str "put",.str r,.ref b,u,.int c])∧H b=some (.tup [.str x,.int d])∧Held H t.toD u:=by
 obtain ⟨a,xs,rfl,ha,h1⟩:=jC h
 obtain ⟨v1,r1,rfl,e1,h2⟩:=jk h1
 obtain ⟨v2,r2,rfl,e2,h3⟩:=jk h2
 obtain ⟨v3,r3,rfl,e3,h4⟩:=jk h3
 obtain ⟨v4,r4,rfl,e4,h5⟩:=jk h4
 obtain ⟨v5,r5,rfl,e5,h6⟩:=jk h5
 cases jK h6
 cases jN e1
 cases jN e2
 cases qc e5
 obtain ⟨b,rfl,hb⟩:=JE e3
 exact ⟨a,b,v4,rfl,ha,hb,e4⟩
theorem zW {H:Hp} {C:Cl} {v:V} (h:Held H (Sm.claim C).toD v):∃ a u,v=.ref a∧H a=some (.tup [.str "claim",u])∧Held H C.toD u:=by
 obtain ⟨a,xs,rfl,ha,h1⟩:=jC h
 obtain ⟨v1,r1,rfl,e1,h2⟩:=jk h1
 obtain ⟨v2,r2,rfl,e2,h3⟩:=jk h2
 cases jK h3
 cases jN e1
 exact ⟨a,v2,rfl,ha,e2⟩
theorem qu {H:Hp}:∀ {xs:List Str} {vs:List V},HeldL H (xs.map D.str) vs→vs=xs.map V.str
 | [],_,h=>jK h
 | _ :: _,_,h=>by
  obtain ⟨v,r,rfl,h1,h2⟩:=jk h
  cases jN h1
  rw [qu h2]
  rfl
theorem yJ {H:Hp} {x f:Str} {as rs:List Str} {v:V} (h:Held H (Sm.call x f as rs).toD v):∃ a b c,v=.ref a∧H a=some (.tup [.str "call",.str x,.str f,.ref b,.ref c])∧H b=some (.tup (as.map V.str))∧H c=some (.tup (rs.map V.str)):=by
 obtain ⟨a,xs,rfl,ha,h1⟩:=jC h
 obtain ⟨v1,r1,rfl,e1,h2⟩:=jk h1
 obtain ⟨v2,r2,rfl,e2,h3⟩:=jk h2
 obtain ⟨v3,r3,rfl,e3,h4⟩:=jk h3
 obtain ⟨v4,r4,rfl,e4,h5⟩:=jk h4
 obtain ⟨v5,r5,rfl,e5,h6⟩:=jk h5
 cases jK h6
 cases jN e1
 cases jN e2
 cases jN e3
 obtain ⟨b,xb,rfl,hb,hb'⟩:=jC e4
 obtain ⟨c,xc,rfl,hc,hc'⟩:=jC e5
 cases qu hb'
 cases qu hc'
 exact ⟨a,b,c,rfl,ha,hb,hc⟩
theorem Sm.head {H:Hp} {S:Sm} {v:V} (h:Held H S.toD v):∃ a k r,v=.ref a∧H a=some (.tup (.str k :: r))∧k≠"if"∧k≠"while"∧(k = "call"↔∃ x f as rs,S=.call x f as rs)∧(k = "claim"↔∃ C,S=.claim C):=by
 cases S with
 | set x t c=>obtain ⟨a,u,rfl,ha,_⟩:=J4 h;exact ⟨a,_,_,rfl,ha,by decide,by decide,⟨fun z=>absurd z (by decide),fun ⟨_,_,_,_,z⟩=>by cases z⟩,⟨fun z=>absurd z (by decide),fun ⟨_,z⟩=>by cases z⟩⟩
 | put r x d t c=>obtain ⟨a,b,u,rfl,ha,_⟩:=Ka h;exact ⟨a,_,_,rfl,ha,by decide,by decide,⟨fun z=>absurd z (by decide),fun ⟨_,_,_,_,z⟩=>by cases z⟩,⟨fun z=>absurd z (by decide),fun ⟨_,z⟩=>by cases z⟩⟩
 | any x=>obtain ⟨a,rfl,ha⟩:=zf h;exact ⟨a,_,_,rfl,ha,by decide,by decide,⟨fun z=>absurd z (by decide),fun ⟨_,_,_,_,z⟩=>by cases z⟩,⟨fun z=>absurd z (by decide),fun ⟨_,z⟩=>by cases z⟩⟩
 | claim C=>obtain ⟨a,u,rfl,ha,_⟩:=zW h;exact ⟨a,_,_,rfl,ha,by decide,by decide,⟨fun z=>absurd z (by decide),fun ⟨_,_,_,_,z⟩=>by cases z⟩,⟨fun _=>⟨C,rfl⟩,fun _=>rfl⟩⟩
 | call x f as rs=>obtain ⟨a,b,c,rfl,ha,_⟩:=yJ h;exact ⟨a,_,_,rfl,ha,by decide,by decide,⟨fun _=>⟨x,f,as,rs,rfl⟩,fun _=>rfl⟩,⟨fun z=>absurd z (by decide),fun ⟨_,z⟩=>by cases z⟩⟩
section
variable {P:Program} {w:World} {K:W.Frag} {mg:Str→Option Value} {base:Heap}
theorem jft {f:Addr} {fd:FuncData} (F:Fun K "own_claims" "own_claims" zF f fd):FnOk P w K mg base CX0 1 f fd ["statement"] jcb:=by
 have sc:FnScope ["statement"] ["statement"] (jw zF):=fQ
 refine F.okZ sc (fun vs H Q E h=>?_) (fun cdv A outer s H vs Q E hr h=>?_)
 ·obtain ⟨v,N,rfl,_⟩:=h
  rfl
 obtain ⟨v,N,rfl,hN,hask,hfew,q⟩:=h
 refine ⟨_,(je (jT (jv kq (jz jS (zpv 0) ji (fun _ _=>rfl)) jq (jP _)) (jn (jB (jD qD (kA zt (zpv 0) (kj ji) (kj ji)) (jz jS (zpv 0) ji (fun _ _=>rfl))))) jA)
   (jn (jB (kA zt (zpv 0) (kj ji) (kj ji))))),?_⟩
 cases N with
 | leaf S=>
  cases S with
  | claim C=>
   obtain ⟨a,u,rfl,ha,hu⟩:=zW hN
   refine ⟨_,rfl,a,_,_,_,rfl,rfl,SqT.of ha,rfl,rfl,_,rfl,jU (fun d=>absurd (of_decide_eq_true d) (by decide)) (fun _=>?_)⟩
   refine ⟨_,rfl,_,rfl,_,rfl,a,_,rfl,SqT.of ha,(fun h=>absurd h.1 (by show ¬ (HT.sIx 2 0 (some 1)=0);decide)),fun t ht=>?_⟩
   exact q t [u] _ (jG ht _) jg (jh (hu.mono (jG ht _)) jt)
  | _=>exact hask.elim
 | ite a b c x y=>
  obtain ⟨t,u,p,r,xs,ys,rfl,ht,hu,hp,hx,hr',hy⟩:=Jq hN
  refine ⟨_,rfl,t,_,_,_,rfl,rfl,SqT.of ht,rfl,rfl,_,rfl,jU (fun d=>absurd (of_decide_eq_true d) (by decide)) (fun _=>?_)⟩
  refine ⟨_,rfl,_,rfl,_,rfl,t,_,rfl,SqT.of ht,(fun h=>absurd h.1 (by show ¬ (HT.sIx 4 0 (some 1)=0);decide)),fun t' ht'=>?_⟩
  exact q t' [u] _ (jG ht' _) jg (jh (hu.mono (jG ht' _)) jt)
 | whl a b c ks x=>
  obtain ⟨t,u,p,r,xs,ys,rfl,ht,hu,hp,hx,hr',hy⟩:=Jd hN
  have hl:=hx.length
  rw [List.length_map] at hl
  have hk20:ks.length≤20:=hfew
  refine ⟨_,rfl,t,_,_,_,rfl,rfl,SqT.of ht,rfl,rfl,_,rfl,jU (fun _=>?_) (fun d=>absurd (decide_eq_true rfl) d)⟩
  refine ⟨_,rfl,_,rfl,_,rfl,t,_,rfl,SqT.of ht,(fun h=>absurd h.1 (by show ¬ (HT.sIx 4 0 (some 1)=0);decide)),fun t' ht'=>?_⟩
  have s1:=jG ht' (.tup (qh [.str "while",u,.ref p,.ref r] (some 1) (some 2)))
  have e1:upd H t' (.tup (qh [.str "while",u,.ref p,.ref r] (some 1) (some 2))) t'=some (.tup [u]):=jg
  generalize upd H t' (.tup (qh [.str "while",u,.ref p,.ref r] (some 1) (some 2)))=H1 at *
  refine ⟨_,rfl,t,_,_,_,rfl,rfl,SqT.of (s1 _ _ ht),rfl,t',p,_,_,rfl,rfl,e1,s1 _ _ hp,kc (by show 1+xs.length≤1000;omega),fun t2 H2 s2 ht2=>?_⟩
  have s12:=s1.trans s2
  exact q t2 _ H2 s12 ht2 (jh (hu.mono s12) (hx.mono s12))
theorem jcK {f:Addr} {fd:FuncData} (F:Fun K "numbers_named" "numbers_named" qU f fd) (B:Free0 mg) (F_term_numbers:Fn P w K mg base 1 "term_numbers" ["term"] YM) (F_claims_numbers:Fn P w K mg base 3 "claims_numbers" ["claims"] JD) (F_own_claims:Fn P w K mg base 1 "own_claims" ["statement"] jcb):FnOk P w K mg base CX0 4 f fd ["statement"] Zj:=by
 have sc:FnScope ["statement","kind"] ["statement"] (jw qU):=fQ
 refine F.okZ sc (fun vs H Q E h=>?_) (fun cdv A outer s H vs Q E hr h=>?_)
 ·obtain ⟨v,N,rfl,_⟩:=h
  rfl
 obtain ⟨v,N,rfl,hN,hf,q⟩:=h
 refine ⟨_,(je (js (i:=1) sc.nd rfl oQ (jz jS (zpv 0) ji (fun _ _=>rfl)))
   (je (jT (jv kq (zpv 1) jq (jP _)) (jn (jB (jD kB (jM (jb (jz jS (zpv 0) ji (fun _ _=>rfl)) jd)) (jH F_term_numbers hr (jb (jz jS (zpv 0) ji (fun _ _=>rfl)) jd))))) jA)
   (je (jT (jv kq (zpv 1) jq (jP _)) (jn (jB (jD kB (jM (jb (jz jS (jz jS (zpv 0) ji (fun _ _=>rfl)) ji (fun _ _=>rfl)) jd)) (jH F_term_numbers hr (jb (jz jS (zpv 0) ji (fun _ _=>rfl)) jd))))) jA)
   (je (jT (jv kq (zpv 1) jq (jP _)) (jn (jB (jM (jb (jz jS (zpv 0) ji (fun _ _=>rfl)) jd)))) jA)
   (je (jT (jv kq (zpv 1) jq (jP _)) (jn (jB (jD kB (jM (jb (jz jS (zpv 0) ji (fun _ _=>rfl)) jd)) (zi yh (by rfl) B.list_ Y5 (jb (jz jS (zpv 0) ji (fun _ _=>rfl)) jd))))) jA)
   (jn (jB (jH F_claims_numbers hr (jb (jH F_own_claims hr (jb (zpv 0) jd)) jd))))))))),?_⟩
 refine kb (σ':=[some v,none]) rfl ?_
 have tnl:∀ t:Tm,t.ns.length=1:=fun t=>by cases t <;> rfl
 cases N with
 | leaf S=>
  have hS:Held H S.toD v:=hN
  cases S with
  | set x t c=>
   obtain ⟨a,u,rfl,ha,hu⟩:=J4 hS
   refine ⟨_,rfl,a,_,_,_,rfl,rfl,SqT.of ha,rfl,?_⟩
   refine gQ ?_
   refine ⟨_,rfl,rfl,_,rfl,jU (fun _=>?_) (fun d=>absurd (decide_eq_true rfl) d)⟩
   refine ⟨_,rfl,a,_,_,_,rfl,rfl,SqT.of ha,rfl,sm rfl,fun l hl=>?_⟩
   have s1:=jG hl (.lst [V.str x])
   have e1:upd H l (.lst [V.str x]) l=some (.lst [V.str x]):=jg
   generalize upd H l (.lst [V.str x])=H1 at *
   refine ⟨_,rfl,a,_,_,_,rfl,rfl,SqT.of (s1 _ _ ha),rfl,u,t,rfl,hu.mono s1,fun l2 H2 s2 n2 e2=>?_⟩
   refine ⟨l,l2,_,_,rfl,rfl,s2 _ _ e1,e2,Nat.le_trans (by rw [List.length_map,tnl];exact (by decide:1+1≤1000)) (kc (Nat.le_refl 1000)),fun l3 hl3=>?_⟩
   exact q l3 _ (s1.trans (s2.trans (jG hl3 _))) (s1.free (s2.free hl3)) jg
  | put r x d t c=>
   obtain ⟨a,b,u,rfl,ha,hb,hu⟩:=Ka hS
   refine ⟨_,rfl,a,_,_,_,rfl,rfl,SqT.of ha,rfl,?_⟩
   refine gQ ?_
   refine ⟨_,rfl,rfl,_,rfl,jU (fun d=>absurd (of_decide_eq_true d) (by decide)) (fun _=>?_)⟩
   refine ⟨_,rfl,rfl,_,rfl,jU (fun _=>?_) (fun d=>absurd (decide_eq_true rfl) d)⟩
   refine ⟨_,rfl,a,_,_,_,rfl,rfl,SqT.of ha,rfl,b,_,_,_,rfl,rfl,SqT.of hb,rfl,sm rfl,fun l hl=>?_⟩
   have s1:=jG hl (.lst [V.str x])
   have e1:upd H l (.lst [V.str x]) l=some (.lst [V.str x]):=jg
   generalize upd H l (.lst [V.str x])=H1 at *
   refine ⟨_,rfl,a,_,_,_,rfl,rfl,SqT.of (s1 _ _ ha),rfl,u,t,rfl,hu.mono s1,fun l2 H2 s2 n2 e2=>?_⟩
   refine ⟨l,l2,_,_,rfl,rfl,s2 _ _ e1,e2,Nat.le_trans (by rw [List.length_map,tnl];exact (by decide:1+1≤1000)) (kc (Nat.le_refl 1000)),fun l3 hl3=>?_⟩
   exact q l3 _ (s1.trans (s2.trans (jG hl3 _))) (s1.free (s2.free hl3)) jg
  | any x=>
   obtain ⟨a,rfl,ha⟩:=zf hS
   refine ⟨_,rfl,a,_,_,_,rfl,rfl,SqT.of ha,rfl,?_⟩
   refine gQ ?_
   refine ⟨_,rfl,rfl,_,rfl,jU (fun d=>absurd (of_decide_eq_true d) (by decide)) (fun _=>?_)⟩
   refine ⟨_,rfl,rfl,_,rfl,jU (fun d=>absurd (of_decide_eq_true d) (by decide)) (fun _=>?_)⟩
   refine ⟨_,rfl,rfl,_,rfl,jU (fun _=>?_) (fun d=>absurd (decide_eq_true rfl) d)⟩
   exact ⟨_,rfl,a,_,_,_,rfl,rfl,SqT.of ha,rfl,sm rfl,fun l hl=>q l _ (jG hl _) hl jg⟩
  | claim C=>
   obtain ⟨a,u,rfl,ha,hu⟩:=zW hS
   refine ⟨_,rfl,a,_,_,_,rfl,rfl,SqT.of ha,rfl,?_⟩
   refine gQ ?_
   refine ⟨_,rfl,rfl,_,rfl,jU (fun d=>absurd (of_decide_eq_true d) (by decide)) (fun _=>?_)⟩
   refine ⟨_,rfl,rfl,_,rfl,jU (fun d=>absurd (of_decide_eq_true d) (by decide)) (fun _=>?_)⟩
   refine ⟨_,rfl,rfl,_,rfl,jU (fun d=>absurd (of_decide_eq_true d) (by decide)) (fun _=>?_)⟩
   refine ⟨_,rfl,rfl,_,rfl,jU (fun d=>absurd (of_decide_eq_true d) (by decide)) (fun _=>?_)⟩
   refine ⟨_,rfl,_,.leaf (.claim C),rfl,hN,trivial,trivial,fun t us H1 s1 ht hu'=>?_⟩
   refine ⟨t,us,[C],rfl,ht,hu',Nat.le_of_ble_eq_true rfl,fun l H2 s2 n2 e2=>?_⟩
   refine q l H2 (s1.trans s2) (s1.free n2) ?_
   rw [e2]
   simp [Nd.ns,Sm.ns]
  | call x f as rs=>
   obtain ⟨a,b,c,rfl,ha,hb,hc⟩:=yJ hS
   refine ⟨_,rfl,a,_,_,_,rfl,rfl,SqT.of ha,rfl,?_⟩
   refine gQ ?_
   refine ⟨_,rfl,rfl,_,rfl,jU (fun d=>absurd (of_decide_eq_true d) (by decide)) (fun _=>?_)⟩
   refine ⟨_,rfl,rfl,_,rfl,jU (fun d=>absurd (of_decide_eq_true d) (by decide)) (fun _=>?_)⟩
   refine ⟨_,rfl,rfl,_,rfl,jU (fun d=>absurd (of_decide_eq_true d) (by decide)) (fun _=>?_)⟩
   refine ⟨_,rfl,rfl,_,rfl,jU (fun _=>?_) (fun d=>absurd (decide_eq_true rfl) d)⟩
   refine ⟨_,rfl,a,_,_,_,rfl,rfl,SqT.of ha,rfl,sm rfl,fun l hl=>?_⟩
   have s1:=jG hl (.lst [V.str x])
   have e1:upd H l (.lst [V.str x]) l=some (.lst [V.str x]):=jg
   generalize upd H l (.lst [V.str x])=H1 at *
   refine ⟨_,rfl,a,_,_,_,rfl,rfl,SqT.of (s1 _ _ ha),rfl,b,_,rfl,.inr (SqT.of (s1 _ _ hb)),fun l2 hl2=>?_⟩
   have s2:=jG hl2 (.lst (as.map V.str))
   have e2:upd H1 l2 (.lst (as.map V.str)) l2=some (.lst (as.map V.str)):=jg
   generalize upd H1 l2 (.lst (as.map V.str))=H2 at *
   have has:=hf.1
   refine ⟨l,l2,_,_,rfl,rfl,s2 _ _ e1,e2,Nat.le_trans (by rw [List.length_map];exact Nat.le_trans (Nat.add_le_add_left has 1) (by decide:1+6≤1000)) (kc (Nat.le_refl 1000)),fun l3 hl3=>?_⟩
   exact q l3 _ (s1.trans (s2.trans (jG hl3 _))) (s1.free (s2.free hl3)) jg
 | ite a b c x y=>
  obtain ⟨t,u,p,r,xs,ys,rfl,ht,hu,hp,hx,hr',hy⟩:=Jq hN
  refine ⟨_,rfl,t,_,_,_,rfl,rfl,SqT.of ht,rfl,?_⟩
  refine gQ ?_
  refine ⟨_,rfl,rfl,_,rfl,jU (fun d=>absurd (of_decide_eq_true d) (by decide)) (fun _=>?_)⟩
  refine ⟨_,rfl,rfl,_,rfl,jU (fun d=>absurd (of_decide_eq_true d) (by decide)) (fun _=>?_)⟩
  refine ⟨_,rfl,rfl,_,rfl,jU (fun d=>absurd (of_decide_eq_true d) (by decide)) (fun _=>?_)⟩
  refine ⟨_,rfl,rfl,_,rfl,jU (fun d=>absurd (of_decide_eq_true d) (by decide)) (fun _=>?_)⟩
  refine ⟨_,rfl,_,.ite a b c x y,rfl,hN,trivial,trivial,fun t us H1 s1 ht hu'=>?_⟩
  refine ⟨t,us,[.least a b c],rfl,ht,hu',Nat.le_of_ble_eq_true rfl,fun l H2 s2 n2 e2=>?_⟩
  refine q l H2 (s1.trans s2) (s1.free n2) ?_
  rw [e2]
  simp [Nd.ns]
 | whl a b c ks x=>
  obtain ⟨t,u,p,r,xs,ys,rfl,ht,hu,hp,hx,hr',hy⟩:=Jd hN
  have hk20:ks.length≤20:=hf
  refine ⟨_,rfl,t,_,_,_,rfl,rfl,SqT.of ht,rfl,?_⟩
  refine gQ ?_
  refine ⟨_,rfl,rfl,_,rfl,jU (fun d=>absurd (of_decide_eq_true d) (by decide)) (fun _=>?_)⟩
  refine ⟨_,rfl,rfl,_,rfl,jU (fun d=>absurd (of_decide_eq_true d) (by decide)) (fun _=>?_)⟩
  refine ⟨_,rfl,rfl,_,rfl,jU (fun d=>absurd (of_decide_eq_true d) (by decide)) (fun _=>?_)⟩
  refine ⟨_,rfl,rfl,_,rfl,jU (fun d=>absurd (of_decide_eq_true d) (by decide)) (fun _=>?_)⟩
  refine ⟨_,rfl,_,.whl a b c ks x,rfl,hN,trivial,hf,fun t us H1 s1 ht hu'=>?_⟩
  refine ⟨t,us,.least a b c :: ks,rfl,ht,hu',by rw [List.length_cons];omega,fun l H2 s2 n2 e2=>?_⟩
  exact q l H2 (s1.trans s2) (s1.free n2) e2
theorem jbw {f:Addr} {fd:FuncData} (F:Fun K "bodies_of" "bodies_of" ya f fd):FnOk P w K mg base CX0 1 f fd ["statement"] Kq:=by
 have sc:FnScope ["statement"] ["statement"] (jw ya):=fQ
 refine F.okZ sc (fun vs H Q E h=>?_) (fun cdv A outer s H vs Q E hr h=>?_)
 ·obtain ⟨v,N,rfl,_⟩:=h
  rfl
 obtain ⟨v,N,rfl,hN,q⟩:=h
 refine ⟨_,(je (jT (jv kq (jz jS (zpv 0) ji (fun _ _=>rfl)) jq (jP _)) (jn (jB (kA zt (zpv 0) (kj ji) qA))) jA)
   (je (jT (jv kq (jz jS (zpv 0) ji (fun _ _=>rfl)) jq (jP _)) (jn (jB (kA zt (zpv 0) (kj ji) qA))) jA)
   (jn (jB (jX jd))))),?_⟩
 cases N with
 | leaf S=>
  obtain ⟨a,k,r,rfl,ha,h1,h2,_⟩:=Sm.head (S:=S) hN
  refine ⟨_,rfl,a,_,_,V.str k,rfl,rfl,SqT.of ha,ko (j:=0) rfl,rfl,_,rfl,jU (fun d=>absurd (of_decide_eq_true d) (fun z=>h1 (by injection z))) (fun _=>?_)⟩
  refine ⟨_,rfl,a,_,_,V.str k,rfl,rfl,SqT.of ha,ko (j:=0) rfl,rfl,_,rfl,jU (fun d=>absurd (of_decide_eq_true d) (fun z=>h2 (by injection z))) (fun _=>?_)⟩
  exact ⟨sm rfl,fun t ht=>q t [] _ (jG ht _) jg jt⟩
 | ite a b c x y=>
  obtain ⟨t,u,p,r,xs,ys,rfl,ht,hu,hp,hx,hr',hy⟩:=Jq hN
  refine ⟨_,rfl,t,_,_,_,rfl,rfl,SqT.of ht,rfl,rfl,_,rfl,jU (fun _=>?_) (fun d=>absurd (decide_eq_true rfl) d)⟩
  refine ⟨_,rfl,_,rfl,t,_,rfl,SqT.of ht,(fun h=>absurd h.1 (by show ¬ (HT.sIx 4 0 (some 2)=0);decide)),fun t' ht'=>?_⟩
  have s1:=jG ht' (.tup (qh [.str "if",u,.ref p,.ref r] (some 2) none))
  exact q t' [.ref p,.ref r] _ s1 jg (jh (jQ (s1 _ _ hp) (hx.mono s1)) (jh (jQ (s1 _ _ hr') (hy.mono s1)) jt))
 | whl a b c ks x=>
  obtain ⟨t,u,p,r,xs,ys,rfl,ht,hu,hp,hx,hr',hy⟩:=Jd hN
  refine ⟨_,rfl,t,_,_,_,rfl,rfl,SqT.of ht,rfl,rfl,_,rfl,jU (fun d=>absurd (of_decide_eq_true d) (by decide)) (fun _=>?_)⟩
  refine ⟨_,rfl,t,_,_,_,rfl,rfl,SqT.of ht,rfl,rfl,_,rfl,jU (fun _=>?_) (fun d=>absurd (decide_eq_true rfl) d)⟩
  refine ⟨_,rfl,_,rfl,t,_,rfl,SqT.of ht,(fun h=>absurd h.1 (by show ¬ (HT.sIx 4 0 (some 3)=0);decide)),fun t' ht'=>?_⟩
  have s1:=jG ht' (.tup (qh [.str "while",u,.ref p,.ref r] (some 3) none))
  exact q t' [.ref r] _ s1 jg (jh (jQ (s1 _ _ hr') (hy.mono s1)) jt)
end
theorem qi {H:Hp}:∀ {ds ds':List D} {vs vs':List V},HeldL H ds vs→HeldL H ds' vs'→HeldL H (ds++ds') (vs++vs')
 | [],_,_,_,h,h'=>by cases jK h;exact h'
 | _ :: _,_,_,_,h,h'=>by
  obtain ⟨v,r,rfl,h1,h2⟩:=jk h
  exact jh h1 (qi h2 h')
section
variable {P:Program} {w:World} {K:W.Frag} {mg:Str→Option Value} {base:Heap}
theorem jeh {f:Addr} {fd:FuncData} (F:Fun K "all_statements" "all_statements" kD f fd):FnOk P w K mg base CX0 2 f fd ["body"] (Zl 0):=by
 have sc:FnScope ["body","told","statement","inner"] ["body"] (jw kD):=fQ
 refine F.okZ sc (fun vs H Q E h=>?_) (fun cdv A outer s H vs Q E hr h=>?_)
 ·obtain ⟨a,us,Ss,rfl,_⟩:=h
  rfl
 obtain ⟨a,us,Ss,rfl,ha,hSs,hlen,q⟩:=h
 cases jgu (l:=Ss)
 cases jK hSs
 refine ⟨_,(je (js (i:=1) sc.nd rfl oQ (jM jd))
   (je (kK PassesOwn.never rfl (zk (zpv 0)) (jy (i:=2) sc.nd rfl oQ) (je (kE (qS PySem.F.plainAttrs_list PySem.F.slot_list_append PySem.F.type_list_append za (zpv 1) (jb (zpv 2) jd)))
   (jn (kK PassesOwn.never rfl (zk Ya) (jy (i:=3) sc.nd rfl oQ) (jn (kE (qS PySem.F.plainAttrs_list PySem.F.slot_list_extend PySem.F.type_list_extend yP (zpv 1) (jb Ya jd))))))))
   (jn (jB (zpv 1))))),?_⟩
 refine kb (σ':=[some (.ref a),none,none,none]) rfl ?_
 refine ⟨sm rfl,fun l hl=>?_⟩
 have s1:=jG hl (.lst [])
 have e1:upd H l (.lst []) l=some (.lst []):=jg
 generalize upd H l (.lst [])=H1 at *
 refine gQ ?_
 refine ⟨_,rfl,a,rfl,⟨_,SqT.of (s1 _ _ ha)⟩,?_⟩
 refine zJ (xs:=[]) (fun i σ G=>∃ u2 u3,σ=[some (.ref a),some (.ref l),u2,u3]∧G=H1) ⟨none,none,rfl,rfl⟩ ?_ ?_ ?_
 ·rintro i σ G _ ⟨u2,u3,rfl,rfl⟩
  exact SqT.of (s1 _ _ ha)
 ·rintro i x σ G hx _
  simp at hx
 rintro σ G ⟨u2,u3,rfl,rfl⟩
 exact ⟨_,rfl,q l [] G s1 hl e1 jt⟩
theorem jfv {n:Nat} {f:Addr} {fd:FuncData} (F:Fun K "all_statements" "all_statements" kD f fd) (F_bodies_of:Fn P w K mg base 1 "bodies_of" ["statement"] Kq) (F_all_statements:Fn P w K mg base (n+2) "all_statements" ["body"] (Zl n)):FnOk P w K mg base CX0 (n+2+1) f fd ["body"] (Zl (n+1)):=by
 have sc:FnScope ["body","told","statement","inner"] ["body"] (jw kD):=fQ
 refine F.okZ sc (fun vs H Q E h=>?_) (fun cdv A outer s H vs Q E hr h=>?_)
 ·obtain ⟨a,us,Ss,rfl,_⟩:=h
  rfl
 obtain ⟨a,us,Ss,rfl,ha,hSs,hlen,q⟩:=h
 refine ⟨_,(je (js (i:=1) sc.nd rfl oQ (jM jd))
   (je (kK PassesOwn.never rfl (zk (zpv 0)) (jy (i:=2) sc.nd rfl oQ) (je (kE (qS PySem.F.plainAttrs_list PySem.F.slot_list_append PySem.F.type_list_append za (zpv 1) (jb (zpv 2) jd)))
   (jn (kK PassesOwn.never rfl (zk (jH F_bodies_of hr (jb (zpv 2) jd) (by omega))) (jy (i:=3) sc.nd rfl oQ) (jn (kE (qS PySem.F.plainAttrs_list PySem.F.slot_list_extend PySem.F.type_list_extend yP (zpv 1) (jb (jH F_all_statements hr (jb (zpv 3) jd) (by omega)) jd))))))))
   (jn (jB (zpv 1))))),?_⟩
 refine kb (σ':=[some (.ref a),none,none,none]) rfl ?_
 refine ⟨sm rfl,fun l hl=>?_⟩
 have s1:=jG hl (.lst [])
 have e1:upd H l (.lst []) l=some (.lst []):=jg
 generalize upd H l (.lst [])=H1 at *
 refine gQ ?_
 have hul:=hSs.length
 rw [List.length_map] at hul
 refine ⟨_,rfl,a,rfl,⟨_,SqT.of (s1 _ _ ha)⟩,?_⟩
 have tot:∀ i,(ku (n+1) (Ss.take i)).length≤100:=fun i=>Nat.le_trans (yc _ Ss i) hlen
 refine zJ (xs:=us) (fun i σ G=>∃ u2 u3 ws,σ=[some (.ref a),some (.ref l),u2,u3]∧Same H G∧G l=some (.lst ws)∧HeldL G ((ku (n+1) (Ss.take i)).map Nd.toD) ws) ⟨none,none,[],rfl,s1,e1,by rw [List.take_zero];exact jt⟩ ?_ ?_ ?_
 ·rintro i σ G _ ⟨u2,u3,ws,rfl,sG,_⟩
  exact SqT.of (sG _ _ ha)
 ·rintro i x σ G hx ⟨u2,u3,ws,rfl,sG,hG,hws⟩
  have hi:i < Ss.length:=by have:=(List.getElem?_eq_some_iff.mp hx).1;omega
  obtain ⟨x',hx',hxH⟩:=hSs.get (show (Ss.map (stD (n+1)))[i]?=some (JC Ss[i]).toD by rw [List.getElem?_map,List.getElem?_eq_getElem hi];rfl)
  rw [hx] at hx'
  cases hx'
  have lws:=hws.length
  rw [List.length_map] at lws
  have hnx:=tot (i+1)
  rw [YE hi,List.length_append,List.length_cons] at hnx
  refine gQ ?_
  refine ⟨_,rfl,.inl ⟨rfl,_,SqL.of hG⟩,_,rfl,l,_,x,rfl,rfl,hG,j8 (by omega),?_⟩
  have tkU:TK G (upd G l (.lst (ws++[x]))):=TK.upd hG (fun _ z=>by cases z)
  have s2:Same H (upd G l (.lst (ws++[x]))):=fun b o e=>by rw [jx (ju e hl)];exact sG _ _ e
  have e2:upd G l (.lst (ws++[x])) l=some (.lst (ws++[x])):=jg
  have hws2:=qi (tkU.heldL hws) (jh (hxH.mono s2) jt)
  generalize upd G l (.lst (ws++[x]))=G2 at *
  refine ⟨_,rfl,x,JC Ss[i],rfl,hxH.mono s2,fun t bs G3 s3 ht hbs=>?_⟩
  refine ⟨t,rfl,⟨_,SqT.of ht⟩,?_⟩
  rw [jbd,List.map_map] at hbs
  have lbs:=hbs.length
  rw [List.length_map] at lbs
  have s23:=s2.trans s3
  refine zJ (xs:=bs) (fun j σ G'=>∃ u2 u3 ws',σ=[some (.ref a),some (.ref l),u2,u3]∧Same H G'∧TK G3 G'∧G' l=some (.lst ws')∧HeldL G' ((ku (n+1) (Ss.take i)).map Nd.toD++((JC Ss[i]).toD :: ((((kQ Ss[i]).take j).flatMap (ku n)).map Nd.toD))) ws') ⟨_,_,_,rfl,s23,(fun _ _ e=>e),s3 _ _ e2,by rw [List.take_zero];exact hws2.mono s3⟩ ?_ ?_ ?_
  ·rintro j σ G' _ ⟨_,_,ws',rfl,sG',tkG',_⟩
   exact SqT.of (tkG' _ _ ht)
  ·rintro j y σ G' hy ⟨u2',u3',ws',rfl,sG',tkG',hG',hw'⟩
   have hj:j < (kQ Ss[i]).length:=by have:=(List.getElem?_eq_some_iff.mp hy).1;omega
   obtain ⟨y',hy',hyH⟩:=hbs.get (show ((kQ Ss[i]).map (D.tup ∘ fun x=>x.map (stD n)))[j]?=some (D.tup ((kQ Ss[i])[j].map (stD n))) by rw [List.getElem?_map,List.getElem?_eq_getElem hj];rfl)
   rw [hy] at hy'
   cases hy'
   obtain ⟨b,ys,rfl,hb,hys⟩:=jC hyH
   have etj:(kQ Ss[i]).take (j+1)=(kQ Ss[i]).take j++[(kQ Ss[i])[j]]:=by rw [List.take_succ,List.getElem?_eq_getElem hj];rfl
   have hle:=yc (ku n) (kQ Ss[i]) (j+1)
   have elj:(((kQ Ss[i]).take (j+1)).flatMap (ku n)).length=(((kQ Ss[i]).take j).flatMap (ku n)).length+(ku n (kQ Ss[i])[j]).length:=by rw [etj,List.flatMap_append,List.length_append];simp
   have lw':=hw'.length
   rw [List.length_append,List.length_map,List.length_cons,List.length_map] at lw'
   refine gQ ?_
   refine ⟨_,rfl,.inl ⟨rfl,_,SqL.of hG'⟩,_,rfl,b,ys,(kQ Ss[i])[j],rfl,tkG' _ _ hb,tkG'.heldL hys,by omega,fun l3 ws3 G4 s4 n4 e4 hw3=>?_⟩
   have lw3:=hw3.length
   rw [List.length_map] at lw3
   have hl4:=s4 _ _ hG'
   refine ⟨l,l3,_,_,rfl,rfl,hl4,e4,Nat.le_trans (by omega) (kc (Nat.le_refl 1000)),?_⟩
   have tk5:TK G4 (upd G4 l (.lst (ws'++ws3))):=TK.upd hl4 (fun _ z=>by cases z)
   refine ⟨_,_,_,rfl,fun b o e=>by rw [jx (ju e hl)];exact s4 _ _ (sG' _ _ e),fun b o e=>tk5 _ _ (s4 _ _ (tkG' _ _ e)),jg,?_⟩
   rw [show ((ku (n+1) (Ss.take i)).map Nd.toD++((JC Ss[i]).toD :: ((((kQ Ss[i]).take (j+1)).flatMap (ku n)).map Nd.toD)))=((ku (n+1) (Ss.take i)).map Nd.toD++((JC Ss[i]).toD :: ((((kQ Ss[i]).take j).flatMap (ku n)).map Nd.toD)))++(ku n (kQ Ss[i])[j]).map Nd.toD by rw [etj,List.flatMap_append,List.map_append];simp]
   exact tk5.heldL (qi (hw'.mono s4) hw3)
  ·rintro σ G' ⟨u2',u3',ws',rfl,sG',tkG',hG',hw'⟩
   rw [← lbs,List.take_length] at hw'
   exact ⟨u2',u3',ws',rfl,sG',hG',by rw [YE hi,List.map_append,List.map_cons];exact hw'⟩
 rintro σ G ⟨u2,u3,ws,rfl,sG,hG,hws⟩
 rw [← hul,List.take_length] at hws
 exact ⟨_,rfl,q l ws G sG hl hG hws⟩
theorem YD {f1:Addr} {fd1:FuncData} (U1:Fun K "all_statements" "all_statements" kD f1 fd1) (b1:Binds K fd1 ["body"] []) (m1:mg "all_statements" = some (.ref f1)) (F_bodies_of:Fn P w K mg base 1 "bodies_of" ["statement"] Kq):∀ n,Fn P w K mg base (n+2) "all_statements" ["body"] (Zl n)
 | 0=>Fn.mk' U1 b1 m1 (jeh U1)
 | n+1=>Fn.mk' U1 b1 m1 (jfv U1 F_bodies_of (YD U1 b1 m1 F_bodies_of n))
end
end LW
namespace L2
open PySem PySem.Spec PyProof.Rows
structure Fly (h0:Heap) (H:Hp) (cls:Value) (e:Addr) (h:Heap):Prop where
 he:H e=none
 ne:h0.get? e=none
 tr:∃ oe vs T oT ts a0,h.get? e=some oe∧oe.cls=cls∧oe.data=.fields vs∧vs[0]?=some a0∧vs[1]?=some (.ref T)∧T≠e∧h.get? T=some oT∧oT.data=.fields ts∧ts[3]?=some .none∧H T=none∧h0.get? T=none
structure Left (fs:List Addr) (h0:Heap) (H:Hp) (h h':Heap):Prop where
 keep:∀ b o,h.get? b=some o→b ∉ fs→(H b≠none∨∃ u,h0.get? b=some u)→h'.get? b=some o
 slot:∀ b o,h.get? b=some o→b∈fs→∃ sl,h'.get? b=some { cls:=o.cls,dict:=o.dict,data:=o.data,slots:=sl }
theorem JJ {h base:Heap}:∀ {l:List Env},h.FunFrames base l→∀ b∈frs l,∃ o,h.get? b=some o∧∀ vs:Array Value,o.data≠.fields vs
 | [],_,b,hb=>by cases hb
 | env :: l,hf,b,hb=>by
  obtain ⟨_,⟨L,o,e1,_,e3,e4⟩,hr⟩:=hf
  unfold frs at hb
  rw [List.filterMap_cons,e1] at hb
  rcases List.mem_cons.mp hb with rfl | hb
  ·exact ⟨o,e3,e4⟩
  ·exact JJ hr b hb
theorem qe {h base B:Heap}:∀ {l:List Env},h.FunFrames base l→(∀ b∈frs l,B.get? b=none)→h.FunFrames B l
 | [],_,_=>trivial
 | env :: l,hf,hB=>by
  obtain ⟨k,⟨L,o,e1,_,e3,e4⟩,hr⟩:=hf
  have hm:L∈frs (env :: l):=by unfold frs;rw [List.filterMap_cons,e1];exact List.mem_cons_self
  refine ⟨k,⟨L,o,e1,hB L hm,e3,e4⟩,qe hr fun b hb=>hB b ?_⟩
  unfold frs at hb ⊢
  rw [List.filterMap_cons,e1]
  exact List.mem_cons_of_mem _ hb
section
variable {M:Model} {A:Around} {E:Value→Shared→Prop} {s:Shared} {base h0:Heap} {env:Env} {outer:List Env} {L e:Addr} {cls:Value} {H:Hp} {Q:Unit→Shared→Prop}
theorem Y0 {B h':Heap} {l:List Env} {hs:List Addr} {a0:Value} (he:H e=none) (ne:h0.get? e=none) (hB:B=W.hideAll s.heap hs) (hl:∀ b∈hs,H b=none∧(b∈frs l∨h0.get? b=none)) (hfr:h'.FunFrames base l) (hH:∀ b,s.heap.get? b=none→H b=none∧h0.get? b=none) (tw:h'.TracedW B e cls a0):Fly h0 H cls e h':=by
 obtain ⟨oe,vs,T,oT,ts,t1,⟨t2,t3⟩,t4,t5,t6,t7,t8,t9,t10⟩:=tw
 have hT:H T=none∧h0.get? T=none:=by
  rcases hs':s.heap.get? T with _ | o
  ·exact hH T hs'
  ·by_cases hm:T∈hs
   ·refine ⟨(hl T hm).1,?_⟩
    rcases (hl T hm).2 with hf | hf
    ·obtain ⟨o',e1,e2⟩:=JJ hfr T hf
     rw [t8] at e1
     cases e1
     exact absurd t9 (e2 ts)
    ·exact hf
   ·rw [hB,W.hideAll_get hs hs' hm] at t6
    cases t6
 exact ⟨he,ne,oe,vs,T,oT,ts,a0,t1,t2,t4,t3,t5,t7,t8,t9,t10,hT.1,hT.2⟩
theorem Kc {B h':Heap} {l:List Env} {hs:List Addr} (hB:B=W.hideAll s.heap hs) (hl:∀ b∈hs,b ∉ frs l→H b=none∧h0.get? b=none) (st:B.StaysIn h') (hfr:s.heap.FunFrames base l)
  (ks:∀ b o,s.heap.get? b=some o→(∀ vs:Array Value,o.data≠.fields vs)→∃ sl,h'.get? b=some { cls:=o.cls,dict:=o.dict,data:=o.data,slots:=sl }):Left (frs l) h0 H s.heap h':=by
 refine ⟨fun b o hb hf ho=>?_,fun b o hb hf=>?_⟩
 ·by_cases hm:b∈hs
  ·obtain ⟨h1,h2⟩:=hl b hm hf
   rcases ho with ho | ⟨u,hu⟩
   ·exact absurd h1 ho
   ·rw [h2] at hu;cases hu
  ·exact st b o (by rw [hB];exact W.hideAll_get hs hb hm)
 ·obtain ⟨o',e1,e2⟩:=JJ hfr b hf
  rw [hb] at e1
  cases e1
  exact ks b o hb e2
theorem jag (hA:A.frames=some (env :: outer)) (hfr:s.heap.FunFrames base (env :: outer)) (hL:env.frame=some L) (hF:Fly h0 H cls e s.heap) (hff:∀ b∈frs (env :: outer),H b=none) (hH:∀ b,s.heap.get? b=none→H b=none∧h0.get? b=none)
  (hQ:∀ h',Left (frs (env :: outer)) h0 H s.heap h'→Fly h0 H cls e h'→h'.FunFrames base (env :: outer)→Q () { s with heap:=h' }) (hbs:∀ b o,base.get? b=some o→b ∉ frs (env :: outer)∧∃ u,h0.get? b=some u):wpAny M A (leaving env (.ref e)) Q E s:=by
 obtain ⟨oe,vs,T,oT,ts,a0,t1,t2,t3,t4,t5,t6,t7,t8,t9,t10,t11⟩:=hF.tr
 have hB0:∀ b∈e :: T :: frs (env :: outer),(W.hideAll s.heap (e :: T :: frs (env :: outer))).get? b=none:=fun b hb=>W.hideAll_none _ hb
 refine wpAny_leaving_nextW (base:=W.hideAll s.heap (e :: T :: frs (env :: outer))) (cls:=cls) (a0:=a0) hA (qe hfr fun b hb=>hB0 b (List.mem_cons_of_mem _ (List.mem_cons_of_mem _ hb))) hL ⟨oe,vs,T,oT,ts,t1,⟨t2,t4⟩,t3,t5,hB0 T (List.mem_cons_of_mem _ List.mem_cons_self),t6,t7,t8,t9⟩ (fun b o hb=>W.of_hideAll _ hb) (hB0 e List.mem_cons_self) ?_
 rintro h' ⟨l1,l2,l3,l4⟩
 have hfr':h'.FunFrames base (env :: outer):=qe l2 fun b hb=>by
  rcases hh:base.get? b with _ | o
  ·rfl
  ·exact absurd hb (hbs b o hh).1
 refine hQ h' (Kc rfl (fun b hb hf=>?_) l1 hfr l4) (Y0 (s:=s) (l:=env :: outer) hF.he hF.ne rfl (fun b hb=>?_) hfr' hH l3) hfr'
 ·rcases List.mem_cons.mp hb with rfl | hb
  ·exact ⟨hF.he,hF.ne⟩
  ·rcases List.mem_cons.mp hb with rfl | hb
   ·exact ⟨t10,t11⟩
   ·exact absurd hb hf
 ·rcases List.mem_cons.mp hb with rfl | hb
  ·exact ⟨hF.he,.inr hF.ne⟩
  ·rcases List.mem_cons.mp hb with rfl | hb
   ·exact ⟨t10,.inr t11⟩
   ·exact ⟨hff b hb,.inl hb⟩
theorem ZC {oe:Obj} {vs:Array Value} {a0:Value} (hA:A.frames=some (env :: outer)) (hfr:s.heap.FunFrames base (env :: outer)) (hL:env.frame=some L) (he:H e=none) (ne:h0.get? e=none) (ho:s.heap.get? e=some oe) (hc:oe.cls=cls) (hd:oe.data=.fields vs) (h1:vs[1]?=some .none) (ha:vs[0]?=some a0) (hff:∀ b∈frs (env :: outer),H b=none) (hH:∀ b,s.heap.get? b=none→H b=none∧h0.get? b=none)
  (hQ:∀ h',Left (frs (env :: outer)) h0 H s.heap h'→Fly h0 H cls e h'→h'.FunFrames base (env :: outer)→Q () { s with heap:=h' }) (hbs:∀ b o,base.get? b=some o→b ∉ frs (env :: outer)∧∃ u,h0.get? b=some u):wpAny M A (leaving env (.ref e)) Q E s:=by
 subst hc
 have hB0:∀ b∈e :: frs (env :: outer),(W.hideAll s.heap (e :: frs (env :: outer))).get? b=none:=fun b hb=>W.hideAll_none _ hb
 refine wpAny_leaving_firstW (base:=W.hideAll s.heap (e :: frs (env :: outer))) hA (qe hfr fun b hb=>hB0 b (List.mem_cons_of_mem _ hb)) hL ho (fun b o hb=>W.of_hideAll _ hb) (hB0 e List.mem_cons_self) hd h1 ha ?_
 rintro h' ⟨l1,l2,l3,l4⟩
 have hfr':h'.FunFrames base (env :: outer):=qe l2 fun b hb=>by
  rcases hh:base.get? b with _ | o
  ·rfl
  ·exact absurd hb (hbs b o hh).1
 refine hQ h' (Kc rfl (fun b hb hf=>?_) l1 hfr l4) (Y0 (s:=s) (l:=env :: outer) he ne rfl (fun b hb=>?_) hfr' hH l3) hfr'
 ·rcases List.mem_cons.mp hb with rfl | hb
  ·exact ⟨he,ne⟩
  ·exact absurd hb hf
 ·rcases List.mem_cons.mp hb with rfl | hb
  ·exact ⟨he,.inr ne⟩
  ·exact ⟨hff b hb,.inl hb⟩
end
theorem ObjOk.ex {P:Program} {w:World} {H:Hp} {h:Heap} {a:Addr} {o:HO} (x:ObjOk P w H h a o):∃ u,h.get? a=some u:=by
 cases o with
 | lst xs=>obtain ⟨_,_,_,_,e⟩:=x;exact ⟨_,e⟩
 | tup xs=>obtain ⟨_,_,_,⟨u,e,_⟩⟩:=x;exact ⟨_,e⟩
 | dK kvs=>obtain ⟨_,_,_,_,o,_,_,e,_⟩:=x;exact ⟨_,e⟩
 | dT kvs=>obtain ⟨_,_,_,_,o,_,_,e,_⟩:=x;exact ⟨_,e⟩
 | set S n=>obtain ⟨o,_,_,_,e,_⟩:=x;exact ⟨_,e⟩
 | ins C dx fs=>obtain ⟨_,_,_,e,_⟩:=x;exact ⟨_,e⟩
 | own y=>exact x
 | xd fs=>obtain ⟨_,⟨_,_,_,e,_⟩,_⟩:=x;exact ⟨_,e⟩
 | rng lo hi=>obtain ⟨_,_,_,e⟩:=x;exact ⟨_,e⟩
 | frz o u=>exact ⟨_,x.1⟩
 | tbl ps=>exact ⟨_,x⟩
 | met f y=>exact ⟨_,x⟩
 | ext φ=>exact x.2.1
def CX1 (P:Program) (w:World):CXT:=fun outer H s E e s'=>∃ ea cls H',e=.ref ea∧s'.os=s.os∧AllBare s'.gens∧Un (frs outer) [] H H' s.heap s'.heap∧HOk P w H' s'.heap∧Fly s.heap H' cls ea s'.heap∧E cls none H'
section
variable {X:Cx} {pins:List (Addr×Obj)} {σ:St} {H:Hp} {s:Shared} {cls:Value} {e:Addr}
structure XW (X:Cx) (E:XK):Prop where
 env:X.stack=X.env :: X.outer
 fr:X.env.frame=some X.env.locals
 ex:X.ex=[]
 xe:X.xe=fun e s'=>wpAny (model X.prog X.w) X.A (leaving X.env e) (fun _ s''=>CX1 X.prog X.w X.outer X.H₀ X.s₀ E e s'') (fun e' s''=>CX1 X.prog X.w X.outer X.H₀ X.s₀ E e' s'') s'
theorem XW.left {E:XK} (W:XW X E) (I:Inv X pins σ H s) {h':Heap} (l:Left (frs (X.env :: X.outer)) X.s₀.heap H s.heap h') (f:Fly X.s₀.heap H cls e h') (hE:E cls none H):CX1 X.prog X.w X.outer X.H₀ X.s₀ E (.ref e) { s with heap:=h' }:=by
 have hb:=I.base
 rw [W.ex] at hb
 have nL:∀ b o,X.s₀.heap.get? b=some o→b ∉ frs X.outer→b ∉ frs (X.env :: X.outer):=fun b o e hn hm=>by
  unfold frs at hm
  rw [List.filterMap_cons,W.fr] at hm
  rcases List.mem_cons.mp hm with rfl | hm
  ·exact absurd (Heap.lt_size e) (Nat.not_lt.mpr I.ok.above)
  ·exact hn hm
 have inO:∀ b,b∈frs X.outer→b∈frs (X.env :: X.outer):=fun b hm=>by
  unfold frs at hm ⊢
  rw [List.filterMap_cons,W.fr]
  exact List.mem_cons_of_mem _ hm
 have stk:=I.stkFree
 rw [W.env] at stk
 refine ⟨e,cls,H,rfl,I.os,I.bare,⟨fun b o h1 h2 h3 h4=>?_,fun b o h1 h2 h3 h4=>?_,fun b o h1 h2 h3=>hb.free b o h1 h2 h3,fun b o h1 h2=>?_,hb.tups,hb.frzs,hb.tbls⟩,fun a o ho=>?_,f,hE⟩
 ·exact l.keep b o (hb.keep b o h1 h2 h3 h4) (nL b o h1 h3) (.inr ⟨o,h1⟩)
 ·obtain ⟨sl,h5⟩:=hb.slot b o h1 h2 h3 h4
  obtain ⟨sl',h6⟩:=l.slot b _ h5 (inO b h3)
  exact ⟨sl',h6⟩
 ·obtain ⟨o',h5⟩:=hb.there b o h1 h2
  by_cases hm:b∈frs (X.env :: X.outer)
  ·obtain ⟨sl',h6⟩:=l.slot b _ h5 hm
   exact ⟨_,h6⟩
  ·exact ⟨o',l.keep b o' h5 hm (.inr ⟨o,h1⟩)⟩
 ·refine (I.hok a o ho).stay (fun b u hbu q=>?_) (fun _ q=>q) fun _ _ q=>q
  have hne:H b≠none:=by
   rcases hbu with rfl | hbu
   ·rw [ho];simp
   ·rw [hbu];simp
  exact l.keep b u q (fun hm=>hne (stk b hm)) (.inl hne)
theorem XW.hH {E:XK} (W:XW X E) (I:Inv X pins σ H s):∀ b,s.heap.get? b=none→H b=none∧X.s₀.heap.get? b=none:=fun b hb=>by
 refine ⟨?_,?_⟩
 ·rcases hh:H b with _ | o
  ·rfl
  ·obtain ⟨u,hu⟩:=(I.hok b o hh).ex
   rw [hu] at hb;cases hb
 ·rcases hh:X.s₀.heap.get? b with _ | o
  ·rfl
  ·have hbase:=I.base
   rw [W.ex] at hbase
   obtain ⟨o',h5⟩:=hbase.there b o hh (by simp)
   rw [h5] at hb;cases hb
theorem XW.hbs {E:XK} (W:XW X E) (I:Inv X pins σ H s):∀ b o,X.base.get? b=some o→b ∉ frs (X.env :: X.outer)∧∃ u,X.s₀.heap.get? b=some u:=fun b o hb=>by
 refine ⟨fun hm=>?_,⟨o,(I.ok.bs b o hb).1⟩⟩
 have hs:=I.stack
 rw [W.env] at hs
 have:∀ {l:List Env},s.heap.FunFrames X.base l→b∈frs l→False:=by
  intro l
  induction l with
  | nil=>intro _ h;cases h
  | cons env l ih=>
   intro hf hm
   obtain ⟨_,⟨L,o',e1,e2,_,_⟩,hr⟩:=hf
   unfold frs at hm
   rw [List.filterMap_cons,e1] at hm
   rcases List.mem_cons.mp hm with rfl | hm
   ·rw [e2] at hb;cases hb
   ·exact ih hr hm
 exact this hs hm
theorem XW.next {E:XK} (W:XW X E) (I:Inv X pins σ H s) (F:Fly X.s₀.heap H cls e s.heap) (hE:E cls none H):X.xe (.ref e) s:=by
 have stk:=I.stkFree
 have hs:=I.stack
 have hf:=I.ok.frames
 rw [W.env] at stk hs hf
 rw [W.xe]
 exact jag hf hs W.fr F stk (W.hH I) (fun h' l f _=>W.left I l f hE) (W.hbs I)
theorem XW.first {E:XK} (W:XW X E) (I:Inv X pins σ H s) {oe:Obj} {vs:Array Value} {a0:Value} (he:H e=none) (ne:X.s₀.heap.get? e=none) (ho:s.heap.get? e=some oe) (hc:oe.cls=cls) (hd:oe.data=.fields vs) (h1:vs[1]?=some .none) (ha:vs[0]?=some a0) (hE:E cls none H):X.xe (.ref e) s:=by
 have stk:=I.stkFree
 have hs:=I.stack
 have hf:=I.ok.frames
 rw [W.env] at stk hs hf
 rw [W.xe]
 exact ZC hf hs W.fr he ne ho hc hd h1 ha stk (W.hH I) (fun h' l f _=>W.left I l f hE) (W.hbs I)
theorem Inv.raised {E:XK} {s':Shared} {ev:Value} (I:Inv X pins σ H s) (h:CX1 X.prog X.w X.stack H s E ev s'):∃ ea cls H',ev=.ref ea∧Inv X pins σ H' s'∧Fly s.heap H' cls ea s'.heap∧E cls none H':=by
 obtain ⟨ea,cls,H',rfl,os,bare,un,hok,fly,hE⟩:=h
 obtain ⟨hh,g,d,t,os'⟩:=s'
 obtain rfl:os'=s.os:=os
 exact ⟨ea,cls,H',rfl,I.call (h':=hh) (g':=g) (d':=d) (t':=t) (ch:=[]) un hok bare (fun b z=>absurd z (by simp)),fly,hE⟩
theorem Fly.back {E:XK} {s':Shared} (W:XW X E) (I:Inv X pins σ H s) {H':Hp} (F:Fly s.heap H' cls e s'.heap):Fly X.s₀.heap H' cls e s'.heap:=by
 obtain ⟨oe,vs,T,oT,ts,a0,t1,t2,t3,t4,t5,t6,t7,t8,t9,t10,t11⟩:=F.tr
 exact ⟨F.he,(W.hH I e F.ne).2,oe,vs,T,oT,ts,a0,t1,t2,t3,t4,t5,t6,t7,t8,t9,t10,(W.hH I T t11).2⟩
theorem XW.passes {E:XK} (W:XW X E):KZ (CX1 X.prog X.w) X E:=fun pins σ H s ev s' I h=>by
 obtain ⟨ea,cls,H',rfl,I',F,hE⟩:=I.raised h
 exact W.next I' (Fly.back W I F) hE
end
structure FnX (P:Program) (w:World) (K:W.Frag) (mg:Str→Option Value) (base:Heap) (k:Nat) (x:Str) (ps:List Str) (sp:Sp):Prop where
 ex:∃ f fd,FnOk P w K mg base (CX1 P w) k f fd ps sp∧Binds K fd ps []∧W.keepIn K (.ref f)=true∧mg x=some (.ref f)
theorem FnX.mk' {P:Program} {w:World} {K:W.Frag} {mg:Str→Option Value} {base:Heap} {k:Nat} {x:Str} {ps:List Str} {sp:Sp} {st:Stmt} {f:Addr} {fd:FuncData} (F:Fun K x x st f fd) (b:Binds K fd ps []) (m:mg x=some (.ref f)) (G:FnOk P w K mg base (CX1 P w) k f fd ps sp):FnX P w K mg base k x ps sp:=⟨f,fd,G,b,F.kp,m⟩
theorem jfp {X:Cx} {k k':Nat} {x:Str} {ps:List Str} {sp:Sp} {E:XK} {e:Expr} {es:List Expr} {t:TA} {p pos:Pos} (F:FnX X.prog X.w X.K X.mg X.base k x ps sp) (W:XW X E) (hr:Room k' X.A) (ha:PA X (e :: es) t) (hk:k≤k':=by decide) (hg:Gl X x:=by rfl)
  (hd:(x == ("__debug__" : Str))=false:=by decide) (hp:(e :: es).all qk=true:=by rfl):PE X (.Call (.Name x p) (e :: es) [] pos) (Kl sp [] E t):=by
 obtain ⟨f,fd,G,b,kp,m⟩:=F.ex
 rw [List.all_cons,Bool.and_eq_true] at hp
 exact jaU G (hr.mono hk) hg m kp b .nil W.passes ha hd (zg hp.1 es X.env) (y6 pos X.env es hp.2)
theorem Fun.okX {P:Program} {w:World} {K:W.Frag} {mg:Str→Option Value} {base:Heap} {x qual:Str} {st:Stmt} {f:Addr} {fd:FuncData} {N ps:List Str} {k:Nat} {sp:Sp} (F:Fun K x qual st f fd) (S:FnScope N ps (jw st)) (len:∀ vs H Q E,sp vs H Q E→vs.length=ps.length)
  (hbody:∀ (cdv:Value) (A:Around) (outer:List Env) (s:Shared) (H:Hp) (vs:List V) (Q:VK) (E:XK),Room k (A.deeper (envOfC qual (jw st) s.heap.objs.size f cdv))→XW (q0 (CX1 P w) P w K mg base N qual (jw st) f cdv A outer s H E) E→sp vs H Q E→
   ∃ t,QSs (q0 (CX1 P w) P w K mg base N qual (jw st) f cdv A outer s H E) (zo st) t∧t { nx:=fun _ H'=>Q .non H',rt:=Q } (yZ N vs) H):FnOk P w K mg base (CX1 P w) (k+1) f fd ps sp:=by
 obtain ⟨oc,od,kV,doc,pm,an,cdv,ct,osl,rfl,lk,hcd⟩:=F.ex
 refine je1 lk hcd S len fun A outer s H vs Q E hr hsp=>?_
 obtain ⟨t,h,q⟩:=hbody cdv A outer s H vs Q E hr ⟨rfl,rfl,rfl,rfl⟩ hsp
 exact ⟨t,h.h,q⟩
theorem ye {K:W.Frag} {h:Heap} {C:Addr} {bmB:List Value} {newId:String} (X:K.In h) (e:W.excIn K C bmB newId=true):∃ bm N nm q bs hdct sn sub ab col dd k0 k1 k2 k3 k5 mN,
  h.get? C=some (excClassObj nm q C N bs bm hdct sn sub ab col dd k0 k1 k2 k3 k5 newId)∧h.Ns N mN∧mN (Str.ofString "__init__")=none∧OwnTail h bmB bm:=by
 unfold W.excIn at e
 split at e
 ·rename_i dct cd sl hl
  split at e
  ·rename_i C' bm a0 a1 a2 a3 n a5 hm hs
   simp only [Bool.and_eq_true,beq_iff_eq,Bool.not_eq_true'] at e
   obtain ⟨⟨⟨⟨⟨e1,e2⟩,e3⟩,e4⟩,e5⟩,e6⟩:=e
   subst e1 e2
   have hs':sl=#[a0,a1,a2,a3,some (.builtin n),a5]:=by
    apply Array.toList_inj.mp
    rw [hs]
   obtain ⟨c1,c2,c3,c4,c5,c6,c7,c8,c9,c10,c11⟩:=cd
   dsimp only at hm e3 e4 e5 e6
   subst hm hs' e3
   exact ⟨bm,c4,_,_,_,_,_,_,_,_,_,_,_,_,_,_,h.nsMap c4,X _ _ hl,Heap.Ns.of_isNs (W.isNs_of_in X e5),W.nsMap_none_of_in X e5 e6,W.tail_of_in X e4⟩
  ·cases e
 ·cases e
theorem K4 {h h':Heap} {bmB:List Value} (k:∀ b o,h.get? b=some o→h'.get? b=some o):∀ {l:List Value},OwnTail h bmB l→OwnTail h' bmB l:=by
 intro l t
 induction t with
 | base=>exact .base
 | own h1 h2 h3 _ ih=>exact .own (k _ _ h1) (h2.keeps k) h3 ih
def valB:List Value:=[.type "ValueError",.type "Exception",.type "BaseException",.type "object"]
def ZZ (C:Addr) (E:XK) (t:TA):TS:=fun _ σ H=>t σ H fun vs H1=>vs.length≤1000∧E (.ref C) none H1
theorem jcm {X:Cx} {E:XK} {C:Addr} {x:Str} {np cpos pos:Pos} {e:Expr} {es:List Expr} {t:TA} (W:XW X E) (hc:X.calm=true) (hg:Gl X x) (hm:X.mg x=some (.ref C)) (hx:PySem.W.excIn X.K C valB "ValueError.__new__" = true) (ha:PA X (e :: es) t) (hd:(x == ("__debug__" : Str))=false:=by decide) (hp:(e :: es).all qk=true:=by rfl) :
  PS X (.Raise (some (.Call (.Name x np) (e :: es) [] cpos)) none pos) (ZZ C E t):=by
 intro pins s σ H D I h
 rw [List.all_cons,Bool.and_eq_true] at hp
 have he:=zg hp.1 es X.env
 have hpl:=y6 cpos X.env es hp.2
 obtain ⟨bm,N,nm,q,bs,hdct,sn,sub,ab,col,dd,k0,k1,k2,k3,k5,mN,o1,o2,o3,o4⟩:=ye I.mod.kin hx
 have hbm:bm.contains (.type "BaseException")=true:=OwnTail.hasType o4 PySem.F.excBase_ValueError.hasBase
 refine wpAny_Raise_call_subU (nm:=nm) (q:=q) (C:=C) (N:=N) (bs:=bs) (bm:=bm) (bmB:=valB) (hdct:=hdct) (sn:=sn) (sub:=sub) (ab:=ab) (col:=col) (dd:=dd) (k0:=k0) (k1:=k1) (k2:=k2) (k3:=k3) (k5:=k5) (mN:=mN) PySem.F.excBase_ValueError (show valB.contains (.type "ValueError")=true from PySem.F.excBase_ValueError.hasB) PySem.F.excBase_ValueError hbm (I.ok.hd hc) ?_ o3 (yR I hg hm ⟨rfl,?_⟩ hd)
 ·rw [he];exact hpl
 ·have ha':=ha cpos pins s σ H _ I h
  rw [he] at ha' ⊢
  refine Calls.evalArgs_plain (thn ha' fun us s2 ⟨vs,H2,I2,r,hlen,hE⟩=>?_)
  refine ⟨rfl,?_,I2.bk _ _ o1,o2.keeps I2.bk,K4 I2.bk o4,fun h' ea me=>?_⟩
  ·show us.length≤sizeLine
   rw [← r.length]
   exact Nat.le_of_lt (j8 hlen)
  ·obtain ⟨tt,m1,m2,m3⟩:=me.there
   obtain ⟨n1,n2⟩:=W.hH I2 ea me.new
   have I3:Inv X pins σ H2 { s2 with heap:=h' }:=I2.kept (t':=s2.toks) me.keeps
   exact W.first I3 (cls:=.ref C) n1 n2 m1 rfl rfl rfl rfl hE
section
variable {M:Model} {A:Around} {E:Value→Shared→Prop} {s:Shared} {base h0:Heap} {env:Env} {outer:List Env} {L e:Addr} {cls:Value} {H:Hp} {Q:Unit→Shared→Prop}
theorem jbE (hA:A.frames=some (env :: outer)) (hfr:s.heap.FunFrames base (env :: outer)) (hL:env.frame=some L) (hF:Fly h0 H cls e s.heap) (hff:∀ b∈frs (env :: outer),H b=none) (hH:∀ b,s.heap.get? b=none→H b=none∧h0.get? b=none)
  (hQ:∀ h',Left (frs (env :: outer)) h0 H s.heap h'→Fly h0 H cls e h'→h'.FunFrames base (env :: outer)→Q () { s with heap:=h' }) (hbs:∀ b o,base.get? b=some o→b ∉ frs (env :: outer)∧∃ u,h0.get? b=some u) :
  wpAny M A (noteFrame (.ref e) env) (fun _ s2=>wpAny M A (setFlight (.ref e) none) Q E s2) E s:=by
 obtain ⟨oe,vs,T,oT,ts,a0,t1,t2,t3,t4,t5,t6,t7,t8,t9,t10,t11⟩:=hF.tr
 have hB0:∀ b∈e :: T :: frs (env :: outer),(W.hideAll s.heap (e :: T :: frs (env :: outer))).get? b=none:=fun b hb=>W.hideAll_none _ hb
 refine wpAny_noteFrame_onW (base:=W.hideAll s.heap (e :: T :: frs (env :: outer))) (cls:=cls) (a0:=a0) hA (qe hfr fun b hb=>hB0 b (List.mem_cons_of_mem _ (List.mem_cons_of_mem _ hb))) hL ⟨oe,vs,T,oT,ts,t1,⟨t2,t4⟩,t3,t5,hB0 T (List.mem_cons_of_mem _ List.mem_cons_self),t6,t7,t8,t9⟩ (fun b o hb=>W.of_hideAll _ hb) (hB0 e List.mem_cons_self) ?_
 rintro h1 ⟨k1,k2,k3,k4⟩
 refine wpAny_setFlight_noneW k1 k2 k3 fun h' l1 l2 l3 l5=>?_
 have l4:∀ b o,s.heap.get? b=some o→(∀ vs:Array Value,o.data≠.fields vs)→∃ sl,h'.get? b=some { cls:=o.cls,dict:=o.dict,data:=o.data,slots:=sl }:=fun b o hb hn=>by
  obtain ⟨sl,q⟩:=k4 b o hb hn
  exact ⟨sl,l5 b _ q hn⟩
 have hfr':h'.FunFrames base (env :: outer):=qe l2 fun b hb=>by
  rcases hh:base.get? b with _ | o
  ·rfl
  ·exact absurd hb (hbs b o hh).1
 refine hQ h' (Kc rfl (fun b hb hf=>?_) l1 hfr l4) (Y0 (s:=s) (l:=env :: outer) hF.he hF.ne rfl (fun b hb=>?_) hfr' hH l3) hfr'
 ·rcases List.mem_cons.mp hb with rfl | hb
  ·exact ⟨hF.he,hF.ne⟩
  ·rcases List.mem_cons.mp hb with rfl | hb
   ·exact ⟨t10,t11⟩
   ·exact absurd hb hf
 ·rcases List.mem_cons.mp hb with rfl | hb
  ·exact ⟨hF.he,.inr hF.ne⟩
  ·rcases List.mem_cons.mp hb with rfl | hb
   ·exact ⟨t10,.inr t11⟩
   ·exact ⟨hff b hb,.inl hb⟩
theorem jai (hfr:s.heap.FunFrames base (env :: outer)) (hF:Fly h0 H cls e s.heap) (hff:∀ b∈frs (env :: outer),H b=none) (hH:∀ b,s.heap.get? b=none→H b=none∧h0.get? b=none)
  (hQ:∀ h',Left (frs (env :: outer)) h0 H s.heap h'→Fly h0 H cls e h'→h'.FunFrames base (env :: outer)→Q () { s with heap:=h' }) (hbs:∀ b o,base.get? b=some o→b ∉ frs (env :: outer)∧∃ u,h0.get? b=some u) :
  wpAny M A (setFlight (.ref e) none) Q E s:=by
 obtain ⟨oe,vs,T,oT,ts,a0,t1,t2,t3,t4,t5,t6,t7,t8,t9,t10,t11⟩:=hF.tr
 have hB0:∀ b∈e :: T :: frs (env :: outer),(W.hideAll s.heap (e :: T :: frs (env :: outer))).get? b=none:=fun b hb=>W.hideAll_none _ hb
 refine wpAny_setFlight_noneW (base:=W.hideAll s.heap (e :: T :: frs (env :: outer))) (l:=env :: outer) (cls:=cls) (a0:=a0) (fl:=.none) (fun b o hb=>W.of_hideAll _ hb) (qe hfr fun b hb=>hB0 b (List.mem_cons_of_mem _ (List.mem_cons_of_mem _ hb))) ⟨oe,vs,T,oT,ts,t1,⟨t2,t4⟩,t3,t5,hB0 T (List.mem_cons_of_mem _ List.mem_cons_self),t6,t7,t8,t9⟩ fun h' l1 l2 l3 l5=>?_
 have l4:∀ b o,s.heap.get? b=some o→(∀ vs:Array Value,o.data≠.fields vs)→∃ sl,h'.get? b=some { cls:=o.cls,dict:=o.dict,data:=o.data,slots:=sl }:=fun b o hb hn=>⟨o.slots,l5 b _ hb hn⟩
 have hfr':h'.FunFrames base (env :: outer):=qe l2 fun b hb=>by
  rcases hh:base.get? b with _ | o
  ·rfl
  ·exact absurd hb (hbs b o hh).1
 refine hQ h' (Kc rfl (fun b hb hf=>?_) l1 hfr l4) (Y0 (s:=s) (l:=env :: outer) hF.he hF.ne rfl (fun b hb=>?_) hfr' hH l3) hfr'
 ·rcases List.mem_cons.mp hb with rfl | hb
  ·exact ⟨hF.he,hF.ne⟩
  ·rcases List.mem_cons.mp hb with rfl | hb
   ·exact ⟨t10,t11⟩
   ·exact absurd hb hf
 ·rcases List.mem_cons.mp hb with rfl | hb
  ·exact ⟨hF.he,.inr hF.ne⟩
  ·rcases List.mem_cons.mp hb with rfl | hb
   ·exact ⟨t10,.inr t11⟩
   ·exact ⟨hff b hb,.inl hb⟩
end
theorem Un.left {fs:List Addr} {H H':Hp} {h h1 h2:Heap} {P:Program} {w:World} (u:Un fs [] H H' h h1) (l:Left fs h H' h1 h2):Un fs [] H H' h h2 where
 keep:=fun b o h1 h2 h3 h4=>l.keep b o (u.keep b o h1 h2 h3 h4) h3 (.inr ⟨o,h1⟩)
 slot:=fun b o h1 h2 h3 h4=>by
  obtain ⟨sl,h5⟩:=u.slot b o h1 h2 h3 h4
  obtain ⟨sl',h6⟩:=l.slot b _ h5 h3
  exact ⟨sl',h6⟩
 free:=u.free
 there:=fun b o h1 h2=>by
  obtain ⟨o',h5⟩:=u.there b o h1 h2
  by_cases hm:b∈fs
  ·obtain ⟨sl',h6⟩:=l.slot b _ h5 hm
   exact ⟨_,h6⟩
  ·exact ⟨o',l.keep b o' h5 hm (.inr ⟨o,h1⟩)⟩
 tups:=u.tups
 frzs:=u.frzs
 tbls:=u.tbls
theorem HOk.left {fs:List Addr} {H:Hp} {h0 h1 h2:Heap} {P:Program} {w:World} (k:HOk P w H h1) (ff:∀ b∈fs,H b=none) (l:Left fs h0 H h1 h2):HOk P w H h2:=fun a o ho=>by
 refine (k a o ho).stay (fun b u hbu q=>?_) (fun _ q=>q) fun _ _ q=>q
 have hne:H b≠none:=by
  rcases hbu with rfl | hbu
  ·rw [ho];simp
  ·rw [hbu];simp
 exact l.keep b u q (fun hm=>hne (ff b hm)) (.inl hne)
def JM (cls:Value) (e:Addr):HO:=.ext fun h=>∃ oe vs,h.get? e=some oe∧oe.cls=cls∧oe.data=.fields vs
theorem Un.track {fs:List Addr} {H H':Hp} {h h1:Heap} {e:Addr} {o:HO} (u:Un fs [] H H' h h1) (he:H' e=none) (hn:h.get? e=none):Un fs [] H (upd H' e o) h h1 where
 keep:=u.keep
 slot:=u.slot
 free:=fun b ob h1 h2 h3=>by
  rw [jx fun z=>by rw [z,hn] at h1;cases h1]
  exact u.free b ob h1 h2 h3
 there:=u.there
 tups:=fun b xs q=>by
  have:=u.tups b xs q
  rw [jx fun z=>by rw [z,he] at this;cases this]
  exact this
 frzs:=fun b ob xs q=>by
  have:=u.frzs b ob xs q
  rw [jx fun z=>by rw [z,he] at this;cases this]
  exact this
 tbls:=fun b ps q=>by
  obtain ⟨m,this⟩:=u.tbls b ps q
  exact ⟨m,by rw [jx fun z=>by rw [z,he] at this;cases this];exact this⟩
theorem HOk.track {P:Program} {w:World} {H:Hp} {h:Heap} {e:Addr} {o:HO} (k:HOk P w H h) (he:H e=none) (ho:ObjOk P w (upd H e o) h e o):HOk P w (upd H e o) h:=fun a u hu=>by
 by_cases z:a=e
 ·subst z
  rw [jg] at hu
  cases hu
  exact ho
 ·rw [jx z] at hu
  refine (k a u hu).stay (fun b v _ q=>q) (fun b q=>?_) fun b xs q=>?_
  ·rw [jx fun z=>by rw [z,he] at q;cases q];exact q
  ·rw [jx fun z=>by rw [z,he] at q;cases q];exact q
theorem jeu {P:Program} {w:World} {H:Hp} {h0 h:Heap} {e:Addr} {cls:Value} (F:Fly h0 H cls e h):ObjOk P w (upd H e (JM cls e)) h e (JM cls e):=by
 obtain ⟨oe,vs,T,oT,ts,a0,t1,t2,t3,_⟩:=F.tr
 exact ⟨⟨oe,vs,t1,t2,t3⟩,⟨oe,t1⟩,fun h1 h2 ⟨o,v,q1,q2,q3⟩ k=>⟨o,v,k o q1,q2,q3⟩⟩
abbrev Cx.hush (X:Cx) (e:Addr):Cx:={ X with A:=X.A.mark (some (.ref e)),calm:=false,xe:=fun _ _=>False }
section
variable {X:Cx} {pins:List (Addr×Obj)} {σ:St} {H:Hp} {s:Shared} {e:Addr}
theorem Inv.hush (I:Inv X pins σ H s) (e:Addr):Inv (X.hush e) pins σ H s:=
 ⟨⟨I.ok.mod,I.ok.kind,I.ok.glob,I.ok.blt,I.ok.above,I.ok.inj,I.ok.has,I.ok.cab,fun z=>(by cases z),I.ok.frames,I.ok.stk,I.ok.exf,I.ok.bs,I.ok.bsz,I.ok.noex,I.ok.exfs,I.ok.funs,I.ok.frf⟩,I.os,I.bare,I.base,I.loc,I.cell,I.free,I.freeC,I.pin,I.hok,I.len⟩
theorem Inv.unhush (ok:X.Ok) (I:Inv (X.hush e) pins σ H s):Inv X pins σ H s:=
 ⟨ok,I.os,I.bare,I.base,I.loc,I.cell,I.free,I.freeC,I.pin,I.hok,I.len⟩
theorem Kd {M:Model} {A:Around} {E:Value→Shared→Prop} {i:Nat} {x:Str} {v:V} {pos:Pos} {Q:Unit→Shared→Prop} (I:Inv X pins σ H s) (hN:X.N.Nodup) (hi:X.N[i]?=some x) (hx:X.env.scope.names.lookup x=some .local)
  (h:∀ s',Inv X pins (σ.set i none) H s'→Q () s'):wpAny M A (do bindName X.env x .none;unbindBehindTheSuite X.env x pos) Q E s:=by
 have hcls:(X.env.scope.kind == .class || (X.env.scope.kind == .module && X.env.locals != X.env.globals))=false:=by rw [I.ok.kind];rfl
 refine wpAny_bind (wpAny_bindName (Jf (v:=.non) (u:=.none) I hN hi (.inl hx) rfl (fun s1 I1=>?_) (.inr hx)))
 unfold unbindBehindTheSuite
 refine wpAny_onRaise ?_
 obtain ⟨m,hn,hl⟩:=id I1.loc
 have hiσ:i < σ.length:=by rw [I.len];exact (List.getElem?_eq_some_iff.mp hi).1
 obtain ⟨u,_,q⟩:=hl i x .non hi (List.getElem?_set_self hiσ) (.inl hx)
 have hm:∃ v,m x=some v:=by
  rcases q with ⟨_,q⟩ | ⟨q,_⟩
  ·exact ⟨_,q⟩
  ·have hk:X.env.kindOf x=some .local:=hx
   rcases q with q | q <;> (rw [hk] at q;cases q)
 obtain ⟨v,hm⟩:=hm
 refine wpAny_unbindName_local hx hn hm hcls fun h' u hn' hs=>?_
 obtain ⟨oL,_,_,hoL,_⟩:=id hn
 have cne:=I1.cne
 refine h _ ⟨I1.ok,I1.os,I1.bare,⟨fun b o e n hb hx=>?_,fun b o e n hb hx=>?_,I1.base.free,fun b o e hx=>?_,I1.base.tups,I1.base.frzs,I1.base.tbls⟩,⟨_,hn',fun j y v' e1 e2 e3=>?_⟩,fun y c e=>?_,I1.free,I1.freeC,fun p hp=>?_,fun b ob e=>?_,by simpa using I.len⟩
 ·exact (hs.2 b (Nat.ne_of_lt (Nat.lt_of_lt_of_le (Heap.lt_size e) I1.ok.above))).trans (I1.base.keep b o e n hb hx)
 ·obtain ⟨sl,e1⟩:=I1.base.slot b o e n hb hx
  exact ⟨sl,(hs.2 b (Nat.ne_of_lt (Nat.lt_of_lt_of_le (Heap.lt_size e) I1.ok.above))).trans e1⟩
 ·obtain ⟨o',e1⟩:=I1.base.there b o e hx
  exact ⟨o',(hs.2 b (Nat.ne_of_lt (Nat.lt_of_lt_of_le (Heap.lt_size e) I1.ok.above))).trans e1⟩
 ·by_cases hj:j=i
  ·subst hj
   rw [List.getElem?_set_self hiσ] at e2
   cases e2
  ·rw [List.getElem?_set_ne (Ne.symm hj)] at e2
   have e2':(σ.set i (some V.non))[j]?=some (some v'):=by rw [List.getElem?_set_ne (Ne.symm hj)];exact e2
   obtain ⟨u',r',q⟩:=hl j y v' e1 e2' e3
   refine ⟨u',r',?_⟩
   rcases q with ⟨k,e⟩ | ⟨k,c,e,z⟩
   ·refine .inl ⟨k,?_⟩
    have:y≠x:=fun e=>hj (KA hN e1 (e ▸ hi))
    simp [this,e]
   ·exact .inr ⟨k,c,e,z.sameBut hs (cne y c e)⟩
 ·obtain ⟨w',z⟩:=I1.cell y c e
  exact ⟨w',z.sameBut hs (cne y c e)⟩
 ·obtain ⟨e,n,ne,nf,d⟩:=I1.pin p hp
  exact ⟨(hs.2 p.1 ne).trans e,n,ne,nf,d⟩
 ·refine (I1.hok b ob e).stay (fun c w' hc q=>(hs.2 c ?_).trans q) (fun _ q=>q) fun _ _ q=>q
  rintro rfl
  rcases hc with rfl | hc
  ·rw [I1.free] at e;cases e
  ·rw [I1.free] at hc;cases hc
end
theorem jdL {X:Cx} {CX:CXT} {k:Nat} {f:Addr} {fd:FuncData} {ps:List Str} {sp:Sp} {dvs:List V} {ds:List Value} {E:XK} {pins:List (Addr×Obj)} {σ:St} {H:Hp} {s:Shared} {Q:VK} {us:List Value} {vs:List V} (F:FnOk X.prog X.w X.K X.mg X.base CX k f fd ps sp) (hr:Room k X.A) (hb:Binds X.K fd ps ds) (hd:Vals dvs ds)
  (I:Inv X pins σ H s) (r:Vals vs us) (h:sp (vs++dvs) H Q E):wpAny (model X.prog X.w) X.A (call (.ref f) us) (EP X pins σ Q) (fun e s'=>CX X.stack H s E e s') s:=by
 have r2:Vals (vs++dvs) (us++ds):=r.append hd
 have hl:(us++ds).length=ps.length:=by rw [← r2.length];exact F.len _ _ _ _ h
 refine wpAny_call (codeAny_mono (F.run X.A X.stack s H ⟨us,[]⟩ (us++ds) (vs++dvs) Q E hr I.env0 (hb s us I.kIn hl) r2 h) fun r s' hq=>?_)
 cases r with
 | error e=>exact hq
 | ok fl=>
  cases fl with
  | ret u=>exact I.after hq
  | next=>exact False.elim hq
  | brk=>exact False.elim hq
  | cont=>exact False.elim hq
def Ends.gone (D:Ends) (i:Nat):Ends:={ nx:=fun σ H=>D.nx (σ.set i none) H,rt:=D.rt,bk:=fun σ H=>D.bk (σ.set i none) H,ct:=fun σ H=>D.ct (σ.set i none) H }
end L2
namespace PySem.W
open PySem PySem.Spec PySem.Calls PyProof.Rows Builtin Builtin.ObjectAttr Builtin.Getset_descriptor
section
variable {prog:Program} {w:World} {A:Around} {E:Value→Shared→Prop} {h:Heap} {g:Array GenState} {d:Drawn} {t:Nat} {os:OsState} {a C:Addr} {o:Obj} {K:Frag}
theorem jeE {M:Model} (hx:h.get? a=some o) (hc:o.cls=.ref C):Looks M h (typeOf (.ref a)) (.ref C):=hc ▸ (Looks.ld hx).andThen .now
structure XCls (K:Frag) (C:Addr):Prop where
 cl:(clsIn K C).isSome=true
 ga:findIn K (.ref C) "__getattribute__" = some (some (.builtin "BaseException.__getattribute__"))
 gt:findIn K (.ref C) "__getattr__" = some none
 cc:findIn K (.ref C) "__class__" = some (some (.builtin "object.__class__"))
 ob:mroIn K C (.type "object")=some true
 be:mroIn K C (.type "BaseException")=some true
theorem je3 {R:Result→Shared→Prop} (Z:XCls K C) (X:K.In h) (hx:h.get? a=some o) (hc:o.cls=.ref C) (hq:R (.ok (.ret (.ref C))) ⟨h,g,d,t,os⟩) :
  codeAny (model prog w) A (.call (.builtin "getset_descriptor.__get__") ⟨[.builtin "object.__class__",.ref a,.ref C],[]⟩) R ⟨h,g,d,t,os⟩:=by
 have L0:=jeE (M:=model prog w) hx hc
 have L1:=looks_mroIn (M:=model prog w) X Z.ob
 refine codeAny_call_builtin KF.slot_gs.plain KF.entry_gs (KF.slot_gs.check _ _ _ _ _ _ _ _ KF.type_class (KF.args_gs _ _ _) ?_)
 unfold Builtin.«getset_descriptor.__get__» descrGet
 rw [dga_obj]
 refine wpAny_bind (wpAny_pure ?_)
 unfold descrGetter descrCheckInstance descrNameAndClass isInstance
 simp only [KF.owner_class]
 repeat lk
 refine ⟨Code.quiet_builtin _ (by decide +kernel),codeAny_builtin KF.entry_class ?_⟩
 unfold Builtin.«object.__class__» shownTypeOf
 repeat lk
 exact hq
theorem jbZ {tk:Tok} {Q:Fin→Shared→Prop} (Z:XCls K C) (X:K.In h) (hx:h.get? a=some o) (hc:o.cls=.ref C) (hq:Q (.done (.ret (.ref C))) ⟨h,g,d,t,os⟩) :
  wpAny (model prog w) A (Builtin.«object.__getattribute__» ⟨[.ref a,.str "__class__" tk],[]⟩) Q E ⟨h,g,d,t,os⟩:=by
 have hT5:(⟨h,g,d,t,os⟩:Shared).TypeIs (.builtin "object.__class__") "getset_descriptor":=KF.type_class
 have f5:=KF.type_class
 have f6:=F.slot_gs_get.lookup
 have f7:=F.slot_gs_set.lookup
 have L:=looks_findIn (M:=model prog w) X Z.cc
 repeat (any_goals (first | assumption | (with_reducible refine wpAny_loadPart_at hx ?_;rw [hc]) | with_reducible refine L.at ?_ | wp_step))
 refine je3 Z X hx hc ?_
 repeat (any_goals (first | assumption | wp_step))
theorem jb0 {M:Model} {nameV:Value} {Q:Unit→Shared→Prop} (Z:XCls K C) (X:K.In h) (hx:h.get? a=some o) (hc:o.cls=.ref C) (hq:Q () ⟨h,g,d,t,os⟩):wpAny M A (checkBuiltinCall "BaseException.__getattribute__" ⟨[.ref a,nameV],[]⟩) Q E ⟨h,g,d,t,os⟩:=by
 have hk:builtinKind "BaseException.__getattribute__" = some .slot:=by decide +kernel
 have hsplit:splitId "BaseException.__getattribute__" = some ("BaseException","__getattribute__"):=by decide +kernel
 have L:=looks_mroIn (M:=M) X Z.be
 have ha:=F.args_bexc_ga (.ref a) nameV
 simp only [checkBuiltinCall,hk,hsplit]
 refine wpAny_bind ?_
 ·unfold isInstance
  repeat (first | (with_reducible refine wpAny_loadPart_at hx ?_;rw [hc]) | with_reducible refine L.at ?_ | wp_step)
  exact hq
theorem jdC {tk:Tok} {R:Result→Shared→Prop} (Z:XCls K C) (X:K.In h) (hx:h.get? a=some o) (hc:o.cls=.ref C) (hq:R (.ok (.ret (.ref C))) ⟨h,g,d,t,os⟩) :
  codeAny (model prog w) A (.call (.builtin "BaseException.__getattribute__") ⟨[.ref a,.str "__class__" tk],[]⟩) R ⟨h,g,d,t,os⟩:=
 codeAny_call_builtin PySem.F.attr_ValueError.ga.plain F.entry_bexc_ga (jb0 Z X hx hc (jbZ Z X hx hc hq))
theorem jfO {tk:Tok} {fill expr:Bool} {Q:Value→Shared→Prop} (Z:XCls K C) (X:K.In h) (hx:h.get? a=some o) (hc:o.cls=.ref C) (hq:Q (.ref C) ⟨h,g,d,t,os⟩) :
  wpAny (model prog w) A (getAttrBy (.ref a) (.str "__class__" tk) fill expr) Q E ⟨h,g,d,t,os⟩:=by
 have f3:=PySem.F.attr_ValueError.ga.bind (.ref a)
 have hx0:(expr && onTheHeap (Value.builtin "BaseException.__getattribute__"))=false:=by cases expr <;> rfl
 have hx2:(Value.builtin "BaseException.__getattribute__" == Value.builtin "object.__getattribute__")=false:=by decide +kernel
 have hx1:(onTheHeap (Value.ref C) && Value.builtin "BaseException.__getattribute__" == Value.builtin "object.__getattribute__")=false:=by rw [hx2];rfl
 have L1:=looks_findIn (M:=model prog w) X Z.ga
 have L2:=looks_findIn (M:=model prog w) X Z.gt
 repeat (any_goals (first | assumption | (with_reducible refine wpAny_loadPart_at hx ?_;rw [hc]) | with_reducible refine L1.at ?_ | with_reducible refine L2.at ?_ | wp_step))
 refine jdC Z X hx hc ?_
 repeat (any_goals (first | assumption | wp_step))
theorem jdD {s:Shared} {Q:Option Value→Shared→Prop} (Z:XCls K C) (X:K.In s.heap) (hx:s.heap.get? a=some o) (hc:o.cls=.ref C) (hq:Q (some (.ref C)) { s with toks:=s.toks+1 }) :
  wpAny (model prog w) A (getAttr? (.ref a) "__class__") Q E s:=by
 obtain ⟨hh,g,d,t,os⟩:=s
 unfold getAttr? getAttrBy?
 refine wpAny_bind (wpAny_mkText (wpAny_bind (wpAny_attempt (jfO Z X hx hc ?_))))
 exact wpAny_pure hq
theorem kitx_exc (Z:XCls K C):KitX K (.ref a) (.ref C) (fun h=>∃ o,h.get? a=some o∧o.cls=.ref C) where
 ty:=fun _ _ _ ⟨o,hx,hc⟩=>jeE hx hc
 it:=fun _ _ X _=>by
  have hcD:=Z.cl
  unfold clsIn at hcD
  split at hcD
  ·rename_i c' d' cd' sl' ho
   intro A' Q' E' s' k q
   unfold isType loadHead
   exact wpAny_bind (wpAny_loadPart (k _ _ (X _ _ ho)) (wpAny_pure q))
  ·cases hcD
 ne:=fun h tp dd its n sl X htp=>by
  have hcD:=Z.cl
  refine Bool.eq_false_iff.mpr fun q=>?_
  have e:C=tp:=Value.ref.inj (beq_iff_eq.mp q)
  subst e
  unfold clsIn at hcD
  split at hcD
  ·rename_i c' d' cd' sl' ho
   have z:=(X _ _ ho).symm.trans htp
   cases z
  ·cases hcD
 ca:=fun X ⟨o,hx,hc⟩ k=>jdD Z X hx hc k
end
end PySem.W
namespace L2
open PySem PySem.Spec PyProof.Rows
theorem jbY {X:Cx} {pins:List (Addr×Obj)} {σ:St} {H:Hp} {s:Shared} {A:Around} {E:Value→Shared→Prop} {Q:Value→Shared→Prop} {c:Value} {b:Bool} {a C:Addr} (I:Inv X pins σ H s) (ha:H a=some (JM (.ref C) a)) (Z:PySem.W.XCls X.K C) (e:W.kitOne X.K (.ref C) c=some b) (h:∀ tk,Q (.bool b) { s with toks:=tk }) :
  wpAny (model X.prog X.w) A (call (.builtin "isinstance") [.ref a,c]) Q E s:=by
 obtain ⟨⟨oe,vs,t1,t2,t3⟩,_⟩:=(show ObjOk X.prog X.w H s.heap a (JM (.ref C) a) from I.hok a _ ha)
 exact W.kia_one (W.kitx_exc Z) I.kIn ⟨oe,t1,t2⟩ e (fun z=>nomatch z) h
abbrev TJ:=St→Hp→Str→(Str→Hp→Prop)→Prop
structure QJ (X:Cx) (es:List Expr) (t:TJ):Prop where
 h:∀ (pins:List (Addr×Obj)) (s:Shared) (σ:St) (H:Hp) (out:Str) (Q:Str→Hp→Prop),Inv X pins σ H s→t σ H out Q→Joins (model X.prog X.w) X.A X.xe (evalEach es X.env) out (fun o s'=>∃ H',Inv X pins σ H' s'∧Q o H') s
def jge:TJ:=fun _ H out Q=>Q out H
def KD (te:TE) (t:TJ):TJ:=fun σ H out Q=>te σ H fun x H1=>∃ y,x=.str y∧(out++y).length≤sizeLine∧t σ H1 (out++y) Q
section
variable {X:Cx}
theorem zv:QJ X [] jge:=⟨fun pins s σ H out Q I h=>Joins_nil ⟨H,I,h⟩⟩
theorem jZ {e:Expr} {es:List Expr} {te:TE} {t:TJ} (he:QE X e te) (ht:QJ X es t):QJ X (e :: es) (KD te t):=⟨fun pins s σ H out Q I h=>by
 refine Joins_cons (thn (he.h pins s σ H _ I h) fun v s1 ⟨x,H1,I1,r,y,e1,hl,q⟩=>?_)
 subst e1
 obtain ⟨tk,rfl⟩:=r
 exact ⟨y,tk,rfl,hl,ht.h pins s1 σ H1 _ Q I1 q⟩⟩
def jdG (te:TE):TE:=fun σ H Q=>te σ H fun x H1=>∃ y,x=.str y∧y.length≤sizeLine∧Q (.str y) H1
theorem kT {e:Expr} {te:TE} {pos:Pos} (he:QE X e te):QE X (.FormattedValue e (-1) none pos) (jdG te):=⟨fun pins s σ H Q I h=>by
 refine wpAny_FormattedValue_plain (thn (he.h pins s σ H _ I h) fun v s1 ⟨x,H1,I1,r,y,e1,hl,q⟩=>?_)
 subst e1
 obtain ⟨tk,rfl⟩:=r
 exact wpAny_formatField_str ⟨.str y,H1,I1,⟨_,rfl⟩,q⟩ ⟨.str y,H1,I1.tok _,⟨_,rfl⟩,q⟩ hl⟩
def jeI (t:TJ):TE:=fun σ H Q=>t σ H Str.empty fun o H1=>o.length≤sizeLine∧Q (.str o) H1
theorem qo {v1 v2:Expr} {qQ:List Expr} {t:TJ} {pos:Pos} (h:QJ X (v1 :: v2 :: qQ) t):QE X (.JoinedStr (v1 :: v2 :: qQ) pos) (jeI t):=⟨fun pins s σ H Q I hw=>by
 refine wpAny_JoinedStr ?_
 have hh:=h.h pins s σ H Str.empty _ I hw
 have mono:∀ (l:List Expr) (acc:Str) (s:Shared) (Q Q':Str→Shared→Prop),(∀ o s,Q o s→Q' o s)→Joins (model X.prog X.w) X.A X.xe (evalEach l X.env) acc Q s→Joins (model X.prog X.w) X.A X.xe (evalEach l X.env) acc Q' s:=by
  intro l
  induction l with
  | nil=>intro acc s Q Q' hq h;exact hq _ _ h
  | cons e r ih=>
   intro acc s Q Q' hq h
   refine Joins_cons (thn (show wpAny _ _ (eval e X.env) _ _ _ from h) fun v s1 ⟨y,tk,e1,hl,q⟩=>⟨y,tk,e1,hl,ih _ _ _ _ hq q⟩)
 refine mono _ _ _ _ _ (fun o s' ⟨H',I',hl,q⟩=>⟨hl,.str o,H',I'.tok _,⟨_,rfl⟩,q⟩) hh⟩
end
theorem XW.own {X:Cx} {E:XK} (W:XW X E):PassesOwn (model X.prog X.w) X.A X.env X.xe:=by
 rw [W.xe]
 exact PassesOwn.leaving
theorem yK {X:Cx} {k k':Nat} {x:Str} {ps:List Str} {sp:Sp} {E:XK} {e:Expr} {es:List Expr} {t:TA} {p pos:Pos} (F:FnX X.prog X.w X.K X.mg X.base k x ps sp) (W:XW X E) (hr:Room k' X.A) (ha:QA X (e :: es) t) (hk:k≤k':=by first | decide | omega) (hg:Gl X x:=by rfl)
  (hd:(x == ("__debug__" : Str))=false:=by decide) (hp:(e :: es).all qk=true:=by rfl):QE X (.Call (.Name x p) (e :: es) [] pos) (Kl sp [] E t):=⟨jfp F W hr ha.h hk hg hd hp⟩
theorem kW {X:Cx} {E:XK} {C:Addr} {x:Str} {np cpos pos:Pos} {e:Expr} {es:List Expr} {t:TA} (W:XW X E) (hc:X.calm=true) (hg:Gl X x) (hm:X.mg x=some (.ref C)) (hx:PySem.W.excIn X.K C valB "ValueError.__new__" = true) (ha:QA X (e :: es) t) (hd:(x == ("__debug__" : Str))=false:=by decide) (hp:(e :: es).all qk=true:=by rfl) :
  QS X (.Raise (some (.Call (.Name x np) (e :: es) [] cpos)) none pos) (ZZ C E t):=⟨jcm W hc hg hm hx ha.h hd hp⟩
theorem Y4 {X:Cx}:q4 X (.builtin "isinstance") (fun xs H Q=>∃ a C D b,xs=[.ref a,.ref D]∧H a=some (JM (.ref C) a)∧PySem.W.XCls X.K C∧W.kitOne X.K (.ref C) (.ref D)=some b∧Q (.bl b) H):=by
 intro pins s σ H xs us Q I r h
 obtain ⟨a,C,D,b,rfl,ha,Z,e,q⟩:=h
 obtain ⟨u,v,rfl,ru,rv⟩:=jax r
 cases ru
 cases rv
 exact jbY I ha Z e fun tk=>⟨.bl b,H,I.tok _,rfl,q⟩
theorem jV {X:Cx} {k k':Nat} {x:Str} {ps:List Str} {sp:Sp} {e:Expr} {es:List Expr} {t:TA} {p pos:Pos} (h1:Fn (Cx.prog X) (Cx.w X) (Cx.K X) (Cx.mg X) (Cx.base X) k x ps sp) (h2:Room k' (Cx.A X)) (h3:QA X (e :: es) t) (h4:k≤k':=by omega) (h5:Gl X x:=by rfl) (h6:(x == Str.ofString "__debug__")=false:=by decide) (h7:List.all (e :: es) qk=true:=by rfl):QE X (Expr.Call (Expr.Name x p) (e :: es) [] pos) (Kl sp [] E0 t):=
 ⟨@jeQ _ _ _ _ _ _ _ _ _ _ _ h1 h2 h3.h h4 h5 h6 h7⟩
open PySem PySem.Spec PyProof.Rows PySem.W
abbrev y0 (P:Program) (w:World) (v:Addr) (σ:List Str):HO:=.ext fun h=>SetAtS P w h v (ledOf w) σ
theorem yk {X:Cx} {P:Program} {w:World} {K:W.Frag} (hc:X.calm=true) (h1:X.prog=P:=by rfl) (h2:X.w=w:=by rfl) (h3:X.K=K:=by rfl):q4 X (.type "set") (fun xs H Q=>∃ (p:Addr) (ns:List Str),xs=[.ref p]∧SqT K H p (ns.map V.str)∧ns.length≤1000∧∀ v,H v=none→Q (.ref v) (upd H v (y0 P w v (dedupS ns)))):=by subst h1 h2 h3;exact KQ hc
theorem zd {X:Cx} {K:W.Frag} (h:X.K=K:=by rfl):OpR X (compareOp .NotIn) (rIn K true):=by subst h;exact YU
theorem zy {X:Cx} {K:W.Frag} (h:X.K=K:=by rfl):OpR X (compareOp .In) (rIn K false):=by subst h;exact jbl
theorem kz (x:Str):∀ ys:List Str,inV (.str x) (ys.map V.str)=decide (x∈ys)
 | []=>by simp [inV]
 | y :: ys=>by
  have ih:=kz x ys
  unfold inV at ih ⊢
  rw [List.map_cons,List.any_cons,ih]
  have e:eqV (.str y) (.str x)=decide (x=y):=by
   show (y == x)=_
   by_cases h:x=y
   ·subst h;simp
   ·rw [decide_eq_false h];simpa using fun z=>h z.symm
  rw [e]
  simp [List.mem_cons]
theorem qO:∀ ys:List Str,(ys.map V.str).all Js=true
 | []=>rfl
 | y :: ys=>by rw [List.map_cons,List.all_cons,qO ys];rfl
theorem lt_trans {a b c:List Nat} (h1:ltCps a b=true) (h2:ltCps b c=true):ltCps a c=true:=by
 induction a generalizing b c with
 | nil=>cases c with
  | nil=>cases b <;> simp [ltCps] at h1 h2
  | cons _ _=>rfl
 | cons x a ih=>
  cases b with
  | nil=>simp [ltCps] at h1
  | cons y b=>cases c with
   | nil=>simp [ltCps] at h2
   | cons z c=>
    simp only [ltCps,Bool.or_eq_true,Bool.and_eq_true,decide_eq_true_eq,beq_iff_eq] at h1 h2 ⊢
    rcases h1 with h1 | ⟨h1,h1'⟩
    ·rcases h2 with h2 | ⟨h2,h2'⟩
     ·left;omega
     ·left;omega
    ·rcases h2 with h2 | ⟨h2,h2'⟩
     ·left;omega
     ·right;exact ⟨by omega,ih h1' h2'⟩
end L2
namespace LW
open PySem L2
structure Pc where
 f:Str
 ps:List Str
 rs:List Str
 nd:List Cl
 gv:List Cl
 lv:Nat
 bd:List (StN lv)
def Pc.toD (p:Pc):D:=.tup [.str "proc",.str p.f,.tup (p.ps.map D.str),.tup (p.rs.map D.str),.tup (p.nd.map Cl.toD),.tup (p.gv.map Cl.toD),.tup (p.bd.map (stD p.lv))]
theorem y7 {H:Hp} {p:Pc} {v:V} (h:Held H p.toD v):∃ a ap ar an ag ab vn vg vb,v=.ref a∧H a=some (.tup [.str "proc",.str p.f,.ref ap,.ref ar,.ref an,.ref ag,.ref ab])∧H ap=some (.tup (p.ps.map V.str))∧H ar=some (.tup (p.rs.map V.str))∧H an=some (.tup vn)∧HeldL H (p.nd.map Cl.toD) vn∧H ag=some (.tup vg)∧HeldL H (p.gv.map Cl.toD) vg∧H ab=some (.tup vb)∧HeldL H (p.bd.map (stD p.lv)) vb:=by
 obtain ⟨a,xs,rfl,ha,h1⟩:=jC h
 obtain ⟨v1,r1,rfl,e1,h2⟩:=jk h1
 obtain ⟨v2,r2,rfl,e2,h3⟩:=jk h2
 obtain ⟨v3,r3,rfl,e3,h4⟩:=jk h3
 obtain ⟨v4,r4,rfl,e4,h5⟩:=jk h4
 obtain ⟨v5,r5,rfl,e5,h6⟩:=jk h5
 obtain ⟨v6,r6,rfl,e6,h7⟩:=jk h6
 obtain ⟨v7,r7,rfl,e7,h8⟩:=jk h7
 cases jK h8
 cases jN e1
 cases jN e2
 obtain ⟨ap,xp,rfl,hp,hp'⟩:=jC e3
 obtain ⟨ar,xr,rfl,hr,hr'⟩:=jC e4
 obtain ⟨an,vn,rfl,hn,hn'⟩:=jC e5
 obtain ⟨ag,vg,rfl,hg,hg'⟩:=jC e6
 obtain ⟨ab,vb,rfl,hb,hb'⟩:=jC e7
 cases qu hp'
 cases qu hr'
 exact ⟨a,ap,ar,an,ag,ab,vn,vg,vb,rfl,ha,hp,hr,hn,hn',hg,hg',hb,hb'⟩
theorem jae:∀ {l m:List Str},l.Nodup→(∀ x∈l,x∈m)→l.length≤m.length
 | [],_,_,_=>Nat.zero_le _
 | x :: l,m,nd,h=>by
  obtain ⟨n1,n2⟩:=List.nodup_cons.mp nd
  have hx:=h x List.mem_cons_self
  have:=jae (m:=m.erase x) n2 fun y hy=>(List.mem_erase_of_ne (show y≠x from fun z=>n1 (by rw [← z];exact hy))).mpr (h y (List.mem_cons_of_mem _ hy))
  rw [List.length_erase_of_mem hx] at this
  have:0 < m.length:=List.length_pos_of_mem hx
  rw [List.length_cons]
  omega
end LW
namespace L2
open PySem
theorem jaY {t1 t2 t3 u:TS} {D:Ends} {σ:St} {H:Hp} (h:let r3:=u;let r2:=jI t3 r3;let r1:=jI t2 r2;jI t1 r1 D σ H):(jI t1 (jI t2 (jI t3 u))) D σ H:=h
theorem jeZ {t1 t2 t3 t4 u:TS} {D:Ends} {σ:St} {H:Hp} (h:let r4:=u;let r3:=jI t4 r4;let r2:=jI t3 r3;let r1:=jI t2 r2;jI t1 r1 D σ H):(jI t1 (jI t2 (jI t3 (jI t4 u)))) D σ H:=h
theorem jgi {t1 t2 t3 t4 t5 u:TS} {D:Ends} {σ:St} {H:Hp} (h:let r5:=u;let r4:=jI t5 r5;let r3:=jI t4 r4;let r2:=jI t3 r3;let r1:=jI t2 r2;jI t1 r1 D σ H):(jI t1 (jI t2 (jI t3 (jI t4 (jI t5 u))))) D σ H:=h
theorem jeY {t1 t2 t3 t4 t5 t6 u:TS} {D:Ends} {σ:St} {H:Hp} (h:let r6:=u;let r5:=jI t6 r6;let r4:=jI t5 r5;let r3:=jI t4 r4;let r2:=jI t3 r3;let r1:=jI t2 r2;jI t1 r1 D σ H):(jI t1 (jI t2 (jI t3 (jI t4 (jI t5 (jI t6 u)))))) D σ H:=h
theorem jgh {t1 t2 t3 t4 t5 t6 t7 u:TS} {D:Ends} {σ:St} {H:Hp} (h:let r7:=u;let r6:=jI t7 r7;let r5:=jI t6 r6;let r4:=jI t5 r5;let r3:=jI t4 r4;let r2:=jI t3 r3;let r1:=jI t2 r2;jI t1 r1 D σ H):(jI t1 (jI t2 (jI t3 (jI t4 (jI t5 (jI t6 (jI t7 u))))))) D σ H:=h
theorem jgg {t1 t2 t3 t4 t5 t6 t7 t8 u:TS} {D:Ends} {σ:St} {H:Hp} (h:let r8:=u;let r7:=jI t8 r8;let r6:=jI t7 r7;let r5:=jI t6 r6;let r4:=jI t5 r5;let r3:=jI t4 r4;let r2:=jI t3 r3;let r1:=jI t2 r2;jI t1 r1 D σ H):(jI t1 (jI t2 (jI t3 (jI t4 (jI t5 (jI t6 (jI t7 (jI t8 u)))))))) D σ H:=h
theorem jc3 {t1 t2 t3 t4 t5 t6 t7 t8 t9 t10 t11 u:TS} {D:Ends} {σ:St} {H:Hp} (h:let r11:=u;let r10:=jI t11 r11;let r9:=jI t10 r10;let r8:=jI t9 r9;let r7:=jI t8 r8;let r6:=jI t7 r7;let r5:=jI t6 r6;let r4:=jI t5 r5;let r3:=jI t4 r4;let r2:=jI t3 r3;let r1:=jI t2 r2;jI t1 r1 D σ H):(jI t1 (jI t2 (jI t3 (jI t4 (jI t5 (jI t6 (jI t7 (jI t8 (jI t9 (jI t10 (jI t11 u))))))))))) D σ H:=h
theorem jfD {t1 t2 t3 t4 t5 t6 t7 t8 t9 t10 t11 t12 t13 u:TS} {D:Ends} {σ:St} {H:Hp} (h:let r13:=u;let r12:=jI t13 r13;let r11:=jI t12 r12;let r10:=jI t11 r11;let r9:=jI t10 r10;let r8:=jI t9 r9;let r7:=jI t8 r8;let r6:=jI t7 r7;let r5:=jI t6 r6;let r4:=jI t5 r5;let r3:=jI t4 r4;let r2:=jI t3 r3;let r1:=jI t2 r2;jI t1 r1 D σ H):(jI t1 (jI t2 (jI t3 (jI t4 (jI t5 (jI t6 (jI t7 (jI t8 (jI t9 (jI t10 (jI t11 (jI t12 (jI t13 u))))))))))))) D σ H:=h
theorem jfC {t1 t2 t3 t4 t5 t6 t7 t8 t9 t10 t11 t12 t13 t14 u:TS} {D:Ends} {σ:St} {H:Hp} (h:let r14:=u;let r13:=jI t14 r14;let r12:=jI t13 r13;let r11:=jI t12 r12;let r10:=jI t11 r11;let r9:=jI t10 r10;let r8:=jI t9 r9;let r7:=jI t8 r8;let r6:=jI t7 r7;let r5:=jI t6 r6;let r4:=jI t5 r5;let r3:=jI t4 r4;let r2:=jI t3 r3;let r1:=jI t2 r2;jI t1 r1 D σ H):(jI t1 (jI t2 (jI t3 (jI t4 (jI t5 (jI t6 (jI t7 (jI t8 (jI t9 (jI t10 (jI t11 (jI t12 (jI t13 (jI t14 u)))))))))))))) D σ H:=h
end L2
namespace LW
open PySem L2
abbrev zZ:Stmt:=top 24
abbrev zG:Stmt:=top 22
abbrev zE:Stmt:=top 19
def Tm.rws:Tm→List Str
 | .is _=>[]
 | .at_ r _ _=>[r]
def Bd.rws:Bd→List Str
 | .is _=>[]
 | .row r=>[r]
def Cl.rws:Cl→List Str
 | .least a b _=>a.rws++b.rws
 | .each _ _ _ _ r _ b _=>r :: b.rws
 | .rise _ _ _ _ r=>[r]
def Sm.rws:Sm→List Str
 | .set _ t _=>t.rws
 | .put r _ _ t _=>[r]++t.rws
 | .any _=>[]
 | .claim C=>C.rws
 | .call _ _ _ rs=>rs
def Nd.rws:Nd→List Str
 | .leaf S=>S.rws
 | .ite a b c _ _=>(Cl.least a b c).rws
 | .whl a b c ks _=>(Cl.least a b c :: ks).flatMap Cl.rws
theorem Tm.rws_len (t:Tm):t.rws.length≤1:=by cases t <;> exact Nat.le_of_ble_eq_true rfl
theorem Cl.rws_len:∀ C:Cl,C.rws.length≤2
 | .least a b _=>by
  have:=a.rws_len
  have:=b.rws_len
  show (a.rws++b.rws).length≤2
  rw [List.length_append];omega
 | .each _ _ _ _ _ _ b _=>by cases b <;> exact Nat.le_of_ble_eq_true rfl
 | .rise _ _ _ _ _=>Nat.le_of_ble_eq_true rfl
def YL:Sp:=fun vs H Q _=>∃ (v:V) (t:Tm),vs=[v]∧Held H t.toD v∧jad H Q t.rws
def Kp:Sp:=fun vs H Q _=>∃ (v:V) (C:Cl),vs=[v]∧Held H C.toD v∧jad H Q C.rws
def Zi:Sp:=fun vs H Q _=>∃ (v:V) (N:Nd),vs=[v]∧Held H N.toD v∧N.few∧jad H Q N.rws
section
variable {P:Program} {w:World} {K:W.Frag} {mg:Str→Option Value} {base:Heap}
theorem jcE {f:Addr} {fd:FuncData} (F:Fun K "term_rows" "term_rows" zZ f fd):FnOk P w K mg base CX0 1 f fd ["term"] YL:=by
 have sc:FnScope ["term"] ["term"] (jw zZ):=fQ
 refine F.okZ sc (fun vs H Q E h=>?_) (fun cdv A outer s H vs Q E hr h=>?_)
 ·obtain ⟨v,t,rfl,_⟩:=h
  rfl
 obtain ⟨v,t,rfl,ht,q⟩:=h
 refine ⟨_,(je (jT (jv kq (jz jS (zpv 0) ji (fun _ _=>rfl)) jq (jP _)) (jn (jB (jM jd))) jA)
   (jn (jB (jM (jb (jz jS (zpv 0) ji (fun _ _=>rfl)) jd))))),?_⟩
 cases t with
 | is x=>
  obtain ⟨a,rfl,ha⟩:=zf ht
  refine ⟨_,rfl,a,_,_,_,rfl,rfl,SqT.of ha,rfl,rfl,_,rfl,jU (fun _=>?_) (fun d=>absurd (decide_eq_true rfl) d)⟩
  exact ⟨sm rfl,fun l hl=>q l _ (jG hl _) hl jg⟩
 | at_ r x d=>
  obtain ⟨a,b,rfl,ha,hb⟩:=jdu ht
  refine ⟨_,rfl,a,_,_,_,rfl,rfl,SqT.of ha,rfl,rfl,_,rfl,jU (fun d=>absurd (of_decide_eq_true d) (by decide)) (fun _=>?_)⟩
  exact ⟨_,rfl,a,_,_,_,rfl,rfl,SqT.of ha,rfl,sm rfl,fun l hl=>q l _ (jG hl _) hl jg⟩
theorem jbs {f:Addr} {fd:FuncData} (F:Fun K "claim_rows" "claim_rows" zG f fd) (F_term_rows:Fn P w K mg base 1 "term_rows" ["term"] YL):FnOk P w K mg base CX0 2 f fd ["claim"] Kp:=by
 have sc:FnScope ["claim"] ["claim"] (jw zG):=fQ
 refine F.okZ sc (fun vs H Q E h=>?_) (fun cdv A outer s H vs Q E hr h=>?_)
 ·obtain ⟨v,C,rfl,_⟩:=h
  rfl
 obtain ⟨v,C,rfl,hC,q⟩:=h
 refine ⟨_,(je (jT (jv kq (jz jS (zpv 0) ji (fun _ _=>rfl)) jq (jP _)) (jn (jB (jD kB (jH F_term_rows hr (jb (jz jS (zpv 0) ji (fun _ _=>rfl)) jd)) (jH F_term_rows hr (jb (jz jS (zpv 0) ji (fun _ _=>rfl)) jd))))) jA)
   (je (jT (qE (jv kq (jz jS (zpv 0) ji (fun _ _=>rfl)) jq (jP _)) (qg (jv kq (jz jS (jz jS (zpv 0) ji (fun _ _=>rfl)) ji (fun _ _=>rfl)) jq (jP _)))).pt (jn (jB (jM (jb (jz jS (zpv 0) ji (fun _ _=>rfl)) (jb (jz jS (jz jS (zpv 0) ji (fun _ _=>rfl)) ji (fun _ _=>rfl)) jd))))) jA)
   (jn (jB (jM (jb (jz jS (zpv 0) ji (fun _ _=>rfl)) jd)))))),?_⟩
 cases C with
 | least a b c=>
  obtain ⟨t,va,vb,rfl,ht,ha,hb⟩:=Yo hC
  refine ⟨_,rfl,t,_,_,_,rfl,rfl,SqT.of ht,rfl,rfl,_,rfl,jU (fun _=>?_) (fun d=>absurd (decide_eq_true rfl) d)⟩
  refine ⟨_,rfl,t,_,_,_,rfl,rfl,SqT.of ht,rfl,va,a,rfl,ha,fun l1 H1 s1 n1 e1=>?_⟩
  refine ⟨_,rfl,t,_,_,_,rfl,rfl,SqT.of (s1 _ _ ht),rfl,vb,b,rfl,hb.mono s1,fun l2 H2 s2 n2 e2=>?_⟩
  have la:=a.rws_len
  have lb:=b.rws_len
  refine ⟨l1,l2,_,_,rfl,rfl,s2 _ _ e1,e2,kc (by rw [List.length_map,List.length_map];omega),fun l3 hl3=>?_⟩
  refine q l3 _ (s1.trans (s2.trans (jG hl3 _))) (s1.free (s2.free hl3)) ?_
  rw [jg,← List.map_append]
  rfl
 | rise x d y e r=>
  obtain ⟨t,a,b,rfl,ht,ha,hb⟩:=Zq hC
  refine ⟨_,rfl,t,_,_,_,rfl,rfl,SqT.of ht,rfl,rfl,_,rfl,jU (fun d=>absurd (of_decide_eq_true d) (by decide)) (fun _=>?_)⟩
  refine ⟨_,rfl,t,_,_,_,rfl,rfl,SqT.of ht,rfl,rfl,_,rfl,jU (fun d=>absurd (of_decide_eq_true d) (by decide)) (fun _=>Ja ?_)⟩
  exact ⟨_,rfl,t,_,_,_,rfl,rfl,SqT.of ht,rfl,sm rfl,fun l hl=>q l _ (jG hl _) hl jg⟩
 | each x d y e r way bd c=>
  obtain ⟨t,a,b,vb,rfl,ht,ha,hb,hvb⟩:=ZJ hC
  refine ⟨_,rfl,t,_,_,_,rfl,rfl,SqT.of ht,rfl,rfl,_,rfl,jU (fun d=>absurd (of_decide_eq_true d) (by decide)) (fun _=>?_)⟩
  refine ⟨_,rfl,t,_,_,_,rfl,rfl,SqT.of ht,rfl,rfl,_,rfl,jU (fun _=>?_) (fun d=>absurd (decide_eq_true rfl) d)⟩
  cases bd with
  | row z=>
   refine ⟨_,rfl,t,_,_,_,rfl,rfl,SqT.of ht,rfl,vb,_,_,_,rfl,rfl,SqT.of hvb,rfl,rfl,_,rfl,jU (fun _=>?_) (fun d=>absurd (decide_eq_true rfl) d)⟩
   exact ⟨_,rfl,t,_,_,_,rfl,rfl,SqT.of ht,rfl,_,rfl,t,_,_,_,rfl,rfl,SqT.of ht,rfl,vb,_,_,_,rfl,rfl,SqT.of hvb,rfl,sm rfl,fun l hl=>q l _ (jG hl _) hl jg⟩
  | is z=>
   refine ⟨_,rfl,t,_,_,_,rfl,rfl,SqT.of ht,rfl,vb,_,_,_,rfl,rfl,SqT.of hvb,rfl,rfl,_,rfl,jU (fun d=>absurd (of_decide_eq_true d) (by decide)) (fun _=>?_)⟩
   exact ⟨_,rfl,t,_,_,_,rfl,rfl,SqT.of ht,rfl,sm rfl,fun l hl=>q l _ (jG hl _) hl jg⟩
end
abbrev zH:Stmt:=top 14
theorem jdi:∀ N:Nd,N.few→N.cls.length≤21
 | .leaf (.claim C),_=>Nat.le_of_ble_eq_true rfl
 | .leaf (.set _ _ _),_=>Nat.zero_le _
 | .leaf (.put _ _ _ _ _),_=>Nat.zero_le _
 | .leaf (.any _),_=>Nat.zero_le _
 | .leaf (.call _ _ _ _),_=>Nat.zero_le _
 | .ite _ _ _ _ _,_=>Nat.le_of_ble_eq_true rfl
 | .whl _ _ _ ks _,h=>by
  have h:ks.length≤20:=h
  show (_ :: ks).length≤21
  rw [List.length_cons];omega
theorem jex:∀ N:Nd,N.asks→N.cls.flatMap Cl.rws=N.rws
 | .leaf (.claim C),_=>by show [C].flatMap Cl.rws=C.rws;simp
 | .ite a b c _ _,_=>by show [Cl.least a b c].flatMap Cl.rws=(Cl.least a b c).rws;simp
 | .whl _ _ _ ks _,_=>rfl
theorem jdK (Cs:List Cl):(Cs.flatMap Cl.rws).length≤2 * Cs.length:=by
 induction Cs with
 | nil=>exact Nat.zero_le _
 | cons c r ih=>rw [List.flatMap_cons,List.length_append,List.length_cons];have:=c.rws_len;omega
theorem jej:∀ N:Nd,N.asks∨∃ S,N=.leaf S∧∀ C,S≠.claim C
 | .leaf (.claim _)=>.inl trivial
 | .leaf (.set _ _ _)=>.inr ⟨_,rfl,fun _ z=>by cases z⟩
 | .leaf (.put _ _ _ _ _)=>.inr ⟨_,rfl,fun _ z=>by cases z⟩
 | .leaf (.any _)=>.inr ⟨_,rfl,fun _ z=>by cases z⟩
 | .leaf (.call _ _ _ _)=>.inr ⟨_,rfl,fun _ z=>by cases z⟩
 | .ite _ _ _ _ _=>.inl trivial
 | .whl _ _ _ _ _=>.inl trivial
theorem jbR {H:Hp} {N:Nd} {v:V} (h:Held H N.toD v) (ha:N.asks):∃ a k r,v=.ref a∧H a=some (.tup (.str k :: r))∧k≠"set"∧k≠"put"∧k≠"any"∧k≠"call":=by
 cases N with
 | leaf S=>
  cases S with
  | claim C=>obtain ⟨a,u,rfl,ha,_⟩:=zW (C:=C) h;exact ⟨a,_,_,rfl,ha,by decide,by decide,by decide,by decide⟩
  | _=>exact ha.elim
 | ite a b c x y=>obtain ⟨t,u,p,q,xs,ys,rfl,ht,_⟩:=Jq h;exact ⟨t,_,_,rfl,ht,by decide,by decide,by decide,by decide⟩
 | whl a b c ks x=>obtain ⟨t,u,p,q,xs,ys,rfl,ht,_⟩:=Jd h;exact ⟨t,_,_,rfl,ht,by decide,by decide,by decide,by decide⟩
section
variable {P:Program} {w:World} {K:W.Frag} {mg:Str→Option Value} {base:Heap}
theorem jbq {f:Addr} {fd:FuncData} (F:Fun K "rows_named" "rows_named" zE f fd) (B:Free0 mg) (F_term_rows:Fn P w K mg base 1 "term_rows" ["term"] YL) (F_own_claims:Fn P w K mg base 1 "own_claims" ["statement"] jcb) (F_claim_rows:Fn P w K mg base 2 "claim_rows" ["claim"] Kp):FnOk P w K mg base CX0 3 f fd ["statement"] Zi:=by
 have sc:FnScope ["statement","kind","told","claim"] ["statement"] (jw zE):=fQ
 refine F.okZ sc (fun vs H Q E h=>?_) (fun cdv A outer s H vs Q E hr h=>?_)
 ·obtain ⟨v,N,rfl,_⟩:=h
  rfl
 obtain ⟨v,N,rfl,hN,hf,q⟩:=h
 refine ⟨_,(je (js (i:=1) sc.nd rfl oQ (jz jS (zpv 0) ji (fun _ _=>rfl)))
   (je (jT (jv kq (zpv 1) jq (jP _)) (jn (jB (jH F_term_rows hr (jb (jz jS (zpv 0) ji (fun _ _=>rfl)) jd)))) jA)
   (je (jT (jv kq (zpv 1) jq (jP _)) (jn (jB (jD kB (jM (jb (jz jS (zpv 0) ji (fun _ _=>rfl)) jd)) (jH F_term_rows hr (jb (jz jS (zpv 0) ji (fun _ _=>rfl)) jd))))) jA)
   (je (jT (jv kq (zpv 1) jq (jP _)) (jn (jB (jM jd))) jA)
   (je (jT (jv kq (zpv 1) jq (jP _)) (jn (jB (zi yh (by rfl) B.list_ Y5 (jb (jz jS (zpv 0) ji (fun _ _=>rfl)) jd)))) jA)
   (je (js (i:=2) sc.nd rfl oQ (jM jd))
   (je (kK PassesOwn.never rfl (zk (jH F_own_claims hr (jb (zpv 0) jd))) (jy (i:=3) sc.nd rfl oQ) (jn (kE (qS PySem.F.plainAttrs_list PySem.F.slot_list_extend PySem.F.type_list_extend yP (zpv 2) (jb (jH F_claim_rows hr (jb (zpv 3) jd)) jd)))))
   (jn (jB (zpv 2)))))))))),?_⟩
 refine kb (σ':=[some v,none,none,none]) rfl ?_
 try dsimp only [q0]
 refine jgh ?_
 intro _ _ _ _ _ _ _
 rcases jej N with ask | ⟨S,rfl,nc⟩
 ·obtain ⟨a,k,r,rfl,ha,k1,k2,k3,k4⟩:=jbR hN ask
  refine ⟨_,rfl,a,_,_,V.str k,rfl,rfl,SqT.of ha,ko (j:=0) rfl,?_⟩
  refine gQ ?_
  refine ⟨_,rfl,rfl,_,rfl,jU (fun d=>absurd (of_decide_eq_true d) (fun z=>k1 (by injection z))) (fun _=>?_)⟩
  refine ⟨_,rfl,rfl,_,rfl,jU (fun d=>absurd (of_decide_eq_true d) (fun z=>k2 (by injection z))) (fun _=>?_)⟩
  refine ⟨_,rfl,rfl,_,rfl,jU (fun d=>absurd (of_decide_eq_true d) (fun z=>k3 (by injection z))) (fun _=>?_)⟩
  refine ⟨_,rfl,rfl,_,rfl,jU (fun d=>absurd (of_decide_eq_true d) (fun z=>k4 (by injection z))) (fun _=>?_)⟩
  refine ⟨sm rfl,fun l hl=>?_⟩
  have s1:=jG hl (.lst [])
  have e1:upd H l (.lst []) l=some (.lst []):=jg
  generalize upd H l (.lst [])=H1 at *
  refine gQ ?_
  refine ⟨_,rfl,_,N,rfl,hN.mono s1,ask,hf,fun t us H2 s2 ht hus=>?_⟩
  have hul:=hus.length
  rw [List.length_map] at hul
  have hcl:=jdi N hf
  refine ⟨t,rfl,⟨_,SqT.of ht⟩,?_⟩
  let Pv:Nat→St→Hp→Prop:=fun i σ G=>∃ u3,σ=[some (.ref a),some (.str k),some (.ref l),u3]∧Same H G∧Same (fun b=>if b=l then none else H2 b) G∧G l=some (.lst (((N.cls.take i).flatMap Cl.rws).map V.str))
  have drop:∀ b o,(if b=l then none else H2 b)=some o→b≠l∧H2 b=some o:=fun b o e=>by
   by_cases z:b=l
   ·rw [if_pos z] at e;cases e
   ·rw [if_neg z] at e;exact ⟨z,e⟩
  have up:∀ b o,b≠l→H2 b=some o→(if b=l then none else H2 b)=some o:=fun b o z e=>by rw [if_neg z];exact e
  have ntl:t≠l:=fun z=>by rw [z,s2 _ _ e1] at ht;cases ht
  refine zJ (xs:=us) Pv ⟨none,rfl,s1.trans s2,fun b o e=>(drop b o e).2,s2 _ _ e1⟩ ?_ ?_ ?_
  ·rintro i σ G _ ⟨u3,rfl,sG,sG2,_⟩
   exact SqT.of (sG2 _ _ (up _ _ ntl ht))
  ·rintro i x σ G hx ⟨u3,rfl,sG,sG2,hG⟩
   have hi:i < N.cls.length:=by have:=(List.getElem?_eq_some_iff.mp hx).1;omega
   obtain ⟨x',hx',hxH⟩:=hus.get (show (N.cls.map Cl.toD)[i]?=some N.cls[i].toD by rw [List.getElem?_map,List.getElem?_eq_getElem hi];rfl)
   rw [hx] at hx'
   cases hx'
   have hfl:=jdK (N.cls.take i)
   rw [List.length_take] at hfl
   have tk:TK H2 G:=fun b xs e=>sG2 _ _ (up _ _ (fun z=>by rw [z,s2 _ _ e1] at e;cases e) e)
   refine gQ ?_
   refine ⟨_,rfl,.inl ⟨rfl,_,SqL.of hG⟩,_,rfl,x,N.cls[i],rfl,tk.held hxH,fun l2 G2 s3 n2 e2=>?_⟩
   have hn3:=N.cls[i].rws_len
   refine ⟨l,l2,_,_,rfl,rfl,s3 _ _ hG,e2,kc (by rw [List.length_map,List.length_map];omega),?_⟩
   refine ⟨_,rfl,fun b o e=>?_,fun b o e=>?_,?_⟩
   ·rw [jx (ju e hl)];exact s3 _ _ (sG _ _ e)
   ·rw [jx (drop b o e).1];exact s3 _ _ (sG2 _ _ e)
   ·rw [jg,List.take_succ,List.getElem?_eq_getElem hi,List.flatMap_append,List.map_append]
    simp
  ·rintro σ G ⟨u3,rfl,sG,sG2,hG⟩
   rw [← hul,List.take_length,jex N ask] at hG
   exact ⟨_,rfl,q l G sG hl hG⟩
 ·have hS:Held H S.toD v:=hN
  cases S with
  | claim C=>exact absurd rfl (nc C)
  | set x t c=>
   obtain ⟨a,u,rfl,ha,hu⟩:=J4 hS
   refine ⟨_,rfl,a,_,_,_,rfl,rfl,SqT.of ha,rfl,?_⟩
   refine gQ ?_
   refine ⟨_,rfl,rfl,_,rfl,jU (fun _=>?_) (fun d=>absurd (decide_eq_true rfl) d)⟩
   exact ⟨_,rfl,a,_,_,_,rfl,rfl,SqT.of ha,rfl,u,t,rfl,hu,fun l2 H2 s2 n2 e2=>q l2 H2 s2 n2 e2⟩
  | put r x d t c=>
   obtain ⟨a,b,u,rfl,ha,hb,hu⟩:=Ka hS
   refine ⟨_,rfl,a,_,_,_,rfl,rfl,SqT.of ha,rfl,?_⟩
   refine gQ ?_
   refine ⟨_,rfl,rfl,_,rfl,jU (fun d=>absurd (of_decide_eq_true d) (by decide)) (fun _=>?_)⟩
   refine ⟨_,rfl,rfl,_,rfl,jU (fun _=>?_) (fun d=>absurd (decide_eq_true rfl) d)⟩
   refine ⟨_,rfl,a,_,_,_,rfl,rfl,SqT.of ha,rfl,sm rfl,fun l hl=>?_⟩
   have s1:=jG hl (.lst [V.str r])
   have e1:upd H l (.lst [V.str r]) l=some (.lst [V.str r]):=jg
   generalize upd H l (.lst [V.str r])=H1 at *
   refine ⟨_,rfl,a,_,_,_,rfl,rfl,SqT.of (s1 _ _ ha),rfl,u,t,rfl,hu.mono s1,fun l2 H2 s2 n2 e2=>?_⟩
   have:=t.rws_len
   refine ⟨l,l2,_,_,rfl,rfl,s2 _ _ e1,e2,kc (by rw [List.length_map];simp only [List.length_cons,List.length_nil];omega),fun l3 hl3=>?_⟩
   exact q l3 _ (s1.trans (s2.trans (jG hl3 _))) (s1.free (s2.free hl3)) jg
  | any x=>
   obtain ⟨a,rfl,ha⟩:=zf hS
   refine ⟨_,rfl,a,_,_,_,rfl,rfl,SqT.of ha,rfl,?_⟩
   refine gQ ?_
   refine ⟨_,rfl,rfl,_,rfl,jU (fun d=>absurd (of_decide_eq_true d) (by decide)) (fun _=>?_)⟩
   refine ⟨_,rfl,rfl,_,rfl,jU (fun d=>absurd (of_decide_eq_true d) (by decide)) (fun _=>?_)⟩
   refine ⟨_,rfl,rfl,_,rfl,jU (fun _=>?_) (fun d=>absurd (decide_eq_true rfl) d)⟩
   exact ⟨sm rfl,fun l hl=>q l _ (jG hl _) hl jg⟩
  | call x f as rs=>
   obtain ⟨a,b,c,rfl,ha,hb,hc⟩:=yJ hS
   refine ⟨_,rfl,a,_,_,_,rfl,rfl,SqT.of ha,rfl,?_⟩
   refine gQ ?_
   refine ⟨_,rfl,rfl,_,rfl,jU (fun d=>absurd (of_decide_eq_true d) (by decide)) (fun _=>?_)⟩
   refine ⟨_,rfl,rfl,_,rfl,jU (fun d=>absurd (of_decide_eq_true d) (by decide)) (fun _=>?_)⟩
   refine ⟨_,rfl,rfl,_,rfl,jU (fun d=>absurd (of_decide_eq_true d) (by decide)) (fun _=>?_)⟩
   refine ⟨_,rfl,rfl,_,rfl,jU (fun _=>?_) (fun d=>absurd (decide_eq_true rfl) d)⟩
   exact ⟨_,rfl,a,_,_,_,rfl,rfl,SqT.of ha,rfl,c,_,rfl,.inr (SqT.of hc),fun l hl=>q l _ (jG hl _) hl jg⟩
end
end LW
namespace L2
open PySem PySem.Spec PyProof.Rows PySem.W
def jeU (mask:Nat):Nat→Nat×Nat→Nat×Nat
 | 0,p=>p
 | n+1,p=>jeU mask n (SetTable.leap mask p.1 p.2)
def seq (t:SetTable) (p:SetTable.Probe):Nat→SetTable.Probe
 | 0=>p
 | n+1=>t.advance (seq t p n)
theorem jaL (t:SetTable) (p:SetTable.Probe) (a:Nat):∀ b,seq t p (a+b)=seq t (seq t p a) b
 | 0=>rfl
 | b+1=>by
  show t.advance (seq t p (a+b))=_
  rw [jaL t p a b]
  rfl
theorem Zo (t:SetTable):∀ (n:Nat) (p:SetTable.Probe),n≤p.more→seq t p n={ p with j:=p.j+n,more:=p.more - n }
 | 0,p,_=>rfl
 | n+1,p,h=>by
  show t.advance (seq t p n)=_
  rw [Zo t n p (by omega)]
  unfold SetTable.advance
  dsimp only
  rw [if_pos (by omega)]
  congr 1
theorem jfa (mask i:Nat):SetTable.runEnd mask i - i≤9:=by
 unfold SetTable.runEnd
 split <;> omega
def jfN (t:SetTable) (p:SetTable.Probe):Prop:=p.j=p.i∧p.more=SetTable.runEnd t.mask p.i - p.i
theorem jbL {t:SetTable} {p:SetTable.Probe} (h:jfN t p):∃ n,n≤10∧jfN t (seq t p n)∧((seq t p n).i,(seq t p n).perturb)=SetTable.leap t.mask p.i p.perturb:=by
 refine ⟨p.more+1,?_,?_⟩
 ·have:=jfa t.mask p.i
  rw [← h.2] at this
  omega
 ·have e:seq t p (p.more+1)={ p with j:=(SetTable.leap t.mask p.i p.perturb).1,more:=SetTable.runEnd t.mask (SetTable.leap t.mask p.i p.perturb).1 - (SetTable.leap t.mask p.i p.perturb).1,i:=(SetTable.leap t.mask p.i p.perturb).1,perturb:=(SetTable.leap t.mask p.i p.perturb).2 }:=by
   show t.advance (seq t p p.more)=_
   rw [Zo t p.more p (Nat.le_refl _)]
   unfold SetTable.advance
   dsimp only
   rw [if_neg (by omega)]
  rw [e]
  exact ⟨⟨rfl,rfl⟩,rfl⟩
theorem jgj {t:SetTable}:∀ (n:Nat) {p:SetTable.Probe},jfN t p→∃ m,m≤10 * n∧(seq t p m).j=(jeU t.mask n (p.i,p.perturb)).1
 | 0,p,h=>⟨0,Nat.le_refl _,h.1⟩
 | n+1,p,h=>by
  obtain ⟨a,ha,h1,h2⟩:=jbL h
  obtain ⟨b,hb,h3⟩:=jgj n h1
  refine ⟨a+b,by omega,?_⟩
  rw [jaL,h3,h2]
  rfl
theorem getD_none {owner:Array (Option Nat)} {j:Nat} (h:owner.getD j (some 0)=none):owner[j]?=some none:=by
 by_cases hj:j < owner.size
 ·rw [Array.getElem?_eq_getElem hj]
  simp [Array.getD,hj] at h
  rw [h]
 ·simp [Array.getD,hj] at h
section
variable {prog:Program} {w:World} {K:Type} [DecidableEq K] {knd:KeyKind prog w K} {A:Around} {E:Value→Shared→Prop} {s:Shared}
def Msk (n mask:Nat):Prop:=(mask=7∧n≤4)∨(mask=31∧n≤18)∨(mask=127∧n≤76)
theorem Msk.le {n mask:Nat} (h:Msk n mask):n≤mask∧n+1≤mask∧mask≤127:=by unfold Msk at h;omega
end
end L2
namespace PySem
end PySem
namespace L2
open PySem PySem.Spec PyProof.Rows PySem.W
theorem yI {X:Cx} {P:Program} {w:World} (h1:X.prog=P:=by rfl) (h2:X.w=w:=by rfl):q4 X (.builtin "len") (fun xs H Q=>∃ (p:Addr) (τ:List Str),xs=[.ref p]∧H p=some (y0 P w p τ)∧τ.length≤1000∧Q (.int τ.length) H):=by
 subst h1 h2
 intro pins s σ H xs us Q I r h
 obtain ⟨p,τ,rfl,hp,hn,q⟩:=h
 obtain ⟨u,rfl,rx⟩:=Je r
 cases rx
 obtain ⟨⟨es,ep,t,ho,hel,⟨l0,hI0,hp0⟩,hb,hf,ht⟩,_⟩:=I.hok p _ hp
 have hz:es.size=τ.length:=by
  have h1:=hI0.length
  rw [List.length_map,Array.length_toList] at h1
  rw [h1,hp0.length_eq]
 refine PySem.call_len_set ho ⟨rfl,rfl,rfl⟩ rfl hf (by omega) ⟨.int τ.length,H,?_,⟨_,by rw [← hz]⟩,q⟩
 exact (I.tok _).tok _
end L2
namespace LW
open PySem L2
abbrev qL:Stmt:=top 13
abbrev zI:Stmt:=top 10
inductive Rf where
 | name | count | set
 deriving DecidableEq
structure Cs where
 n:Addr
 c:Addr
 s:Addr
def Cs.at (C:Cs):Rf→Addr
 | .name=>C.n
 | .count=>C.c
 | .set=>C.s
structure Exs (K:W.Frag) (mg:Str→Option Value) (C:Cs):Prop where
 gn:mg "NoName" = some (.ref C.n)
 gc:mg "NoCount" = some (.ref C.c)
 gs:mg "NoSet" = some (.ref C.s)
 xn:W.excIn K C.n valB "ValueError.__new__" = true
 xc:W.excIn K C.c valB "ValueError.__new__" = true
 xs:W.excIn K C.s valB "ValueError.__new__" = true
def EndR (C:Cs) (R:Option Rf) (Q:VK) (E:XK) (H:Hp):Prop:=∀ H',Same H H'→match R with | none=>Q .non H' | some r=>E (.ref (C.at r)) none H'
theorem EndR.mono {C:Cs} {R:Option Rf} {Q:VK} {E:XK} {H H':Hp} (h:EndR C R Q E H) (s:Same H H'):EndR C R Q E H':=fun G sG=>h G (s.trans sG)
theorem la {x y:Str} {k m:Nat} (hx:x.length≤k) (hy:y.length≤m):(x++y).length≤k+m:=by rw [Str.length_append];omega
theorem jc {c:Str} {t:TJ} {σ:St} {H:Hp} {out:Str} {Q:Str→Hp→Prop} {n:Nat} (ho:out.length≤n) (hc:c.length≤100) (hn:n≤600) (h:∀ o:Str,o.length≤n+100→t σ H o Q):KD (tC (.str c)) t σ H out Q:=⟨c,rfl,kc (Nat.le_trans (la ho hc) (by omega)),h _ (la ho hc)⟩
theorem jf {te:TE} {x:Str} {t:TJ} {σ:St} {H:Hp} {out:Str} {Q:Str→Hp→Prop} {n:Nat} (ho:out.length≤n) (hx:x.length≤100) (hn:n≤600) (ht:∀ q:VK,q (.str x) H→te σ H q) (h:∀ o:Str,o.length≤n+100→t σ H o Q):KD (jdG te) t σ H out Q:=ht _ ⟨x,rfl,kc (Nat.le_trans hx (by decide)),x,rfl,kc (Nat.le_trans (la ho hx) (by omega)),h _ (la ho hx)⟩
def kJ (xs:List Str):Prop:=∀ x∈xs,x.length≤100
def Z1 (C:Cs):Sp:=fun vs H Q E=>∃ (l r:Addr) (xs rs:List Str) (g:Str),vs=[.ref l,.ref r,.str g]∧H l=some (.lst (xs.map V.str))∧H r=some (.tup (rs.map V.str))∧kJ xs∧g.length≤100∧((∀ x∈xs,x∈rs)→Q .non H)∧((¬ ∀ x∈xs,x∈rs)→E (.ref C.n) none H)
abbrev Tks:Type:=List (Str×Nat×Nat)
def TkAt (H:Hp) (d:Addr) (T:Tks):Prop:=∃ kvs,H d=some (.dK kvs)∧∀ f:Str,match T.find? (fun t=>t.1 == f) with | none=>qw kvs (.inr f)=none | some t=>∃ p,qw kvs (.inr f)=some (.ref p)∧H p=some (.tup [.int (t.2.1:Nat),.int (t.2.2:Nat)])
theorem TkAt.mono {H H':Hp} {d:Addr} {T:Tks} (h:TkAt H d T) (s:Same H H'):TkAt H' d T:=by
 obtain ⟨kvs,h1,h2⟩:=h
 refine ⟨kvs,s _ _ h1,fun f=>?_⟩
 have h3:=h2 f
 cases e:T.find? (fun t=>t.1 == f) with
 | none=>rw [e] at h3;exact h3
 | some t=>
  rw [e] at h3
  obtain ⟨p,e1,e2⟩:=h3
  exact ⟨p,e1,s _ _ e2⟩
def KR (T:Tks) (f:Str) (as rs:List Str):Option Rf:=
 match T.find? (fun t=>t.1 == f) with
 | none=>some .name
 | some t=>if rs.Nodup then (if t.2=(as.length,rs.length) then none else some .count) else some .name
def jaJ (C:Cs):Sp:=fun vs H Q E=>∃ (v:V) (d:Addr) (x f:Str) (as rs:List Str) (T:Tks),vs=[v,.ref d]∧Held H (Sm.call x f as rs).toD v∧TkAt H d T∧f.length≤100∧rs.length≤100∧EndR C (KR T f as rs) Q E H
def yD (p:Pc):Option Rf:=if (p.ps++p.rs).Nodup∧(Str.ofString "out") ∉ p.ps++p.rs then none else some .name
def jcd (C:Cs):Sp:=fun vs H Q E=>∃ (v:V) (p:Pc),vs=[v]∧Held H p.toD v∧(p.ps++p.rs).length≤100∧p.f.length≤100∧EndR C (yD p) Q E H
theorem JR:∀ {l m:List Str},m.Nodup→(∀ x∈m,x∈l)→l.length≤m.length→m.Perm l
 | l,[],_,_,hl=>by
  cases l with
  | nil=>exact List.Perm.refl _
  | cons x l=>exact absurd hl (by simp)
 | l,x :: m,nd,sub,hl=>by
  obtain ⟨n1,n2⟩:=List.nodup_cons.mp nd
  have hx:=sub x (List.mem_cons_self ..)
  have h:=JR (l:=l.erase x) n2 (fun y hy=>(List.mem_erase_of_ne (show y≠x from fun z=>n1 (z ▸ hy))).mpr (sub y (List.mem_cons_of_mem _ hy))) (by rw [List.length_erase_of_mem hx];rw [List.length_cons] at hl;omega)
  exact (h.cons x).trans (List.perm_cons_erase hx).symm
theorem YW:∀ {l m:List Str},m.Nodup→(∀ x∈m,x∈l)→l.length≤m.length→l.Nodup:=by
 intro l m nd sub hl
 exact (JR nd sub hl).nodup_iff.mp nd
theorem Jt {l:List Str}:(dedupS l).length < l.length↔¬ l.Nodup:=by
 obtain ⟨k1,k2,k3⟩:=yW l
 constructor
 ·intro h nd
  have:=jae nd (m:=dedupS l) (fun x hx=>(k3 x).mpr hx)
  omega
 ·intro h
  rcases Nat.lt_or_ge (dedupS l).length l.length with z | z
  ·exact z
  ·refine absurd ?_ h
   exact YW k1 (fun x hx=>(k3 x).mp hx) z
section
variable {P:Program} {w:World} {K:W.Frag} {mg:Str→Option Value} {base:Heap} {C:Cs}
theorem jea {f:Addr} {fd:FuncData} (F:Fun K "check_rows" "check_rows" zH f fd) (Z:Exs K mg C):FnOk P w K mg base (CX1 P w) 1 f fd ["names","rows","f"] (Z1 C):=by
 have sc:FnScope ["names","rows","f","r"] ["names","rows","f"] (jw zH):=fQ
 refine F.okX sc (fun vs H Q E h=>?_) (fun cdv A outer s H vs Q E hr W h=>?_)
 ·obtain ⟨l,r,xs,rs,v,rfl,_⟩:=h
  rfl
 obtain ⟨l,r,xs,rs,g,rfl,hl,hr',hsh,hg,q1,q2⟩:=h
 refine ⟨_,(jn (kK W.own rfl (zr (zpv 0)) (jy (i:=3) sc.nd rfl oQ) (jn (jT (jv (zd (K:=K)) (zpv 3) (zpv 1) rfl) (jn (kW W rfl (by rfl) Z.gn Z.xn (jb (qo (jZ (kT (zpv 3)) (jZ jq (jZ (kT (zpv 2)) zv)))) jd))) jA)))),?_⟩
 refine kb (σ':=[some (.ref l),some (.ref r),some (.str g),none]) rfl ?_
 refine ⟨_,rfl,l,rfl,⟨_,SqL.of hl⟩,?_⟩
 let Pv:Nat→St→Hp→Prop:=fun i σ G=>∃ u3,σ=[some (.ref l),some (.ref r),some (.str g),u3]∧G=H∧∀ x∈xs.take i,x∈rs
 refine yF (xs:=xs.map V.str) Pv ⟨none,rfl,rfl,fun _ h=>(nomatch h)⟩ ?_ ?_ ?_
 ·rintro i σ G _ ⟨u3,rfl,rfl,-⟩
  exact SqL.of hl
 ·rintro i x σ G hx ⟨u3,rfl,rfl,ht⟩
  rw [List.getElem?_map] at hx
  obtain ⟨z,hz,rfl⟩:=Option.map_eq_some_iff.mp hx
  have hzm:=List.mem_of_getElem? hz
  refine gQ ?_
  refine ⟨_,rfl,_,rfl,r,_,rfl,.inr (SqT.of hr'),rfl,qO rs,_,rfl,jU (fun d=>?_) (fun d=>⟨_,rfl,rfl,?_⟩)⟩
  ·have d':(!inV (.str z) (rs.map V.str))=true:=d
   rw [kz] at d'
   have hE:=q2 fun h=>by rw [decide_eq_true (h z hzm)] at d';cases d'
   refine jf (n:=0) (Nat.le_refl _) (hsh z hzm) (by decide) (fun q h=>⟨_,rfl,h⟩) fun o ho=>jc ho (by decide +kernel) (by decide) fun o ho=>jf ho hg (by decide) (fun q h=>⟨_,rfl,h⟩) fun o ho=>⟨kc (Nat.le_trans ho (by decide)),show 1≤1000 by decide,hE⟩
  ·have d':¬ (!inV (.str z) (rs.map V.str))=true:=d
   rw [kz] at d'
   intro y hy
   rw [List.take_succ,hz] at hy
   rcases List.mem_append.mp hy with hy | hy
   ·exact ht y hy
   ·rw [List.mem_singleton.mp hy]
    by_cases h:z∈rs
    ·exact h
    ·rw [decide_eq_false h] at d';exact absurd rfl d'
 ·rintro σ G ⟨u3,rfl,rfl,ht⟩
  rw [List.length_map,List.take_length] at ht
  exact q1 ht
end
abbrev qG:Stmt:=top 11
def zB (p:Pc):Prop:=(∀ C∈p.nd++p.gv,∀ r∈C.rws,r∈p.rs)∧(∀ x∈p.nd.flatMap Cl.ns,x=Str.ofString ""∨x∈p.ps)∧∀ x∈p.gv.flatMap Cl.ns,x=Str.ofString ""∨x=Str.ofString "out"∨x∈p.ps
structure PrSh (p:Pc):Prop where
 n:p.nd.length≤20
 g:p.gv.length≤20
 f:p.f.length≤100
 r:∀ C∈p.nd++p.gv,kJ C.rws∧kJ C.ns
def Km (C:Cs):Sp:=fun vs H Q E=>∃ (v:V) (p:Pc),vs=[v]∧Held H p.toD v∧PrSh p∧(zB p→∀ H',Same H H'→Q .non H')∧(¬ zB p→∀ H',Same H H'→E (.ref C.n) none H')
section
variable {P:Program} {w:World} {K:W.Frag} {mg:Str→Option Value} {base:Heap} {C:Cs}
theorem jcN {f:Addr} {fd:FuncData} (F:Fun K "check_call" "check_call" qL f fd) (B:Free0 mg) (Z:Exs K mg C):FnOk P w K mg base (CX1 P w) 1 f fd ["statement","takes"] (jaJ C):=by
 have sc:FnScope ["statement","takes","f","args","rows"] ["statement","takes"] (jw qL):=fQ
 refine F.okX sc (fun vs H Q E h=>?_) (fun cdv A outer s H vs Q E hr W h=>?_)
 ·obtain ⟨v,d,x,f,as,rs,T,rfl,_⟩:=h
  rfl
 obtain ⟨v,d,x,g,as,rs,T,rfl,hv,⟨kvs,hd,hT⟩,hgl,hz,q⟩:=h
 have hu:(A.deeper (PyProof.Rows.envOfC "check_call" (jw qL) s.heap.objs.size f cdv)).units+1 < cLine:=by have:=hr.units;omega
 have hu9:(A.deeper (PyProof.Rows.envOfC "check_call" (jw qL) s.heap.objs.size f cdv)).units+1+8 < cLine:=by have:=hr.units;omega
 refine ⟨_,(je (ql (kA zt (zpv 0) (kj ji) qA) (qR rfl (jJ (jy (i:=2) sc.nd rfl oQ) (jJ (jy (i:=3) sc.nd rfl oQ) (jJ (jy (i:=4) sc.nd rfl oQ) kX)))))
   (je (jT (jap (ZU hu (zpv 2) (zpv 1))) (jn (kW W rfl (by rfl) Z.gn Z.xn (jb (qo (jZ (kT (zpv 2)) (jZ jq zv))) jd))) jA)
   (je (jT (jv yw (j0 (yI (P:=P) (w:=w)) (by rfl) B.len_ ke (jb (zi (yk (P:=P) (w:=w) (K:=K) rfl) (by rfl) B.set_ jdo (jb (zpv 4) jd)) jd)) (j0 jO (by rfl) B.len_ ke (jb (zpv 4) jd)) (jP _)) (jn (kW W rfl (by rfl) Z.gn Z.xn (jb (qo (jZ jq (jZ (kT (zpv 2)) (jZ jq zv)))) jd))) jA)
   (jn (jT (jv (jd7 8 hu9) (qB hu (zpv 1) (zpv 2) (fun _ _=>rfl)) (jX (jb (j0 jO (by rfl) B.len_ ke (jb (zpv 3) jd)) (jb (j0 jO (by rfl) B.len_ ke (jb (zpv 4) jd)) jd))) (jP _)) (jn (kW W rfl (by rfl) Z.gc Z.xc (jb (qo (jZ jq (jZ (kT (zpv 2)) (jZ jq zv)))) jd))) jA))))),?_⟩
 refine kb (σ':=[some v,some (.ref d),none,none,none]) rfl ?_
 try dsimp only [q0]
 refine jaY ?_
 intro _ _ _
 obtain ⟨a,b,c,rfl,ha,hb,hc⟩:=yJ hv
 have hTg:=hT g
 unfold KR at q
 refine ⟨_,rfl,_,rfl,a,_,rfl,SqT.of ha,(fun h=>absurd h.1 (by show ¬ (HT.sIx 5 0 (some 2)=0);decide)),fun t ht=>?_⟩
 have s1:=jG ht (.tup (qh [V.str "call",V.str x,V.str g,V.ref b,V.ref c] (some 2) none))
 have e1:upd H t (.tup (qh [V.str "call",V.str x,V.str g,V.ref b,V.ref c] (some 2) none)) t=some (.tup [V.str g,V.ref b,V.ref c]):=jg
 generalize upd H t (.tup (qh [V.str "call",V.str x,V.str g,V.ref b,V.ref c] (some 2) none))=H1 at *
 refine ⟨t,_,rfl,SqT.of e1,rfl,_,_,rfl,_,_,rfl,_,_,rfl,rfl,?_⟩
 refine kb (σ':=[some (.ref a),some (.ref d),some (.str g),some (.ref b),some (.ref c)]) rfl ?_
 refine ⟨_,rfl,_,rfl,d,_,rfl,.inl ⟨kvs,.inr g,Rd.of (s1 _ _ hd),rfl,rfl⟩,_,rfl,jU (fun z=>?_) (fun z=>?_)⟩
 ·cases e:T.find? (fun t=>t.1 == g) with
  | some t=>
   rw [e] at hTg
   obtain ⟨pt,hpt,-⟩:=hTg
   rw [hpt] at z;cases z
  | none=>
   rw [e] at q
   exact jf (n:=0) (Nat.le_refl _) hgl (by decide) (fun q h=>⟨_,rfl,h⟩) fun o ho=>jc ho (by decide +kernel) (by decide) fun o ho=>⟨kc (Nat.le_trans ho (by decide)),show 1≤1000 by decide,q _ s1⟩
 cases e:T.find? (fun t=>t.1 == g) with
 | none=>
  rw [e] at hTg
  have hTg:qw kvs (.inr g)=none:=hTg
  rw [hTg] at z;exact absurd rfl z
 | some t=>
 rw [e] at hTg q
 obtain ⟨pt,hpt,ept⟩:=hTg
 dsimp only at q
 refine ⟨_,rfl,c,rs,rfl,SqT.of (s1 _ _ hc),Nat.le_trans hz (by decide),fun p2 hp2=>?_⟩
 have s2:=jG hp2 (y0 P w p2 (dedupS rs))
 have e2:upd H1 p2 (y0 P w p2 (dedupS rs)) p2=some (y0 P w p2 (dedupS rs)):=jg
 generalize upd H1 p2 (y0 P w p2 (dedupS rs))=H2 at *
 have s12:=s1.trans s2
 refine ⟨p2,dedupS rs,rfl,e2,Nat.le_trans (yW rs).2.1 (Nat.le_trans hz (by decide)),_,rfl,c,_,rfl,.inr (SqT.of (s12 _ _ hc)),_,_,rfl,rfl,_,rfl,jU (fun z=>?_) (fun z=>?_)⟩
 ·have z':=of_decide_eq_true z
  rw [List.length_map] at z'
  rw [if_neg (Jt.mp (by omega))] at q
  exact jc (n:=0) (Nat.le_refl _) (by decide +kernel) (by decide) fun o ho=>jf ho hgl (by decide) (fun q h=>⟨_,rfl,h⟩) fun o ho=>jc ho (by decide +kernel) (by decide) fun o ho=>⟨kc (Nat.le_trans ho (by decide)),show 1≤1000 by decide,q _ s12⟩
 have hnd:rs.Nodup:=by
  by_cases h:rs.Nodup
  ·exact h
  ·have:=Jt.mpr h
   exact absurd (decide_eq_true (by rw [List.length_map];omega)) z
 rw [if_pos hnd] at q
 refine ⟨_,rfl,_,rfl,d,.ref pt,rfl,.inl ⟨kvs,.inr g,Rd.of (s12 _ _ hd),rfl,hpt.symm⟩,?_⟩
 refine ⟨_,rfl,b,_,rfl,.inr (SqT.of (s12 _ _ hb)),_,rfl,c,_,rfl,.inr (SqT.of (s12 _ _ hc)),sm rfl,fun p3 hp3=>?_⟩
 have e3:=s12.trans (jG hp3 (.tup [V.int ((as.map V.str).length:Nat),V.int ((rs.map V.str).length:Nat)]))
 rw [List.length_map,List.length_map] at *
 refine ⟨pt,p3,_,_,[.int (t.2.1:Nat),.int (t.2.2:Nat)],[.int (as.length:Nat),.int (rs.length:Nat)],rfl,rfl,e3 _ _ ept,jg,Nat.le_of_ble_eq_true rfl,jh kP (jh kP jt),jh kP (jh kP jt),_,rfl,?_⟩
 have same:([D.int (t.2.1:Nat),D.int (t.2.2:Nat)]=[D.int (as.length:Nat),D.int (rs.length:Nat)])↔t.2=(as.length,rs.length):=by
  constructor
  ·intro h
   injection h with h1 h2
   injection h2 with h2
   injection h1 with h1
   injection h2 with h2
   exact Prod.ext (by show t.2.1=as.length;omega) (by show t.2.2=rs.length;omega)
  ·intro h;rw [h]
 refine jU (fun z=>?_) (fun z=>?_)
 ·rw [if_neg (fun h=>by rw [decide_eq_true (same.mpr h)] at z;cases z)] at q
  exact jc (n:=0) (Nat.le_refl _) (by decide +kernel) (by decide) fun o ho=>jf ho hgl (by decide) (fun q h=>⟨_,rfl,h⟩) fun o ho=>jc ho (by decide +kernel) (by decide) fun o ho=>⟨kc (Nat.le_trans ho (by decide)),show 1≤1000 by decide,q _ e3⟩
 ·by_cases h:t.2=(as.length,rs.length)
  ·rw [if_pos h] at q
   exact q _ e3
  ·exact absurd (by rw [decide_eq_false (fun z=>h (same.mp z))];rfl) z
theorem jee {f:Addr} {fd:FuncData} (F:Fun K "check_head" "check_head" zI f fd) (B:Free0 mg) (Z:Exs K mg C):FnOk P w K mg base (CX1 P w) 1 f fd ["proc"] (jcd C):=by
 have sc:FnScope ["proc","params","rows","names"] ["proc"] (jw zI):=fQ
 refine F.okX sc (fun vs H Q E h=>?_) (fun cdv A outer s H vs Q E hr W h=>?_)
 ·obtain ⟨v,p,rfl,_⟩:=h
  rfl
 obtain ⟨v,p,rfl,hv,hz,hfl,q⟩:=h
 unfold yD at q
 refine ⟨_,(je (ql (kA zt (zpv 0) (kj ji) (kj ji)) (qR rfl (jJ (jy (i:=1) sc.nd rfl oQ) (jJ (jy (i:=2) sc.nd rfl oQ) kX))))
   (je (js (i:=3) sc.nd rfl oQ (jD qD (zpv 1) (zpv 2)))
   (je (jT (jv yw (j0 (yI (P:=P) (w:=w)) (by rfl) B.len_ ke (jb (zi (yk (P:=P) (w:=w) (K:=K) rfl) (by rfl) B.set_ jdo (jb (zpv 3) jd)) jd)) (j0 jO (by rfl) B.len_ ke (jb (zpv 3) jd)) (jP _)) (jn (kW W rfl (by rfl) Z.gn Z.xn (jb (qo (jZ (kT (jz jS (zpv 0) ji (fun _ _=>rfl))) (jZ jq zv))) jd))) jA)
   (jn (jT (jv (zy (K:=K)) jq (zpv 3) rfl) (jn (kW W rfl (by rfl) Z.gn Z.xn (jb (qo (jZ (kT (jz jS (zpv 0) ji (fun _ _=>rfl))) (jZ jq zv))) jd))) jA))))),?_⟩
 refine kb (σ':=[some v,none,none,none]) rfl ?_
 try dsimp only [q0]
 refine jaY ?_
 intro _ _ _
 obtain ⟨a,ap,ar,an,ag,ab,vn,vg,vb,rfl,ha,hap,har,han,hn,hag,hg,hab,hb⟩:=y7 hv
 refine ⟨_,rfl,_,rfl,_,rfl,a,_,rfl,SqT.of ha,(fun h=>absurd h.1 (by show ¬ (HT.sIx 7 0 (some 2)=0);decide)),fun t ht=>?_⟩
 have s1:=jG ht (.tup (qh [.str "proc",.str p.f,.ref ap,.ref ar,.ref an,.ref ag,.ref ab] (some 2) (some 4)))
 have e1:upd H t (.tup (qh [.str "proc",.str p.f,.ref ap,.ref ar,.ref an,.ref ag,.ref ab] (some 2) (some 4))) t=some (.tup [.ref ap,.ref ar]):=jg
 generalize upd H t (.tup (qh [.str "proc",.str p.f,.ref ap,.ref ar,.ref an,.ref ag,.ref ab] (some 2) (some 4)))=H1 at *
 refine ⟨t,_,rfl,SqT.of e1,rfl,_,_,rfl,_,_,rfl,rfl,?_⟩
 refine kb (σ':=[some (.ref a),some (.ref ap),some (.ref ar),none]) rfl ?_
 have hl:(p.ps++p.rs).length=p.ps.length+p.rs.length:=List.length_append
 refine ⟨_,rfl,_,rfl,ap,ar,_,_,rfl,rfl,s1 _ _ hap,s1 _ _ har,kc (by rw [List.length_map,List.length_map];omega),fun t2 H2 s2 e2=>?_⟩
 rw [← List.map_append] at e2
 refine gQ ?_
 refine ⟨_,rfl,t2,p.ps++p.rs,rfl,SqT.of e2,Nat.le_trans hz (by decide),fun p3 hp3=>?_⟩
 have s3:=jG hp3 (y0 P w p3 (dedupS (p.ps++p.rs)))
 have e3:upd H2 p3 (y0 P w p3 (dedupS (p.ps++p.rs))) p3=some (y0 P w p3 (dedupS (p.ps++p.rs))):=jg
 generalize upd H2 p3 (y0 P w p3 (dedupS (p.ps++p.rs)))=H3 at *
 have s123:=s1.trans (s2.trans s3)
 refine ⟨p3,dedupS (p.ps++p.rs),rfl,e3,Nat.le_trans (yW _).2.1 (Nat.le_trans hz (by decide)),_,rfl,t2,_,rfl,.inr (SqT.of (s3 _ _ e2)),_,_,rfl,rfl,_,rfl,jU (fun z=>?_) (fun z=>?_)⟩
 ·have z':=of_decide_eq_true z
  rw [List.length_map] at z'
  rw [if_neg (fun h=>Jt.mp (by omega) h.1)] at q
  exact jf (n:=0) (Nat.le_refl _) hfl (by decide) (fun q h=>⟨_,rfl,a,_,_,_,rfl,rfl,SqT.of (s123 _ _ ha),ko (j:=1) rfl,h⟩) fun o ho=>jc ho (by decide +kernel) (by decide) fun o ho=>⟨kc (Nat.le_trans ho (by decide)),show 1≤1000 by decide,q _ s123⟩
 have hnd:(p.ps++p.rs).Nodup:=by
  by_cases h:(p.ps++p.rs).Nodup
  ·exact h
  ·have:=Jt.mpr h
   exact absurd (decide_eq_true (by rw [List.length_map];omega)) z
 refine ⟨_,rfl,t2,_,rfl,.inr (SqT.of (s3 _ _ e2)),rfl,qO _,_,rfl,jU (fun z=>?_) (fun z=>?_)⟩
 ·have z':inV (.str "out") ((p.ps++p.rs).map V.str)=true:=z
  rw [kz] at z'
  rw [if_neg (fun h=>h.2 (of_decide_eq_true z'))] at q
  exact jf (n:=0) (Nat.le_refl _) hfl (by decide) (fun q h=>⟨_,rfl,a,_,_,_,rfl,rfl,SqT.of (s123 _ _ ha),ko (j:=1) rfl,h⟩) fun o ho=>jc ho (by decide +kernel) (by decide) fun o ho=>⟨kc (Nat.le_trans ho (by decide)),show 1≤1000 by decide,q _ s123⟩
 ·have z':¬ inV (.str "out") ((p.ps++p.rs).map V.str)=true:=z
  rw [kz] at z'
  rw [if_pos ⟨hnd,fun h=>z' (decide_eq_true h)⟩] at q
  exact q _ s123
end
section
variable {P:Program} {w:World} {K:W.Frag} {mg:Str→Option Value} {base:Heap} {C:Cs}
theorem Zv {f:Addr} {fd:FuncData} (F:Fun K "check_promises" "check_promises" qG f fd) (Z:Exs K mg C) (F_check_rows:FnX P w K mg base 1 "check_rows" ["names","rows","f"] (Z1 C)) (F_claim_rows:Fn P w K mg base 2 "claim_rows" ["claim"] Kp) (F_claims_numbers:Fn P w K mg base 3 "claims_numbers" ["claims"] JD):FnOk P w K mg base (CX1 P w) 4 f fd ["proc"] (Km C):=by
 have sc:FnScope ["proc","f","params","rows","needs","gives","claim","x"] ["proc"] (jw qG):=fQ
 refine F.okX sc (fun vs H Q E h=>?_) (fun cdv A outer s H vs Q E hr W h=>?_)
 ·obtain ⟨v,p,rfl,_⟩:=h
  rfl
 obtain ⟨v,p,rfl,hv,ok,q1,q2⟩:=h
 have hE:∀ {G:Hp},Same H G→¬ zB p→E (.ref C.n) none G:=fun s h=>q2 h _ s
 have tell:∀ {x:Str} {σ:St} {G:Hp} {c1 c2:Str},x.length≤100→c1.length≤100→c2.length≤100→σ[1]?=some (some (.str p.f))→σ[7]?=some (some (.str x))→E (.ref C.n) none G→∀ D,ZZ C.n E (jaC (jeI (KD (tC (.str c1)) (KD (jdG (jb4 1)) (KD (tC (.str c2)) (KD (jdG (jb4 7)) jge))))) jdF) D σ G:=fun hx h1 h2 v1 v7 e D=>jc (n:=0) (Nat.le_refl _) h1 (by decide) fun o ho=>jf ho ok.f (by decide) (fun q h=>⟨_,v1,h⟩) fun o ho=>jc ho h2 (by decide) fun o ho=>jf ho hx (by decide) (fun q h=>⟨_,v7,h⟩) fun o ho=>⟨kc (Nat.le_trans ho (by decide)),show 1≤1000 by decide,e⟩
 refine ⟨_,(je (ql (kA zt (zpv 0) (kj ji) (kj ji)) (qR rfl (jJ (jy (i:=1) sc.nd rfl oQ) (jJ (jy (i:=2) sc.nd rfl oQ) (jJ (jy (i:=3) sc.nd rfl oQ) (jJ (jy (i:=4) sc.nd rfl oQ) (jJ (jy (i:=5) sc.nd rfl oQ) kX)))))))
   (je (kK W.own rfl (zk (jD qD (zpv 4) (zpv 5))) (jy (i:=6) sc.nd rfl oQ) (jn (kE (yK F_check_rows W hr (jb (jH F_claim_rows hr (jb (zpv 6) jd)) (jb (zpv 3) (jb (zpv 1) jd)))))))
   (je (kK W.own rfl (zr (jH F_claims_numbers hr (jb (zpv 4) jd))) (jy (i:=7) sc.nd rfl oQ) (jn (jT (qE (jv jaV (zpv 7) jq (jP _)) (qg (jv (zd (K:=K)) (zpv 7) (zpv 2) rfl))).pt (jn (kW W rfl (by rfl) Z.gn Z.xn (jb (qo (jZ jq (jZ (kT (zpv 1)) (jZ jq (jZ (kT (zpv 7)) zv))))) jd))) jA)))
   (jn (kK W.own rfl (zr (jH F_claims_numbers hr (jb (zpv 5) jd))) (jy (i:=7) sc.nd rfl oQ) (jn (jT (qE (jv (zd (K:=K)) (zpv 7) (jX (jb jq (jb jq jd))) rfl) (qg (jv (zd (K:=K)) (zpv 7) (zpv 2) rfl))).pt (jn (kW W rfl (by rfl) Z.gn Z.xn (jb (qo (jZ jq (jZ (kT (zpv 1)) (jZ jq (jZ (kT (zpv 7)) zv))))) jd))) jA))))))),?_⟩
 refine kb (σ':=[some v,none,none,none,none,none,none,none]) rfl ?_
 try dsimp only [q0]
 refine jaY ?_
 intro _ _ _
 obtain ⟨a,ap,ar,an,ag,ab,vn,vg,vb,rfl,ha,hap,har,han,hn,hag,hg,hab,hb⟩:=y7 hv
 refine ⟨_,rfl,_,rfl,_,rfl,a,_,rfl,SqT.of ha,(fun h=>absurd h.1 (by show ¬ (HT.sIx 7 0 (some 1)=0);decide)),fun t ht=>?_⟩
 have s1:=jG ht (.tup (qh [.str "proc",.str p.f,.ref ap,.ref ar,.ref an,.ref ag,.ref ab] (some 1) (some 6)))
 have e1:upd H t (.tup (qh [.str "proc",.str p.f,.ref ap,.ref ar,.ref an,.ref ag,.ref ab] (some 1) (some 6))) t=some (.tup [.str p.f,.ref ap,.ref ar,.ref an,.ref ag]):=jg
 generalize upd H t (.tup (qh [.str "proc",.str p.f,.ref ap,.ref ar,.ref an,.ref ag,.ref ab] (some 1) (some 6)))=H1 at *
 refine ⟨t,_,rfl,SqT.of e1,rfl,_,_,rfl,_,_,rfl,_,_,rfl,_,_,rfl,_,_,rfl,rfl,?_⟩
 refine kb (σ':=[some (.ref a),some (.str p.f),some (.ref ap),some (.ref ar),some (.ref an),some (.ref ag),none,none]) rfl ?_
 have ln:=hn.length
 have lg:=hg.length
 rw [List.length_map] at ln lg
 have okn:=ok.n
 have okg:=ok.g
 refine ⟨_,rfl,_,rfl,an,ag,_,_,rfl,rfl,s1 _ _ han,s1 _ _ hag,kc (by omega),fun t2 H2 s2 e2=>?_⟩
 have s12:=s1.trans s2
 have hng:HeldL H2 ((p.nd++p.gv).map Cl.toD) (vn++vg):=by
  rw [List.map_append]
  exact qi (hn.mono s12) (hg.mono s12)
 have hngl:=hng.length
 rw [List.length_map] at hngl
 refine ⟨t2,rfl,⟨_,SqT.of e2⟩,?_⟩
 let Pv:Nat→St→Hp→Prop:=fun i σ G=>∃ u6,σ=[some (.ref a),some (.str p.f),some (.ref ap),some (.ref ar),some (.ref an),some (.ref ag),u6,none]∧Same H2 G∧∀ D∈(p.nd++p.gv).take i,∀ r∈D.rws,r∈p.rs
 refine zJ (xs:=vn++vg) Pv ⟨none,rfl,fun _ _ e=>e,fun _ h=>(nomatch h)⟩ ?_ ?_ ?_
 ·rintro i σ G _ ⟨u6,rfl,sG,-⟩
  exact SqT.of (sG _ _ e2)
 ·rintro i x σ G hx ⟨u6,rfl,sG,hok⟩
  have hi:i < (p.nd++p.gv).length:=by have:=(List.getElem?_eq_some_iff.mp hx).1;omega
  obtain ⟨x',hx',hxH⟩:=hng.get (show ((p.nd++p.gv).map Cl.toD)[i]?=some (p.nd++p.gv)[i].toD by rw [List.getElem?_map,List.getElem?_eq_getElem hi];rfl)
  rw [hx] at hx'
  cases hx'
  have etk:(p.nd++p.gv).take (i+1)=(p.nd++p.gv).take i++[(p.nd++p.gv)[i]]:=by rw [List.take_succ,List.getElem?_eq_getElem hi];rfl
  have hmem:=List.getElem_mem hi
  generalize (p.nd++p.gv)[i]=C1 at *
  refine gQ ?_
  refine ⟨_,rfl,x,C1,rfl,hxH.mono sG,fun l G2 s3 n3 e3=>?_⟩
  refine ⟨_,rfl,_,rfl,l,ar,C1.rws,p.rs,p.f,rfl,e3,s3 _ _ (sG _ _ (s12 _ _ har)),(ok.r C1 hmem).1,ok.f,fun h=>⟨_,rfl,sG.trans s3,fun D hD=>?_⟩,fun h=>hE (s12.trans (sG.trans s3)) fun z=>h (z.1 C1 hmem)⟩
  rw [etk] at hD
  rcases List.mem_append.mp hD with hD | hD
  ·exact hok D hD
  ·rw [List.mem_singleton.mp hD];exact h
 rintro σ G ⟨u6,rfl,sG,hok1⟩
 rw [← hngl,List.take_length] at hok1
 have s2G:=s12.trans sG
 refine ⟨_,rfl,an,vn,p.nd,rfl,s2G _ _ han,hn.mono s2G,by omega,fun l H3 s3 n3 e3=>?_⟩
 have s2H3:=s2G.trans s3
 refine ⟨l,rfl,⟨_,SqL.of e3⟩,?_⟩
 let Pw:Nat→St→Hp→Prop:=fun i σ G=>∃ u7,σ=[some (.ref a),some (.str p.f),some (.ref ap),some (.ref ar),some (.ref an),some (.ref ag),u6,u7]∧G=H3∧∀ y∈(p.nd.flatMap Cl.ns).take i,y=Str.ofString ""∨y∈p.ps
 refine yF (xs:=(p.nd.flatMap Cl.ns).map V.str) Pw ⟨none,rfl,rfl,fun _ h=>(nomatch h)⟩ ?_ ?_ ?_
 ·rintro i σ G _ ⟨u7,rfl,rfl,-⟩
  exact SqL.of e3
 ·rintro i x σ G hx ⟨u7,rfl,rfl,hok⟩
  rw [List.getElem?_map] at hx
  obtain ⟨z,hz,rfl⟩:=Option.map_eq_some_iff.mp hx
  have hzm:=List.mem_of_getElem? hz
  obtain ⟨C1,hC,hzC⟩:=List.mem_flatMap.mp hzm
  have hzl:=(ok.r C1 (List.mem_append.mpr (.inl hC))).2 z hzC
  have step:(z=Str.ofString ""∨z∈p.ps)→∀ y∈(p.nd.flatMap Cl.ns).take (i+1),y=Str.ofString ""∨y∈p.ps:=fun h y hy=>by
   rw [List.take_succ,hz] at hy
   rcases List.mem_append.mp hy with hy | hy
   ·exact hok y hy
   ·rw [List.mem_singleton.mp hy];exact h
  refine gQ ?_
  refine ⟨_,rfl,rfl,_,rfl,jU (fun d=>?_) (fun d=>Ja ⟨_,rfl,rfl,step (.inl ?_)⟩)⟩
  ·refine ⟨_,rfl,_,rfl,ap,_,rfl,.inr (SqT.of (s2H3 _ _ hap)),rfl,qO _,_,rfl,jU (fun d2=>?_) (fun d2=>⟨_,rfl,rfl,step (.inr ?_)⟩)⟩
   ·have d2':(!inV (.str z) (p.ps.map V.str))=true:=d2
    rw [kz] at d2'
    refine tell hzl (by decide +kernel) (by decide +kernel) rfl rfl (hE s2H3 fun ok2=>?_) _
    rcases ok2.2.1 z hzm with y | y
    ·have d':(!decide (V.str z=V.str ""))=true:=d
     rw [y,decide_eq_true rfl] at d';cases d'
    ·rw [decide_eq_true y] at d2';cases d2'
   ·have d2':¬ (!inV (.str z) (p.ps.map V.str))=true:=d2
    rw [kz] at d2'
    by_cases h:z∈p.ps
    ·exact h
    ·rw [decide_eq_false h] at d2';exact absurd rfl d2'
  ·have d':¬ (!decide (V.str z=V.str ""))=true:=d
   by_cases h:V.str z=V.str ""
   ·injection h
   ·rw [decide_eq_false h] at d';exact absurd rfl d'
 rintro σ G ⟨u7,rfl,rfl,hok2⟩
 rw [List.length_map,List.take_length] at hok2
 refine ⟨_,rfl,ag,vg,p.gv,rfl,s2H3 _ _ hag,hg.mono s2H3,by omega,fun l2 H4 s4 n4 e4=>?_⟩
 have s2H4:=s2H3.trans s4
 refine ⟨l2,rfl,⟨_,SqL.of e4⟩,?_⟩
 let Px:Nat→St→Hp→Prop:=fun i σ G=>∃ u7,σ=[some (.ref a),some (.str p.f),some (.ref ap),some (.ref ar),some (.ref an),some (.ref ag),u6,u7]∧Same H4 G∧∀ y∈(p.gv.flatMap Cl.ns).take i,y=Str.ofString ""∨y=Str.ofString "out"∨y∈p.ps
 refine yF (xs:=(p.gv.flatMap Cl.ns).map V.str) Px ⟨u7,rfl,fun _ _ e=>e,fun _ h=>(nomatch h)⟩ ?_ ?_ ?_
 ·rintro i σ G _ ⟨u7,rfl,sG4,-⟩
  exact SqL.of (sG4 _ _ e4)
 ·rintro i x σ G' hx ⟨u7,rfl,sG4,hok⟩
  rw [List.getElem?_map] at hx
  obtain ⟨z,hz,rfl⟩:=Option.map_eq_some_iff.mp hx
  have hzm:=List.mem_of_getElem? hz
  obtain ⟨C1,hC,hzC⟩:=List.mem_flatMap.mp hzm
  have hzl:=(ok.r C1 (List.mem_append.mpr (.inr hC))).2 z hzC
  have step:(z=Str.ofString ""∨z=Str.ofString "out"∨z∈p.ps)→∀ y∈(p.gv.flatMap Cl.ns).take (i+1),y=Str.ofString ""∨y=Str.ofString "out"∨y∈p.ps:=fun h y hy=>by
   rw [List.take_succ,hz] at hy
   rcases List.mem_append.mp hy with hy | hy
   ·exact hok y hy
   ·rw [List.mem_singleton.mp hy];exact h
  refine gQ ?_
  refine ⟨_,rfl,sm rfl,fun p5 hp5=>?_⟩
  have s5:=jG hp5 (.tup [V.str "",V.str "out"])
  have e5:upd G' p5 (.tup [V.str "",V.str "out"]) p5=some (.tup [V.str "",V.str "out"]):=jg
  generalize upd G' p5 (.tup [V.str "",V.str "out"])=G5 at *
  have sE:=sG4.trans s5
  refine ⟨p5,_,rfl,.inr (SqT.of e5),rfl,rfl,_,rfl,jU (fun d=>?_) (fun d=>Ja ⟨_,rfl,sE,step ?_⟩)⟩
  ·refine ⟨_,rfl,_,rfl,ap,_,rfl,.inr (SqT.of (sE _ _ (s2H4 _ _ hap))),rfl,qO _,_,rfl,jU (fun d2=>?_) (fun d2=>⟨_,rfl,sE,step (.inr (.inr ?_))⟩)⟩
   ·have d2':(!inV (.str z) (p.ps.map V.str))=true:=d2
    have d':(!inV (.str z) ((["","out"]:List Str).map V.str))=true:=d
    rw [kz] at d2' d'
    refine tell hzl (by decide +kernel) (by decide +kernel) rfl rfl (hE (s2H4.trans sE) fun ok2=>?_) _
    rcases ok2.2.2 z hzm with y | y | y
    ·rw [y,decide_eq_true (by decide)] at d';cases d'
    ·rw [y,decide_eq_true (by decide)] at d';cases d'
    ·rw [decide_eq_true y] at d2';cases d2'
   ·have d2':¬ (!inV (.str z) (p.ps.map V.str))=true:=d2
    rw [kz] at d2'
    by_cases h:z∈p.ps
    ·exact h
    ·rw [decide_eq_false h] at d2';exact absurd rfl d2'
  ·have d':¬ (!inV (.str z) ((["","out"]:List Str).map V.str))=true:=d
   rw [kz] at d'
   by_cases h:z∈(["","out"]:List Str)
   ·rcases List.mem_cons.mp h with h | h
    ·exact .inl h
    ·exact .inr (.inl (List.mem_singleton.mp h))
   ·rw [decide_eq_false h] at d';exact absurd rfl d'
 rintro σ G5 ⟨u7,rfl,sG5,hok3⟩
 rw [List.length_map,List.take_length] at hok3
 exact q1 ⟨hok1,hok2,hok3⟩ G5 (s2H4.trans sG5)
end
abbrev qx:Stmt:=top 12
theorem zu {tt:TT} {ta tb u:TS} {D:Ends} {σ:St} {H:Hp} (C:Bool→Hp→Prop) (k:∀ b G,C b G→if b=true then ta { D with nx:=u D } σ G else tb { D with nx:=u D } σ G) (h:(∀ b G,C b G→if b=true then ta { D with nx:=u D } σ G else tb { D with nx:=u D } σ G)→Zd tt ta tb { D with nx:=u D } σ H):jI (Zd tt ta tb) u D σ H:=h k
def Nd.tgt:Nd→Option Str
 | .leaf (.set x _ _)=>some x
 | .leaf (.any x)=>some x
 | .leaf (.call x _ _ _)=>some x
 | _=>none
structure StSh (N:Nd) (p:Pc):Prop where
 r:kJ N.rws
 n:kJ N.ns
 t:∀ x,N.tgt=some x→x.length≤100
 f:p.f.length≤100
 c:∀ x f as rs,N=.leaf (.call x f as rs)→f.length≤100
def Yp (N:Nd) (T:Tks):Option Rf:=match N with | .leaf (.call x f as rs)=>KR T f as rs | _=>none
def stR (N:Nd) (p:Pc) (T:Tks):Option Rf:=
 if ∀ r∈N.rws,r∈p.rs then
  if ∃ x∈N.ns,x∈p.rs then some .name
  else if N.tgt.any (fun x=>decide (x∈p.ps))=true then some .set
  else Yp N T
 else some .name
theorem jca {H:Hp} {N:Nd} {v:V} (h:Held H N.toD v):∃ a k r,v=.ref a∧H a=some (.tup (.str k :: r))∧(k∈(["set","any","call"]:List Str)→∃ x r',N.tgt=some x∧r=.str x :: r')∧(k = "call"→∃ x f as rs,N=.leaf (.call x f as rs))∧(k ∉ (["set","any","call"]:List Str)→N.tgt=none)∧∀ T,¬ k = "call"→Yp N T=none:=by
 cases N with
 | leaf S=>
  cases S with
  | set x t c=>obtain ⟨a,u,rfl,ha,_⟩:=J4 (x:=x) (t:=t) (c:=c) h;exact ⟨a,_,_,rfl,ha,fun _=>⟨x,_,rfl,rfl⟩,fun z=>absurd z (by decide),fun z=>absurd (by decide) z,fun _ _=>rfl⟩
  | put r x d t c=>obtain ⟨a,b,u,rfl,ha,_⟩:=Ka (r:=r) (x:=x) (d:=d) (t:=t) (c:=c) h;exact ⟨a,_,_,rfl,ha,fun z=>absurd z (by decide),fun z=>absurd z (by decide),fun _=>rfl,fun _ _=>rfl⟩
  | any x=>obtain ⟨a,rfl,ha⟩:=zf (show Held H (.tup [.str "any",.str x]) v from h);exact ⟨a,_,_,rfl,ha,fun _=>⟨x,_,rfl,rfl⟩,fun z=>absurd z (by decide),fun z=>absurd (by decide) z,fun _ _=>rfl⟩
  | claim C=>obtain ⟨a,u,rfl,ha,_⟩:=zW (C:=C) h;exact ⟨a,_,_,rfl,ha,fun z=>absurd z (by decide),fun z=>absurd z (by decide),fun _=>rfl,fun _ _=>rfl⟩
  | call x f as rs=>obtain ⟨a,b,c,rfl,ha,_⟩:=yJ (x:=x) (f:=f) (as:=as) (rs:=rs) h;exact ⟨a,_,_,rfl,ha,fun _=>⟨x,_,rfl,rfl⟩,fun _=>⟨x,f,as,rs,rfl⟩,fun z=>absurd (by decide) z,fun _ z=>absurd rfl z⟩
 | ite a b c x y=>obtain ⟨t,u,p,q,xs,ys,rfl,ht,_⟩:=Jq h;exact ⟨t,_,_,rfl,ht,fun z=>absurd z (by decide),fun z=>absurd z (by decide),fun _=>rfl,fun _ _=>rfl⟩
 | whl a b c ks x=>obtain ⟨t,u,p,q,xs,ys,rfl,ht,_⟩:=Jd h;exact ⟨t,_,_,rfl,ht,fun z=>absurd z (by decide),fun z=>absurd z (by decide),fun _=>rfl,fun _ _=>rfl⟩
def JN (C:Cs):Sp:=fun vs H Q E=>∃ (v vp:V) (d:Addr) (N:Nd) (p:Pc) (T:Tks),vs=[v,vp,.ref d]∧Held H N.toD v∧Held H p.toD vp∧TkAt H d T∧N.few∧StSh N p∧EndR C (stR N p T) Q E H
section
variable {P:Program} {w:World} {K:W.Frag} {mg:Str→Option Value} {base:Heap} {C:Cs}
theorem YV {f:Addr} {fd:FuncData} (F:Fun K "check_statement" "check_statement" qx f fd) (Z:Exs K mg C) (F_check_rows:FnX P w K mg base 1 "check_rows" ["names","rows","f"] (Z1 C)) (F_rows_named:Fn P w K mg base 3 "rows_named" ["statement"] Zi) (F_numbers_named:Fn P w K mg base 4 "numbers_named" ["statement"] Zj) (F_check_call:FnX P w K mg base 1 "check_call" ["statement","takes"] (jaJ C)):FnOk P w K mg base (CX1 P w) 5 f fd ["statement","proc","takes"] (JN C):=by
 have sc:FnScope ["statement","proc","takes","f","params","rows","x"] ["statement","proc","takes"] (jw qx):=fQ
 refine F.okX sc (fun vs H Q E h=>?_) (fun cdv A outer s H vs Q E hr W h=>?_)
 ·obtain ⟨v,vp,d,N,p,T,rfl,_⟩:=h
  rfl
 obtain ⟨v,vp,d,N,p,T,rfl,hv,hvp,hT,few,sh,q⟩:=h
 unfold stR at q
 refine ⟨_,(je (ql (kA zt (zpv 1) (kj ji) (kj ji)) (qR rfl (jJ (jy (i:=3) sc.nd rfl oQ) (jJ (jy (i:=4) sc.nd rfl oQ) (jJ (jy (i:=5) sc.nd rfl oQ) kX)))))
   (je (kE (yK F_check_rows W hr (jb (jH F_rows_named hr (jb (zpv 0) jd)) (jb (zpv 5) (jb (zpv 3) jd)))))
   (je (kK W.own rfl (zr (jH F_numbers_named hr (jb (zpv 0) jd))) (jy (i:=6) sc.nd rfl oQ) (jn (jT (jv (zy (K:=K)) (zpv 6) (zpv 5) rfl) (jn (kW W rfl (by rfl) Z.gn Z.xn (jb (qo (jZ (kT (zpv 3)) (jZ jq (jZ (kT (zpv 6)) (jZ jq zv))))) jd))) jA)))
   (je (jT (qE (jv (zy (K:=K)) (jz jS (zpv 0) ji (fun _ _=>rfl)) (jX (jb jq (jb jq (jb jq jd)))) rfl) (qg (jv (zy (K:=K)) (jz jS (zpv 0) ji (fun _ _=>rfl)) (zpv 4) rfl))).pt (jn (kW W rfl (by rfl) Z.gs Z.xs (jb (qo (jZ (kT (zpv 3)) (jZ jq (jZ (kT (jz jS (zpv 0) ji (fun _ _=>rfl))) zv)))) jd))) jA)
   (jn (jT (jv kq (jz jS (zpv 0) ji (fun _ _=>rfl)) jq (jP _)) (jn (kE (yK F_check_call W hr (jb (zpv 0) (jb (zpv 2) jd))))) jA)))))),?_⟩
 refine kb (σ':=[some v,some vp,some (.ref d),none,none,none,none]) rfl ?_
 try dsimp only [q0]
 refine jeZ ?_
 intro _ _ _ _
 obtain ⟨a,ap,ar,an,ag,ab,vn,vg,vb,rfl,ha,hap,har,han,hn,hag,hg,hab,hb⟩:=y7 hvp
 refine ⟨_,rfl,_,rfl,_,rfl,a,_,rfl,SqT.of ha,(fun h=>absurd h.1 (by show ¬ (HT.sIx 7 0 (some 1)=0);decide)),fun t ht=>?_⟩
 have s1:=jG ht (.tup (qh [.str "proc",.str p.f,.ref ap,.ref ar,.ref an,.ref ag,.ref ab] (some 1) (some 4)))
 have e1:upd H t (.tup (qh [.str "proc",.str p.f,.ref ap,.ref ar,.ref an,.ref ag,.ref ab] (some 1) (some 4))) t=some (.tup [.str p.f,.ref ap,.ref ar]):=jg
 generalize upd H t (.tup (qh [.str "proc",.str p.f,.ref ap,.ref ar,.ref an,.ref ag,.ref ab] (some 1) (some 4)))=H1 at *
 refine ⟨t,_,rfl,SqT.of e1,rfl,_,_,rfl,_,_,rfl,_,_,rfl,rfl,?_⟩
 refine kb (σ':=[some v,some (.ref a),some (.ref d),some (.str p.f),some (.ref ap),some (.ref ar),none]) rfl ?_
 refine ⟨_,rfl,v,N,rfl,hv.mono s1,few,fun l H2 s2 n2 e2=>?_⟩
 have s12:=s1.trans s2
 refine ⟨_,rfl,_,rfl,l,ar,N.rws,p.rs,p.f,rfl,e2,s12 _ _ har,sh.r,sh.f,fun hrw=>?_,fun hrw=>by rw [if_neg hrw] at q;exact q _ s12⟩
 rw [if_pos hrw] at q
 refine ⟨_,rfl,v,N,rfl,hv.mono s12,few,fun l2 H3 s3 n3 e3=>?_⟩
 have s13:=s12.trans s3
 refine ⟨l2,rfl,⟨_,SqL.of e3⟩,?_⟩
 let Pw:Nat→St→Hp→Prop:=fun i σ G=>∃ u6,σ=[some v,some (.ref a),some (.ref d),some (.str p.f),some (.ref ap),some (.ref ar),u6]∧G=H3∧∀ y∈N.ns.take i,y ∉ p.rs
 refine yF (xs:=N.ns.map V.str) Pw ⟨none,rfl,rfl,fun _ h=>(nomatch h)⟩ ?_ ?_ ?_
 ·rintro i σ G _ ⟨u6,rfl,rfl,-⟩
  exact SqL.of e3
 ·rintro i x σ G hx ⟨u6,rfl,rfl,hok⟩
  rw [List.getElem?_map] at hx
  obtain ⟨z,hz,rfl⟩:=Option.map_eq_some_iff.mp hx
  have hzm:=List.mem_of_getElem? hz
  refine gQ ?_
  refine ⟨_,rfl,_,rfl,ar,_,rfl,.inr (SqT.of (s13 _ _ har)),rfl,qO _,_,rfl,jU (fun d=>?_) (fun d=>⟨_,rfl,rfl,fun y hy=>?_⟩)⟩
  ·have d':inV (.str z) (p.rs.map V.str)=true:=d
   rw [kz] at d'
   rw [if_pos ⟨z,hzm,of_decide_eq_true d'⟩] at q
   exact jf (n:=0) (Nat.le_refl _) sh.f (by decide) (fun q h=>⟨_,rfl,h⟩) fun o ho=>jc ho (by decide +kernel) (by decide) fun o ho=>jf ho (sh.n z hzm) (by decide) (fun q h=>⟨_,rfl,h⟩) fun o ho=>jc ho (by decide +kernel) (by decide) fun o ho=>⟨kc (Nat.le_trans ho (by decide)),show 1≤1000 by decide,q _ s13⟩
  ·have d':¬ inV (.str z) (p.rs.map V.str)=true:=d
   rw [kz] at d'
   rw [List.take_succ,hz] at hy
   rcases List.mem_append.mp hy with hy | hy
   ·exact hok y hy
   ·rw [List.mem_singleton.mp hy];exact fun h=>d' (decide_eq_true h)
 rintro σ G ⟨u6,rfl,rfl,hok⟩
 rw [List.length_map,List.take_length] at hok
 rw [if_neg (fun h=>by obtain ⟨x,h1,h2⟩:=h;exact hok x h1 h2)] at q
 obtain ⟨b,k,r,rfl,hb',h3,h4,h5,h6⟩:=jca hv
 dsimp only
 refine zu (fun c G'=>Same G G'∧(c=true→∃ x r',N.tgt=some x∧r=.str x :: r'∧x∈p.ps)∧(c=false→N.tgt.any (fun x=>decide (x∈p.ps))=false)) (fun b' G' hb2=>?_) (fun kk=>?_)
 rotate_left
 ·refine ⟨_,rfl,b,_,_,V.str k,rfl,rfl,SqT.of (s13 _ _ hb'),ko (j:=0) rfl,sm rfl,fun p5 hp5=>?_⟩
  have s5:=jG hp5 (.tup [V.str "set",V.str "any",V.str "call"])
  have e5:upd G p5 (.tup [V.str "set",V.str "any",V.str "call"]) p5=some (.tup [V.str "set",V.str "any",V.str "call"]):=jg
  generalize upd G p5 (.tup [V.str "set",V.str "any",V.str "call"])=G5 at *
  refine ⟨p5,_,rfl,.inr (SqT.of e5),rfl,rfl,_,rfl,jU (fun z=>?_) (fun z=>kk false G5 ⟨s5,fun h=>(nomatch h),fun _=>?_⟩)⟩
  ·have z':inV (.str k) ((["set","any","call"]:List Str).map V.str)=true:=z
   rw [kz] at z'
   obtain ⟨x,r',hx,rfl⟩:=h3 (of_decide_eq_true z')
   refine ⟨_,rfl,b,_,_,V.str x,rfl,rfl,SqT.of (s5 _ _ (s13 _ _ hb')),ko (j:=1) rfl,_,rfl,ap,_,rfl,.inr (SqT.of (s5 _ _ (s13 _ _ hap))),rfl,qO _,_,rfl,kk _ G5 ⟨s5,fun h=>⟨x,r',hx,rfl,?_⟩,fun h=>?_⟩⟩
   ·have h':inV (.str x) (p.ps.map V.str)=true:=h
    rw [kz] at h'
    exact of_decide_eq_true h'
   ·have h':inV (.str x) (p.ps.map V.str)=false:=h
    rw [kz] at h'
    rw [hx]
    exact h'
  ·have z':¬ inV (.str k) ((["set","any","call"]:List Str).map V.str)=true:=z
   rw [kz] at z'
   rw [h5 fun h=>z' (decide_eq_true h)]
   rfl
 obtain ⟨s6,hT1,hF1⟩:=hb2
 have s16:=s13.trans s6
 cases b' with
 | true=>
  obtain ⟨x,r',hx,rfl,hxp⟩:=hT1 rfl
  rw [if_pos (show N.tgt.any (fun x=>decide (x∈p.ps))=true by rw [hx];exact decide_eq_true hxp)] at q
  refine yl ?_
  exact jf (n:=0) (Nat.le_refl _) sh.f (by decide) (fun q h=>⟨_,rfl,h⟩) fun o ho=>jc ho (by decide +kernel) (by decide) fun o ho=>jf ho (sh.t x hx) (by decide) (fun q h=>⟨_,rfl,b,_,_,_,rfl,rfl,SqT.of (s16 _ _ hb'),ko (j:=1) rfl,h⟩) fun o ho=>⟨kc (Nat.le_trans ho (by decide)),show 1≤1000 by decide,q _ s16⟩
 | false=>
  rw [if_neg (show ¬ N.tgt.any (fun x=>decide (x∈p.ps))=true by rw [hF1 rfl];exact Bool.false_ne_true)] at q
  refine Ja ?_
  refine ⟨_,rfl,b,_,_,V.str k,rfl,rfl,SqT.of (s16 _ _ hb'),ko (j:=0) rfl,rfl,_,rfl,jU (fun z=>?_) (fun z=>?_)⟩
  ·obtain ⟨x,g,as,rs,rfl⟩:=h4 (by have:=of_decide_eq_true z;injection this)
   have c3:as.length≤6∧rs.length≤6:=few
   exact ⟨_,rfl,_,rfl,.ref b,d,x,g,as,rs,T,rfl,hv.mono s16,hT.mono s16,sh.c x g as rs rfl,by omega,EndR.mono q s16⟩
  ·have hk:¬ k = "call":=fun h=>z (decide_eq_true (congrArg V.str h))
   rw [h6 T hk] at q
   exact q _ s16
end
end LW
namespace L2
open PySem PySem.Spec PyProof.Rows PySem.W
theorem jbz {X:Cx}:MtR X "dict.setdefault" (fun x xs H Q=>∃ (d:Addr) (kvs:List (Key×V)) (k:Key) (v:V),x=.ref d∧xs=[kV k,v]∧H d=some (.dK kvs)∧kvs.length < sizeLine∧
  ((∃ v0,qw kvs k=some v0∧Q v0 H)∨(qw kvs k=none∧Q v (upd H d (.dK (q5 kvs k v)))))):=by
 intro pins s σ H x xs v us Q I rx rs h
 obtain ⟨d,kvs,k,y,rfl,rfl,hd,hz,q⟩:=h
 cases rx
 cases rs with
 | cons rk rs=>
 cases rs with
 | cons ry rs=>
 cases rs
 obtain ⟨z,lo,vs,rel,dd⟩:=jdd I.hok hd
 refine call_meetsIn PySem.F.slot_dict_setdefault dd.typeIs PySem.F.entry_dict_setdefault (PySem.F.args_dict_setdefault_3 _ _ _) (kt_meets_setdefault (kU X.prog X.w) d (KC rk) lo _) ⟨vs,dd,by rw [← rel.length];exact z,fun w' hw=>?_,fun hw h' dd' hs=>?_⟩
 ·rcases q with ⟨v0,hv,q⟩ | ⟨hv,q⟩
  ·obtain ⟨w2,hw2,rw2⟩:=RelO.some_of (v:=v0) (o:=valueAt vs k) (by rw [← hv];exact rel.val k)
   rw [hw] at hw2
   cases hw2
   exact ⟨v0,H,I.tok _,rw2,q⟩
  ·have:valueAt vs k=none:=RelO.none_of (by rw [← hv];exact rel.val k)
   rw [hw] at this
   cases this
 ·rcases q with ⟨v0,hv,q⟩ | ⟨hv,q⟩
  ·obtain ⟨w2,hw2,rw2⟩:=RelO.some_of (v:=v0) (o:=valueAt vs k) (by rw [← hv];exact rel.val k)
   rw [hw] at hw2
   cases hw2
  ·have he:∃ q,h'.get? d=some q:=let ⟨q,_,_,hq,_⟩:=dd';⟨q,hq⟩
   have hl:(q5 kvs k y).length≤sizeLine:=by have:=qM kvs k y;omega
   exact ⟨y,_,Kf I (by rw [hd];exact True.intro) hs he (jaj hl lo (rel.put k ry) dd'),ry,q⟩
end L2
namespace LW
open PySem L2
abbrev Kv:Stmt:=top 9
def Pc.tk (p:Pc):Str×Nat×Nat:=(p.f,p.ps.length,p.rs.length)
structure PcSh (n:Nat) (p:Pc):Prop where
 lv:p.lv=n
 pr:PrSh p
 len:(p.ps++p.rs).length≤100
 few:(ku p.lv p.bd).length≤100
 st:∀ N∈ku p.lv p.bd,N.few∧StSh N p
instance (p:Pc):Decidable (zB p):=by unfold zB;infer_instance
def yd (f:Nd→Option Rf):List Nd→Option Rf
 | []=>none
 | N :: l=>match f N with | some r=>some r | none=>yd f l
def Jo (T:Tks) (p:Pc):Option Rf:=match yD p with
 | some r=>some r
 | none=>if zB p then yd (fun N=>stR N p T) (ku p.lv p.bd) else some .name
def qv (T:Tks):List Str→List Pc→Option Rf
 | _,[]=>none
 | A,p :: ps=>if p.f∈A then some .name else match Jo T p with | some r=>some r | none=>qv T (A++[p.f]) ps
def jaI (C:Cs) (n:Nat):Sp:=fun vs H Q E=>∃ (a:Addr) (us:List V) (ps:List Pc),vs=[.ref a]∧H a=some (.tup us)∧HeldL H (ps.map Pc.toD) us∧ps.length≤20∧(∀ p∈ps,PcSh n p)∧EndR C (qv (ps.map Pc.tk) [] ps) Q E H
theorem jez {n:Nat} {p:Pc} (h:p.lv=n):∃ Ss:List (StN n),Ss.map (stD n)=p.bd.map (stD p.lv)∧ku n Ss=ku p.lv p.bd:=by
 subst h
 exact ⟨p.bd,rfl,rfl⟩
theorem Zb {α β:Type} {f:α→β} {ps:List α} {i:Nat} (hi:i < ps.length):(ps.take (i+1)).map f=(ps.take i).map f++[f ps[i]]:=by rw [List.take_succ,List.getElem?_eq_getElem hi,List.map_append];rfl
theorem jay (T:Tks) (x:Str×Nat×Nat) (f:Str):(T++[x]).find? (fun t=>t.1 == f)=match T.find? (fun t=>t.1 == f) with | some t=>some t | none=>if x.1=f then some x else none:=by
 rw [List.find?_append]
 cases T.find? (fun t=>t.1 == f) with
 | some t=>rfl
 | none=>
  rw [Option.none_or]
  by_cases h:x.1=f
  ·rw [List.find?_cons_of_pos (by simpa using h)];exact (if_pos h).symm
  ·rw [List.find?_cons_of_neg (by simpa using h)];exact (if_neg h).symm
theorem TkAt.keep {H:Hp} {d:Addr} {T:Tks} (h:TkAt H d T) {b:Addr} {o:HO} {kvs:List (Key×V)} (hb:H b=some (.dK kvs)) (n:d≠b):TkAt (upd H b o) d T:=by
 obtain ⟨kvs1,h1,h2⟩:=h
 refine ⟨kvs1,by rw [jx n];exact h1,fun f=>?_⟩
 have h3:=h2 f
 cases e:T.find? (fun t=>t.1 == f) with
 | none=>rw [e] at h3;exact h3
 | some t=>
  rw [e] at h3
  obtain ⟨p,e1,e2⟩:=h3
  exact ⟨p,e1,by rw [jx (fun z=>by rw [z,hb] at e2;cases e2)];exact e2⟩
theorem qP (T:Tks) (A:List Str) (p:Pc) (ps:List Pc):qv T A (p :: ps)=if p.f∈A then some .name else match Jo T p with | some r=>some r | none=>qv T (A++[p.f]) ps:=rfl
theorem yG (f:Nd→Option Rf) (N:Nd) (l:List Nd):yd f (N :: l)=match f N with | some r=>some r | none=>yd f l:=rfl
section
variable {P:Program} {w:World} {K:W.Frag} {mg:Str→Option Value} {base:Heap} {C:Cs}
theorem jcM {n:Nat} {f:Addr} {fd:FuncData} (F:Fun K "check" "check" Kv f fd) (B:Free0 mg) (Z:Exs K mg C) (F_check_head:FnX P w K mg base 1 "check_head" ["proc"] (jcd C)) (F_check_promises:FnX P w K mg base 4 "check_promises" ["proc"] (Km C)) (F_all_statements:Fn P w K mg base (n+2) "all_statements" ["body"] (Zl n)) (F_check_statement:FnX P w K mg base 5 "check_statement" ["statement","proc","takes"] (JN C)):FnOk P w K mg base (CX1 P w) (n+6) f fd ["program"] (jaI C n):=by
 have sc:FnScope ["program","takes","proc","ahead","statement"] ["program"] (jw Kv):=fQ
 refine F.okX sc (fun vs H Q E h=>?_) (fun cdv A outer s H vs Q E hr W h=>?_)
 ·obtain ⟨a,us,ps,rfl,_⟩:=h
  rfl
 obtain ⟨a,us,ps,rfl,ha,hL,hz,hok,q⟩:=h
 have hu:(A.deeper (PyProof.Rows.envOfC "check" (jw Kv) s.heap.objs.size f cdv)).units+1 < cLine:=by have:=hr.units;omega
 refine ⟨_,(je (js (i:=1) sc.nd rfl oQ Yb)
   (je (kK W.own rfl (zk (zpv 0)) (jy (i:=2) sc.nd rfl oQ) (jn (kE (qS PySem.F.plainAttrs_dict PySem.F.slot_dict_setdefault PySem.F.type_dict_setdefault jbz (zpv 1) (jb (jz jS (zpv 2) ji (fun _ _=>rfl)) (jb (jX (jb (j0 jO (by rfl) B.len_ ke (jb (jz jS (zpv 2) ji (fun _ _=>rfl)) jd)) (jb (j0 jO (by rfl) B.len_ ke (jb (jz jS (zpv 2) ji (fun _ _=>rfl)) jd)) jd))) jd))))))
   (je (js (i:=3) sc.nd rfl oQ Yb)
   (jn (kK W.own rfl (zk (zpv 0)) (jy (i:=2) sc.nd rfl oQ) (je (jT (jap (jdB hu (jz jS (zpv 2) ji (fun _ _=>rfl)) (zpv 3))) (jn (kW W rfl (by rfl) Z.gn Z.xn (jb (qo (jZ jq (jZ (kT (jz jS (zpv 2) ji (fun _ _=>rfl))) zv))) jd))) jA)
   (je (kE (yK F_check_head W hr (jb (zpv 2) jd)))
   (je (kE (yK F_check_promises W hr (jb (zpv 2) jd)))
   (je (kK W.own rfl (zr (jV F_all_statements hr (jb (jz jS (zpv 2) ji (fun _ _=>rfl)) jd))) (jy (i:=4) sc.nd rfl oQ) (jn (kE (yK F_check_statement W hr (jb (zpv 4) (jb (zpv 2) (jb (zpv 1) jd)))))))
   (jn (Y9 hu (zpv 3) (jz jS (zpv 2) ji (fun _ _=>rfl)) Kj rfl))))))))))),?_⟩
 refine kb (σ':=[some (.ref a),none,none,none,none]) rfl ?_
 try dsimp only [q0]
 refine jaY ?_
 intro _ _ _
 have hlen:=hL.length
 rw [List.length_map] at hlen
 intro d hd
 have s1:=jG hd (.dK [])
 have e1:upd H d (.dK []) d=some (.dK []):=jg
 generalize upd H d (.dK [])=H1 at *
 refine gQ ?_
 refine ⟨_,rfl,a,rfl,⟨_,SqT.of (s1 _ _ ha)⟩,?_⟩
 let Pv:Nat→St→Hp→Prop:=fun i σ G=>∃ u2 kvs,σ=[some (.ref a),some (.ref d),u2,none,none]∧Same H G∧G d=some (.dK kvs)∧kvs.length≤i∧TkAt G d ((ps.take i).map Pc.tk)
 refine zJ (xs:=us) Pv ⟨none,[],rfl,s1,e1,Nat.le_refl _,[],e1,fun f=>rfl⟩ ?_ ?_ ?_
 ·rintro i σ G _ ⟨u2,kvs,rfl,sG,_⟩
  exact SqT.of (sG _ _ ha)
 ·rintro i x σ G hx ⟨u2,kvs,rfl,sG,hGd,hkz,kvs',hGd',hT⟩
  rw [hGd] at hGd'
  cases hGd'
  have hi:i < ps.length:=by have:=(List.getElem?_eq_some_iff.mp hx).1;omega
  obtain ⟨v,e3,e4⟩:=hL.get (j:=i) (d:=ps[i].toD) (by rw [List.getElem?_map,List.getElem?_eq_getElem hi];rfl)
  rw [hx] at e3
  cases e3
  have t1:=Zb (f:=Pc.tk) hi
  generalize ps[i]=p at *
  obtain ⟨b,ap,ar,an,ag,ab,vn,vg,vb,rfl,hb,hap,har,-⟩:=y7 e4
  refine gQ ?_
  refine ⟨_,rfl,.inr (.inr (.inl ⟨rfl,.inl ⟨kvs,hGd⟩⟩)),_,rfl,b,_,_,V.str p.f,rfl,rfl,SqT.of (sG _ _ hb),rfl,?_⟩
  refine ⟨_,rfl,b,_,_,V.ref ap,rfl,rfl,SqT.of (sG _ _ hb),rfl,ap,_,rfl,.inr (SqT.of (sG _ _ hap)),?_⟩
  refine ⟨_,rfl,b,_,_,V.ref ar,rfl,rfl,SqT.of (sG _ _ hb),rfl,ar,_,rfl,.inr (SqT.of (sG _ _ har)),sm rfl,fun t ht=>?_⟩
  rw [List.length_map,List.length_map]
  have s2:=jG ht (.tup [V.int (p.ps.length:Nat),V.int (p.rs.length:Nat)])
  have e2:upd G t (.tup [V.int (p.ps.length:Nat),V.int (p.rs.length:Nat)]) t=some (.tup [V.int (p.ps.length:Nat),V.int (p.rs.length:Nat)]):=jg
  generalize upd G t (.tup [V.int (p.ps.length:Nat),V.int (p.rs.length:Nat)])=G1 at *
  have ntd:t≠d:=fun z=>by rw [z,hGd] at ht;cases ht
  refine ⟨d,kvs,.inr p.f,.ref t,rfl,rfl,s2 _ _ hGd,j8 (by omega),?_⟩
  have hTf:=hT p.f
  cases e:((ps.take i).map Pc.tk).find? (fun t=>t.1 == p.f) with
  | some t0=>
   rw [e] at hTf
   obtain ⟨pt,g1,g2⟩:=hTf
   refine .inl ⟨_,g1,_,kvs,rfl,sG.trans s2,s2 _ _ hGd,by omega,TkAt.mono ⟨kvs,hGd,fun g=>?_⟩ s2⟩
   rw [t1,jay]
   have hTg:=hT g
   cases e':((ps.take i).map Pc.tk).find? (fun t=>t.1 == g) with
   | some t2=>rw [e'] at hTg;exact hTg
   | none=>
    rw [e'] at hTg
    dsimp only
    rw [if_neg (show ¬ p.tk.1=g from fun z:p.f=g=>by rw [← z,e] at e';cases e')]
    exact hTg
  | none=>
   rw [e] at hTf
   refine .inr ⟨hTf,_,q5 kvs (.inr p.f) (.ref t),rfl,fun b o e=>?_,jg,by have:=qM kvs (.inr p.f) (.ref t);omega,_,jg,fun g=>?_⟩
   ·rw [jx (ju e hd)];exact s2 _ _ (sG _ _ e)
   rw [t1,jay]
   have hTg:=hT g
   cases e':((ps.take i).map Pc.tk).find? (fun t=>t.1 == g) with
   | some t2=>
    rw [e'] at hTg
    obtain ⟨pt,g1,g2⟩:=hTg
    refine ⟨pt,?_,?_⟩
    ·rw [qT,if_neg (fun z=>?_)]
     ·exact g1
     ·injection z with z
      rw [z,e] at e';cases e'
    ·rw [jx (fun z=>by rw [z,hGd] at g2;cases g2)];exact s2 _ _ g2
   | none=>
    rw [e'] at hTg
    dsimp only
    by_cases z:p.f=g
    ·rw [if_pos (show p.tk.1=g from z)]
     exact ⟨t,by rw [qT,if_pos (by rw [z])],by rw [jx ntd];exact e2⟩
    ·rw [if_neg (show ¬ p.tk.1=g from z)]
     show qw _ _=none
     rw [qT,if_neg (fun y=>by injection y with y;exact z y.symm)]
     exact hTg
 rintro σ G ⟨u2,kvs,rfl,sG,hGd,-,hT⟩
 rw [← hlen,List.take_length] at hT
 intro e he
 have s3:=jG he (.dK [])
 have e3:upd G e (.dK []) e=some (.dK []):=jg
 generalize upd G e (.dK [])=G3 at *
 have hT3:=hT.mono s3
 have nde:d≠e:=fun z=>by rw [z,he] at hGd;cases hGd
 have hHe:H e=none:=sG.free he
 clear hT
 refine gQ ?_
 refine ⟨_,rfl,a,rfl,⟨_,SqT.of (s3 _ _ (sG _ _ ha))⟩,?_⟩
 let Pw:Nat→St→Hp→Prop:=fun i σ G=>∃ u2 u4 kvs,σ=[some (.ref a),some (.ref d),u2,some (.ref e),u4]∧Same H G∧TkAt G d (ps.map Pc.tk)∧G e=some (.dK kvs)∧kvs.length≤i∧(∀ g:Str,qw kvs (.inr g)≠none↔g∈(ps.take i).map Pc.f)∧qv (ps.map Pc.tk) [] ps=qv (ps.map Pc.tk) ((ps.take i).map Pc.f) (ps.drop i)
 refine zJ (xs:=us) Pw ⟨_,none,[],rfl,sG.trans s3,hT3,e3,Nat.le_refl _,fun _=>⟨fun z=>absurd rfl z,fun z=>nomatch z⟩,rfl⟩ ?_ ?_ ?_
 ·rintro i σ G _ ⟨u2,u4,kvs,rfl,sG,_⟩
  exact SqT.of (sG _ _ ha)
 ·rintro i x σ G hx ⟨u2,u4,kvs,rfl,sG,hT,hGe,hkz,hK,hR⟩
  have hi:i < ps.length:=by have:=(List.getElem?_eq_some_iff.mp hx).1;omega
  obtain ⟨v,e3,e4⟩:=hL.get (j:=i) (d:=ps[i].toD) (by rw [List.getElem?_map,List.getElem?_eq_getElem hi];rfl)
  rw [hx] at e3
  cases e3
  have t2:=Zb (f:=Pc.f) hi
  have fine:=hok _ (List.getElem_mem hi)
  rw [List.drop_eq_getElem_cons hi,qP] at hR
  generalize ps[i]=p at *
  obtain ⟨b,ap,ar,an,ag,ab,vn,vg,vb,rfl,hb,hap,har,-,-,-,-,hab,hbL⟩:=y7 e4
  have fl:=fine.pr.f
  refine gQ ?_
  refine ⟨_,rfl,b,_,_,V.str p.f,rfl,rfl,SqT.of (sG _ _ hb),rfl,_,rfl,e,_,rfl,.inl ⟨kvs,.inr p.f,Rd.of hGe,rfl,rfl⟩,_,rfl,jU (fun z=>?_) (fun z=>?_)⟩
  ·have hin:=(hK p.f).mp (fun h=>by rw [h] at z;cases z)
   rw [if_pos hin] at hR
   rw [hR] at q
   exact jc (n:=0) (Nat.le_refl _) (by decide +kernel) (by decide) fun o ho=>jf ho fl (by decide) (fun q h=>⟨_,rfl,b,_,_,_,rfl,rfl,SqT.of (sG _ _ hb),ko (j:=1) rfl,h⟩) fun o ho=>⟨kc (Nat.le_trans ho (by decide)),show 1≤1000 by decide,q _ sG⟩
  have hout:p.f ∉ (ps.take i).map Pc.f:=fun h=>by
   have:=(hK p.f).mpr h
   cases y:qw kvs (.inr p.f) with
   | none=>exact this y
   | some v=>rw [y] at z;exact z rfl
  rw [if_neg hout] at hR
  unfold Jo at hR
  refine ⟨_,rfl,.ref b,p,rfl,e4.mono sG,fine.len,fl,fun G1 s1=>?_⟩
  have sG1:=sG.trans s1
  cases hh:yD p with
  | some r=>rw [hh] at hR;rw [hR] at q;exact q _ sG1
  | none=>
  rw [hh] at hR
  dsimp only at hR ⊢
  refine ⟨_,rfl,.ref b,p,rfl,e4.mono sG1,fine.pr,fun hp G2 s2=>?_,fun hp G2 s2=>?_⟩
  rotate_left
  ·rw [if_neg hp] at hR;rw [hR] at q;exact q _ (sG1.trans s2)
  rw [if_pos hp] at hR
  have sG2:=sG1.trans s2
  obtain ⟨Ss,b1,b2⟩:=jez fine.lv
  refine ⟨_,rfl,b,_,_,V.ref ab,rfl,rfl,SqT.of (sG2 _ _ hb),rfl,ab,vb,Ss,rfl,sG2 _ _ hab,by rw [b1];exact hbL.mono sG2,by rw [b2];exact fine.few,fun l us2 G3 s3 n3 e3 hL3=>?_⟩
  rw [b2] at hL3
  have sG3:=sG2.trans s3
  have s13:=s1.trans (s2.trans s3)
  have hT3:=hT.mono s13
  have hGe3:=s13 _ _ hGe
  refine ⟨l,rfl,⟨_,SqL.of e3⟩,?_⟩
  let Px:Nat→St→Hp→Prop:=fun j σ G'=>∃ u4,σ=[some (.ref a),some (.ref d),some (.ref b),some (.ref e),u4]∧Same G3 G'∧yd (fun N=>stR N p (ps.map Pc.tk)) (ku p.lv p.bd)=yd (fun N=>stR N p (ps.map Pc.tk)) ((ku p.lv p.bd).drop j)
  have hl3:=hL3.length
  rw [List.length_map] at hl3
  refine yF (xs:=us2) Px ⟨_,rfl,fun _ _ z=>z,rfl⟩ ?_ ?_ ?_
  ·rintro j σ G' _ ⟨u4,rfl,sG',-⟩
   exact SqL.of (sG' _ _ e3)
  ·rintro j x σ G' hx ⟨u4,rfl,sG',hF⟩
   have hj:j < (ku p.lv p.bd).length:=by have:=(List.getElem?_eq_some_iff.mp hx).1;omega
   obtain ⟨v,e5,e6⟩:=hL3.get (j:=j) (d:=(ku p.lv p.bd)[j].toD) (by rw [List.getElem?_map,List.getElem?_eq_getElem hj];rfl)
   rw [hx] at e5
   cases e5
   obtain ⟨f1,f2⟩:=fine.st _ (List.getElem_mem hj)
   rw [List.drop_eq_getElem_cons hj,yG] at hF
   refine gQ ?_
   refine ⟨_,rfl,_,rfl,_,rfl,x,.ref b,d,(ku p.lv p.bd)[j],p,ps.map Pc.tk,rfl,e6.mono sG',e4.mono (sG3.trans sG'),hT3.mono sG',f1,f2,fun G5 s5=>?_⟩
   cases hh2:stR (ku p.lv p.bd)[j] p (ps.map Pc.tk) with
   | some r=>
    rw [hh2] at hF
    rw [hF] at hR
    rw [hR] at q
    exact q _ (sG3.trans (sG'.trans s5))
   | none=>
    rw [hh2] at hF
    exact ⟨_,rfl,sG'.trans s5,hF⟩
  rintro σ G' ⟨u4,rfl,sG',hF⟩
  rw [← hl3,List.drop_length] at hF
  rw [hF] at hR
  have hGe4:=sG' _ _ hGe3
  refine ⟨_,rfl,_,rfl,b,_,_,V.str p.f,rfl,rfl,SqT.of (sG' _ _ (sG3 _ _ hb)),rfl,e,_,rfl,DPut.k (k:=Sum.inr p.f) hGe4 (j8 (by omega)),?_⟩
  refine ⟨_,_,_,rfl,fun b o z=>?_,(hT3.mono sG').keep hGe4 nde,jg,by have:=qM kvs (.inr p.f) (.bl true);omega,fun g=>?_,?_⟩
  ·rw [jx (ju z hHe)];exact sG' _ _ (sG3 _ _ z)
  ·rw [t2,qT,List.mem_append,List.mem_singleton]
   by_cases y:g=p.f
   ·rw [if_pos (by rw [y])]
    exact ⟨fun _=>.inr y,fun _ h=>(nomatch h)⟩
   ·rw [if_neg (fun z=>by injection z with z;exact y z)]
    exact (hK g).trans ⟨.inl,fun h=>h.elim id fun z=>absurd z y⟩
  ·rw [t2];exact hR
 rintro σ G ⟨u2,u4,kvs,rfl,sG,-,-,-,-,hR⟩
 rw [← hlen,List.drop_length] at hR
 rw [hR] at q
 exact q _ sG
end
abbrev jaQ:Stmt:=top 26
abbrev jaP:Stmt:=top 27
abbrev jaN:Stmt:=top 28
abbrev J7:Stmt:=top 32
abbrev jaM:Stmt:=top 29
abbrev YR:Stmt:=top 30
abbrev Dl:Type:=Prod Int Int
def dlO (w:Int) (s:Dl):HO:=.lst [.int s.1,.int s.2]
theorem jeM {tt:TT} {ta tb u:TS} {D:Ends} {σ:St} {H:Hp} (J:St→Hp→Prop) (k:∀ σ' G,J σ' G→u D σ' G) (h:(∀ σ' G,J σ' G→u D σ' G)→Zd tt ta tb { D with nx:=u D } σ H):jI (Zd tt ta tb) u D σ H:=h k
def Keep (a:Addr) (H H':Hp):Prop:=∀ b o,b≠a→H b=some o→H' b=some o
theorem Keep.upd (a:Addr) (H:Hp) (o:HO):Keep a H (L2.upd H a o):=fun b u hb e=>by rw [jx hb];exact e
theorem Keep.trans {a:Addr} {H H1 H2:Hp} (h:Keep a H H1) (h':Keep a H1 H2):Keep a H H2:=fun b o hb e=>h' b o hb (h b o hb e)
theorem Keep.same {a:Addr} {H H':Hp} (h:Same H H'):Keep a H H':=fun b o _ e=>h b o e
theorem jr {H:Hp} {p:Addr} (h:H p=none) (o:HO):Same H (upd H p o):=fun b u q=>by rw [jx (ju q h)];exact q
def jao (x:Int):Int:=if x < 0 then -x else x
def KM (ns:List Int) (k:Int):Int×Dl:=
 (0,if k < (ns.length:Int)∧10 ^ 18≤jao (ns.getD k.toNat 0) then jao (ns.getD k.toNat 0) else 0,
  (if 0 < ns.length then ns.getD (k % (ns.length:Int)).toNat 0 * 48271+7919 * k * k else 7919 * k+11) % 2147483647)
def jl (w:Int) (n:Dl) (m:Int):Int×Dl:=
 if 0 < n.1 then (n.1 % m,n.1 / m,n.2) else
 let n1:=(n.2 * 48271+7919) % 2147483647
 let n2:=(n1 * 40692+104729) % 2147483399
 ((n1 * n1 % 2147483629 * 2147483563+n2 * n2 % 2147483563) % m,n.1,n2)
theorem jR (w:Int) (n:Dl) {m:Int} (h:0 < m):0≤(jl w n m).1:=by
 unfold jl
 split
 ·exact Int.emod_nonneg _ (by omega)
 ·exact Int.emod_nonneg _ (by omega)
theorem jL (w:Int) (n:Dl) {m:Int} (h:0 < m):(jl w n m).1 < m:=by
 unfold jl
 split
 ·exact Int.emod_lt_of_pos _ h
 ·exact Int.emod_lt_of_pos _ h
def JZ (w:Int) (n:Dl):Int×Dl:=
 let a:=jl w n 4
 if a.1 < 2 then jl w a.2 (if a.1=0 then 1 else 10)
 else ((5 - 2 * a.1) * (jl w a.2 (10 ^ 18+1)).1,(jl w a.2 (10 ^ 18+1)).2)
theorem jdt {ns:List Int} {k:Int} (h0:0≤k) (h:k < (ns.length:Int)):atI (ns.map V.int) k=some (.int (ns.getD k.toNat 0)):=by
 have hk:k.toNat < ns.length:=by omega
 have ek:k=((k.toNat:Nat):Int):=by omega
 have q:atI (ns.map V.int) ((k.toNat:Nat):Int)=some (.int (ns.getD k.toNat 0)):=ko (by rw [List.getElem?_map,List.getElem?_eq_getElem hk,List.getD_eq_getElem?_getD,List.getElem?_eq_getElem hk] <;> rfl)
 rw [← ek] at q
 exact q
def Z2 (K:W.Frag):Sp:=fun vs H Q _=>∃ (a:Addr) (ns:List Int) (k:Int),vs=[.ref a,.int k]∧SqL K H a (ns.map V.int)∧ns.length≤63∧0≤k∧k≤1000∧
 ∀ (r:Addr) (H':Hp),H r=none→Same H H'→H' r=some (dlO (KM ns k).1 (KM ns k).2)→Q (.ref r) H'
def qI:Sp:=fun vs H Q _=>∃ (a:Addr) (w:Int) (n:Dl) (m:Int),vs=[.ref a,.int m]∧H a=some (dlO w n)∧0 < m∧m < 2 ^ 200∧Q (.int (jl w n m).1) (upd H a (dlO w (jl w n m).2))
def jcc (K:W.Frag):Sp:=fun vs H Q _=>∃ (a:Addr) (ns:List Int),vs=[.ref a]∧SqL K H a (ns.map V.int)∧ns.length≤63∧Q (.int (if ns.length=0 then 1 else (ns.length:Nat))) H
def zQ:Sp:=fun vs H Q _=>∃ (a:Addr) (w:Int) (n:Dl),vs=[.ref a]∧H a=some (dlO w n)∧∀ H',Keep a H H'→H' a=some (dlO w (JZ w n).2)→Q (.int (JZ w n).1) H'
structure DealsAt (H:Hp) (a:Addr) (ds:List Addr) (L:List (Int×Dl)):Prop where
 l:H a=some (.lst (ds.map V.ref))
 n:ds.length=L.length
 nd:ds.Nodup
 few:ds.length≤100
 at_:∀ (i:Nat) d x,ds[i]?=some d→L[i]?=some x→H d=some (dlO x.1 x.2)
def qb:List (Int×Dl)→(Int×Dl)×List (Int×Dl)
 | []=>((0,1,7),[])
 | x :: L=>(x,L)
def y4:Sp:=fun vs H Q _=>∃ (a:Addr) (ds:List Addr) (L:List (Int×Dl)),vs=[.ref a]∧DealsAt H a ds L∧∀ (r:Addr) (H':Hp),Keep a H H'→(H r=none∨r∈ds)→H' r=some (dlO (qb L).1.1 (qb L).1.2)→r ∉ ds.tail→DealsAt H' a ds.tail (qb L).2→Q (.ref r) H'
def jE:List Str:=["each","rise","to","proc","need","give","back","any","claim","if","else","end","while","keep","call","out"]
def J3:Sp:=fun vs H Q _=>vs=[]∧∀ l,H l=none→Q (.ref l) (upd H l (.lst (jE.map V.str)))
section
variable {P:Program} {w:World} {K:W.Frag} {mg:Str→Option Value} {base:Heap}
theorem jeg {f:Addr} {fd:FuncData} (F:Fun K "_law_deal" "_law_deal" jaQ f fd) (B:Free0 mg):FnOk P w K mg base CX0 1 f fd ["_law_script","_law_k"] (Z2 K):=by
 have sc:FnScope ["_law_script","_law_k","_law_number_here","_law_own"] ["_law_script","_law_k"] (jw jaQ):=fQ
 refine F.okZ sc (fun vs H Q E h=>?_) (fun cdv A outer s H vs Q E hr h=>?_)
 ·obtain ⟨a,ns,k,rfl,_⟩:=h
  rfl
 obtain ⟨a,ns,k,rfl,hS,h63,h0,h1,q⟩:=h
 have hu:=jeX hr
 refine ⟨_,(je (js (i:=2) sc.nd rfl oQ (jD qX (jD zw ji (zpv 1)) ji))
   (je (js (i:=3) sc.nd rfl oQ ji)
   (je (jT (jv Jp (j0 jO (by rfl) B.len_ ke (jb (zpv 0) jd)) ji (jP _)) (jn (js (i:=2) sc.nd rfl oQ (jD qX (jD zw (jz jW (zpv 0) (jD zx (zpv 1) (j0 jO (by rfl) B.len_ ke (jb (zpv 0) jd))) (fun _ _=>rfl)) ji) (jD zw (jD zw ji (zpv 1)) (zpv 1))))) jA)
   (je (jT (qE (jv yw (zpv 1) (j0 jO (by rfl) B.len_ ke (jb (zpv 0) jd)) (jP _)) (qg (jv jgc (j0 ZR (by rfl) B.abs_ jdq (jb (jz jW (zpv 0) (zpv 1) (fun _ _=>rfl)) jd)) (jD jcC ji ji) (jP _)))).pt (jn (js (i:=3) sc.nd rfl oQ (j0 ZR (by rfl) B.abs_ jdq (jb (jz jW (zpv 0) (zpv 1) (fun _ _=>rfl)) jd)))) jA)
   (jn (jB (jM (jb (zpv 3) (jb (jD zx (zpv 2) ji) jd))))))))),?_⟩
 refine kb (σ':=[some (.ref a),some (.int k),none,none]) rfl ?_
 have hl:(ns.map V.int).length=ns.length:=List.length_map _
 refine ⟨_,rfl,_,_,rfl,rfl,.inl ⟨by decide,by decide⟩,_,_,rfl,rfl,?_⟩
 refine gQ ?_
 dsimp only
 refine (?_:qN 3 (V.int 0) [some (.ref a),some (.int k),some (.int (7919 * k+11)),none] H _)
 refine gQ ?_
 dsimp only
 unfold KM at q
 refine jeM (fun σ G=>σ=[some (.ref a),some (.int k),some (.int (if 0 < ns.length then ns.getD (k % (ns.length:Int)).toNat 0 * 48271+7919 * k * k else 7919 * k+11)),some (.int 0)]∧G=H) ?_ (fun kk=>?_)
 rotate_left
 ·refine ⟨_,rfl,a,_,rfl,.inl hS,_,_,rfl,rfl,_,rfl,jU (fun c=>?_) (fun c=>?_)⟩
  ·have c':0 < ns.length:=by
    have:=of_decide_eq_true c
    rw [hl] at this
    omega
   have hm0:0≤k % (ns.length:Int):=Int.emod_nonneg _ (by omega)
   have hm1:k % (ns.length:Int) < (ns.length:Int):=Int.emod_lt_of_pos _ (by omega)
   have hat:atI (ns.map V.int) (k % (((ns.map V.int).length:Nat):Int))=some (.int (ns.getD (k % (ns.length:Int)).toNat 0)):=by
    rw [hl]
    exact jdt hm0 hm1
   refine ⟨_,rfl,_,rfl,_,rfl,a,_,rfl,.inl hS,_,_,rfl,rfl,(by rw [hl];omega),a,_,_,_,rfl,rfl,hS,hat,_,_,rfl,rfl,.inr ⟨by decide,by decide⟩,_,rfl,_,_,rfl,rfl,.inl ⟨by decide,by decide⟩,_,rfl,_,_,rfl,rfl,.inl ⟨by omega,by omega⟩,_,_,rfl,rfl,?_⟩
   exact kk _ _ ⟨by rw [if_pos c'];rfl,rfl⟩
  ·have c':¬ 0 < ns.length:=fun e=>c (decide_eq_true (by rw [hl];omega))
   exact kk _ _ ⟨by rw [if_neg c'],rfl⟩
 rintro σ G ⟨rfl,rfl⟩
 generalize (if 0 < ns.length then ns.getD (k % (ns.length:Int)).toNat 0 * 48271+7919 * k * k else 7919 * k+11)=nh at *
 refine jeM (fun σ G'=>σ=[some (.ref a),some (.int k),some (.int nh),some (.int (if k < (ns.length:Int)∧10 ^ 18≤jao (ns.getD k.toNat 0) then jao (ns.getD k.toNat 0) else 0))]∧G'=G) ?_ (fun kk=>?_)
 rotate_left
 ·refine ⟨_,rfl,_,rfl,a,_,rfl,.inl hS,_,_,rfl,rfl,_,rfl,jU (fun c=>?_) (fun c=>?_)⟩
  ·have c':k < (ns.length:Int):=by
    have:=of_decide_eq_true c
    rw [hl] at this
    exact this
   have hat:atI (ns.map V.int) k=some (.int (ns.getD k.toNat 0)):=jdt h0 c'
   refine ⟨_,rfl,_,rfl,a,_,_,_,rfl,rfl,hS,hat,_,rfl,10,18,rfl,rfl,⟨by decide,by decide,by decide⟩,_,_,rfl,rfl,_,rfl,jU (fun c2=>?_) (fun c2=>?_)⟩
   ·have c2':=of_decide_eq_true c2
    refine ⟨_,rfl,_,rfl,a,_,_,_,rfl,rfl,hS,hat,_,rfl,?_⟩
    have e9:(if k < (ns.length:Int)∧10 ^ 18≤jao (ns.getD k.toNat 0) then jao (ns.getD k.toNat 0) else 0)=jao (ns.getD k.toNat 0):=if_pos ⟨c',c2'⟩
    exact kk _ _ ⟨by rw [e9];rfl,rfl⟩
   ·exact kk _ _ ⟨by rw [if_neg (fun h=>c2 (decide_eq_true h.2))],rfl⟩
  ·exact kk _ _ ⟨by rw [if_neg (fun h=>c (decide_eq_true (by rw [hl];exact h.1)))],rfl⟩
 rintro σ G' ⟨rfl,rfl⟩
 refine ⟨_,rfl,_,rfl,_,_,rfl,rfl,(by show (0:Int) < _;decide),sm rfl,fun r hr'=>?_⟩
 exact q r _ hr' (jr hr' _) jg
theorem jef {f:Addr} {fd:FuncData} (F:Fun K "_law_draw" "_law_draw" jaP f fd):FnOk P w K mg base CX0 1 f fd ["_law_deal_here","_law_many_here"] qI:=by
 have sc:FnScope ["_law_deal_here","_law_many_here","_law_found","_law_number_here","_law_one","_law_two"] ["_law_deal_here","_law_many_here"] (jw jaP):=fQ
 refine F.okZ sc (fun vs H Q E h=>?_) (fun cdv A outer s H vs Q E hr h=>?_)
 ·obtain ⟨a,w,n,m,rfl,_⟩:=h
  rfl
 obtain ⟨a,w,n,m,rfl,hS,h0,h1,q⟩:=h
 refine ⟨_,(je (jT (jv Jp (jz jW (zpv 0) ji (fun _ _=>rfl)) ji (jP _)) (je (js (i:=2) sc.nd rfl oQ (jD zx (jz jW (zpv 0) ji (fun _ _=>rfl)) (zpv 1)))
   (je (ql (jD yx (jz jW (zpv 0) ji (fun _ _=>rfl)) (zpv 1)) (jaq (zpv 0) ji Zn))
   (jn (jB (zpv 2))))) jA)
   (je (js (i:=3) sc.nd rfl oQ (jD zx (jD qX (jD zw (jz jW (zpv 0) ji (fun _ _=>rfl)) ji) ji) ji))
   (je (ql (jD zx (jD qX (jD zw (zpv 3) ji) ji) ji) (jaq (zpv 0) ji Zn))
   (je (js (i:=4) sc.nd rfl oQ (jD zx (jD zw (zpv 3) (zpv 3)) ji))
   (je (js (i:=5) sc.nd rfl oQ (jD zx (jD zw (jz jW (zpv 0) ji (fun _ _=>rfl)) (jz jW (zpv 0) ji (fun _ _=>rfl))) ji))
   (jn (jB (jD zx (jD qX (jD zw (zpv 4) ji) (zpv 5)) (zpv 1))))))))),?_⟩
 refine kb (σ':=[some (.ref a),some (.int m),none,none,none,none]) rfl ?_
 have hS':H a=some (.lst [.int n.1,.int n.2]):=hS
 refine ⟨_,rfl,a,_,_,_,rfl,rfl,SqL.of hS',rfl,_,_,rfl,rfl,_,rfl,jU (fun c=>?_) (fun c=>?_)⟩
 ·have c':=of_decide_eq_true c
  unfold jl at q
  rw [if_pos c'] at q
  refine ⟨_,rfl,a,_,_,_,rfl,rfl,SqL.of hS',rfl,_,rfl,_,_,rfl,rfl,h0,?_⟩
  refine gQ ?_
  refine ⟨_,rfl,a,_,_,_,rfl,rfl,SqL.of hS',rfl,_,rfl,_,_,rfl,rfl,⟨h0,h1⟩,_,rfl,a,_,_,0,rfl,rfl,hS',rfl,?_⟩
  exact ⟨_,rfl,q⟩
 ·have c':¬ 0 < n.1:=fun z=>c (decide_eq_true z)
  have b1:∀ x:Int,0≤x % 2147483647∧x % 2147483647 < 2147483647:=fun x=>⟨Int.emod_nonneg _ (by decide),Int.emod_lt_of_pos _ (by decide)⟩
  have b2:∀ x:Int,0≤x % 2147483399∧x % 2147483399 < 2147483399:=fun x=>⟨Int.emod_nonneg _ (by decide),Int.emod_lt_of_pos _ (by decide)⟩
  refine ⟨_,rfl,a,_,_,_,rfl,rfl,SqL.of hS',rfl,_,_,rfl,rfl,.inr ⟨by decide,by decide⟩,_,_,rfl,rfl,_,_,rfl,rfl,(by show (0:Int) < _;decide),?_⟩
  obtain ⟨x1,x2⟩:=b1 (n.2 * 48271+7919)
  unfold jl at q
  rw [if_neg c'] at q
  dsimp only at q
  refine gQ ?_
  refine ⟨_,rfl,_,_,rfl,rfl,.inr ⟨by decide,by decide⟩,_,_,rfl,rfl,_,_,rfl,rfl,(by show (0:Int) < _;decide),_,rfl,a,_,_,1,rfl,rfl,hS',rfl,?_⟩
  obtain ⟨y1,y2⟩:=b2 ((n.2 * 48271+7919) % 2147483647 * 40692+104729)
  refine ⟨_,rfl,_,rfl,_,_,rfl,rfl,.inl ⟨by omega,by omega⟩,_,_,rfl,rfl,(by show (0:Int) < _;decide),?_⟩
  refine gQ ?_
  refine ⟨_,rfl,a,_,_,_,rfl,rfl,SqL.of jg,rfl,_,rfl,a,_,_,_,rfl,rfl,SqL.of jg,rfl,_,_,rfl,rfl,.inl ⟨by omega,by omega⟩,_,_,rfl,rfl,(by show (0:Int) < _;decide),?_⟩
  refine gQ ?_
  refine ⟨_,rfl,_,_,rfl,rfl,.inr ⟨by decide,by decide⟩,_,rfl,_,_,rfl,rfl,_,rfl,_,_,rfl,rfl,h0,?_⟩
  exact q
theorem jed {f:Addr} {fd:FuncData} (F:Fun K "_law_many" "_law_many" jaN f fd) (B:Free0 mg):FnOk P w K mg base CX0 1 f fd ["_law_script"] (jcc K):=by
 have sc:FnScope ["_law_script"] ["_law_script"] (jw jaN):=fQ
 refine F.ok sc (fun vs H Q E h=>?_) (fun cdv A outer s H vs Q E hr h=>?_)
 ·obtain ⟨a,ns,rfl,_⟩:=h
  rfl
 obtain ⟨a,ns,rfl,hS,h63,q⟩:=h
 refine ⟨_,(Kb (YS (Zu (Yw rfl) (by rfl) B.max_ jdp (Kz yt (Kz (Zu (jbQ rfl) (by rfl) B.min_ jfG (Kz yt (Kz (Zu jO (by rfl) B.len_ ke (Kz (pv 0) yu)) yu))) yu))))),?_⟩
 refine ⟨_,rfl,a,_,rfl,.inl hS,_,_,rfl,_,_,rfl,?_⟩
 have e:(if (if (((ns.map V.int).length:Nat):Int) < 63 then (((ns.map V.int).length:Nat):Int) else 63) > 1 then (if (((ns.map V.int).length:Nat):Int) < 63 then (((ns.map V.int).length:Nat):Int) else 63) else 1)=(if ns.length=0 then 1 else ((ns.length:Nat):Int)):=by
  rw [List.length_map]
  split <;> split <;> (try split) <;> omega
 rw [e]
 exact q
theorem jbo {f:Addr} {fd:FuncData} (F:Fun K "_law_number" "_law_number" J7 f fd) (F_draw:Fn P w K mg base 1 "_law_draw" ["_law_deal_here","_law_many_here"] qI):FnOk P w K mg base CX0 2 f fd ["_law_deal_here"] zQ:=by
 have sc:FnScope ["_law_deal_here","_law_form"] ["_law_deal_here"] (jw J7):=fQ
 refine F.okZ sc (fun vs H Q E h=>?_) (fun cdv A outer s H vs Q E hr h=>?_)
 ·obtain ⟨a,w,n,rfl,_⟩:=h
  rfl
 obtain ⟨a,w,n,rfl,hS,q⟩:=h
 refine ⟨_,(je (js (i:=1) sc.nd rfl oQ (jH F_draw hr (jb (zpv 0) (jb ji jd))))
   (je (jT (jv yw (zpv 1) ji (jP _)) (jn (jB (jH F_draw hr (jb (zpv 0) (jb (jz jW (jM (jb ji (jb ji jd))) (zpv 1) (fun _ _=>rfl)) jd))))) jA)
   (jn (jB (jD zw (jD JG ji (jD zw ji (zpv 1))) (jH F_draw hr (jb (zpv 0) (jb (jD qX (jD jcC ji ji) ji) jd)))))))),?_⟩
 refine kb (σ':=[some (.ref a),none]) rfl ?_
 refine ⟨_,rfl,a,w,n,4,rfl,hS,by decide,by decide,?_⟩
 have lo:=jR w n (m:=4) (by decide)
 have hi:=jL w n (m:=4) (by decide)
 unfold JZ at q
 dsimp only at q
 generalize jl w n 4=x at *
 obtain ⟨x,n1⟩:=x
 dsimp only at lo hi q ⊢
 refine gQ ?_
 refine ⟨_,rfl,_,_,rfl,rfl,_,rfl,jU (fun c=>?_) (fun c=>?_)⟩
 ·have c':=of_decide_eq_true c
  rw [if_pos c'] at q
  refine ⟨_,rfl,sm rfl,fun p hp=>?_⟩
  have npa:a≠p:=fun z=>by rw [← z,jg] at hp;cases hp
  refine ⟨_,rfl,p,_,_,.int (if x=0 then 1 else 10),rfl,rfl,SqL.of jg,?_,?_⟩
  ·have:x=0∨x=1:=by omega
   rcases this with rfl | rfl <;> rfl
  ·refine ⟨a,w,n1,_,rfl,by rw [jx npa,jg],by split <;> decide,by split <;> decide,?_⟩
   refine q _ (fun b o hb e=>?_) jg
   rw [jx hb,jx (ju (by rw [jx hb];exact e) hp),jx hb]
   exact e
 ·have c':¬ x < 2:=fun z=>c (decide_eq_true z)
  rw [if_neg c'] at q
  refine ⟨_,rfl,_,_,rfl,rfl,.inl ⟨by decide,by decide⟩,_,_,rfl,rfl,_,rfl,_,_,rfl,rfl,⟨by decide,by decide,by decide⟩,_,_,rfl,rfl,?_⟩
  refine ⟨a,w,n1,10 ^ 18+1,rfl,jg,by decide,by decide,_,_,rfl,rfl,.inl ⟨by omega,by omega⟩,?_⟩
  rw [jdE]
  exact q _ (Keep.upd _ _ _) jg
theorem jeb {f:Addr} {fd:FuncData} (F:Fun K "_law_next" "_law_next" jaM f fd) (B:Free0 mg):FnOk P w K mg base CX0 1 f fd ["_law_deals"] y4:=by
 have sc:FnScope ["_law_deals"] ["_law_deals"] (jw jaM):=fQ
 refine F.ok sc (fun vs H Q E h=>?_) (fun cdv A outer s H vs Q E hr h=>?_)
 ·obtain ⟨a,ds,L,rfl,_⟩:=h
  rfl
 obtain ⟨a,ds,L,rfl,D,q⟩:=h
 refine ⟨_,(Zr (jeP (jaR Jp (Zu jO (by rfl) B.len_ ke (Kz (pv 0) yu)) yt (jP _)) (Kb (YS (jcB PySem.F.plainAttrs_list PySem.F.slot_list_pop PySem.F.type_list_pop Zx (pv 0) (Kz yt yu)))) jaS)
   (Kb (YS (jcx (Kz yt (Kz yt yu)))))),?_⟩
 refine ⟨_,rfl,a,_,rfl,.inl (SqL.of D.l),_,_,rfl,rfl,_,rfl,jU (fun c=>?_) (fun c=>?_)⟩
 ·have c':=of_decide_eq_true c
  rw [List.length_map] at c'
  have hn:=D.n
  obtain _ | ⟨d,ds⟩:=ds
  ·exact absurd c' (by decide)
  obtain _ | ⟨x,L⟩:=L
  ·cases hn
  refine ⟨_,rfl,.inl ⟨rfl,_,SqL.of D.l⟩,a,_,0,0,.ref d,rfl,rfl,D.l,by decide,by decide,?_,rfl,?_⟩
  ·unfold seqIndex?;simp
  have hd:=D.at_ 0 d x rfl rfl
  have nda:=D.nd
  rw [List.nodup_cons] at nda
  have nd:∀ b y z,H b=some (.lst [.int y,.int z])→b≠a:=fun b y z e q=>by rw [q,D.l] at e;cases e
  refine q d _ (Keep.upd a H _) (.inr (List.mem_cons_self ..)) (by rw [jx (nd _ _ _ hd)];exact hd) nda.1 ⟨jg,Nat.succ.inj hn,nda.2,Nat.le_trans (Nat.le_succ _) D.few,fun i e y he hy=>?_⟩
  have h2:=D.at_ (i+1) e y he hy
  rw [jx (nd _ _ _ h2)]
  exact h2
 ·have hz:ds=[]:=by
   have:¬ 0 < ds.length:=fun z=>c (decide_eq_true (by rw [List.length_map];omega))
   exact List.length_eq_zero_iff.mp (by omega)
  subst hz
  have hL:L=[]:=List.length_eq_zero_iff.mp D.n.symm
  subst hL
  refine ⟨sm rfl,fun p hp=>?_⟩
  have s1:=jr hp (.lst [V.int 1,V.int 7])
  exact q p _ (Keep.same s1) (.inl hp) jg (fun z=>by cases z) ⟨s1 _ _ D.l,rfl,List.nodup_nil,Nat.zero_le _,fun i d x h=>by cases h⟩
end
section
variable {P:Program} {w:World} {K:W.Frag} {mg:Str→Option Value} {base:Heap}
theorem jdJ:FnScope [] [] (jw YR):=fQ
theorem jcH {f:Addr} {fd:FuncData} (F:Fun K "_law_taken" "_law_taken" YR f fd):FnOk P w K mg base CX0 1 f fd [] J3:=by
 have sc:=jdJ
 refine F.okZ sc (fun vs H Q E h=>?_) (fun cdv A outer s H vs Q E hr h=>?_)
 ·obtain ⟨rfl,_⟩:=h
  rfl
 obtain ⟨rfl,q⟩:=h
 refine ⟨_,(jn (jB (jM (jb jq (jb jq (jb jq (jb jq (jb jq (jb jq (jb jq (jb jq (jb jq (jb jq (jb jq (jb jq (jb jq (jb jq (jb jq (jb jq jd))))))))))))))))))),?_⟩
 refine kb (σ':=[]) rfl ?_
 exact ⟨sm rfl,fun l hl=>q l hl⟩
end
abbrev J6:Stmt:=top 33
abbrev YQ:Stmt:=top 34
abbrev J8:Stmt:=top 35
def em (xs:List Str):List Str:=(Str.ofString "") :: xs
def qJ (xs:List Str) (d:Int):Str:=xs.getD d.toNat ""
theorem Ky {xs:List Str} {d:Int} (h0:0≤d) (h1:d < (xs.length:Nat)):qJ xs d∈xs:=by
 have:d.toNat < xs.length:=by omega
 unfold qJ
 rw [List.getD_eq_getElem?_getD,List.getElem?_eq_getElem this]
 exact List.getElem_mem this
theorem zp {xs:List Str} {d:Int} (h0:0≤d) (h1:d < (xs.length:Nat)):atI (xs.map V.str) d=some (.str (qJ xs d)):=by
 have hk:d.toNat < xs.length:=by omega
 have ek:d=((d.toNat:Nat):Int):=by omega
 have q:atI (xs.map V.str) ((d.toNat:Nat):Int)=some (.str (qJ xs d)):=ko (by unfold qJ;rw [List.getElem?_map,List.getElem?_eq_getElem hk,List.getD_eq_getElem?_getD,List.getElem?_eq_getElem hk] <;> rfl)
 rw [← ek] at q
 exact q
theorem Keep.tk {a:Addr} {H H':Hp} (k:Keep a H H') {xs:List V} (ha:H a=some (.lst xs)):TK H H':=fun b ys e=>k b _ (fun z=>by rw [z,ha] at e;cases e) e
theorem Keep.strs {a l:Addr} {H H':Hp} (k:Keep a H H') {w:Int} {n:Dl} {xs:List Str} (ha:H a=some (dlO w n)) (hl:H l=some (.lst (xs.map V.str))):H' l=some (.lst (xs.map V.str)):=k l _ (fun z=>by
 rw [z,ha] at hl
 cases xs with
 | nil=>cases hl
 | cons x xs=>injection hl with e;injection e with e;injection e with e;cases e) hl
def qW (w:Int) (n:Dl) (xs:List Str):(Str×Int)×Dl:=
 let a:=jl w n (((em xs).length:Nat):Int)
 let b:=JZ w a.2
 ((qJ (em xs) a.1,b.1),b.2)
def kZ (w:Int) (n:Dl) (xs rs:List Str):Tm×Dl:=
 let a:=jl w n 3
 if a.1=0∧0 < rs.length then
  let b:=jl w a.2 ((rs.length:Nat):Int)
  let p:=qW w b.2 xs
  (.at_ (qJ rs b.1) p.1.1 p.1.2,p.2)
 else
  let b:=jl w a.2 (((em xs).length:Nat):Int)
  (.is (qJ (em xs) b.1),b.2)
def zj (w:Int) (n:Dl) (xs rs:List Str):Cl×Dl:=
 let a:=kZ w n xs rs
 let b:=kZ w a.2 xs rs
 let c:=JZ w b.2
 (.least a.1 b.1 c.1,c.2)
def yq:Sp:=fun vs H Q _=>∃ (d l:Addr) (w:Int) (n:Dl) (xs:List Str),vs=[.ref d,.ref l]∧H d=some (dlO w n)∧H l=some (.lst (xs.map V.str))∧xs.length≤100∧∀ u H',Keep d H H'→H' d=some (dlO w (qW w n xs).2)→Held H' (plD (qW w n xs).1.1 (qW w n xs).1.2) u→Q u H'
def Jh:Sp:=fun vs H Q _=>∃ (d l r:Addr) (w:Int) (n:Dl) (xs rs:List Str),vs=[.ref d,.ref l,.ref r]∧H d=some (dlO w n)∧H l=some (.lst (xs.map V.str))∧H r=some (.lst (rs.map V.str))∧xs.length≤100∧rs.length≤100∧∀ u H',Keep d H H'→H' d=some (dlO w (kZ w n xs rs).2)→Held H' (kZ w n xs rs).1.toD u→Q u H'
def Ji:Sp:=fun vs H Q _=>∃ (d l r:Addr) (w:Int) (n:Dl) (xs rs:List Str),vs=[.ref d,.ref l,.ref r]∧H d=some (dlO w n)∧H l=some (.lst (xs.map V.str))∧H r=some (.lst (rs.map V.str))∧xs.length≤100∧rs.length≤100∧∀ u H',Keep d H H'→H' d=some (dlO w (zj w n xs rs).2)→Held H' (zj w n xs rs).1.toD u→Q u H'
section
variable {P:Program} {w:World} {K:W.Frag} {mg:Str→Option Value} {base:Heap}
theorem jbn {f:Addr} {fd:FuncData} (F:Fun K "_law_place" "_law_place" J6 f fd) (B:Free0 mg) (F_draw:Fn P w K mg base 1 "_law_draw" ["_law_deal_here","_law_many_here"] qI) (F_number:Fn P w K mg base 2 "_law_number" ["_law_deal_here"] zQ):FnOk P w K mg base CX0 3 f fd ["_law_deal_here","_law_numbers"] yq:=by
 have sc:FnScope ["_law_deal_here","_law_numbers","_law_some","_law_x"] ["_law_deal_here","_law_numbers"] (jw J6):=fQ
 refine F.okZ sc (fun vs H Q E h=>?_) (fun cdv A outer s H vs Q E hr h=>?_)
 ·obtain ⟨d,l,w,n,xs,rfl,_⟩:=h
  rfl
 obtain ⟨d,l,w,n,xs,rfl,hd,hl,hz,q⟩:=h
 refine ⟨_,(je (js (i:=2) sc.nd rfl oQ (jD kB (jM (jb jq jd)) (zpv 1)))
   (je (js (i:=3) sc.nd rfl oQ (jz jW (zpv 2) (jH F_draw hr (jb (zpv 0) (jb (j0 jO (by rfl) B.len_ ke (jb (zpv 2) jd)) jd))) (fun _ _=>rfl)))
   (jn (jB (jX (jb (zpv 3) (jb (jH F_number hr (jb (zpv 0) jd)) jd))))))),?_⟩
 refine kb (σ':=[some (.ref d),some (.ref l),none,none]) rfl ?_
 refine ⟨sm rfl,fun p hp=>?_⟩
 have s1:=jr hp (.lst [V.str (Str.ofString "")])
 have e1:upd H p (.lst [V.str (Str.ofString "")]) p=some (.lst [V.str (Str.ofString "")]):=jg
 generalize upd H p (.lst [V.str (Str.ofString "")])=H1 at *
 refine ⟨_,rfl,p,l,_,_,rfl,rfl,e1,s1 _ _ hl,kc (by rw [List.length_map];simp only [List.length_cons,List.length_nil];omega),fun t ht=>?_⟩
 have s2:=s1.trans (jr ht (.lst ([V.str (Str.ofString "")]++xs.map V.str)))
 have e2:upd H1 t (.lst ([V.str (Str.ofString "")]++xs.map V.str)) t=some (.lst ((em xs).map V.str)):=jg
 generalize upd H1 t (.lst ([V.str (Str.ofString "")]++xs.map V.str))=H2 at *
 have lem:(em xs).length=xs.length+1:=rfl
 refine gQ ?_
 have lo:=jR w n (m:=((em xs).length:Nat)) (by omega)
 have hi:=jL w n (m:=((em xs).length:Nat)) (by omega)
 refine ⟨_,rfl,_,rfl,_,rfl,t,_,rfl,.inl (SqL.of e2),d,w,n,((em xs).length:Nat),by rw [List.length_map];rfl,s2 _ _ hd,by omega,by omega,t,_,_,_,rfl,rfl,SqL.of ((Keep.upd d H2 _).strs (s2 _ _ hd) e2),zp lo hi,?_⟩
 refine gQ ?_
 refine ⟨_,rfl,_,rfl,d,w,_,rfl,jg,fun H3 k3 d3=>⟨sm rfl,fun p hp=>?_⟩⟩
 have s4:=jr hp (.tup [V.str (qJ (em xs) (jl w n ((em xs).length:Nat)).1),V.int (JZ w (jl w n ((em xs).length:Nat)).2).1])
 exact q _ _ ((Keep.same s2).trans ((Keep.upd d H2 _).trans (k3.trans (Keep.same s4)))) (s4 _ _ d3) (jQ jg (jh jj (jh kP jt)))
theorem jcG {f:Addr} {fd:FuncData} (F:Fun K "_law_term" "_law_term" YQ f fd) (B:Free0 mg) (F_draw:Fn P w K mg base 1 "_law_draw" ["_law_deal_here","_law_many_here"] qI) (F_place:Fn P w K mg base 3 "_law_place" ["_law_deal_here","_law_numbers"] yq):FnOk P w K mg base CX0 4 f fd ["_law_deal_here","_law_numbers","_law_rows"] Jh:=by
 have sc:FnScope ["_law_deal_here","_law_numbers","_law_rows","_law_r","_law_some"] ["_law_deal_here","_law_numbers","_law_rows"] (jw YQ):=fQ
 refine F.okZ sc (fun vs H Q E h=>?_) (fun cdv A outer s H vs Q E hr h=>?_)
 ·obtain ⟨d,l,r,w,n,xs,rs,rfl,_⟩:=h
  rfl
 obtain ⟨d,l,r,w,n,xs,rs,rfl,hd,hl,hr',hz,hz2,q⟩:=h
 refine ⟨_,(je (jT (qE (jv kq (jH F_draw hr (jb (zpv 0) (jb ji jd))) ji (jP _)) (qg (jv Jp (j0 jO (by rfl) B.len_ ke (jb (zpv 2) jd)) ji (jP _)))).pt (je (js (i:=3) sc.nd rfl oQ (jz jW (zpv 2) (jH F_draw hr (jb (zpv 0) (jb (j0 jO (by rfl) B.len_ ke (jb (zpv 2) jd)) jd))) (fun _ _=>rfl)))
   (jn (jB (jX (jb jq (jb (zpv 3) (jb (jH F_place hr (jb (zpv 0) (jb (zpv 1) jd))) jd))))))) jA)
   (je (js (i:=4) sc.nd rfl oQ (jD kB (jM (jb jq jd)) (zpv 1)))
   (jn (jB (jX (jb jq (jb (jz jW (zpv 4) (jH F_draw hr (jb (zpv 0) (jb (j0 jO (by rfl) B.len_ ke (jb (zpv 4) jd)) jd))) (fun _ _=>rfl)) jd))))))),?_⟩
 refine kb (σ':=[some (.ref d),some (.ref l),some (.ref r),none,none]) rfl ?_
 have k0:=Keep.upd d H (dlO w (jl w n 3).2)
 have d0:upd H d (dlO w (jl w n 3).2) d=some (dlO w (jl w n 3).2):=jg
 refine zu (fun b G=>b=decide ((jl w n 3).1=0∧0 < rs.length)∧G=upd H d (dlO w (jl w n 3).2)) (fun b G hb=>?_) (fun kk=>?_)
 rotate_left
 ·refine ⟨_,rfl,d,w,n,3,rfl,hd,by decide,by decide,rfl,_,rfl,jU (fun z=>?_) (fun z=>kk false _ ⟨?_,rfl⟩)⟩
  ·have z':(jl w n 3).1=0:=by have:=of_decide_eq_true z;injection this
   refine ⟨_,rfl,r,_,rfl,.inl (SqL.of (k0.strs hd hr')),_,_,rfl,rfl,_,rfl,kk _ _ ⟨?_,rfl⟩⟩
   rw [List.length_map]
   exact decide_eq_decide.mpr ⟨fun h=>⟨z',by omega⟩,fun h=>by omega⟩
  ·exact (decide_eq_false fun h=>z (decide_eq_true (congrArg V.int h.1))).symm
 obtain ⟨rfl,rfl⟩:=hb
 have hl0:=k0.strs hd hl
 have hr0:=k0.strs hd hr'
 unfold kZ at q
 dsimp only at q
 generalize upd H d (dlO w (jl w n 3).2)=H0 at *
 generalize jl w n 3=x at *
 obtain ⟨x,n1⟩:=x
 dsimp only at q d0
 by_cases c:x=0∧0 < rs.length
 ·rw [decide_eq_true c]
  refine yl ?_
  rw [if_pos c] at q
  have lo:=jR w n1 (m:=(rs.length:Nat)) (by omega)
  have hi:=jL w n1 (m:=(rs.length:Nat)) (by omega)
  have k1:=Keep.upd d H0 (dlO w (jl w n1 (rs.length:Nat)).2)
  refine ⟨_,rfl,_,rfl,_,rfl,r,_,rfl,.inl (SqL.of hr0),d,w,n1,(rs.length:Nat),by rw [List.length_map];rfl,d0,by omega,by omega,r,_,_,_,rfl,rfl,SqL.of (k1.strs d0 hr0),zp lo hi,?_⟩
  refine gQ ?_
  refine ⟨_,rfl,_,rfl,_,rfl,d,l,w,_,xs,rfl,jg,k1.strs d0 hl0,hz,fun u H3 k3 d3 h3=>⟨sm rfl,fun p hp=>?_⟩⟩
  have s4:=jr hp (.tup [V.str (Str.ofString "at"),V.str (qJ rs (jl w n1 (rs.length:Nat)).1),u])
  exact q _ _ (k0.trans (k1.trans (k3.trans (Keep.same s4)))) (s4 _ _ d3) (jQ jg (jh jj (jh jj (jh (h3.mono s4) jt))))
 rw [decide_eq_false c]
 refine Ja ?_
 rw [if_neg c] at q
 refine ⟨sm rfl,fun p hp=>?_⟩
 have s1:=jr hp (.lst [V.str (Str.ofString "")])
 have e1:upd H0 p (.lst [V.str (Str.ofString "")]) p=some (.lst [V.str (Str.ofString "")]):=jg
 generalize upd H0 p (.lst [V.str (Str.ofString "")])=H1 at *
 refine ⟨_,rfl,p,l,_,_,rfl,rfl,e1,s1 _ _ hl0,kc (by rw [List.length_map];simp only [List.length_cons,List.length_nil];omega),fun t ht=>?_⟩
 have s2:=s1.trans (jr ht (.lst ([V.str (Str.ofString "")]++xs.map V.str)))
 have e2:upd H1 t (.lst ([V.str (Str.ofString "")]++xs.map V.str)) t=some (.lst ((em xs).map V.str)):=jg
 generalize upd H1 t (.lst ([V.str (Str.ofString "")]++xs.map V.str))=H2 at *
 have lem:(em xs).length=xs.length+1:=rfl
 refine gQ ?_
 have lo:=jR w n1 (m:=((em xs).length:Nat)) (by omega)
 have hi:=jL w n1 (m:=((em xs).length:Nat)) (by omega)
 have k3:=Keep.upd d H2 (dlO w (jl w n1 ((em xs).length:Nat)).2)
 refine ⟨_,rfl,_,rfl,_,rfl,t,_,rfl,.inl (SqL.of e2),d,w,n1,((em xs).length:Nat),by rw [List.length_map];rfl,s2 _ _ d0,by omega,by omega,t,_,_,_,rfl,rfl,SqL.of (k3.strs (s2 _ _ d0) e2),zp lo hi,sm rfl,fun p hp=>?_⟩
 have s4:=jr hp (.tup [V.str (Str.ofString "is"),V.str (qJ (em xs) (jl w n1 ((em xs).length:Nat)).1)])
 exact q _ _ (k0.trans ((Keep.same s2).trans (k3.trans (Keep.same s4)))) (s4 _ _ jg) (jQ jg (jh jj (jh jj jt)))
theorem jbr {f:Addr} {fd:FuncData} (F:Fun K "_law_least" "_law_least" J8 f fd) (F_term:Fn P w K mg base 4 "_law_term" ["_law_deal_here","_law_numbers","_law_rows"] Jh) (F_number:Fn P w K mg base 2 "_law_number" ["_law_deal_here"] zQ):FnOk P w K mg base CX0 5 f fd ["_law_deal_here","_law_numbers","_law_rows"] Ji:=by
 have sc:FnScope ["_law_deal_here","_law_numbers","_law_rows","_law_one","_law_other"] ["_law_deal_here","_law_numbers","_law_rows"] (jw J8):=fQ
 refine F.okZ sc (fun vs H Q E h=>?_) (fun cdv A outer s H vs Q E hr h=>?_)
 ·obtain ⟨d,l,r,w,n,xs,rs,rfl,_⟩:=h
  rfl
 obtain ⟨d,l,r,w,n,xs,rs,rfl,hd,hl,hr',hz,hz2,q⟩:=h
 refine ⟨_,(je (js (i:=3) sc.nd rfl oQ (jH F_term hr (jb (zpv 0) (jb (zpv 1) (jb (zpv 2) jd)))))
   (je (js (i:=4) sc.nd rfl oQ (jH F_term hr (jb (zpv 0) (jb (zpv 1) (jb (zpv 2) jd)))))
   (jn (jB (jX (jb jq (jb (zpv 3) (jb (zpv 4) (jb (jH F_number hr (jb (zpv 0) jd)) jd))))))))),?_⟩
 refine kb (σ':=[some (.ref d),some (.ref l),some (.ref r),none,none]) rfl ?_
 refine ⟨_,rfl,_,rfl,_,rfl,d,l,r,w,n,xs,rs,rfl,hd,hl,hr',hz,hz2,fun u H1 k1 d1 h1=>?_⟩
 refine gQ ?_
 refine ⟨_,rfl,_,rfl,_,rfl,d,l,r,w,_,xs,rs,rfl,d1,k1.strs hd hl,k1.strs hd hr',hz,hz2,fun u2 H2 k2 d2 h2=>?_⟩
 refine gQ ?_
 refine ⟨_,rfl,_,rfl,_,rfl,d,w,_,rfl,d2,fun H3 k3 d3=>⟨sm rfl,fun p hp=>?_⟩⟩
 have s4:=jr hp (.tup [V.str "least",u,u2,V.int (JZ w (kZ w (kZ w n xs rs).2 xs rs).2).1])
 refine q _ _ (k1.trans (k2.trans (k3.trans (Keep.same s4)))) (s4 _ _ d3) (jQ jg (jh jj (jh ?_ (jh ?_ (jh kP jt)))))
 ·exact (((k2.tk d1).held h1 |> (k3.tk d2).held)).mono s4
 ·exact ((k3.tk d2).held h2).mono s4
end
abbrev J9:Stmt:=top 36
theorem jbe {tt:TT} {ta tb u:TS} {D:Ends} {σ:St} {H:Hp} (J:St→Hp→Prop) (k:∀ σ' G,J σ' G→u D σ' G) (h:(∀ σ' G,J σ' G→u D σ' G)→Zd tt ta tb { D with nx:=u D } σ H):jI (Zd tt ta tb) u D σ H:=h k
def jgq:Tm→Bd
 | .is x=>.is x
 | .at_ _ x _=>.is x
theorem jb3 (w:Int) (n:Dl) (xs:List Str):(kZ w n xs []).1.toD=(jgq (kZ w n xs []).1).toD:=by
 unfold kZ
 dsimp only
 rw [if_neg (fun h=>absurd h.2 (by decide))]
 rfl
def bdN (w:Int) (n:Dl) (xs rs:List Str):Bd×Dl:=
 let b:=kZ w n xs []
 let e:=jl w b.2 2
 if e.1=0 then
  let k:=jl w e.2 ((rs.length:Nat):Int)
  (.row (qJ rs k.1),k.2)
 else (jgq b.1,e.2)
def je6 (d:Int):Str:=if d=0 then ">=" else "<="
def Jb (w:Int) (n:Dl) (xs rs:List Str):Cl×Dl:=
 let a:=jl w n 4
 if a.1 < 2∨rs.length=0 then zj w a.2 xs rs else
 let t:=qW w a.2 xs
 let u:=qW w t.2 xs
 let r:=jl w u.2 ((rs.length:Nat):Int)
 if a.1=2 then (.rise t.1.1 t.1.2 u.1.1 u.1.2 (qJ rs r.1),r.2) else
 let b:=bdN w r.2 xs rs
 let y:=jl w b.2 2
 let c:=JZ w y.2
 (.each t.1.1 t.1.2 u.1.1 u.1.2 (qJ rs r.1) (je6 y.1) b.1 c.1,c.2)
def Jj:Sp:=fun vs H Q _=>∃ (d l r:Addr) (w:Int) (n:Dl) (xs rs:List Str),vs=[.ref d,.ref l,.ref r]∧H d=some (dlO w n)∧H l=some (.lst (xs.map V.str))∧H r=some (.lst (rs.map V.str))∧xs.length≤100∧rs.length≤100∧∀ u H',Keep d H H'→H' d=some (dlO w (Jb w n xs rs).2)→Held H' (Jb w n xs rs).1.toD u→Q u H'
section
variable {P:Program} {w:World} {K:W.Frag} {mg:Str→Option Value} {base:Heap}
theorem jbu {f:Addr} {fd:FuncData} (F:Fun K "_law_claim" "_law_claim" J9 f fd) (B:Free0 mg) (F_draw:Fn P w K mg base 1 "_law_draw" ["_law_deal_here","_law_many_here"] qI) (F_number:Fn P w K mg base 2 "_law_number" ["_law_deal_here"] zQ) (F_place:Fn P w K mg base 3 "_law_place" ["_law_deal_here","_law_numbers"] yq) (F_term:Fn P w K mg base 4 "_law_term" ["_law_deal_here","_law_numbers","_law_rows"] Jh) (F_least:Fn P w K mg base 5 "_law_least" ["_law_deal_here","_law_numbers","_law_rows"] Ji):FnOk P w K mg base CX0 6 f fd ["_law_deal_here","_law_numbers","_law_rows"] Jj:=by
 have sc:FnScope ["_law_deal_here","_law_numbers","_law_rows","_law_form","_law_t","_law_u","_law_r","_law_b","_law_way"] ["_law_deal_here","_law_numbers","_law_rows"] (jw J9):=fQ
 refine F.okZ sc (fun vs H Q E h=>?_) (fun cdv A outer s H vs Q E hr h=>?_)
 ·obtain ⟨d,l,r,w,n,xs,rs,rfl,_⟩:=h
  rfl
 obtain ⟨d,l,r,w,n,xs,rs,rfl,hd,hl,hr',hz,hz2,q⟩:=h
 refine ⟨_,(je (js (i:=3) sc.nd rfl oQ (jH F_draw hr (jb (zpv 0) (jb ji jd))))
   (je (jT (Ki (jv yw (zpv 3) ji (jP _)) (YF (jv kq (j0 jO (by rfl) B.len_ ke (jb (zpv 2) jd)) ji (jP _)))).pt (jn (jB (jH F_least hr (jb (zpv 0) (jb (zpv 1) (jb (zpv 2) jd)))))) jA)
   (je (js (i:=4) sc.nd rfl oQ (jH F_place hr (jb (zpv 0) (jb (zpv 1) jd))))
   (je (js (i:=5) sc.nd rfl oQ (jH F_place hr (jb (zpv 0) (jb (zpv 1) jd))))
   (je (js (i:=6) sc.nd rfl oQ (jz jW (zpv 2) (jH F_draw hr (jb (zpv 0) (jb (j0 jO (by rfl) B.len_ ke (jb (zpv 2) jd)) jd))) (fun _ _=>rfl)))
   (je (jT (jv kq (zpv 3) ji (jP _)) (jn (jB (jX (jb jq (jb (zpv 4) (jb (zpv 5) (jb (zpv 6) jd))))))) jA)
   (je (js (i:=7) sc.nd rfl oQ (jH F_term hr (jb (zpv 0) (jb (zpv 1) (jb (jM jd) jd)))))
   (je (jT (jv kq (jH F_draw hr (jb (zpv 0) (jb ji jd))) ji (jP _)) (jn (js (i:=7) sc.nd rfl oQ (jX (jb jq (jb (jz jW (zpv 2) (jH F_draw hr (jb (zpv 0) (jb (j0 jO (by rfl) B.len_ ke (jb (zpv 2) jd)) jd))) (fun _ _=>rfl)) jd))))) jA)
   (je (js (i:=8) sc.nd rfl oQ (jz jW (jM (jb jq (jb jq jd))) (jH F_draw hr (jb (zpv 0) (jb ji jd))) (fun _ _=>rfl)))
   (jn (jB (jX (jb jq (jb (zpv 4) (jb (zpv 5) (jb (zpv 6) (jb (zpv 8) (jb (zpv 7) (jb (jH F_number hr (jb (zpv 0) jd)) jd))))))))))))))))))),?_⟩
 try dsimp only [q0]
 refine kb (σ':=[some (.ref d),some (.ref l),some (.ref r),none,none,none,none,none,none]) rfl ?_
 refine jeY ?_
 intro _ _ _ _ _ _
 refine ⟨_,rfl,d,w,n,4,rfl,hd,by decide,by decide,?_⟩
 have k0:=Keep.upd d H (dlO w (jl w n 4).2)
 have d0:upd H d (dlO w (jl w n 4).2) d=some (dlO w (jl w n 4).2):=jg
 have hl0:=k0.strs hd hl
 have hr0:=k0.strs hd hr'
 have lo0:=jR w n (m:=4) (by decide)
 have hi0:=jL w n (m:=4) (by decide)
 unfold Jb at q
 dsimp only at q
 generalize upd H d (dlO w (jl w n 4).2)=H0 at *
 generalize jl w n 4=x at *
 obtain ⟨x,n1⟩:=x
 dsimp only at q d0 lo0 hi0 ⊢
 refine gQ ?_
 refine zu (fun b G=>b=decide (x < 2∨rs.length=0)∧G=H0) (fun b G hb=>?_) (fun kk=>?_)
 rotate_left
 ·refine ⟨_,rfl,_,_,rfl,rfl,_,rfl,jU (fun z=>kk true _ ⟨(decide_eq_true (.inl (of_decide_eq_true z))).symm,rfl⟩) (fun z=>?_)⟩
  refine ⟨_,rfl,r,_,rfl,.inl (SqL.of hr0),rfl,_,rfl,kk _ _ ⟨?_,rfl⟩⟩
  rw [List.length_map]
  refine decide_eq_decide.mpr ⟨fun h=>.inr (by injection h;omega),fun h=>?_⟩
  rcases h with h | h
  ·exact absurd (decide_eq_true h) z
  ·rw [h];rfl
 obtain ⟨rfl,rfl⟩:=hb
 by_cases c:x < 2∨rs.length=0
 ·rw [decide_eq_true c]
  refine yl ?_
  rw [if_pos c] at q
  exact ⟨_,rfl,_,rfl,_,rfl,d,l,r,w,n1,xs,rs,rfl,d0,hl0,hr0,hz,hz2,fun u H1 k1 d1 h1=>q u H1 (k0.trans k1) d1 h1⟩
 rw [decide_eq_false c]
 refine Ja ?_
 rw [if_neg c] at q
 have hp:0 < rs.length:=by omega
 refine ⟨_,rfl,_,rfl,d,l,w,n1,xs,rfl,d0,hl0,hz,fun u1 H1 k1 d1 h1=>?_⟩
 have hl1:=k1.strs d0 hl0
 have hr1:=k1.strs d0 hr0
 generalize qW w n1 xs=t at *
 refine gQ ?_
 refine ⟨_,rfl,_,rfl,d,l,w,t.2,xs,rfl,d1,hl1,hz,fun u2 H2 k2 d2 h2=>?_⟩
 have hl2:=k2.strs d1 hl1
 have hr2:=k2.strs d1 hr1
 have h12:=(k2.tk d1).held h1
 generalize qW w t.2 xs=u at *
 refine gQ ?_
 have lo:=jR w u.2 (m:=(rs.length:Nat)) (by omega)
 have hi:=jL w u.2 (m:=(rs.length:Nat)) (by omega)
 have k3:=Keep.upd d H2 (dlO w (jl w u.2 (rs.length:Nat)).2)
 have d3:upd H2 d (dlO w (jl w u.2 (rs.length:Nat)).2) d=some (dlO w (jl w u.2 (rs.length:Nat)).2):=jg
 have hl3:=k3.strs d2 hl2
 have hr3:=k3.strs d2 hr2
 have h13:=(k3.tk d2).held h12
 have h23:=(k3.tk d2).held h2
 refine ⟨_,rfl,_,rfl,_,rfl,r,_,rfl,.inl (SqL.of hr2),d,w,u.2,(rs.length:Nat),by rw [List.length_map];rfl,d2,by omega,by omega,r,_,_,_,rfl,rfl,SqL.of hr3,zp lo hi,?_⟩
 generalize upd H2 d (dlO w (jl w u.2 (rs.length:Nat)).2)=H3 at *
 generalize jl w u.2 (rs.length:Nat)=y at *
 have k03:=k0.trans (k1.trans (k2.trans k3))
 refine gQ ?_
 refine ⟨_,rfl,rfl,_,rfl,jU (fun z=>?_) (fun z=>?_)⟩
 ·have z':x=2:=by have:=of_decide_eq_true z;injection this
  rw [if_pos z'] at q
  refine ⟨_,rfl,_,rfl,_,rfl,sm rfl,fun p hp=>?_⟩
  have s4:=jr hp (.tup [V.str (Str.ofString "rise"),u1,u2,V.str (qJ rs y.1)])
  exact q _ _ (k03.trans (Keep.same s4)) (s4 _ _ d3) (jQ jg (jh jj (jh (h13.mono s4) (jh (h23.mono s4) (jh jj jt)))))
 have z':¬ x=2:=fun h=>z (decide_eq_true (congrArg V.int h))
 rw [if_neg z'] at q
 refine ⟨_,rfl,_,rfl,sm rfl,fun p hp=>?_⟩
 have s4:=jr hp (.lst [])
 refine ⟨d,l,p,w,y.2,xs,[],rfl,s4 _ _ d3,s4 _ _ hl3,jg,hz,Nat.zero_le _,fun u4 H4 k4 d4 h4=>?_⟩
 have k34:Keep d H3 H4:=(Keep.same s4).trans k4
 have hr4:=k34.strs d3 hr3
 have h14:=(k34.tk d3).held h13
 have h24:=(k34.tk d3).held h23
 rw [jb3] at h4
 refine gQ ?_
 dsimp only
 refine jbe (fun σ G=>∃ v,σ=[some (.ref d),some (.ref l),some (.ref r),some (.int x),some u1,some u2,some (.str (qJ rs y.1)),some v,none]∧Keep d H4 G∧G d=some (dlO w (bdN w y.2 xs rs).2)∧Held G (bdN w y.2 xs rs).1.toD v) ?_ (fun kk=>?_)
 rotate_left
 ·unfold bdN at kk
  dsimp only at kk
  have k5:=Keep.upd d H4 (dlO w (jl w (kZ w y.2 xs []).2 2).2)
  have d5:upd H4 d (dlO w (jl w (kZ w y.2 xs []).2 2).2) d=some (dlO w (jl w (kZ w y.2 xs []).2 2).2):=jg
  have hr5:=k5.strs d4 hr4
  have h45:=(k5.tk d4).held h4
  refine ⟨_,rfl,d,w,_,2,rfl,d4,by decide,by decide,rfl,_,rfl,?_⟩
  generalize upd H4 d (dlO w (jl w (kZ w y.2 xs []).2 2).2)=H5 at *
  generalize jl w (kZ w y.2 xs []).2 2=e at *
  refine jU (fun z=>?_) (fun z=>?_)
  ·have z2:e.1=0:=by have:=of_decide_eq_true z;injection this
   rw [if_pos z2] at kk
   have lo:=jR w e.2 (m:=(rs.length:Nat)) (by omega)
   have hi:=jL w e.2 (m:=(rs.length:Nat)) (by omega)
   have k6:=Keep.upd d H5 (dlO w (jl w e.2 (rs.length:Nat)).2)
   refine ⟨_,rfl,_,rfl,_,rfl,r,_,rfl,.inl (SqL.of hr5),d,w,e.2,(rs.length:Nat),by rw [List.length_map];rfl,d5,by omega,by omega,r,_,_,_,rfl,rfl,SqL.of (k6.strs d5 hr5),zp lo hi,sm rfl,fun p hp=>?_⟩
   have s7:=jr hp (.tup [V.str (Str.ofString "row"),V.str (qJ rs (jl w e.2 (rs.length:Nat)).1)])
   refine gQ ?_
   exact kk _ _ ⟨.ref p,rfl,k5.trans (k6.trans (Keep.same s7)),s7 _ _ jg,jQ jg (jh jj (jh jj jt))⟩
  ·have z2:¬ e.1=0:=fun h=>z (decide_eq_true (congrArg V.int h))
   rw [if_neg z2] at kk
   exact kk _ _ ⟨u4,rfl,k5,d5,h45⟩
 rintro σ G ⟨v,rfl,k5,d5,hv⟩
 have h15:=(k5.tk d4).held h14
 have h25:=(k5.tk d4).held h24
 generalize bdN w y.2 xs rs=b at *
 refine ⟨sm rfl,fun p hp=>?_⟩
 have s6:=jr hp (.lst [V.str (Str.ofString ">="),V.str (Str.ofString "<=")])
 have e6:upd G p (.lst [V.str (Str.ofString ">="),V.str (Str.ofString "<=")]) p=some (.lst (([Str.ofString ">=",Str.ofString "<="]:List Str).map V.str)):=jg
 generalize upd G p (.lst [V.str (Str.ofString ">="),V.str (Str.ofString "<=")])=H6 at *
 have lo7:=jR w b.2 (m:=2) (by decide)
 have hi7:=jL w b.2 (m:=2) (by decide)
 have k7:=Keep.upd d H6 (dlO w (jl w b.2 2).2)
 have d7:upd H6 d (dlO w (jl w b.2 2).2) d=some (dlO w (jl w b.2 2).2):=jg
 have e7:=k7.strs (s6 _ _ d5) e6
 refine ⟨_,rfl,d,w,b.2,2,rfl,s6 _ _ d5,by decide,by decide,p,_,_,.str (je6 (jl w b.2 2).1),rfl,rfl,SqL.of e7,?_,?_⟩
 ·have:(jl w b.2 2).1=0∨(jl w b.2 2).1=1:=by omega
  rcases this with h | h <;> rw [h] <;> rfl
 have k57:=(Keep.same (a:=d) s6).trans k7
 have h17:=(k57.tk d5).held h15
 have h27:=(k57.tk d5).held h25
 have hv7:=(k57.tk d5).held hv
 generalize upd H6 d (dlO w (jl w b.2 2).2)=H7 at *
 generalize jl w b.2 2=g at *
 refine gQ ?_
 refine ⟨_,rfl,_,rfl,_,rfl,_,rfl,_,rfl,_,rfl,d,w,g.2,rfl,d7,fun H8 k8 d8=>⟨sm rfl,fun p hp=>?_⟩⟩
 have s9:=jr hp (.tup [V.str (Str.ofString "each"),u1,u2,V.str (qJ rs y.1),V.str (je6 g.1),v,V.int (JZ w g.2).1])
 have t8:=k8.tk d7
 exact q _ _ (k03.trans (k34.trans (k5.trans (k57.trans (k8.trans (Keep.same s9)))))) (s9 _ _ d8) (jQ jg (jh jj (jh ((t8.held h17).mono s9) (jh ((t8.held h27).mono s9) (jh jj (jh jj (jh ((t8.held hv7).mono s9) (jh kP jt))))))))
end
abbrev Jm:Stmt:=top 37
def Out (S:List Addr) (H H':Hp):Prop:=∀ b o,b ∉ S→H b=some o→H' b=some o
theorem DealsAt.keep {H H':Hp} {a r:Addr} {ds:List Addr} {L:List (Int×Dl)} {w:Int} {n:Dl} (D:DealsAt H a ds L) (k:Keep r H H') (hr:H r=some (dlO w n)) (nr:r ∉ ds):DealsAt H' a ds L:=by
 refine ⟨k _ _ (fun z=>?_) D.l,D.n,D.nd,D.few,fun i d x hd hx=>k _ _ (fun z=>nr (z ▸ List.mem_of_getElem? hd)) (D.at_ i d x hd hx)⟩
 have:=D.l
 rw [z,hr] at this
 cases ds with
 | nil=>cases this
 | cons d ds=>injection this with e;injection e with e;injection e with e;cases e
theorem DealsAt.same {H H':Hp} {a:Addr} {ds:List Addr} {L:List (Int×Dl)} (D:DealsAt H a ds L) (k:Same H H'):DealsAt H' a ds L:=⟨k _ _ D.l,D.n,D.nd,D.few,fun i d x hd hx=>k _ _ (D.at_ i d x hd hx)⟩
theorem DealsAt.put {H:Hp} {a p:Addr} {o:HO} {ds:List Addr} {L:List (Int×Dl)} (D:DealsAt H a ds L) (h:p ∉ a :: ds):DealsAt (upd H p o) a ds L:=⟨(jx (fun z=>h (List.mem_cons.mpr (.inl z.symm)))).trans D.l,D.n,D.nd,D.few,fun i d x hd hx=>(jx (a:=p) (b:=d) (fun (z:d=p)=>h (List.mem_cons_of_mem _ (z ▸ List.mem_of_getElem? hd)))).trans (D.at_ i d x hd hx)⟩
theorem DealsAt.ne {H:Hp} {a l:Addr} {ds:List Addr} {L:List (Int×Dl)} (D:DealsAt H a ds L) {xs:List Str} (hl:H l=some (.lst (xs.map V.str))) (h:l≠a):l ∉ a :: ds:=fun z=>by
 rcases List.mem_cons.mp z with z | z
 ·exact h z
 ·obtain ⟨i,hi,e⟩:=List.getElem_of_mem z
  have hi2:i < L.length:=by have:=D.n;omega
  have:=D.at_ i l L[i] (by rw [List.getElem?_eq_getElem hi,e]) (List.getElem?_eq_getElem hi2)
  rw [hl] at this
  cases xs with
  | nil=>cases this
  | cons x xs=>injection this with e;injection e with e;injection e with e;cases e
def kC (xs rs:List Str) (L:List (Int×Dl)):Nat→List Cl×List (Int×Dl)
 | 0=>([],L)
 | i+1=>
  let p:=kC xs rs L i
  let x:=qb p.2
  (p.1++[(Jb x.1.1 x.1.2 xs rs).1],x.2)
def yM:Sp:=fun vs H Q _=>∃ (a l r:Addr) (ds:List Addr) (L:List (Int×Dl)) (m:Nat) (xs rs:List Str),vs=[.ref a,.int (m:Nat),.ref l,.ref r]∧DealsAt H a ds L∧H l=some (.lst (xs.map V.str))∧H r=some (.lst (rs.map V.str))∧l≠a∧r≠a∧xs.length≤100∧rs.length≤100∧m≤100∧∀ u H',Out (a :: ds) H H'→DealsAt H' a (ds.drop m) (kC xs rs L m).2→Held H' (.tup ((kC xs rs L m).1.map Cl.toD)) u→Q u H'
section
variable {P:Program} {w:World} {K:W.Frag} {mg:Str→Option Value} {base:Heap}
theorem jac {f:Addr} {fd:FuncData} (F:Fun K "_law_claims" "_law_claims" Jm f fd) (B:Free0 mg) (F_next:Fn P w K mg base 1 "_law_next" ["_law_deals"] y4) (F_claim:Fn P w K mg base 6 "_law_claim" ["_law_deal_here","_law_numbers","_law_rows"] Jj):FnOk P w K mg base CX0 7 f fd ["_law_deals","_law_many_here","_law_numbers","_law_rows"] yM:=by
 have sc:FnScope ["_law_deals","_law_many_here","_law_numbers","_law_rows"] ["_law_deals","_law_many_here","_law_numbers","_law_rows"] (jw Jm):=fQ
 refine F.okZ sc (fun vs H Q E h=>?_) (fun cdv A outer s H vs Q E hr h=>?_)
 ·obtain ⟨a,l,r,ds,L,m,xs,rs,rfl,_⟩:=h
  rfl
 obtain ⟨a,l,r,ds,L,m,xs,rs,rfl,D,hl,hr',na,nr,hz,hz2,hm,q⟩:=h
 refine ⟨_,(jn (jB (zi kS (by rfl) B.tuple_ zA (jb (ze ["_law_k"] [0,2,3] rfl (qH (sc:=jw Jm) (N:=["_law_deals","_law_many_here","_law_numbers","_law_rows"]) rfl rfl (by decide +kernel)) (kx (by rfl) B.range_ (jb (zpv 1) jd)) (fun s H ex=>⟨(jy (i:=0) (show List.Nodup (["_law_k","_law_deals","_law_numbers","_law_rows"]:List Str) by decide +kernel) rfl oQ),qm,(jH F_claim hr (jb (jH F_next hr (jb (zpv 1) jd)) (jb (zpv 2) (jb (zpv 3) jd))))⟩)) jd)))),?_⟩
 try dsimp only [q0]
 refine kb (σ':=[some (.ref a),some (.int (m:Nat)),some (.ref l),some (.ref r)]) rfl ?_
 refine ⟨_,rfl,_,rfl,(by omega),(by omega),fun p hp=>?_⟩
 rw [Int.toNat_natCast]
 have npS:p ∉ a :: ds:=fun z=>by
  rcases List.mem_cons.mp z with z | z
  ·rw [z,D.l] at hp;cases hp
  ·obtain ⟨i,hi,e⟩:=List.getElem_of_mem z
   have hi2:i < L.length:=by have:=D.n;omega
   rw [D.at_ i p L[i] (by rw [List.getElem?_eq_getElem hi,e]) (List.getElem?_eq_getElem hi2)] at hp
   cases hp
 have s0:=jr hp (.lst [])
 let Pv:Nat→St→Hp→Prop:=fun i σ' G=>∃ u us,σ'=[u,some (.ref a),some (.ref l),some (.ref r)]∧Out (a :: ds) H G∧DealsAt G a (ds.drop i) (kC xs rs L i).2∧G p=some (.lst us)∧us.length=i∧HeldL G ((kC xs rs L i).1.map Cl.toD) us
 refine kR Pv ⟨none,[],rfl,fun b o _ e=>s0 _ _ e,D.same s0,jg,rfl,jt⟩ ?_ ?_
 ·rintro i σ' G hi ⟨u,us,rfl,oG,DG,hGp,hul,hus⟩
  have hlG:=oG _ _ (D.ne hl na) hl
  have hrG:=oG _ _ (D.ne hr' nr) hr'
  unfold qN JB
  refine yl ?_
  refine ⟨_,rfl,a,ds.drop i,_,rfl,DG,fun d1 G1 k1 hd1 e1 nd1 D1=>?_⟩
  refine ⟨_,rfl,_,rfl,d1,l,r,_,_,xs,rs,rfl,e1,k1 _ _ na hlG,k1 _ _ nr hrG,hz,hz2,fun v G2 k2 e2 h2=>?_⟩
  have n1:∀ b o,b ∉ a :: ds→G b=some o→b≠d1:=fun b o hb e z=>by
   rcases hd1 with h | h
   ·rw [z,h] at e;cases e
   ·exact hb (List.mem_cons_of_mem _ (List.mem_of_mem_drop (z ▸ h)))
  have na1:∀ b,b ∉ a :: ds→b≠a:=fun b hb z=>hb (z ▸ List.mem_cons_self ..)
  have st:∀ b o,b ∉ a :: ds→G b=some o→G2 b=some o:=fun b o hb e=>k2 _ _ (n1 b o hb e) (k1 _ _ (na1 b hb) e)
  have hG2:=st p _ npS hGp
  have tk:TK G (upd G2 p (.lst (us++[v]))):=fun b ys e=>by
   rw [jx (fun z=>by rw [z,hGp] at e;cases e)]
   exact k2.tk e1 _ _ (k1.tk DG.l _ _ e)
  refine ⟨_,hG2,j8 (by omega),_,us++[v],rfl,fun b o hb e=>?_,?_,jg,by rw [List.length_append,hul];rfl,?_⟩
  ·rw [jx (ju e hp)]
   exact st _ _ hb (oG _ _ hb e)
  ·have D2:=D1.keep k2 e1 nd1
   rw [List.tail_drop] at D2
   exact D2.put (fun z=>npS (by
    rcases List.mem_cons.mp z with z | z
    ·exact z ▸ List.mem_cons_self ..
    ·exact List.mem_cons_of_mem _ (List.mem_of_mem_drop z)))
  ·show HeldL _ (((kC xs rs L i).1++[_]).map Cl.toD) _
   rw [List.map_append]
   refine qK (tk.heldL hus) ?_
   refine TK.held (fun b ys e=>?_) h2
   rw [jx (fun z=>by rw [z,hG2] at e;cases e)]
   exact e
 ·rintro σ' G ⟨u,us,rfl,oG,DG,hGp,hul,hus⟩
  refine ⟨p,us,rfl,.inl ⟨SqL.of hGp,fun t ht=>?_⟩⟩
  have s1:=jr ht (.tup us)
  exact q _ _ (fun b o hb e=>s1 _ _ (oG _ _ hb e)) (DG.same s1) (jQ jg (hus.mono s1))
end
abbrev JO:Stmt:=top 38
abbrev Hd:Type:=Str×Nat×Nat
def hdD (h:Hd):D:=.tup [.str h.1,.int (h.2.1:Nat),.int (h.2.2:Nat)]
theorem YZ {H:Hp} {h:Hd} {v:V} (x:Held H (hdD h) v):∃ a,v=.ref a∧H a=some (.tup [.str h.1,.int (h.2.1:Nat),.int (h.2.2:Nat)]):=by
 obtain ⟨a,xs,rfl,ha,h1⟩:=jC x
 obtain ⟨v1,r1,rfl,e1,h2⟩:=jk h1
 obtain ⟨v2,r2,rfl,e2,h3⟩:=jk h2
 obtain ⟨v3,r3,rfl,e3,h4⟩:=jk h3
 cases jK h4
 cases jN e1
 cases qc e2
 cases qc e3
 exact ⟨a,rfl,ha⟩
structure Wd where
 nl:Addr
 fl:Addr
 rl:Addr
 hl:Addr
structure WorldAt (H:Hp) (wd:Addr) (A:Wd) (xs fr rs:List Str) (hds:List Hd) (left:Int):Prop where
 d:∃ kvs,H wd=some (.dK kvs)∧kvs.length≤5∧qw kvs (.inr (Str.ofString "numbers"))=some (.ref A.nl)∧qw kvs (.inr (Str.ofString "free"))=some (.ref A.fl)∧qw kvs (.inr (Str.ofString "rows"))=some (.ref A.rl)∧qw kvs (.inr (Str.ofString "heads"))=some (.ref A.hl)∧qw kvs (.inr (Str.ofString "left"))=some (.int left)
 n:H A.nl=some (.lst (xs.map V.str))
 f:H A.fl=some (.lst (fr.map V.str))
 r:H A.rl=some (.lst (rs.map V.str))
 h:∃ hs,H A.hl=some (.lst hs)∧HeldL H (hds.map hdD) hs
def zV (rs:List Str) (hds:List Hd):List Hd:=hds.filter fun h=>decide (h.2.2≤rs.length)
theorem jbM {rs:List Str} {hds:List Hd} {i:Nat} (hi:i < hds.length):zV rs (hds.take (i+1))=zV rs (hds.take i)++if hds[i].2.2≤rs.length then [hds[i]] else []:=by
 unfold zV
 rw [List.take_succ,List.getElem?_eq_getElem hi,List.filter_append]
 congr 1
 show List.filter _ [hds[i]]=_
 by_cases h:hds[i].2.2≤rs.length
 ·rw [if_pos h,List.filter_cons,if_pos (decide_eq_true h),List.filter_nil]
 ·rw [if_neg h,List.filter_cons,if_neg (by simpa using h),List.filter_nil]
def zh (w:Int) (xs:List Str) (n:Dl):Nat→List Str×Dl
 | 0=>([],n)
 | i+1=>
  let p:=zh w xs n i
  let d:=jl w p.2 ((xs.length:Nat):Int)
  (p.1++[qJ xs d.1],d.2)
def kL (w:Int) (rs:List Str) (n:Dl):Nat→List Str×Dl×List Str
 | 0=>([],n,rs)
 | i+1=>
  let p:=kL w rs n i
  let d:=jl w p.2.1 ((p.2.2.length:Nat):Int)
  (p.1++[qJ p.2.2 d.1],d.2,p.2.2.eraseIdx d.1.toNat)
theorem jda {α β:Type} (f:α→β):∀ (l:List α) (k:Nat),(l.map f).eraseIdx k=(l.eraseIdx k).map f
 | [],_=>rfl
 | _ :: _,0=>rfl
 | x :: l,k+1=>congrArg (f x :: ·) (jda f l k)
theorem qy {H:Hp}:∀ xs:List Str,HeldL H (xs.map D.str) (xs.map V.str)
 | []=>jt
 | _ :: xs=>jh jj (qy xs)
theorem JL (w:Int) (xs:List Str) (n:Dl):∀ i,(zh w xs n i).1.length=i
 | 0=>rfl
 | i+1=>by show (_++[_]).length=_;rw [List.length_append,JL w xs n i];rfl
theorem yN (w:Int) (rs:List Str) (n:Dl):∀ i,i≤rs.length→(kL w rs n i).1.length=i∧(kL w rs n i).2.2.length=rs.length - i
 | 0,_=>⟨rfl,rfl⟩
 | i+1,h=>by
  obtain ⟨h1,h2⟩:=yN w rs n i (by omega)
  refine ⟨by show (_++[_]).length=_;rw [List.length_append,h1];rfl,?_⟩
  have hp:(0:Int) < ((kL w rs n i).2.2.length:Nat):=by omega
  have lo:=jR w (kL w rs n i).2.1 hp
  have hi:=jL w (kL w rs n i).2.1 hp
  show ((kL w rs n i).2.2.eraseIdx _).length=_
  rw [List.length_eraseIdx,if_pos (by omega),h2]
  omega
def Yx (w:Int) (n:Dl) (x:Str) (xs rs:List Str) (hds:List Hd):Sm×Dl:=
 if (zV rs hds).length=0 then (.set x (.is x) 1,n) else
 let d:=jl w n (((zV rs hds).length:Nat):Int)
 let h:=(zV rs hds).getD d.1.toNat ("",0,0)
 let a:=zh w xs d.2 h.2.1
 let b:=kL w rs a.2 h.2.2
 (.call x h.1 a.1 b.1,b.2.1)
def YN:Sp:=fun vs H Q _=>∃ (d wd:Addr) (x:Str) (w:Int) (n:Dl) (A:Wd) (xs fr rs:List Str) (hds:List Hd) (left:Int),vs=[.ref d,.str x,.ref wd]∧H d=some (dlO w n)∧WorldAt H wd A xs fr rs hds left∧0 < xs.length∧xs.length≤100∧rs.length≤100∧hds.length≤100∧(∀ h∈hds,h.2.1≤100)∧∀ u H',Keep d H H'→H' d=some (dlO w (Yx w n x xs rs hds).2)→Held H' (Yx w n x xs rs hds).1.toD u→Q u H'
section
variable {P:Program} {w:World} {K:W.Frag} {mg:Str→Option Value} {base:Heap}
theorem jcO {f:Addr} {fd:FuncData} (F:Fun K "_law_call" "_law_call" JO f fd) (B:Free0 mg) (F_draw:Fn P w K mg base 1 "_law_draw" ["_law_deal_here","_law_many_here"] qI):FnOk P w K mg base CX0 2 f fd ["_law_deal_here","_law_x","_law_world"] YN:=by
 have sc:FnScope ["_law_deal_here","_law_x","_law_world","_law_rows","_law_some","_law_f","_law_many_here","_law_count","_law_numbers","_law_args"] ["_law_deal_here","_law_x","_law_world"] (jw JO):=fQ
 refine F.okZ sc (fun vs H Q E h=>?_) (fun cdv A outer s H vs Q E hr h=>?_)
 ·obtain ⟨d,wd,x,w,n,Z,xs,fr,rs,hds,left,rfl,_⟩:=h
  rfl
 obtain ⟨d,wd,x,w,n,Z,xs,fr,rs,hds,left,rfl,hd,W,hp,hz,hz2,hz3,hm,q⟩:=h
 have hu:(A.deeper (PyProof.Rows.envOfC "_law_call" (jw JO) s.heap.objs.size f cdv)).units+1 < cLine:=by have:=hr.units;omega
 refine ⟨_,(je (js (i:=3) sc.nd rfl oQ (zi yh (by rfl) B.list_ Y5 (jb (qB hu (zpv 2) jq (fun _ _=>rfl)) jd)))
   (je (zC (i:=4) sc.nd rfl oQ ["_law_head_here"] [3] rfl (qH (sc:=jw JO) (N:=["_law_deal_here","_law_x","_law_world","_law_rows","_law_some","_law_f","_law_many_here","_law_count","_law_numbers","_law_args"]) rfl rfl (by decide +kernel)) (zr (qB hu (zpv 2) jq (fun _ _=>rfl))) (fun s H ex=>⟨(jy (i:=0) (show List.Nodup (["_law_head_here","_law_rows"]:List Str) by decide +kernel) rfl oQ),(jbT (jv jgb (jz (jep (K:=K)) (zpv 0) ji (fun _ _=>rfl)) (j0 (zN (K:=K)) (by rfl) B.len_ ke (jb (zpv 1) jd)) (jP _))),(zpv 0)⟩))
   (je (jT (jv kq (j0 jO (by rfl) B.len_ ke (jb (zpv 4) jd)) ji (jP _)) (jn (jB (jX (jb jq (jb (zpv 1) (jb (jX (jb jq (jb (zpv 1) jd))) (jb ji jd))))))) jA)
   (je (ql (jz jW (zpv 4) (jH F_draw hr (jb (zpv 0) (jb (j0 jO (by rfl) B.len_ ke (jb (zpv 4) jd)) jd))) (fun _ _=>rfl)) (qR rfl (jJ (jy (i:=5) sc.nd rfl oQ) (jJ (jy (i:=6) sc.nd rfl oQ) (jJ (jy (i:=7) sc.nd rfl oQ) kX)))))
   (je (js (i:=8) sc.nd rfl oQ (qB hu (zpv 2) jq (fun _ _=>rfl)))
   (je (js (i:=9) sc.nd rfl oQ (zi kS (by rfl) B.tuple_ zA (jb (ze ["_law_k"] [0,8] rfl (qH (sc:=jw JO) (N:=["_law_deal_here","_law_x","_law_world","_law_rows","_law_some","_law_f","_law_many_here","_law_count","_law_numbers","_law_args"]) rfl rfl (by decide +kernel)) (kx (by rfl) B.range_ (jb (zpv 6) jd)) (fun s H ex=>⟨(jy (i:=0) (show List.Nodup (["_law_k","_law_deal_here","_law_numbers"]:List Str) by decide +kernel) rfl oQ),qm,(jz (jc2 (K:=K)) (zpv 2) (jH F_draw hr (jb (zpv 1) (jb (j0 (zN (K:=K)) (by rfl) B.len_ ke (jb (zpv 2) jd)) jd))) (fun _ _=>rfl))⟩)) jd)))
   (jn (jB (jX (jb jq (jb (zpv 1) (jb (zpv 5) (jb (zpv 9) (jb (zi kS (by rfl) B.tuple_ zA (jb (ze ["_law_k"] [0,3] rfl (qH (sc:=jw JO) (N:=["_law_deal_here","_law_x","_law_world","_law_rows","_law_some","_law_f","_law_many_here","_law_count","_law_numbers","_law_args"]) rfl rfl (by decide +kernel)) (kx (by rfl) B.range_ (jb (zpv 7) jd)) (fun s H ex=>⟨(jy (i:=0) (show List.Nodup (["_law_k","_law_deal_here","_law_rows"]:List Str) by decide +kernel) rfl oQ),qm,(jdA (K:=K) PySem.F.plainAttrs_list PySem.F.slot_list_pop PySem.F.type_list_pop Zx (zpv 2) (jb (jH F_draw hr (jb (zpv 1) (jb (j0 (zN (K:=K)) (by rfl) B.len_ ke (jb (zpv 2) jd)) jd))) jd))⟩)) jd)) jd)))))))))))))),?_⟩
 try dsimp only [q0]
 obtain ⟨kvs,hw,hk5,kn,kf,kr,kh,kl⟩:=W.d
 obtain ⟨hs,hhs,hHL⟩:=W.h
 have hlen:=hHL.length
 rw [List.length_map] at hlen
 refine kb (σ':=[some (.ref d),some (.str x),some (.ref wd),none,none,none,none,none,none,none]) rfl ?_
 refine jeY ?_
 intro _ _ _ _ _ _
 refine ⟨_,rfl,wd,.ref Z.rl,rfl,.inl ⟨kvs,.inr (Str.ofString "rows"),Rd.of hw,rfl,kr.symm⟩,Z.rl,_,rfl,.inl (SqL.of W.r),fun t ht=>?_⟩
 have s1:=jr ht (.lst (rs.map V.str))
 have e1:upd H t (.lst (rs.map V.str)) t=some (.lst (rs.map V.str)):=jg
 generalize upd H t (.lst (rs.map V.str))=H1 at *
 refine gQ ?_
 refine ⟨_,rfl,wd,.ref Z.hl,rfl,.inl ⟨kvs,.inr (Str.ofString "heads"),Rd.of (s1 _ _ hw),rfl,kh.symm⟩,Z.hl,rfl,⟨_,SqL.of (s1 _ _ hhs)⟩,fun p hp=>?_⟩
 let Pv:Nat→St→Hp→Prop:=fun i σ' G=>∃ u us,σ'=[u,some (.ref t)]∧Same H1 G∧G p=some (.lst us)∧us.length≤i∧HeldL G ((zV rs (hds.take i)).map hdD) us
 refine Yu (xs:=hs) Pv ⟨none,[],rfl,jr hp _,jg,Nat.le_refl _,jt⟩ ?_ ?_ ?_
 ·rintro i σ' G _ ⟨u,us,rfl,sG,_⟩
  exact SqL.of (sG _ _ (s1 _ _ hhs))
 ·rintro i v σ' G hx ⟨u,us,rfl,sG,hGp,hlu,hus⟩
  have hi:i < hds.length:=by have:=(List.getElem?_eq_some_iff.mp hx).1;omega
  obtain ⟨v',e3,e4⟩:=hHL.get (j:=i) (d:=hdD hds[i]) (by rw [List.getElem?_map,List.getElem?_eq_getElem hi];rfl)
  rw [hx] at e3
  cases e3
  have fs:=jbM (rs:=rs) hi
  obtain ⟨b,rfl,hb⟩:=YZ e4
  unfold qN
  refine ⟨_,rfl,b,_,_,_,rfl,rfl,SqT.of (sG _ _ (s1 _ _ hb)),rfl,_,rfl,t,_,rfl,.inl (SqL.of (sG _ _ e1)),_,_,rfl,rfl,_,rfl,jU (fun z=>?_) (fun z=>?_)⟩
  ·have z':hds[i].2.2≤rs.length:=by have:=of_decide_eq_true z;rw [List.length_map] at this;omega
   rw [if_pos z'] at fs
   refine ⟨_,rfl,_,hGp,j8 (by omega),_,us++[.ref b],rfl,fun c o e=>?_,jg,by rw [List.length_append];exact Nat.succ_le_succ hlu,?_⟩
   ·rw [jx (ju e hp)];exact sG _ _ e
   ·have tk:TK G (upd G p (.lst (us++[.ref b]))):=fun c ys e=>by rw [jx (fun z=>by rw [z,hGp] at e;cases e)];exact e
    rw [fs,List.map_append]
    exact qK (tk.heldL hus) (tk.held ((e4.mono s1).mono sG))
  ·have z':¬ hds[i].2.2≤rs.length:=fun h=>z (decide_eq_true (by rw [List.length_map];omega))
   rw [if_neg z',List.append_nil] at fs
   exact ⟨_,us,rfl,sG,hGp,Nat.le_succ_of_le hlu,by rw [fs];exact hus⟩
 rintro σ' G ⟨u,us,rfl,sG,hGp,-,hus⟩
 rw [← hlen,List.take_length] at hus
 have hful:=hus.length
 rw [List.length_map] at hful
 have sG0:=s1.trans sG
 have hfl:(zV rs hds).length≤100:=Nat.le_trans (List.length_filter_le _ _) hz3
 have hfm:∀ h∈zV rs hds,h.2.1≤100∧h.2.2≤rs.length:=fun h hh=>⟨hm h (List.mem_filter.mp hh).1,of_decide_eq_true (List.mem_filter.mp hh).2⟩
 unfold Yx at q
 dsimp only at q
 generalize zV rs hds=fh at *
 refine gQ ?_
 refine ⟨_,rfl,p,_,rfl,.inl (SqL.of hGp),rfl,_,rfl,jU (fun z=>?_) (fun z=>?_)⟩
 ·have z':fh.length=0:=by have:=of_decide_eq_true z;injection this;omega
  rw [if_pos z'] at q
  refine ⟨_,rfl,_,rfl,sm rfl,fun t2 ht2=>⟨sm rfl,fun t3 ht3=>?_⟩⟩
  have s2:=jr ht2 (.tup [V.str (Str.ofString "is"),V.str x])
  have s3:=jr ht3 (.tup [V.str (Str.ofString "set"),V.str x,V.ref t2,V.int 1])
  exact q _ _ (Keep.same (sG0.trans (s2.trans s3))) (s3 _ _ (s2 _ _ (sG0 _ _ hd))) (jQ jg (jh jj (jh jj (jh (jQ (s3 _ _ jg) (jh jj (jh jj jt))) (jh kP jt)))))
 have z':¬ fh.length=0:=fun h=>z (decide_eq_true (by rw [← hful,h];rfl))
 rw [if_neg z'] at q
 have lo:=jR w n (m:=(fh.length:Nat)) (by omega)
 have hi:=jL w n (m:=(fh.length:Nat)) (by omega)
 have hj:(jl w n (fh.length:Nat)).1.toNat < fh.length:=by omega
 obtain ⟨v,ev,hv⟩:=hus.get (j:=(jl w n (fh.length:Nat)).1.toNat) (d:=hdD (fh.getD (jl w n (fh.length:Nat)).1.toNat ("",0,0))) (by rw [List.getElem?_map,List.getElem?_eq_getElem hj,List.getD_eq_getElem?_getD,List.getElem?_eq_getElem hj];rfl)
 have hmem:fh.getD (jl w n (fh.length:Nat)).1.toNat ("",0,0)∈fh:=by
  rw [List.getD_eq_getElem?_getD,List.getElem?_eq_getElem hj]
  exact List.getElem_mem hj
 have hat:atI us (jl w n (fh.length:Nat)).1=some v:=by
  have ek:(jl w n (fh.length:Nat)).1=(((jl w n (fh.length:Nat)).1.toNat:Nat):Int):=by omega
  rw [ek]
  exact ko ev
 have npd:p≠d:=fun z=>by rw [z,s1 _ _ hd] at hp;cases hp
 have hdG:=sG0 _ _ hd
 have k2:=Keep.upd d G (dlO w (jl w n (fh.length:Nat)).2)
 have d2:upd G d (dlO w (jl w n (fh.length:Nat)).2) d=some (dlO w (jl w n (fh.length:Nat)).2):=jg
 have hw2:=k2 wd _ (fun z=>by rw [z,hd] at hw;cases hw) (sG0 _ _ hw)
 have hn2:=k2.strs hdG (sG0 _ _ W.n)
 have e2:=k2.strs hdG (sG _ _ e1)
 obtain ⟨hc1,hc2⟩:=hfm _ hmem
 obtain ⟨b,rfl,hb⟩:=YZ hv
 have hb2:=k2.tk hdG _ _ hb
 refine ⟨_,rfl,_,rfl,_,rfl,p,_,rfl,.inl (SqL.of hGp),d,w,n,(fh.length:Nat),by rw [← hful];rfl,hdG,by omega,by omega,p,_,_,.ref b,rfl,rfl,SqL.of (k2 _ _ npd hGp),hat,?_⟩
 generalize upd G d (dlO w (jl w n (fh.length:Nat)).2)=H2 at *
 generalize fh.getD (jl w n (fh.length:Nat)).1.toNat ("",0,0)=h at *
 generalize (jl w n (fh.length:Nat)).2=n2 at *
 have k02:Keep d H H2:=(Keep.same sG0).trans k2
 refine ⟨b,_,rfl,SqT.of hb2,rfl,_,_,rfl,_,_,rfl,_,_,rfl,rfl,?_⟩
 refine kb (σ':=[some (.ref d),some (.str x),some (.ref wd),some (.ref t),some (.ref p),some (.str h.1),some (.int (h.2.1:Nat)),some (.int (h.2.2:Nat)),none,none]) rfl ?_
 refine ⟨_,rfl,wd,.ref Z.nl,rfl,.inl ⟨kvs,.inr (Str.ofString "numbers"),Rd.of hw2,rfl,kn.symm⟩,?_⟩
 refine gQ ?_
 refine ⟨_,rfl,_,rfl,(by omega),(by omega),fun p2 hp2=>?_⟩
 rw [Int.toNat_natCast]
 have n2d:p2≠d:=fun z=>by rw [z,d2] at hp2;cases hp2
 let Pw:Nat→St→Hp→Prop:=fun i σ' G'=>∃ u,σ'=[u,some (.ref d),some (.ref Z.nl)]∧Keep d H2 G'∧G' d=some (dlO w (zh w xs n2 i).2)∧G' p2=some (.lst ((zh w xs n2 i).1.map V.str))
 refine kR Pw ⟨none,rfl,Keep.same (jr hp2 _),(by rw [jx n2d.symm];exact d2),jg⟩ ?_ ?_
 ·rintro i σ' G' hi' ⟨u,rfl,kG,dG,hGp2⟩
  have hnG:=kG.strs d2 hn2
  have lo:=jR w (zh w xs n2 i).2 (m:=(xs.length:Nat)) (by omega)
  have hi:=jL w (zh w xs n2 i).2 (m:=(xs.length:Nat)) (by omega)
  have k4:=Keep.upd d G' (dlO w (jl w (zh w xs n2 i).2 (xs.length:Nat)).2)
  have al:=JL w xs n2 i
  unfold qN JB
  refine yl ?_
  refine ⟨_,rfl,_,rfl,_,rfl,Z.nl,_,rfl,.inl (SqL.of hnG),d,w,_,(xs.length:Nat),by rw [List.length_map];rfl,dG,by omega,by omega,Z.nl,_,_,_,rfl,rfl,SqL.of (k4.strs dG hnG),zp lo hi,_,k4 _ _ n2d hGp2,j8 (by rw [List.length_map];omega),_,rfl,fun c o hc e=>?_,?_,?_⟩
  ·rw [jx (ju e hp2)];exact k4 _ _ hc (kG _ _ hc e)
  ·rw [jx n2d.symm];exact jg
  ·rw [jg]
   show _=some (HO.lst (((zh w xs n2 i).1++[_]).map V.str))
   rw [List.map_append]
   rfl
 rintro σ' G' ⟨u,rfl,kG,dG,hGp2⟩
 refine ⟨p2,_,rfl,.inl ⟨SqL.of hGp2,fun t4 ht4=>?_⟩⟩
 have s5:=jr ht4 (.tup ((zh w xs n2 h.2.1).1.map V.str))
 have e5:upd G' t4 (.tup ((zh w xs n2 h.2.1).1.map V.str)) t4=some (.tup ((zh w xs n2 h.2.1).1.map V.str)):=jg
 have k25:=kG.trans (Keep.same s5)
 have d5:=s5 _ _ dG
 generalize upd G' t4 (.tup ((zh w xs n2 h.2.1).1.map V.str))=H5 at *
 have t5:=k25.strs d2 e2
 generalize zh w xs n2 h.2.1=ar at *
 refine gQ ?_
 refine ⟨_,rfl,_,rfl,_,rfl,_,rfl,_,rfl,(by omega),(by omega),fun p3 hp3=>?_⟩
 rw [Int.toNat_natCast]
 have n3d:p3≠d:=fun z=>by rw [z,d5] at hp3;cases hp3
 have n3t:p3≠t:=fun z=>by rw [z,t5] at hp3;cases hp3
 have ntd:t≠d:=fun z=>by rw [z,hd] at ht;cases ht
 let Px:Nat→St→Hp→Prop:=fun i σ' G=>∃ u,σ'=[u,some (.ref d),some (.ref t)]∧(∀ b o,b≠d→b≠t→H5 b=some o→G b=some o)∧G d=some (dlO w (kL w rs ar.2 i).2.1)∧G t=some (.lst ((kL w rs ar.2 i).2.2.map V.str))∧G p3=some (.lst ((kL w rs ar.2 i).1.map V.str))
 refine kR Px ⟨none,rfl,fun b o _ _ e=>jr hp3 _ _ _ e,(by rw [jx n3d.symm];exact d5),(by rw [jx n3t.symm];exact t5),jg⟩ ?_ ?_
 ·rintro i σ' G hi' ⟨u,rfl,kG,dG,tG,hGp3⟩
  obtain ⟨pl1,pl2⟩:=yN w rs ar.2 i (by omega)
  have es:kL w rs ar.2 (i+1)=((kL w rs ar.2 i).1++[qJ (kL w rs ar.2 i).2.2 (jl w (kL w rs ar.2 i).2.1 (((kL w rs ar.2 i).2.2.length:Nat):Int)).1],(jl w (kL w rs ar.2 i).2.1 (((kL w rs ar.2 i).2.2.length:Nat):Int)).2,(kL w rs ar.2 i).2.2.eraseIdx (jl w (kL w rs ar.2 i).2.1 (((kL w rs ar.2 i).2.2.length:Nat):Int)).1.toNat):=rfl
  show _
  generalize kL w rs ar.2 i=pp at *
  obtain ⟨dn,mm,lf⟩:=pp
  dsimp only at pl1 pl2 dG tG hGp3 es
  have lo:=jR w mm (m:=(lf.length:Nat)) (by omega)
  have hi:=jL w mm (m:=(lf.length:Nat)) (by omega)
  have k6:=Keep.upd d G (dlO w (jl w mm (lf.length:Nat)).2)
  have hk:(jl w mm (lf.length:Nat)).1.toNat < lf.length:=by omega
  unfold qN JB
  refine yl ?_
  refine ⟨_,rfl,.inl ⟨rfl,_,SqL.of tG⟩,_,rfl,_,rfl,t,_,rfl,.inl (SqL.of tG),d,w,mm,(lf.length:Nat),by rw [List.length_map];rfl,dG,by omega,by omega,?_⟩
  refine ⟨t,_,_,(jl w mm (lf.length:Nat)).1.toNat,.str (qJ lf (jl w mm (lf.length:Nat)).1),rfl,rfl,k6 _ _ ntd tG,by omega,by omega,PySem.StrLaws.seqIndex_nonneg lo (by rw [List.length_map];exact hi),?_,dn.map V.str,?_,j8 (by rw [List.length_map];omega),?_⟩
  ·rw [List.getElem?_map,List.getElem?_eq_getElem hk]
   unfold qJ
   rw [List.getD_eq_getElem?_getD,List.getElem?_eq_getElem hk]
   rfl
  ·rw [jx n3t];exact k6 _ _ n3d hGp3
  ·refine ⟨_,rfl,fun c o hc hc2 e=>?_,?_,?_,?_⟩
   ·rw [jx (ju e hp3),jx hc2];exact k6 _ _ hc (kG _ _ hc hc2 e)
   ·rw [es,jx n3d.symm,jx ntd.symm];exact jg
   ·rw [es,jx n3t.symm,jg,jda]
   ·rw [es,jg,List.map_append];rfl
 rintro σ' G ⟨u,rfl,kG,dG,tG,hGp3⟩
 refine ⟨p3,_,rfl,.inl ⟨SqL.of hGp3,fun t6 ht6=>⟨sm rfl,fun t7 ht7=>?_⟩⟩⟩
 have s6:=jr ht6 (.tup ((kL w rs ar.2 h.2.2).1.map V.str))
 have s7:=jr ht7 (.tup [V.str (Str.ofString "call"),V.str x,V.str h.1,V.ref t4,V.ref t6])
 refine q _ _ (fun c o hc e=>?_) (s7 _ _ (s6 _ _ dG)) ?_
 ·exact s7 _ _ (s6 _ _ (kG _ _ hc (ju e ht) (k25 _ _ hc (k02 _ _ hc e))))
 ·have n4d:t4≠d:=fun z=>by rw [z,d5] at e5;cases e5
  have n4t:t4≠t:=fun z=>by rw [z,t5] at e5;cases e5
  refine jQ jg (jh jj (jh jj (jh jj (jh (jQ (s7 _ _ (s6 _ _ (kG _ _ n4d n4t e5))) ?_) (jh (jQ (s7 _ _ jg) ?_) jt)))))
  ·exact qy _
  ·exact qy _
end
end LW
namespace L2
open PySem PySem.Spec PyProof.Rows PySem.W PySem.Builtin PySem.Builtin.Str
section
variable {X:Cx}
theorem jcV:MtR X "str.index" (fun x vs H Q=>∃ (z y:Str) (i:Nat) (r:List Nat),x=.str z∧vs=[.str y]∧occurrences z y 0 z.length 1=i :: r∧Q (.int (i:Nat)) H):=by
 intro pins s σ H x xs v us Q I rx rs h
 obtain ⟨z,y,i,r,rfl,rfl,ho,q⟩:=h
 obtain ⟨t,rfl⟩:=rx
 obtain ⟨u,rfl,t',rfl⟩:=Je rs
 exact SC.index ho ⟨.int (i:Nat),H,I.tok _,⟨_,rfl⟩,q⟩
end
def J1 (z:Str) (lo hi:Option Int):Str:=⟨((z.cps.toList.drop (HT.sIx z.length 0 lo)).take (HT.sIx z.length z.length hi - HT.sIx z.length 0 lo)).toArray⟩
theorem yp {a b:Str} (h:a.cps.toList=b.cps.toList):a=b:=by
 cases a;cases b
 congr 1
 exact Array.toList_inj.mp h
theorem yY (z:Str) (lo hi:Option Int):(J1 z lo hi).cps.toList=(z.cps.toList.drop (HT.sIx z.length 0 lo)).take (HT.sIx z.length z.length hi - HT.sIx z.length 0 lo):=rfl
theorem Kg (z:Str) (lo hi:Option Int):(J1 z lo hi).length≤z.length:=by
 show ((z.cps.toList.drop (HT.sIx z.length 0 lo)).take (HT.sIx z.length z.length hi - HT.sIx z.length 0 lo)).toArray.size≤z.length
 rw [List.size_toArray,List.length_take,List.length_drop]
 have:z.cps.toList.length=z.length:=by simp [Str.length]
 omega
theorem jfV (lo hi:Option Int) (n:Nat):Builtin.Str.strSliceIndices lo hi 1 n=(List.range (HT.sIx n n hi - HT.sIx n 0 lo)).map (HT.sIx n 0 lo+·):=by
 have e:Builtin.Str.strSliceIndices lo hi 1 n=sliceRange ((HT.sIx n 0 lo:Nat):Int) ((HT.sIx n n hi:Nat):Int) 1:=by
  unfold Builtin.Str.strSliceIndices
  cases lo with
  | none=>
   cases hi with
   | none=>simp [HT.sIx]
   | some i=>
    simp only [HT.sIx,show (1:Int) > 0 by decide,if_true]
    congr 1
    by_cases h:i < 0
    ·simp only [h,if_true];omega
    ·simp only [h,if_false];omega
  | some j=>
   have ej:max 0 (min (if j < 0 then j+(n:Int) else j) (n:Int))=((HT.sIx n 0 (some j):Nat):Int):=by
    simp only [HT.sIx]
    by_cases h:j < 0
    ·simp only [h,if_true];omega
    ·simp only [h,if_false];omega
   cases hi with
   | none=>
    simp only [show (1:Int) > 0 by decide,if_true,HT.sIx_none]
    rw [ej]
   | some i=>
    have ei:max 0 (min (if i < 0 then i+(n:Int) else i) (n:Int))=((HT.sIx n n (some i):Nat):Int):=by
     simp only [HT.sIx]
     by_cases h:i < 0
     ·simp only [h,if_true];omega
     ·simp only [h,if_false];omega
    simp only [show (1:Int) > 0 by decide,if_true]
    rw [ej,ei]
 rw [e,sliceRange_one]
theorem Z3 {X:Cx}:SlR X (fun x lo hi H Q=>∃ z,x=.str z∧z.length≤sizeLine∧Q (.str (J1 z lo hi)) H):=by
 intro pins s σ H x v vl vu lo hi sl Q I rx hs pl pu h
 obtain ⟨z,rfl,hz,q⟩:=h
 obtain ⟨t,rfl⟩:=rx
 obtain ⟨l,hl1,hl2⟩:∃ l:Option (Int×Tok),vl=partValue l∧l.map (·.1)=lo:=by
  cases pl with
  | none=>exact ⟨none,rfl,rfl⟩
  | int i t=>exact ⟨some (i,t),rfl,rfl⟩
 obtain ⟨u,hu1,hu2⟩:∃ l:Option (Int×Tok),vu=partValue l∧l.map (·.1)=hi:=by
  cases pu with
  | none=>exact ⟨none,rfl,rfl⟩
  | int i t=>exact ⟨some (i,t),rfl,rfl⟩
 refine ⟨"str",_,slot_str_getitem.lookup,typeIs_str s z t,?_⟩
 obtain ⟨o,h1,h2,h3⟩:=hs
 have hsl:s.heap.IsSlice sl l u none:=⟨o,h1,h2,by rw [h3,hl1,hu1];rfl⟩
 refine wpAny_getItem_str_slice hsl rfl ?_
 have hp:slicePicked z l u none=(List.range (HT.sIx z.length z.length hi - HT.sIx z.length 0 lo)).map (HT.sIx z.length 0 lo+·):=by
  unfold slicePicked
  rw [hl2,hu2]
  exact jfV lo hi z.length
 have hn:z.cps.toList.length=z.length:=by simp [Str.length]
 unfold sliceMade
 split
 ·rename_i hc
  rw [Bool.and_eq_true] at hc
  have hc2:=eq_of_beq hc.2
  rw [hp,List.length_map,List.length_range] at hc2
  have hle:=HT.sIx_le z.length z.length (Nat.le_refl _) hi
  have hcz:J1 z lo hi=z:=by
   refine yp ?_
   rw [yY]
   rw [hc2]
   by_cases h0:HT.sIx z.length 0 lo=0
   ·rw [h0,List.drop_zero,← hn,List.take_length]
   ·have:z.length=0:=by omega
    have:z.cps.toList=[]:=List.length_eq_zero_iff.mp (by omega)
    rw [this];simp
  rw [hcz] at q
  exact ⟨.str z,H,I,⟨t,rfl⟩,q⟩
 ·rw [hp,pick_run]
  exact ⟨Nat.le_trans (Kg z lo hi) hz,⟨.str (J1 z lo hi),H,I.tok _,⟨_,rfl⟩,q⟩⟩
end L2
namespace LW
open PySem L2
def wdS (l:List Nat):Str:=⟨l.toArray⟩
theorem zY (l:List Nat):(wdS l).cps.toList=l:=rfl
theorem zD (l:List Nat):(wdS l).length=l.length:=by show l.toArray.size=_;simp
theorem jaw {l m:List Nat} (h:wdS l=wdS m):l=m:=by rw [← zY l,h];rfl
theorem yL (l m:List Nat):wdS l++wdS m=wdS (l++m):=yp (by rw [Str.cps_append,Array.toList_append];rfl)
theorem jeo:∀ ys:List Nat,Txt.join "" (ys.map fun c=>wdS [c])=wdS ys:=by
 intro ys
 have e:Txt.join "" (ys.map fun c=>wdS [c])=("" : Str).join (ys.map fun c=>wdS [c]):=PySem.StrLaws.glued_eq_join _ _
 rw [e]
 clear e
 induction ys with
 | nil=>rfl
 | cons y r ih=>
  cases r with
  | nil=>rfl
  | cons z r=>
   show ((wdS [y]++wdS [])++("" : Str).join ((z :: r).map fun c=>wdS [c]))=_
   rw [ih,yL,yL]
   rfl
def Jc:Str:="abcdefghijklmnopqrstuvwxyz"
theorem jdv:Jc.cps.toList=(List.range 26).map (·+97):=by decide +kernel
theorem jdw {i:Int} (h0:0≤i) (h1:i < 26):atI Jc.cps.toList i=some (i.toNat+97):=by
 have hk:i.toNat < 26:=by omega
 have:=ko (xs:=Jc.cps.toList) (j:=i.toNat) (v:=i.toNat+97) (by rw [jdv,List.getElem?_map,List.getElem?_range hk];rfl)
 rw [show ((i.toNat:Nat):Int)=i by omega] at this
 exact this
theorem jfJ {i:Nat} (h:i < 26):Builtin.Str.occurrences Jc (wdS [i+97]) 0 Jc.length 1=[i]:=by
 have:∀ i < 26,Builtin.Str.occurrences Jc (wdS [i+97]) 0 Jc.length 1=[i]:=by decide +kernel
 exact this i h
def NmW (z:Str):Prop:=∃ i r,z=wdS ((i+97) :: r)∧i < 26∧r.length≤7
def qY (w:Int) (n:Dl):Nat→List Nat×Dl
 | 0=>([],n)
 | i+1=>
  let p:=qY w n i
  let d:=jl w p.2 26
  (p.1++[d.1.toNat+97],d.2)
theorem yQ (w:Int) (n:Dl):∀ i,(qY w n i).1.length=i
 | 0=>rfl
 | i+1=>by show (_++[_]).length=_;rw [List.length_append,yQ w n i];rfl
theorem ZA (w:Int) (n:Dl) (i:Nat) (hi:i≤7):NmW (wdS (qY w n (i+1)).1):=by
 have:∀ i,∃ k r,(qY w n (i+1)).1=(k+97) :: r∧k < 26:=by
  intro i
  induction i with
  | zero=>
   refine ⟨(jl w n 26).1.toNat,[],rfl,?_⟩
   have:=jL w n (m:=26) (by decide)
   have:=jR w n (m:=26) (by decide)
   omega
  | succ i ih=>
   obtain ⟨k,r,e,h⟩:=ih
   exact ⟨k,r++[_],by show (qY w n (i+1)).1++[_]=_;rw [e];rfl,h⟩
 obtain ⟨k,r,e,h⟩:=this i
 have hl:=yQ w n (i+1)
 rw [e] at hl
 have:r.length+1=i+1:=hl
 exact ⟨k,r,by rw [e],h,by omega⟩
def ch0 (z:Str):Nat:=z.cps.toList.getD 0 0
def yz (w:Int) (n:Dl):Str×Dl:=
 let a:=jl w n 8
 let b:=qY w a.2 (1+a.1).toNat
 (wdS b.1,b.2)
def chg (last z:Str) (i:Int):Str:=J1 last none (some i)++wdS [ch0 z]++J1 last (some (i+1)) none
def y3 (w:Int) (n:Dl) (last z:Str):Str×Dl:=
 let a:=jl w n 3
 if a.1=0∧1 < last.length then
  let b:=jl w a.2 ((last.length:Nat):Int)
  (chg last z b.1,b.2)
 else (z,a.2)
def ZX:List Str:=["row","is","at","least","set","put","know","lose","proc","pick"]
def JT (w:Int) (n:Dl) (z:Str):Str×Dl:=
 let a:=jl w n 6
 if a.1=0 then
  let b:=jl w a.2 10
  (qJ ZX b.1,b.2)
 else (z,a.2)
def jey (z:Str):Str:=wdS [(ch0 z - 97+1) % 26+97]++J1 z (some 1) none
def yE (tk:List Str):Nat→Str→Str
 | 0,z=>z
 | k+1,z=>if z∈tk then yE tk k (jey z) else z
def kN (tk:List Str):Str:=tk.getLastD ""
def kY (w:Int) (n:Dl) (tk:List Str):Str×Dl:=
 let a:=yz w n
 let b:=y3 w a.2 (kN tk) a.1
 let c:=JT w b.2 b.1
 (yE tk 26 c.1,c.2)
theorem nm1 (w:Int) (n:Dl):NmW (yz w n).1:=by
 unfold yz
 have h0:=jR w n (m:=8) (by decide)
 have h1:=jL w n (m:=8) (by decide)
 show NmW (wdS (qY w (jl w n 8).2 (1+(jl w n 8).1).toNat).1)
 rw [show (1+(jl w n 8).1).toNat=(jl w n 8).1.toNat+1 by omega]
 exact ZA _ _ _ (by omega)
theorem jdl (c:Nat) (r:List Nat):ch0 (wdS (c :: r))=c:=rfl
theorem jgo (c:Nat) (r:List Nat):J1 (wdS (c :: r)) (some 1) none=wdS r:=by
 refine yp ?_
 rw [yY,HT.sIx_none,show (some (1:Int))=some ((1:Nat):Int) from rfl,HT.sIx_nat,zD,zY]
 rw [show min 1 (c :: r).length=1 by simp only [List.length_cons];omega,List.drop_succ_cons,List.drop_zero,zY]
 exact List.take_of_length_le (by simp)
theorem jdk (c d:Nat) (r s:List Nat) (k:Nat) (hk:k < (c :: r).length):chg (wdS (c :: r)) (wdS (d :: s)) (k:Nat)=wdS ((c :: r).take k++d :: (c :: r).drop (k+1)):=by
 unfold chg
 rw [jdl]
 have e1:J1 (wdS (c :: r)) none (some ((k:Nat):Int))=wdS ((c :: r).take k):=by
  refine yp ?_
  rw [yY,HT.sIx_none,HT.sIx_nat,zD,zY,zY,List.drop_zero,Nat.sub_zero,Nat.min_eq_left (by omega)]
 have e2:J1 (wdS (c :: r)) (some (((k:Nat):Int)+1)) none=wdS ((c :: r).drop (k+1)):=by
  refine yp ?_
  rw [yY,HT.sIx_none,show ((k:Nat):Int)+1=((k+1:Nat):Int) from rfl,HT.sIx_nat,zD,zY,zY,Nat.min_eq_left (by omega)]
  exact List.take_of_length_le (by rw [List.length_drop];omega)
 rw [e1,e2,yL,yL,List.append_assoc]
 rfl
theorem nm2 {w:Int} {n:Dl} {last z:Str} (hl:NmW last) (hz:NmW z):NmW (y3 w n last z).1:=by
 unfold y3
 dsimp only
 split
 ·rename_i c
  obtain ⟨i,r,rfl,hi,hr⟩:=hl
  obtain ⟨j,s,rfl,hj,hs⟩:=hz
  have hp:(0:Int) < ((wdS ((i+97) :: r)).length:Nat):=by have:=c.2;omega
  have h0:=jR w (jl w n 3).2 hp
  have h1:=jL w (jl w n 3).2 hp
  generalize (jl w (jl w n 3).2 (((wdS ((i+97) :: r)).length:Nat):Int)).1=k at h0 h1
  show NmW (chg _ _ k)
  obtain ⟨k,rfl⟩:∃ m:Nat,k=(m:Nat):=⟨k.toNat,by omega⟩
  rw [zD] at h1
  rw [jdk _ _ _ _ _ (by omega)]
  cases k with
  | zero=>exact ⟨j,r,rfl,hj,hr⟩
  | succ k=>
   refine ⟨i,r.take k++(j+97) :: r.drop (k+1),rfl,hi,?_⟩
   simp only [List.length_cons] at h1
   rw [List.length_append,List.length_cons,List.length_take,List.length_drop]
   omega
 ·exact hz
theorem jeS {z:Str} (h:(match z.cps.toList with | c :: r=>decide (97≤c∧c < 123∧r.length≤7) | []=>false)=true):NmW z:=by
 obtain ⟨⟨l⟩⟩:=z
 cases l with
 | nil=>cases h
 | cons c r=>
  have:=of_decide_eq_true h
  refine ⟨c - 97,r,?_,by omega,this.2.2⟩
  rw [Nat.sub_add_cancel this.1]
  rfl
theorem nm3 {w:Int} {n:Dl} {z:Str} (hz:NmW z):NmW (JT w n z).1:=by
 unfold JT
 dsimp only
 split
 ·have h:=Ky (xs:=ZX) (jR w (jl w n 6).2 (m:=10) (by decide)) (jL w (jl w n 6).2 (m:=10) (by decide))
  have all:∀ x∈ZX,(match x.cps.toList with | c :: r=>decide (97≤c∧c < 123∧r.length≤7) | []=>false)=true:=by decide +kernel
  exact jeS (all _ h)
 ·exact hz
theorem kM:∀ x∈jE,NmW x:=fun x hx=>jeS ((by decide +kernel:∀ x∈jE,(match x.cps.toList with | c :: r=>decide (97≤c∧c < 123∧r.length≤7) | []=>false)=true) x hx)
theorem ja6 {i:Nat} (hi:i < 26) (r:List Nat):jey (wdS ((i+97) :: r))=wdS (((i+1) % 26+97) :: r):=by
 unfold jey
 rw [jdl,jgo,yL,Nat.add_sub_cancel]
 rfl
theorem Ys {tk:List Str} {z:Str} (h:z ∉ tk):∀ k,yE tk k z=z
 | 0=>rfl
 | k+1=>by unfold yE;rw [if_neg h]
theorem ZF {tk:List Str} {z:Str} (h:z∈tk) (k:Nat):yE tk (k+1) z=yE tk k (jey z):=by rw [yE,if_pos h]
theorem Yd {tk:List Str} {i:Nat} {r:List Nat} {m:Nat} (hm:m≤26) (h:∀ k < m,wdS (((i+k) % 26+97) :: r)∈tk):m≤tk.length:=by
 have nd:((List.range m).map fun k=>wdS (((i+k) % 26+97) :: r)).Nodup:=by
  refine List.pairwise_map.mpr ((List.nodup_range).imp_of_mem ?_)
  intro a b ha hb hab e
  have ha:=List.mem_range.mp ha
  have hb:=List.mem_range.mp hb
  have:=(List.cons.inj (jaw e)).1
  omega
 have sub:∀ x∈((List.range m).map fun k=>wdS (((i+k) % 26+97) :: r)),x∈tk:=fun x hx=>by
  obtain ⟨k,hk,rfl⟩:=List.mem_map.mp hx
  exact h k (List.mem_range.mp hk)
 have:=jae nd sub
 rw [List.length_map,List.length_range] at this
 exact this
theorem jc7 {tk:List Str} (ht:tk.length≤25) {i:Nat} {r:List Nat} (hr:r.length≤7):∀ (k m:Nat),m+k=26→(∀ j < m,wdS (((i+j) % 26+97) :: r)∈tk)→NmW (yE tk k (wdS (((i+m) % 26+97) :: r)))∧yE tk k (wdS (((i+m) % 26+97) :: r)) ∉ tk:=by
 intro k
 induction k with
 | zero=>
  intro m hm h
  have:=Yd (m:=m) (by omega) h
  omega
 | succ k ih=>
  intro m hm h
  by_cases hz:wdS (((i+m) % 26+97) :: r)∈tk
  ·rw [ZF hz,ja6 (Nat.mod_lt _ (by decide)),show ((i+m) % 26+1) % 26=(i+(m+1)) % 26 by omega]
   refine ih (m+1) (by omega) (fun j hj=>?_)
   rcases Nat.lt_succ_iff_lt_or_eq.mp hj with hj | rfl
   ·exact h j hj
   ·exact hz
  ·rw [Ys hz]
   exact ⟨⟨_,r,rfl,Nat.mod_lt _ (by decide),hr⟩,hz⟩
theorem yy (w:Int) (n:Dl) {tk:List Str} (hn:tk≠[]) (ht:tk.length≤25) (h:∀ z∈tk,NmW z):NmW (kY w n tk).1∧(kY w n tk).1 ∉ tk:=by
 unfold kY
 dsimp only
 have hl:NmW (kN tk):=h _ (by unfold kN;rw [List.getLastD_eq_getLast?,List.getLast?_eq_some_getLast hn];exact List.getLast_mem hn)
 have h3:=nm3 (w:=w) (n:=(y3 w (yz w n).2 (kN tk) (yz w n).1).2) (nm2 (w:=w) (n:=(yz w n).2) hl (nm1 w n))
 generalize (JT w (y3 w (yz w n).2 (kN tk) (yz w n).1).2 (y3 w (yz w n).2 (kN tk) (yz w n).1).1).1=z at h3 ⊢
 obtain ⟨i,r,rfl,hi,hr⟩:=h3
 have:=jc7 (i:=i) ht hr 26 0 rfl (fun j hj=>absurd hj (Nat.not_lt_zero _))
 rw [show (i+0) % 26=i by omega] at this
 exact this
abbrev Zp:Stmt:=top 31
def Ko:Sp:=fun vs H Q _=>∃ (d l:Addr) (w:Int) (n:Dl) (tk:List Str),vs=[.ref d,.ref l]∧H d=some (dlO w n)∧H l=some (.lst (tk.map V.str))∧tk≠[]∧tk.length≤25∧(∀ z∈tk,NmW z)∧∀ H',(∀ b o,b≠d→b≠l→H b=some o→H' b=some o)→H' d=some (dlO w (kY w n tk).2)→H' l=some (.lst ((tk++[(kY w n tk).1]).map V.str))→Q (.str (kY w n tk).1) H'
theorem jba {c:TT} {tb:TS} {D:Ends} {σ:St} {H:Hp} (Pv:Nat→St→Hp→Prop) (n:Nat) (h0:Pv n σ H)
  (hs:∀ m σ H,Pv m σ H→c σ H fun b H1=>if b=true then tb { D with nx:=fun σ' H'=>∃ m',m' < m∧Pv m' σ' H',ct:=fun σ' H'=>∃ m',m' < m∧Pv m' σ' H',bk:=D.nx } σ H1 else D.nx σ H1)
  (mono:∀ σ H Q Q',(∀ b H1,Q b H1→Q' b H1)→c σ H Q→c σ H Q'):ZY c tb D σ H:=by
 refine ⟨Pv,⟨n,h0⟩,fun m σ H p=>mono σ H _ _ (fun b H1 q=>?_) (hs m σ H p)⟩
 cases b with
 | true=>exact ⟨_,fun σ' H' h=>h,q⟩
 | false=>exact q
theorem jeA {tk:List Str} (h:tk≠[]):atI (tk.map V.str) (-1)=some (.str (kN tk)):=by
 have hp:0 < tk.length:=List.length_pos_iff.mpr h
 have e:=List.getLast?_eq_some_getLast h
 rw [List.getLast?_eq_getElem?] at e
 unfold atI ixN kN
 rw [if_neg (by decide),if_pos (by rw [List.length_map];omega),List.getLastD_eq_getLast?,List.getLast?_eq_getElem?,e]
 show (tk.map V.str)[_]?=_
 rw [List.getElem?_map,show (-1+((tk.map V.str).length:Int)).toNat=tk.length - 1 by rw [List.length_map];omega,e]
 rfl
theorem jcS {z:Str} (h:NmW z):z.length≤8:=by
 obtain ⟨i,r,rfl,-,h⟩:=h
 rw [zD,List.length_cons]
 omega
section
variable {P:Program} {w:World} {K:W.Frag} {mg:Str→Option Value} {base:Heap}
theorem jec {f:Addr} {fd:FuncData} (F:Fun K "_law_name" "_law_name" Zp f fd) (B:Free0 mg) (F_draw:Fn P w K mg base 1 "_law_draw" ["_law_deal_here","_law_many_here"] qI):FnOk P w K mg base CX0 2 f fd ["_law_deal_here","_law_taken_here"] Ko:=by
 have sc:FnScope ["_law_deal_here","_law_taken_here","_law_letters","_law_word","_law_at"] ["_law_deal_here","_law_taken_here"] (jw Zp):=fQ
 refine F.okZ sc (fun vs H Q E h=>?_) (fun cdv A outer s H vs Q E hr h=>?_)
 ·obtain ⟨d,l,w,n,tk,rfl,_⟩:=h
  rfl
 obtain ⟨d,l,w,n,tk,rfl,hd,hl,hne,ht,hnm,q⟩:=h
 have hu:=jeX hr
 refine ⟨_,(je (js (i:=2) sc.nd rfl oQ jq)
   (je (js (i:=3) sc.nd rfl oQ (qS PySem.F.plainAttrs_str PySem.F.slot_str_join PySem.F.type_str_join jel jq (jb (ze ["_law_k"] [0,2] rfl (qH (sc:=jw Zp) (N:=["_law_deal_here","_law_taken_here","_law_letters","_law_word","_law_at"]) rfl rfl (by decide +kernel)) (kx (by rfl) B.range_ (jb (jD qX ji (jH F_draw hr (jb (zpv 0) (jb ji jd)))) jd)) (fun s H ex=>⟨(jy (i:=0) (show List.Nodup (["_law_k","_law_deal_here","_law_letters"]:List Str) by decide +kernel) rfl oQ),qm,(jz YX (zpv 2) (jH F_draw hr (jb (zpv 1) (jb ji jd))) (fun _ _=>rfl))⟩)) jd)))
   (je (jT (qE (jv kq (jH F_draw hr (jb (zpv 0) (jb ji jd))) ji (jP _)) (qg (jv Jp (j0 Jw (by rfl) B.len_ ke (jb (jz jW (zpv 1) (YH YJ ji) (fun _ _=>rfl)) jd)) ji (jP _)))).pt (je (js (i:=4) sc.nd rfl oQ (jH F_draw hr (jb (zpv 0) (jb (j0 Jw (by rfl) B.len_ ke (jb (jz jW (zpv 1) (YH YJ ji) (fun _ _=>rfl)) jd)) jd))))
   (jn (js (i:=3) sc.nd rfl oQ (jD y9 (jD y9 (kA Z3 (jz jW (zpv 1) (YH YJ ji) (fun _ _=>rfl)) qA (kj (zpv 4))) (jz YX (zpv 3) ji (fun _ _=>rfl))) (kA Z3 (jz jW (zpv 1) (YH YJ ji) (fun _ _=>rfl)) (kj (jD qX (zpv 4) ji)) qA))))) jA)
   (je (jT (jv kq (jH F_draw hr (jb (zpv 0) (jb ji jd))) ji (jP _)) (jn (js (i:=3) sc.nd rfl oQ (jz jW (jM (jb jq (jb jq (jb jq (jb jq (jb jq (jb jq (jb jq (jb jq (jb jq (jb jq jd))))))))))) (jH F_draw hr (jb (zpv 0) (jb ji jd))) (fun _ _=>rfl)))) jA)
   (je (ja8 PassesOwn.never (jv (zy (K:=K)) (zpv 3) (zpv 1) rfl) (jn (js (i:=3) sc.nd rfl oQ (jD y9 (jz YX (zpv 2) (jD zx (jD qX (qS PySem.F.plainAttrs_str PySem.F.slot_str_index PySem.F.type_str_index jcV (zpv 2) (jb (jz YX (zpv 3) ji (fun _ _=>rfl)) jd)) ji) ji) (fun _ _=>rfl)) (kA Z3 (zpv 3) (kj ji) qA)))))
   (je (kE (qS PySem.F.plainAttrs_list PySem.F.slot_list_append PySem.F.type_list_append za (zpv 1) (jb (zpv 3) jd)))
   (jn (jB (zpv 3))))))))),?_⟩
 try dsimp only [q0]
 refine kb (σ':=[some (.ref d),some (.ref l),none,none,none]) rfl ?_
 have hab:Jc.length≤sizeLine:=by show 26≤sizeLine;rw [sizeLine_eq];decide
 have hld:l≠d:=fun z=>by
  rw [z,hd] at hl
  injection hl with e;injection e with e
  cases tk with
  | nil=>cases e
  | cons x xs=>injection e with e;cases e
 unfold kY yz at q
 dsimp only at q
 have a1:=jR w n (m:=8) (by decide)
 have a2:=jL w n (m:=8) (by decide)
 refine ⟨rfl,_,rfl,d,w,n,8,rfl,hd,by decide,by decide,_,_,rfl,rfl,?_⟩
 have k0:=Keep.upd d H (dlO w (jl w n 8).2)
 have d0:upd H d (dlO w (jl w n 8).2) d=some (dlO w (jl w n 8).2):=jg
 generalize upd H d (dlO w (jl w n 8).2)=H0 at *
 generalize jl w n 8=x at *
 obtain ⟨x,n1⟩:=x
 dsimp only at q a1 a2 d0 ⊢
 refine ⟨_,rfl,(by omega),(by omega),fun p hp=>?_⟩
 have npd:p≠d:=fun z=>by rw [z,d0] at hp;cases hp
 let Pv:Nat→St→Hp→Prop:=fun i σ' G=>∃ u,σ'=[u,some (.ref d),some (.str Jc)]∧Keep d H0 G∧G d=some (dlO w (qY w n1 i).2)∧G p=some (.lst (((qY w n1 i).1.map fun c=>wdS [c]).map V.str))
 refine kR Pv ⟨none,rfl,Keep.same (jr hp _),(by rw [jx npd.symm];exact d0),jg⟩ ?_ ?_
 ·rintro i σ' G hi ⟨u,rfl,kG,dG,hGp⟩
  have lo:=jR w (qY w n1 i).2 (m:=26) (by decide)
  have hi2:=jL w (qY w n1 i).2 (m:=26) (by decide)
  have k4:=Keep.upd d G (dlO w (jl w (qY w n1 i).2 26).2)
  have al:=yQ w n1 i
  unfold qN JB
  refine yl ?_
  refine ⟨_,rfl,_,rfl,d,w,_,26,rfl,dG,by decide,by decide,Jc,_,_,rfl,rfl,hab,jdw lo hi2,_,k4 _ _ npd hGp,j8 (by rw [List.length_map,List.length_map];omega),_,rfl,fun c o hc e=>?_,?_,?_⟩
  ·rw [jx (ju e hp)];exact k4 _ _ hc (kG _ _ hc e)
  ·rw [jx npd.symm];exact jg
  ·rw [jg]
   show _=some (HO.lst ((((qY w n1 i).1++[_]).map fun c=>wdS [c]).map V.str))
   rw [List.map_append,List.map_append]
   rfl
 rintro σ' G ⟨u,rfl,kG,dG,hGp⟩
 have al:=yQ w n1 (1+x).toNat
 have kH:=k0.trans kG
 have hlG:=kH.strs hd hl
 have hz1:((((qY w n1 (1+x).toNat).1.map fun c=>wdS [c]).map (·.length)).sum+((qY w n1 (1+x).toNat).1.map fun c=>wdS [c]).length * (Str.ofString "").length≤16777216):=by
  have e0:(Str.ofString "").length=0:=rfl
  rw [e0,Nat.mul_zero,Nat.add_zero,List.map_map]
  have:∀ l:List Nat,(l.map ((fun z:Str=>z.length) ∘ fun c=>wdS [c])).sum=l.length:=by
   intro l
   induction l with
   | nil=>rfl
   | cons c l ih=>rw [List.map_cons,List.sum_cons,ih,List.length_cons];show 1+_=_;omega
  rw [this]
  omega
 refine ⟨Str.ofString "",p,_,rfl,rfl,SqL.of hGp,hz1,?_⟩
 rw [show Txt.join (Str.ofString "") ((qY w n1 (1+x).toNat).1.map fun c=>wdS [c])=wdS (qY w n1 (1+x).toNat).1 from jeo _]
 have w1:NmW (wdS (qY w n1 (1+x).toNat).1):=by
  rw [show (1+x).toNat=x.toNat+1 by omega]
  exact ZA _ _ _ (by omega)
 generalize qY w n1 (1+x).toNat=r1 at *
 obtain ⟨r1,n2⟩:=r1
 dsimp only at q dG w1 ⊢
 generalize wdS r1=z1 at *
 have hlast:atI (tk.map V.str) (-1)=some (.str (kN tk)):=jeA hne
 have hll:NmW (kN tk):=hnm _ (by unfold kN;rw [List.getLastD_eq_getLast?,List.getLast?_eq_some_getLast hne];exact List.getLast_mem hne)
 have hl8:=jcS hll
 have w2:=nm2 (w:=w) (n:=n2) hll w1
 refine gQ ?_
 refine jbe (fun σ G2=>∃ u,σ=[some (.ref d),some (.ref l),some (.str Jc),some (.str (y3 w n2 (kN tk) z1).1),u]∧Keep d H G2∧G2 d=some (dlO w (y3 w n2 (kN tk) z1).2)) ?_ (fun kk=>?_)
 rotate_left
 ·unfold y3 at kk
  dsimp only at kk
  have k5:=Keep.upd d G (dlO w (jl w n2 3).2)
  have d5:upd G d (dlO w (jl w n2 3).2) d=some (dlO w (jl w n2 3).2):=jg
  refine ⟨_,rfl,d,w,n2,3,rfl,dG,by decide,by decide,rfl,_,rfl,?_⟩
  have hl5:=k5.strs dG hlG
  generalize upd G d (dlO w (jl w n2 3).2)=G5 at *
  generalize jl w n2 3=x3 at *
  obtain ⟨x3,n3⟩:=x3
  dsimp only at kk d5 ⊢
  refine jU (fun c=>?_) (fun c=>?_)
  ·have c':x3=0:=by have:=of_decide_eq_true c;injection this
   refine ⟨_,rfl,_,rfl,l,_,_,_,rfl,rfl,SqL.of hl5,hlast,kN tk,rfl,kc (by omega),_,_,rfl,rfl,_,rfl,jU (fun c2=>?_) (fun c2=>?_)⟩
   ·have c2':1 < (kN tk).length:=by have:=of_decide_eq_true c2;omega
    rw [if_pos ⟨c',c2'⟩] at kk
    have lo:=jR w n3 (m:=((kN tk).length:Nat)) (by omega)
    have hi:=jL w n3 (m:=((kN tk).length:Nat)) (by omega)
    have k6:=Keep.upd d G5 (dlO w (jl w n3 ((kN tk).length:Nat)).2)
    have d6:upd G5 d (dlO w (jl w n3 ((kN tk).length:Nat)).2) d=some (dlO w (jl w n3 ((kN tk).length:Nat)).2):=jg
    refine ⟨_,rfl,_,rfl,_,rfl,l,_,_,_,rfl,rfl,SqL.of hl5,hlast,kN tk,rfl,kc (by omega),d,w,n3,((kN tk).length:Nat),rfl,d5,by omega,by omega,?_⟩
    have hl6:=k6.strs d5 hl5
    generalize upd G5 d (dlO w (jl w n3 ((kN tk).length:Nat)).2)=G6 at *
    generalize jl w n3 ((kN tk).length:Nat)=x4 at *
    obtain ⟨x4,n4⟩:=x4
    dsimp only at kk d6 lo hi ⊢
    refine gQ ?_
    obtain ⟨x4,rfl⟩:∃ m:Nat,x4=(m:Nat):=⟨x4.toNat,by omega⟩
    have zl:=jcS w1
    obtain ⟨ci,cr,e1,-,-⟩:=w1
    obtain ⟨li,lr,e2,-,e4⟩:=hll
    have e3:=jdk (li+97) (ci+97) lr cr x4 (by rw [e2,zD] at hi;omega)
    rw [← e2,← e1] at e3
    have c0:atI z1.cps.toList 0=some (ch0 z1):=by rw [e1];exact ko (j:=0) rfl
    have cl1:=Kg (kN tk) none (some (x4:Int))
    have cl2:=Kg (kN tk) (some ((x4:Int)+1)) none
    refine ⟨_,rfl,_,rfl,l,_,_,_,rfl,rfl,SqL.of hl6,hlast,_,rfl,_,rfl,kN tk,rfl,kc (by omega),_,rfl,z1,0,_,rfl,rfl,kc (by omega),c0,_,_,rfl,rfl,?_,?_⟩
    ·exact kc (by show _+1≤_;omega)
    refine ⟨_,rfl,_,rfl,l,_,_,_,rfl,rfl,SqL.of hl6,hlast,_,rfl,_,_,rfl,rfl,_,rfl,kN tk,rfl,kc (by omega),_,_,rfl,rfl,kc ?_,?_⟩
    ·rw [Str.length_append]
     show _+1+_≤_
     omega
    refine kk _ _ ⟨_,rfl,kH.trans (k5.trans k6),d6⟩
   ·rw [if_neg (fun h=>c2 (decide_eq_true (by have:=h.2;omega)))] at kk
    exact kk _ _ ⟨_,rfl,kH.trans k5,d5⟩
  ·rw [if_neg (fun h=>c (decide_eq_true (congrArg V.int h.1)))] at kk
   exact kk _ _ ⟨_,rfl,kH.trans k5,d5⟩
 rintro σ G2 ⟨u5,rfl,kG2,dG2⟩
 clear kG dG hlG
 have hl2:=kG2.strs hd hl
 generalize y3 w n2 (kN tk) z1=z2 at *
 obtain ⟨z2,n3⟩:=z2
 dsimp only at q w2 dG2 ⊢
 have w3:=nm3 (w:=w) (n:=n3) w2
 refine jbe (fun σ G3=>σ=[some (.ref d),some (.ref l),some (.str Jc),some (.str (JT w n3 z2).1),u5]∧Keep d H G3∧G3 d=some (dlO w (JT w n3 z2).2)) ?_ (fun kk=>?_)
 rotate_left
 ·unfold JT at kk
  dsimp only at kk
  have k5:=Keep.upd d G2 (dlO w (jl w n3 6).2)
  have d5:upd G2 d (dlO w (jl w n3 6).2) d=some (dlO w (jl w n3 6).2):=jg
  refine ⟨_,rfl,d,w,n3,6,rfl,dG2,by decide,by decide,rfl,_,rfl,?_⟩
  generalize upd G2 d (dlO w (jl w n3 6).2)=G5 at *
  generalize jl w n3 6=x3 at *
  obtain ⟨x3,n4⟩:=x3
  dsimp only at kk d5 ⊢
  refine jU (fun c=>?_) (fun c=>?_)
  ·have c':x3=0:=by have:=of_decide_eq_true c;injection this
   rw [if_pos c'] at kk
   refine ⟨sm rfl,fun p2 hp2=>?_⟩
   have s6:=jr hp2 (.lst (ZX.map V.str))
   have e6:upd G5 p2 (.lst (ZX.map V.str)) p2=some (.lst (ZX.map V.str)):=jg
   have lo:=jR w n4 (m:=10) (by decide)
   have hi:=jL w n4 (m:=10) (by decide)
   refine ⟨_,rfl,d,w,n4,10,rfl,s6 _ _ d5,by decide,by decide,p2,_,_,_,rfl,rfl,SqL.of (xs:=ZX.map V.str) ?_,zp lo hi,?_⟩
   ·rw [jx (fun z=>by rw [z,d5] at hp2;cases hp2)];exact e6
   refine kk _ _ ⟨rfl,kG2.trans (k5.trans ((Keep.same s6).trans (Keep.upd _ _ _))),jg⟩
  ·rw [if_neg (fun h=>c (decide_eq_true (congrArg V.int h)))] at kk
   exact kk _ _ ⟨rfl,kG2.trans k5,d5⟩
 rintro σ G3 ⟨rfl,kG3,dG3⟩
 clear kG2 dG2 hl2
 have hl3:=kG3.strs hd hl
 generalize JT w n3 z2=z3 at *
 obtain ⟨z3,n4⟩:=z3
 dsimp only at q w3 dG3 ⊢
 obtain ⟨i0,r0,rfl,hi0,hr0⟩:=w3
 refine jba (fun m σ G=>∃ k,k+m=26∧σ=[some (.ref d),some (.ref l),some (.str Jc),some (.str (wdS (((i0+k) % 26+97) :: r0))),u5]∧G=G3∧yE tk 26 (wdS ((i0+97) :: r0))=yE tk m (wdS (((i0+k) % 26+97) :: r0))∧∀ j < k,wdS (((i0+j) % 26+97) :: r0)∈tk) 26 ⟨0,rfl,by rw [show (i0+0) % 26=i0 by omega],rfl,by rw [show (i0+0) % 26=i0 by omega],fun j hj=>absurd hj (Nat.not_lt_zero _)⟩ ?_ ?_
 ·rintro m σ G ⟨k,hk,rfl,rfl,ef,hall⟩
  have few:=Yd (m:=k) (by omega) hall
  obtain ⟨m,rfl⟩:∃ m',m=m'+1:=⟨m - 1,by omega⟩
  refine ⟨_,rfl,_,rfl,l,_,rfl,.inl (SqL.of hl3),rfl,?_,_,rfl,jU (fun c=>?_) (fun c=>?_)⟩
  ·exact qO _
  ·have hin:wdS (((i0+k) % 26+97) :: r0)∈tk:=of_decide_eq_true ((kz _ _).symm.trans c)
   have hb:(i0+k) % 26 < 26:=Nat.mod_lt _ (by decide)
   rw [ZF hin,ja6 hb,show ((i0+k) % 26+1) % 26=(i0+(k+1)) % 26 by omega] at ef
   have zl:(wdS (((i0+k) % 26+97) :: r0)).length≤8:=by rw [zD,List.length_cons];omega
   have hq:(((i0+k) % 26:Nat):Int)+1=(((i0+k) % 26+1:Nat):Int):=rfl
   refine ⟨_,rfl,_,rfl,rfl,_,rfl,_,0,_,rfl,rfl,kc (by omega),ko (j:=0) rfl,Jc,_,_,_,rfl,rfl,jfJ hb,_,_,rfl,rfl,_,_,rfl,rfl,(by show (0:Int) < _;decide),Jc,_,_,rfl,rfl,hab,jdw (by omega) (by omega),?_⟩
   refine ⟨_,rfl,_,rfl,_,rfl,kc (by omega),_,_,rfl,rfl,kc ?_,?_⟩
   ·have:=Kg (wdS (((i0+k) % 26+97) :: r0)) (some 1) none
    show 1+_≤_
    omega
   ·refine ⟨m,Nat.lt_succ_self _,k+1,by omega,?_,rfl,ef,fun j hj=>?_⟩
    ·have e9:(wdS [((((i0+k) % 26:Nat):Int)+1) % 26 |>.toNat |> (·+97)]++J1 (wdS (((i0+k) % 26+97) :: r0)) (some 1) none)=wdS (((i0+(k+1)) % 26+97) :: r0):=by
      rw [jgo,yL]
      show wdS ((_+97) :: r0)=_
      rw [show (((((i0+k) % 26:Nat):Int)+1) % 26).toNat=(i0+(k+1)) % 26 by omega]
     rw [← e9]
     rfl
    ·rcases Nat.lt_succ_iff_lt_or_eq.mp hj with hj | rfl
     ·exact hall j hj
     ·exact hin
  ·have hout:wdS (((i0+k) % 26+97) :: r0) ∉ tk:=fun z=>c ((kz _ _).trans (decide_eq_true z))
   rw [Ys hout] at ef
   rw [ef] at q
   refine ⟨_,rfl,.inl ⟨rfl,_,SqL.of hl3⟩,_,rfl,l,_,_,rfl,rfl,hl3,j8 (by rw [List.length_map];omega),_,rfl,?_⟩
   refine q _ (fun b o hb hb2 e=>?_) ?_ ?_
   ·rw [jx hb2];exact kG3 _ _ hb e
   ·rw [jx hld.symm];exact dG3
   ·rw [jg,List.map_append];rfl
 ·intro σ H1 Q1 Q2 hm h
  obtain ⟨v1,e1,v2,e2,i,j,e3,e4,e5,e6,k,e7,h⟩:=h
  exact ⟨v1,e1,v2,e2,i,j,e3,e4,e5,e6,k,e7,hm _ _ h⟩
end
abbrev Pr2:Type:=List (Int×Dl)×Nat
def lsA (w:Int) (n:Dl) (xs rs:List Str):Tm:=(kZ w n xs rs).1
def lsB (w:Int) (n:Dl) (xs rs:List Str):Tm:=(kZ w (kZ w n xs rs).2 xs rs).1
def lsC (w:Int) (n:Dl) (xs rs:List Str):Int:=(JZ w (kZ w (kZ w n xs rs).2 xs rs).2).1
theorem jcZ (w:Int) (n:Dl) (xs rs:List Str):(zj w n xs rs).1=.least (lsA w n xs rs) (lsB w n xs rs) (lsC w n xs rs):=rfl
def KI (lv:Nat) (bf:Pr2→List (StN lv)×Pr2) (xs rs:List Str) (hds:List Hd) (L:List (Int×Dl)) (left:Nat) (w:Int) (n:Dl) (f:Int) (x:Str):StN (lv+1)×Pr2:=
 if f=2∧0 < rs.length then
  let c:=jl w n ((rs.length:Nat):Int)
  let p:=qW w c.2 xs
  let t:=kZ w p.2 xs rs
  (Fo.leaf (.put (qJ rs c.1) p.1.1 p.1.2 t.1 (JZ w t.2).1),L,left)
 else if f=3 then (Fo.leaf (.any x),L,left)
 else if f=4 then (Fo.leaf (.claim (Jb w n xs rs).1),L,left)
 else if f=5∧0 < lv then
  let B:=bf (L,left)
  let C:=bf B.2
  (Fo.ite (lsA w n xs rs) (lsB w n xs rs) (lsC w n xs rs) B.1 C.1,C.2)
 else if f=6∧0 < lv then
  let e:=jl w (zj w n xs rs).2 4
  let m:=jl w e.2 (if e.1 / 3=0 then 3 else 7)
  let ks:=kC xs rs L m.1.toNat
  let B:=bf (ks.2,left)
  (Fo.whl (lsA w n xs rs) (lsB w n xs rs) (lsC w n xs rs) ks.1 B.1,B.2)
 else if f=7 then (Fo.leaf (Yx w n x xs rs hds).1,L,left)
 else
  let t:=kZ w n xs rs
  (Fo.leaf (.set x t.1 (JZ w t.2).1),L,left)
def qa (lv:Nat) (bf:Pr2→List (StN lv)×Pr2) (xs fr rs:List Str) (hds:List Hd) (L:List (Int×Dl)) (left:Nat):StN (lv+1)×Pr2:=
 let y:=qb L
 let a:=jl y.1.1 y.1.2 8
 let b:=jl y.1.1 a.2 ((fr.length:Nat):Int)
 KI lv bf xs rs hds y.2 (left - 1) y.1.1 b.2 a.1 (qJ fr b.1)
def ky {α:Type} (f:List (Int×Dl)→Nat→α×Pr2) (L:List (Int×Dl)) (left:Nat):Nat→List α×Pr2
 | 0=>([],L,left)
 | k+1=>
  let p:=ky f L left k
  if 0 < p.2.1.length∧0 < p.2.2 then
   let s:=f p.2.1 p.2.2
   (p.1++[s.1],s.2)
  else p
def JU:Nat→Int
 | 3=>31
 | 2=>7
 | _=>4
def kF (xs fr rs:List Str) (hds:List Hd):(lv:Nat)→Pr2→List (StN lv)×Pr2
 | 0=>fun S=>([],S)
 | lv+1=>fun S=>
  let y:=qb S.1
  ky (qa lv (kF xs fr rs hds lv) xs fr rs hds) y.2 S.2 (jl y.1.1 y.1.2 (JU lv)).1.toNat
structure WdFit (A:Wd) (a:Addr) (xs fr rs:List Str) (hds:List Hd):Prop where
 n:A.nl≠a
 f:A.fl≠a
 r:A.rl≠a
 h:A.hl≠a
 x0:0 < xs.length
 x1:xs.length≤100
 f0:0 < fr.length
 f1:fr.length≤100
 r1:rs.length≤100
 h1:hds.length≤100
 h2:∀ h∈hds,h.2.1≤100
theorem Jr {H:Hp}:∀ {hds:List Hd} {hs:List V},HeldL H (hds.map hdD) hs→∀ (w:Int) (n:Dl),hs≠[.int n.1,.int n.2]
 | [],hs,h,w,n,e=>by cases jK h;cases e
 | x :: hds,hs,h,w,n,e=>by
  obtain ⟨v1,r1,rfl,e1,-⟩:=jk h
  obtain ⟨a,rfl,-⟩:=YZ e1
  injection e with e;cases e
theorem DealsAt.out {H:Hp} {a b:Addr} {ds:List Addr} {L:List (Int×Dl)} (D:DealsAt H a ds L) {o:HO} (hb:H b=some o) (n:b≠a) (h:∀ (w:Int) (n:Dl),o≠dlO w n):b ∉ a :: ds:=fun z=>by
 rcases List.mem_cons.mp z with z | z
 ·exact n z
 ·obtain ⟨i,hi,e⟩:=List.getElem_of_mem z
  have hi2:i < L.length:=by have:=D.n;omega
  have:=D.at_ i b L[i] (by rw [List.getElem?_eq_getElem hi,e]) (List.getElem?_eq_getElem hi2)
  rw [hb] at this
  injection this with this
  exact h _ _ this
theorem DealsAt.no {H:Hp} {a b:Addr} {ds:List Addr} {L:List (Int×Dl)} (D:DealsAt H a ds L) {o:HO} (hb:H b=some o) (h:∀ us,o≠.lst us):b ∉ a :: ds:=D.out hb (fun z=>by rw [z,D.l] at hb;injection hb with hb;exact h _ hb.symm) fun _ _=>h _
theorem DealsAt.new {H:Hp} {a b:Addr} {ds:List Addr} {L:List (Int×Dl)} (D:DealsAt H a ds L) (hb:H b=none):b ∉ a :: ds:=fun z=>by
 rcases List.mem_cons.mp z with z | z
 ·rw [z,D.l] at hb;cases hb
 ·obtain ⟨i,hi,e⟩:=List.getElem_of_mem z
  have hi2:i < L.length:=by have:=D.n;omega
  rw [D.at_ i b L[i] (by rw [List.getElem?_eq_getElem hi,e]) (List.getElem?_eq_getElem hi2)] at hb
  cases hb
theorem YK {xs:List Str} {w:Int} {n:Dl}:HO.lst (xs.map V.str)≠dlO w n:=fun e=>by
 injection e with e
 cases xs with
 | nil=>cases e
 | cons x xs=>injection e with e;cases e
theorem WorldAt.of {H H':Hp} {wd:Addr} {A:Wd} {xs fr rs:List Str} {hds:List Hd} {left:Int} (W:WorldAt H wd A xs fr rs hds left) (hd:∀ kvs,H wd=some (.dK kvs)→H' wd=some (.dK kvs)) (hs:∀ b zs,b=A.nl∨b=A.fl∨b=A.rl∨b=A.hl→(∀ (w:Int) (n:Dl),HO.lst zs≠dlO w n)→H b=some (.lst zs)→H' b=some (.lst zs)) (tk:TK H H'):WorldAt H' wd A xs fr rs hds left:=by
 obtain ⟨kvs,h1,h2⟩:=W.d
 obtain ⟨hs',h3,h4⟩:=W.h
 exact ⟨⟨kvs,hd _ h1,h2⟩,hs _ _ (.inl rfl) (fun _ _=>YK) W.n,hs _ _ (.inr (.inl rfl)) (fun _ _=>YK) W.f,hs _ _ (.inr (.inr (.inl rfl))) (fun _ _=>YK) W.r,hs',hs _ _ (.inr (.inr (.inr rfl))) (fun _ _ e=>by injection e with e;exact Jr h4 0 _ e) h3,tk.heldL h4⟩
theorem WorldAt.same {H H':Hp} {wd:Addr} {A:Wd} {xs fr rs:List Str} {hds:List Hd} {left:Int} (W:WorldAt H wd A xs fr rs hds left) (s:Same H H'):WorldAt H' wd A xs fr rs hds left:=W.of (fun _=>s _ _) (fun b zs _ _=>s _ _) (fun _ _=>s _ _)
theorem WorldAt.keep {H H':Hp} {wd d:Addr} {A:Wd} {xs fr rs:List Str} {hds:List Hd} {left w:Int} {n:Dl} (W:WorldAt H wd A xs fr rs hds left) (k:Keep d H H') (hd:H d=some (dlO w n)):WorldAt H' wd A xs fr rs hds left:=W.of (fun _ e=>k _ _ (fun z=>by rw [z,hd] at e;cases e) e) (fun b zs _ nz e=>k _ _ (fun z=>by rw [z,hd] at e;injection e with e;exact nz _ _ e.symm) e) (k.tk hd)
theorem Out.tk {H H':Hp} {a:Addr} {ds:List Addr} {L:List (Int×Dl)} (o:Out (a :: ds) H H') (D:DealsAt H a ds L):TK H H':=fun b ys e=>o _ _ (D.no e fun _ z=>by cases z) e
theorem WorldAt.out {H H':Hp} {wd a:Addr} {ds:List Addr} {L:List (Int×Dl)} {A:Wd} {xs fr rs:List Str} {hds:List Hd} {left:Int} (W:WorldAt H wd A xs fr rs hds left) (o:Out (a :: ds) H H') (D:DealsAt H a ds L) (f:WdFit A a xs fr rs hds):WorldAt H' wd A xs fr rs hds left:=W.of (fun _ e=>o _ _ (D.no e fun _ z=>by cases z) e) (fun b zs hb nz e=>o _ _ (D.out e (by rcases hb with rfl | rfl | rfl | rfl;exact f.n;exact f.f;exact f.r;exact f.h) nz) e) (o.tk D)
theorem jcj {kvs:List (Key×V)} {k:Key} {v u:V} (h:qw kvs k=some v):(q5 kvs k u).length=kvs.length:=by
 unfold q5
 rw [ym,h]
 exact List.length_map ..
theorem WorldAt.put {H:Hp} {wd:Addr} {A:Wd} {xs fr rs:List Str} {hds:List Hd} {left l2:Int} {kvs:List (Key×V)} (W:WorldAt H wd A xs fr rs hds left) (hw:H wd=some (.dK kvs)):WorldAt (upd H wd (.dK (q5 kvs (.inr (Str.ofString "left")) (.int l2)))) wd A xs fr rs hds l2:=by
 obtain ⟨kvs',h1,h5,a1,a2,a3,a4,a5⟩:=W.d
 rw [hw] at h1
 cases h1
 have nl:∀ b zs,H b=some (.lst zs)→upd H wd (.dK (q5 kvs (.inr (Str.ofString "left")) (.int l2))) b=some (.lst zs):=fun b zs e=>by rw [jx (fun z=>by rw [z,hw] at e;cases e)];exact e
 obtain ⟨hs,h3,h4⟩:=W.h
 refine ⟨⟨_,jg,by rw [jcj a5];exact h5,?_,?_,?_,?_,?_⟩,nl _ _ W.n,nl _ _ W.f,nl _ _ W.r,hs,nl _ _ h3,TK.heldL (fun b ys e=>by rw [jx (fun z=>by rw [z,hw] at e;cases e)];exact e) h4⟩
 ·rw [qT,if_neg (by decide)];exact a1
 ·rw [qT,if_neg (by decide)];exact a2
 ·rw [qT,if_neg (by decide)];exact a3
 ·rw [qT,if_neg (by decide)];exact a4
 ·rw [qT,if_pos rfl]
structure StA (H0:Hp) (a wd:Addr) (ds0:List Addr) (A:Wd) (xs fr rs:List Str) (hds:List Hd) (left:Int) (H:Hp) (d:Addr) (w:Int) (n:Dl) (k:Nat) (L:List (Int×Dl)):Prop where
 o:Out (wd :: a :: ds0) H0 H
 hd:H d=some (dlO w n)
 D:DealsAt H a (ds0.drop k) L
 W:WorldAt H wd A xs fr rs hds left
 nd:d ∉ ds0.drop k
 dd:H0 d=none∨d∈ds0
theorem StA.keep {H0 H H':Hp} {a wd d:Addr} {ds0:List Addr} {A:Wd} {xs fr rs:List Str} {hds:List Hd} {left w:Int} {n m:Dl} {k:Nat} {L:List (Int×Dl)} (S:StA H0 a wd ds0 A xs fr rs hds left H d w n k L) (q:Keep d H H') (e:H' d=some (dlO w m)):StA H0 a wd ds0 A xs fr rs hds left H' d w m k L:=by
 refine ⟨fun b o hb h=>q _ _ (fun z=>?_) (S.o _ _ hb h),e,S.D.keep q S.hd S.nd,S.W.keep q S.hd,S.nd,S.dd⟩
 rcases S.dd with z2 | z2
 ·rw [← z,h] at z2;cases z2
 ·exact hb (z ▸ List.mem_cons_of_mem _ (List.mem_cons_of_mem _ z2))
theorem StA.same {H0 H H':Hp} {a wd d:Addr} {ds0:List Addr} {A:Wd} {xs fr rs:List Str} {hds:List Hd} {left w:Int} {n:Dl} {k:Nat} {L:List (Int×Dl)} (S:StA H0 a wd ds0 A xs fr rs hds left H d w n k L) (s:Same H H'):StA H0 a wd ds0 A xs fr rs hds left H' d w n k L:=S.keep (Keep.same s) (s _ _ S.hd)
def Jk (lv:Nat):Sp:=fun vs H Q _=>∃ (a wd:Addr) (ds:List Addr) (L:List (Int×Dl)) (A:Wd) (xs fr rs:List Str) (hds:List Hd) (left:Nat),0 < lv∧lv≤4∧vs=[.ref a,.ref wd,.int (4 - (lv:Nat))]∧DealsAt H a ds L∧WorldAt H wd A xs fr rs hds (left:Nat)∧WdFit A a xs fr rs hds∧∀ u H' k,Out (wd :: a :: ds) H H'→DealsAt H' a (ds.drop k) (kF xs fr rs hds lv (L,left)).2.1→WorldAt H' wd A xs fr rs hds ((kF xs fr rs hds lv (L,left)).2.2:Nat)→Held H' (.tup ((kF xs fr rs hds lv (L,left)).1.map (stD lv))) u→Q u H'
def jaE (lv:Nat):Sp:=fun vs H Q _=>∃ (a wd:Addr) (ds:List Addr) (L:List (Int×Dl)) (A:Wd) (xs fr rs:List Str) (hds:List Hd) (left:Nat),lv≤3∧0 < left∧vs=[.ref a,.ref wd,.int (3 - (lv:Nat))]∧DealsAt H a ds L∧WorldAt H wd A xs fr rs hds (left:Nat)∧WdFit A a xs fr rs hds∧∀ u H' k,Out (wd :: a :: ds) H H'→DealsAt H' a (ds.drop k) (qa lv (kF xs fr rs hds lv) xs fr rs hds L left).2.1→WorldAt H' wd A xs fr rs hds ((qa lv (kF xs fr rs hds lv) xs fr rs hds L left).2.2:Nat)→Held H' (stD (lv+1) (qa lv (kF xs fr rs hds lv) xs fr rs hds L left).1) u→Q u H'
theorem Out.sub {S T:List Addr} {H H':Hp} (o:Out S H H') (h:∀ b∈S,b∈T):Out T H H':=fun b u hb e=>o b u (fun z=>hb (h _ z)) e
theorem Out.then {S:List Addr} {H H1 H2:Hp} (o:Out S H H1) (o2:Out S H1 H2):Out S H H2:=fun b u hb e=>o2 b u hb (o b u hb e)
theorem qZ {a wd:Addr} {ds:List Addr} {k:Nat}:∀ b∈wd :: a :: ds.drop k,b∈wd :: a :: ds:=fun b hb=>by
 rcases List.mem_cons.mp hb with rfl | hb
 ·exact List.mem_cons_self ..
 rcases List.mem_cons.mp hb with rfl | hb
 ·exact List.mem_cons_of_mem _ (List.mem_cons_self ..)
 exact List.mem_cons_of_mem _ (List.mem_cons_of_mem _ (List.mem_of_mem_drop hb))
theorem Out.tkW {H H':Hp} {a wd:Addr} {ds:List Addr} {L:List (Int×Dl)} {A:Wd} {xs fr rs:List Str} {hds:List Hd} {left:Int} (o:Out (wd :: a :: ds) H H') (D:DealsAt H a ds L) (W:WorldAt H wd A xs fr rs hds left):TK H H':=fun b ys e=>o _ _ (fun z=>by
 rcases List.mem_cons.mp z with z | z
 ·obtain ⟨kvs,h,-⟩:=W.d
  rw [z,h] at e;cases e
 ·exact D.no e (fun _ z=>by cases z) z) e
abbrev q8:Stmt:=top 40
section
variable {P:Program} {w:World} {K:W.Frag} {mg:Str→Option Value} {base:Heap}
theorem jcI {lv:Nat} {f:Addr} {fd:FuncData} (F:Fun K "_law_statement" "_law_statement" q8 f fd) (B:Free0 mg) (F_next:Fn P w K mg base 1 "_law_next" ["_law_deals"] y4) (F_draw:Fn P w K mg base 1 "_law_draw" ["_law_deal_here","_law_many_here"] qI) (F_number:Fn P w K mg base 2 "_law_number" ["_law_deal_here"] zQ) (F_place:Fn P w K mg base 3 "_law_place" ["_law_deal_here","_law_numbers"] yq) (F_term:Fn P w K mg base 4 "_law_term" ["_law_deal_here","_law_numbers","_law_rows"] Jh) (F_least:Fn P w K mg base 5 "_law_least" ["_law_deal_here","_law_numbers","_law_rows"] Ji) (F_claim:Fn P w K mg base 6 "_law_claim" ["_law_deal_here","_law_numbers","_law_rows"] Jj) (F_claims:Fn P w K mg base 7 "_law_claims" ["_law_deals","_law_many_here","_law_numbers","_law_rows"] yM) (F_call:Fn P w K mg base 2 "_law_call" ["_law_deal_here","_law_x","_law_world"] YN) (F_body:Fn P w K mg base (2 * lv+8) "_law_body" ["_law_deals","_law_world","_law_deep"] (Jk lv)):FnOk P w K mg base CX0 (2 * lv+9) f fd ["_law_deals","_law_world","_law_deep"] (jaE lv):=by
 have sc:FnScope ["_law_deals","_law_world","_law_deep","_law_deal_here","_law_numbers","_law_rows","_law_form","_law_x","_law_r","_law_place_here","_law_term_here","_law_least_here","_law_body_here","_law_keeps"] ["_law_deals","_law_world","_law_deep"] (jw q8):=fQ
 refine F.okZ sc (fun vs H Q E h=>?_) (fun cdv A outer s H vs Q E hr h=>?_)
 ·obtain ⟨a,wd,ds,L,Z,xs,fr,rs,hds,left,_,_,rfl,_⟩:=h
  rfl
 obtain ⟨a,wd,ds,L,Z,xs,fr,rs,hds,left,h3,h0,rfl,D,W,fit,q⟩:=h
 have hu:(A.deeper (PyProof.Rows.envOfC "_law_statement" (jw q8) s.heap.objs.size f cdv)).units+1 < cLine:=by have:=hr.units;omega
 refine ⟨_,(je (Y9 hu (zpv 1) jq (jD JG (qB hu (zpv 1) jq (fun _ _=>rfl)) ji) rfl)
   (je (js (i:=3) sc.nd rfl oQ (jV F_next hr (jb (zpv 0) jd)))
   (je (js (i:=4) sc.nd rfl oQ (qB hu (zpv 1) jq (fun _ _=>rfl)))
   (je (js (i:=5) sc.nd rfl oQ (qB hu (zpv 1) jq (fun _ _=>rfl)))
   (je (js (i:=6) sc.nd rfl oQ (jV F_draw hr (jb (zpv 3) (jb ji jd))))
   (je (js (i:=7) sc.nd rfl oQ (jz jW (qB hu (zpv 1) jq (fun _ _=>rfl)) (jV F_draw hr (jb (zpv 3) (jb (j0 jO (by rfl) B.len_ ke (jb (qB hu (zpv 1) jq (fun _ _=>rfl)) jd)) jd))) (fun _ _=>rfl)))
   (je (jT (qE (jv kq (zpv 6) ji (jP _)) (qg (jv Jp (j0 jO (by rfl) B.len_ ke (jb (zpv 5) jd)) ji (jP _)))).pt (je (js (i:=8) sc.nd rfl oQ (jz jW (zpv 5) (jV F_draw hr (jb (zpv 3) (jb (j0 jO (by rfl) B.len_ ke (jb (zpv 5) jd)) jd))) (fun _ _=>rfl)))
   (je (js (i:=9) sc.nd rfl oQ (jV F_place hr (jb (zpv 3) (jb (zpv 4) jd))))
   (je (js (i:=10) sc.nd rfl oQ (jV F_term hr (jb (zpv 3) (jb (zpv 4) (jb (zpv 5) jd)))))
   (jn (jB (jX (jb jq (jb (zpv 8) (jb (zpv 9) (jb (zpv 10) (jb (jV F_number hr (jb (zpv 3) jd)) jd))))))))))) jA)
   (je (jT (jv kq (zpv 6) ji (jP _)) (jn (jB (jX (jb jq (jb (zpv 7) jd))))) jA)
   (je (jT (jv kq (zpv 6) ji (jP _)) (jn (jB (jX (jb jq (jb (jV F_claim hr (jb (zpv 3) (jb (zpv 4) (jb (zpv 5) jd)))) jd))))) jA)
   (je (jT (qE (jv kq (zpv 6) ji (jP _)) (qg (jv yw (zpv 2) ji (jP _)))).pt (je (js (i:=11) sc.nd rfl oQ (jV F_least hr (jb (zpv 3) (jb (zpv 4) (jb (zpv 5) jd)))))
   (je (js (i:=12) sc.nd rfl oQ (jV F_body hr (jb (zpv 0) (jb (zpv 1) (jb (jD qX (zpv 2) ji) jd)))))
   (jn (jB (jX (jb jq (jb (zpv 11) (jb (zpv 12) (jb (jV F_body hr (jb (zpv 0) (jb (zpv 1) (jb (jD qX (zpv 2) ji) jd)))) jd))))))))) jA)
   (je (jT (qE (jv kq (zpv 6) ji (jP _)) (qg (jv yw (zpv 2) ji (jP _)))).pt (je (js (i:=11) sc.nd rfl oQ (jV F_least hr (jb (zpv 3) (jb (zpv 4) (jb (zpv 5) jd)))))
   (je (js (i:=13) sc.nd rfl oQ (jV F_claims hr (jb (zpv 0) (jb (jV F_draw hr (jb (zpv 3) (jb (jz jW (jM (jb ji (jb ji jd))) (jD yx (jV F_draw hr (jb (zpv 3) (jb ji jd))) ji) (fun _ _=>rfl)) jd))) (jb (zpv 4) (jb (zpv 5) jd))))))
   (jn (jB (jX (jb jq (jb (zpv 11) (jb (zpv 13) (jb (jV F_body hr (jb (zpv 0) (jb (zpv 1) (jb (jD qX (zpv 2) ji) jd)))) jd))))))))) jA)
   (je (jT (jv kq (zpv 6) ji (jP _)) (jn (jB (jV F_call hr (jb (zpv 3) (jb (zpv 7) (jb (zpv 1) jd)))))) jA)
   (je (js (i:=10) sc.nd rfl oQ (jV F_term hr (jb (zpv 3) (jb (zpv 4) (jb (zpv 5) jd)))))
   (jn (jB (jX (jb jq (jb (zpv 7) (jb (zpv 10) (jb (jV F_number hr (jb (zpv 3) jd)) jd)))))))))))))))))))),?_⟩
 try dsimp only [q0]
 refine kb (σ':=[some (.ref a),some (.ref wd),some (.int (3 - (lv:Nat))),none,none,none,none,none,none,none,none,none,none,none]) rfl ?_
 refine jfD ?_
 intro _ _ _ _ _ _ _ _ _ _ _ _ _
 obtain ⟨kvs,hw,hk5,kn,kf,kr,kh,kl⟩:=W.d
 have W1:=W.put (l2:=(left:Int) - 1) hw
 have n1:=D.no hw fun _ z=>by cases z
 have D1:=D.put (o:=.dK (q5 kvs (.inr (Str.ofString "left")) (.int ((left:Int) - 1)))) n1
 refine ⟨_,rfl,wd,.int (left:Nat),rfl,.inl ⟨kvs,.inr (Str.ofString "left"),Rd.of hw,rfl,kl.symm⟩,_,_,rfl,rfl,_,rfl,wd,_,rfl,.inl ⟨kvs,.inr (Str.ofString "left"),hw,rfl,j8 (by omega),rfl⟩,?_⟩
 have o1:Out [wd] H (upd H wd (.dK (q5 kvs (.inr (Str.ofString "left")) (.int ((left:Int) - 1))))):=fun b o hb e=>by rw [jx (fun (z:b=wd)=>hb (by rw [z];exact List.mem_cons_self ..))];exact e
 generalize upd H wd (.dK (q5 kvs (.inr (Str.ofString "left")) (.int ((left:Int) - 1))))=H1 at *
 rw [show (left:Int) - 1=((left - 1:Nat):Int) by omega] at W1
 clear kn kf kr kh kl hk5 hw W
 refine ⟨_,rfl,a,ds,L,rfl,D1,fun d H2 k2 hd e2 nd2 D2=>?_⟩
 rw [← List.drop_one] at nd2 D2
 unfold qa at q
 dsimp only at q
 generalize qb L=y at *
 obtain ⟨⟨w,n⟩,L2⟩:=y
 dsimp only at q e2 D2
 have S:StA H a wd ds Z xs fr rs hds ((left - 1:Nat):Int) H2 d w n 1 L2:=by
  refine ⟨fun b o hb e=>k2 _ _ (fun z=>hb (by rw [z];exact List.mem_cons_of_mem _ (List.mem_cons_self ..))) (o1 _ _ (fun z=>hb (by rw [List.mem_singleton.mp z];exact List.mem_cons_self ..)) e),e2,D2,W1.of (fun _ e=>k2 _ _ (fun z=>by rw [z,D1.l] at e;cases e) e) (fun b zs hb _ e=>k2 _ _ (by rcases hb with rfl | rfl | rfl | rfl;exact fit.n;exact fit.f;exact fit.r;exact fit.h) e) (k2.tk D1.l),nd2,?_⟩
  rcases hd with hd | hd
  ·refine .inl ?_
   cases z:H d with
   | none=>rfl
   | some o=>
    have:=o1 d o (fun h=>by
     obtain ⟨kv,h',-⟩:=W1.d
     rw [← List.mem_singleton.mp h,hd] at h';cases h') z
    rw [hd] at this;cases this
  ·exact .inr hd
 clear W1 D1 D2 e2 k2 nd2 hd o1 n1 H1
 generalize left - 1=lf at *
 refine gQ ?_
 obtain ⟨kvs,hw,-,kn,kf,kr,-,-⟩:=S.W.d
 refine ⟨_,rfl,wd,.ref Z.nl,rfl,.inl ⟨kvs,.inr (Str.ofString "numbers"),Rd.of hw,rfl,kn.symm⟩,?_⟩
 refine gQ ?_
 refine ⟨_,rfl,wd,.ref Z.rl,rfl,.inl ⟨kvs,.inr (Str.ofString "rows"),Rd.of hw,rfl,kr.symm⟩,?_⟩
 refine gQ ?_
 have lo1:=jR w n (m:=8) (by decide)
 have hi1:=jL w n (m:=8) (by decide)
 have S1:=S.keep (Keep.upd d H2 (dlO w (jl w n 8).2)) jg
 have hw1:=Keep.upd d H2 (dlO w (jl w n 8).2) wd _ (fun z=>by rw [z,S.hd] at hw;cases hw) hw
 refine ⟨_,rfl,d,w,n,8,rfl,S.hd,by decide,by decide,?_⟩
 generalize upd H2 d (dlO w (jl w n 8).2)=H3 at *
 generalize jl w n 8=fm at *
 obtain ⟨fm,n1⟩:=fm
 dsimp only at q S1 lo1 hi1 ⊢
 refine gQ ?_
 have lo2:=jR w n1 (m:=(fr.length:Nat)) (by have:=fit.f0;omega)
 have hi2:=jL w n1 (m:=(fr.length:Nat)) (by have:=fit.f0;omega)
 have k4:=Keep.upd d H3 (dlO w (jl w n1 (fr.length:Nat)).2)
 have S2:=S1.keep k4 jg
 refine ⟨_,rfl,wd,.ref Z.fl,rfl,.inl ⟨kvs,.inr (Str.ofString "free"),Rd.of hw1,rfl,kf.symm⟩,_,rfl,_,rfl,wd,.ref Z.fl,rfl,.inl ⟨kvs,.inr (Str.ofString "free"),Rd.of hw1,rfl,kf.symm⟩,Z.fl,_,rfl,.inl (SqL.of S1.W.f),d,w,n1,(fr.length:Nat),by rw [List.length_map];rfl,S1.hd,(by have:=fit.f0;omega),(by have:=fit.f1;omega),Z.fl,_,_,_,rfl,rfl,SqL.of S2.W.f,zp lo2 hi2,?_⟩
 generalize upd H3 d (dlO w (jl w n1 (fr.length:Nat)).2)=H4 at *
 generalize jl w n1 (fr.length:Nat)=xx at *
 obtain ⟨xx,n2⟩:=xx
 dsimp only at q S2 ⊢
 generalize qJ fr xx=x at *
 clear S S1 k4 hw hw1 lo2 hi2 kn kf kr
 refine gQ ?_
 have fx:=fit.x1
 have fr1:=fit.r1
 have fin:∀ {G:Hp} {m:Dl} {u:V} {t:StN (lv+1)},KI lv (kF xs fr rs hds lv) xs rs hds L2 lf w n2 fm x=(t,L2,lf)→StA H a wd ds Z xs fr rs hds (lf:Nat) G d w m 1 L2→Held G (stD (lv+1) t) u→Q u G:=fun {G m u t} e S h=>by
  rw [e] at q
  exact q u G 1 S.o S.D S.W h
 refine zu (fun b G=>b=decide (fm=2∧0 < rs.length)∧G=H4) (fun b H4 hb=>?_) (fun kk=>?_)
 rotate_left
 ·refine ⟨_,rfl,rfl,_,rfl,jU (fun z=>?_) (fun z=>kk false _ ⟨(decide_eq_false (fun h=>z (decide_eq_true (congrArg V.int h.1)))).symm,rfl⟩)⟩
  have z':fm=2:=by have:=of_decide_eq_true z;injection this
  refine ⟨_,rfl,Z.rl,_,rfl,.inl (SqL.of S2.W.r),_,_,rfl,rfl,_,rfl,kk _ _ ⟨?_,rfl⟩⟩
  rw [List.length_map]
  exact decide_eq_decide.mpr ⟨fun h=>⟨z',by omega⟩,fun h=>by have:=h.2;omega⟩
 obtain ⟨rfl,rfl⟩:=hb
 by_cases c2:fm=2∧0 < rs.length
 ·rw [decide_eq_true c2]
  refine yl ?_
  have lo:=jR w n2 (m:=(rs.length:Nat)) (by omega)
  have hi:=jL w n2 (m:=(rs.length:Nat)) (by omega)
  have S3:=S2.keep (Keep.upd d H4 (dlO w (jl w n2 (rs.length:Nat)).2)) jg
  refine ⟨_,rfl,_,rfl,_,rfl,Z.rl,_,rfl,.inl (SqL.of S2.W.r),d,w,n2,(rs.length:Nat),by rw [List.length_map];rfl,S2.hd,by omega,by omega,Z.rl,_,_,_,rfl,rfl,SqL.of S3.W.r,zp lo hi,?_⟩
  refine gQ ?_
  refine ⟨_,rfl,_,rfl,d,Z.nl,w,_,xs,rfl,S3.hd,S3.W.n,fx,fun u5 H5 k5 d5 h5=>?_⟩
  have S5:=S3.keep k5 d5
  refine gQ ?_
  refine ⟨_,rfl,_,rfl,_,rfl,d,Z.nl,Z.rl,w,_,xs,rs,rfl,S5.hd,S5.W.n,S5.W.r,fx,fr1,fun u6 H6 k6 d6 h6=>?_⟩
  have S6:=S5.keep k6 d6
  have h56:=(k6.tk S5.hd).held h5
  refine gQ ?_
  refine ⟨_,rfl,_,rfl,_,rfl,_,rfl,d,w,_,rfl,S6.hd,fun H7 k7 d7=>⟨sm rfl,fun t ht=>?_⟩⟩
  have S7:=S6.keep k7 d7
  have h57:=(k7.tk S6.hd).held h56
  have h67:=(k7.tk S6.hd).held h6
  refine fin (if_pos c2) (S7.same (jr ht _)) ?_
  exact jQ jg (jh jj (jh jj (jh (h57.mono (jr ht _)) (jh (h67.mono (jr ht _)) (jh kP jt)))))
 rw [decide_eq_false c2]
 refine Ja ?_
 refine ⟨_,rfl,rfl,_,rfl,jU (fun z=>?_) (fun z=>?_)⟩
 ·have z':fm=3:=by have:=of_decide_eq_true z;injection this
  refine ⟨_,rfl,sm rfl,fun t ht=>?_⟩
  refine fin ((if_neg c2).trans (if_pos z')) (S2.same (jr ht _)) ?_
  exact jQ jg (jh jj (jh jj jt))
 have c3:¬ fm=3:=fun h=>z (decide_eq_true (congrArg V.int h))
 refine ⟨_,rfl,rfl,_,rfl,jU (fun z=>?_) (fun z=>?_)⟩
 ·have z':fm=4:=by have:=of_decide_eq_true z;injection this
  refine ⟨_,rfl,_,rfl,_,rfl,d,Z.nl,Z.rl,w,n2,xs,rs,rfl,S2.hd,S2.W.n,S2.W.r,fx,fr1,fun u5 H5 k5 d5 h5=>⟨sm rfl,fun t ht=>?_⟩⟩
  refine fin ((if_neg c2).trans ((if_neg c3).trans (if_pos z'))) ((S2.keep k5 d5).same (jr ht _)) ?_
  exact jQ jg (jh jj (jh (h5.mono (jr ht _)) jt))
 have c4:¬ fm=4:=fun h=>z (decide_eq_true (congrArg V.int h))
 have f4:∀ {r},_=r→KI lv (kF xs fr rs hds lv) xs rs hds L2 lf w n2 fm x=r:=fun e=>(if_neg c2).trans ((if_neg c3).trans ((if_neg c4).trans e))
 have dp:((3:Int) - (lv:Nat)+1)=4 - (lv:Nat):=by omega
 unfold Zc
 dsimp only
 refine zu (fun b G=>b=decide (fm=5∧0 < lv)∧G=H4) (fun b H4 hb=>?_) (fun kk=>?_)
 rotate_left
 ·refine ⟨_,rfl,rfl,_,rfl,jU (fun z=>?_) (fun z=>kk false _ ⟨(decide_eq_false (fun h=>z (decide_eq_true (congrArg V.int h.1)))).symm,rfl⟩)⟩
  have z':fm=5:=by have:=of_decide_eq_true z;injection this
  refine ⟨_,rfl,_,_,rfl,rfl,_,rfl,kk _ _ ⟨?_,rfl⟩⟩
  exact decide_eq_decide.mpr ⟨fun h=>⟨z',by omega⟩,fun h=>by have:=h.2;omega⟩
 obtain ⟨rfl,rfl⟩:=hb
 by_cases c5:fm=5∧0 < lv
 ·rw [decide_eq_true c5]
  refine yl ?_
  have e5:=f4 (if_pos c5)
  rw [e5] at q
  dsimp only at q
  refine ⟨_,rfl,_,rfl,_,rfl,d,Z.nl,Z.rl,w,n2,xs,rs,rfl,S2.hd,S2.W.n,S2.W.r,fx,fr1,fun u5 H5 k5 d5 h5=>?_⟩
  have S5:=S2.keep k5 d5
  refine gQ ?_
  refine ⟨_,rfl,_,rfl,_,rfl,_,_,rfl,rfl,a,wd,ds.drop 1,L2,Z,xs,fr,rs,hds,lf,c5.2,by omega,by rw [← dp];rfl,S5.D,S5.W,fit,fun u6 H6 k6 o6 D6 W6 h6=>?_⟩
  have h56:=(o6.tkW S5.D S5.W).held h5
  refine gQ ?_
  refine ⟨_,rfl,_,rfl,_,rfl,_,rfl,_,rfl,_,_,rfl,rfl,a,wd,_,_,Z,xs,fr,rs,hds,_,c5.2,by omega,by rw [← dp];rfl,D6,W6,fit,fun u7 H7 k7 o7 D7 W7 h7=>⟨sm rfl,fun t ht=>?_⟩⟩
  have tk7:=o7.tkW D6 W6
  have s8:=jr ht (.tup [V.str (Str.ofString "if"),u5,u6,u7])
  rw [List.drop_drop,List.drop_drop] at D7
  refine q _ _ _ (S5.o.then ((o6.sub qZ).then (((o7.sub qZ).sub qZ).then fun b o _ e=>s8 _ _ e))) (D7.same s8) (W7.same s8) ?_
  exact jQ jg (jh jj (jh ((tk7.held h56).mono s8) (jh ((tk7.held h6).mono s8) (jh (h7.mono s8) jt))))
 rw [decide_eq_false c5]
 refine Ja ?_
 unfold Zc
 dsimp only
 refine zu (fun b G=>b=decide (fm=6∧0 < lv)∧G=H4) (fun b H4 hb=>?_) (fun kk=>?_)
 rotate_left
 ·refine ⟨_,rfl,rfl,_,rfl,jU (fun z=>?_) (fun z=>kk false _ ⟨(decide_eq_false (fun h=>z (decide_eq_true (congrArg V.int h.1)))).symm,rfl⟩)⟩
  have z':fm=6:=by have:=of_decide_eq_true z;injection this
  refine ⟨_,rfl,_,_,rfl,rfl,_,rfl,kk _ _ ⟨?_,rfl⟩⟩
  exact decide_eq_decide.mpr ⟨fun h=>⟨z',by omega⟩,fun h=>by have:=h.2;omega⟩
 obtain ⟨rfl,rfl⟩:=hb
 by_cases c6:fm=6∧0 < lv
 ·rw [decide_eq_true c6]
  refine yl ?_
  have e6:=f4 ((if_neg c5).trans (if_pos c6))
  rw [e6] at q
  dsimp only at q
  refine ⟨_,rfl,_,rfl,_,rfl,d,Z.nl,Z.rl,w,n2,xs,rs,rfl,S2.hd,S2.W.n,S2.W.r,fx,fr1,fun u5 H5 k5 d5 h5=>?_⟩
  have S5:=S2.keep k5 d5
  rw [jcZ] at h5
  generalize (zj w n2 xs rs).2=n5 at *
  have lo:=jR w n5 (m:=4) (by decide)
  have hi:=jL w n5 (m:=4) (by decide)
  refine gQ ?_
  refine ⟨_,rfl,_,rfl,sm rfl,fun p hp=>?_⟩
  have s6:=jr hp (.lst [V.int 3,V.int 7])
  have e6:upd H5 p (.lst [V.int 3,V.int 7]) p=some (.lst [V.int 3,V.int 7]):=jg
  have S6:=S5.same s6
  have h56:=h5.mono s6
  have npd:p≠d:=fun z=>by rw [z,S5.hd] at hp;cases hp
  generalize upd H5 p (.lst [V.int 3,V.int 7])=H6 at *
  have k7:=Keep.upd d H6 (dlO w (jl w n5 4).2)
  have S7:=S6.keep k7 jg
  have h57:=(k7.tk S6.hd).held h56
  have e7:=k7 _ _ npd e6
  refine ⟨_,rfl,d,w,n5,4,rfl,S6.hd,by decide,by decide,_,_,rfl,rfl,⟨by decide,by decide⟩,p,_,_,.int (if (jl w n5 4).1 / 3=0 then 3 else 7),rfl,rfl,SqL.of e7,?_,?_⟩
  ·have:(jl w n5 4).1 / 3=0∨(jl w n5 4).1 / 3=1:=by omega
   rcases this with h | h <;> rw [h] <;> rfl
  generalize upd H6 d (dlO w (jl w n5 4).2)=H7 at *
  generalize jl w n5 4=y at *
  obtain ⟨y,n6⟩:=y
  dsimp only at q S7 ⊢
  have mp:(0:Int) < (if y / 3=0 then 3 else 7)∧(if y / 3=0 then (3:Int) else 7)≤7:=by split <;> exact ⟨by decide,by decide⟩
  generalize (if y / 3=0 then (3:Int) else 7)=mm at *
  have lo2:=jR w n6 mp.1
  have hi2:=jL w n6 mp.1
  have k8:=Keep.upd d H7 (dlO w (jl w n6 mm).2)
  have S8:=S7.keep k8 jg
  have h58:=(k8.tk S7.hd).held h57
  refine ⟨d,w,n6,mm,rfl,S7.hd,mp.1,by omega,?_⟩
  generalize upd H7 d (dlO w (jl w n6 mm).2)=H8 at *
  obtain ⟨m,hm⟩:∃ m:Nat,(jl w n6 mm).1=(m:Nat):=⟨(jl w n6 mm).1.toNat,by omega⟩
  rw [hm] at q lo2 hi2 ⊢
  rw [Int.toNat_natCast] at q
  refine ⟨_,rfl,_,rfl,a,Z.nl,Z.rl,ds.drop 1,L2,m,xs,rs,rfl,S8.D,S8.W.n,S8.W.r,fit.n,fit.r,fx,fr1,by omega,fun u9 H9 o9 D9 h9=>?_⟩
  have W9:=S8.W.out o9 S8.D fit
  have h59:=(o9.tk S8.D).held h58
  refine gQ ?_
  refine ⟨_,rfl,_,rfl,_,rfl,_,rfl,_,rfl,_,_,rfl,rfl,a,wd,_,_,Z,xs,fr,rs,hds,_,c6.2,by omega,by rw [← dp];rfl,D9,W9,fit,fun u10 H10 k10 o10 D10 W10 h10=>⟨sm rfl,fun t ht=>?_⟩⟩
  have tk:=o10.tkW D9 W9
  have s11:=jr ht (.tup [V.str (Str.ofString "while"),u5,u9,u10])
  rw [List.drop_drop,List.drop_drop] at D10
  have o9':Out (wd :: a :: ds) H8 H9:=(o9.sub (T:=wd :: a :: ds.drop 1) fun b hb=>List.mem_cons_of_mem _ hb).sub qZ
  refine q _ _ _ (S8.o.then (o9'.then (((o10.sub qZ).sub qZ).then fun b o _ e=>s11 _ _ e))) (D10.same s11) (W10.same s11) ?_
  exact jQ jg (jh jj (jh ((tk.held h59).mono s11) (jh ((tk.held h9).mono s11) (jh (h10.mono s11) jt))))
 rw [decide_eq_false c6]
 refine Ja ?_
 have f6:∀ {r},_=r→KI lv (kF xs fr rs hds lv) xs rs hds L2 lf w n2 fm x=r:=fun e=>f4 ((if_neg c5).trans ((if_neg c6).trans e))
 refine ⟨_,rfl,rfl,_,rfl,jU (fun z=>?_) (fun z=>?_)⟩
 ·have z':fm=7:=by have:=of_decide_eq_true z;injection this
  refine ⟨_,rfl,_,rfl,_,rfl,d,wd,x,w,n2,Z,xs,fr,rs,hds,_,rfl,S2.hd,S2.W,fit.x0,fx,fr1,fit.h1,fit.h2,fun u5 H5 k5 d5 h5=>?_⟩
  exact fin (f6 (if_pos z')) (S2.keep k5 d5) h5
 have c7:¬ fm=7:=fun h=>z (decide_eq_true (congrArg V.int h))
 refine ⟨_,rfl,_,rfl,_,rfl,d,Z.nl,Z.rl,w,n2,xs,rs,rfl,S2.hd,S2.W.n,S2.W.r,fx,fr1,fun u6 H6 k6 d6 h6=>?_⟩
 have S6:=S2.keep k6 d6
 refine gQ ?_
 refine ⟨_,rfl,_,rfl,_,rfl,d,w,_,rfl,S6.hd,fun H7 k7 d7=>⟨sm rfl,fun t ht=>?_⟩⟩
 refine fin (f6 (if_neg c7)) ((S6.keep k7 d7).same (jr ht _)) ?_
 exact jQ jg (jh jj (jh jj (jh (((k7.tk S6.hd).held h6).mono (jr ht _)) (jh kP jt))))
end
abbrev JP:Stmt:=top 39
section
variable {P:Program} {w:World} {K:W.Frag} {mg:Str→Option Value} {base:Heap}
theorem jbv {f:Addr} {fd:FuncData} (F:Fun K "_law_body" "_law_body" JP f fd):FnOk P w K mg base CX0 8 f fd ["_law_deals","_law_world","_law_deep"] (Jk 0):=by
 have sc:FnScope ["_law_deals","_law_world","_law_deep","_law_body_here","_law_k"] ["_law_deals","_law_world","_law_deep"] (jw JP):=fQ
 refine F.okZ sc (fun vs H Q E h=>?_) (fun cdv A outer s H vs Q E hr h=>?_)
 ·obtain ⟨a,wd,ds,L,Z,xs,fr,rs,hds,left,h0,_⟩:=h
  cases h0
 ·obtain ⟨a,wd,ds,L,Z,xs,fr,rs,hds,left,h0,_⟩:=h
  cases h0
theorem jcP {lv:Nat} {f:Addr} {fd:FuncData} (F:Fun K "_law_body" "_law_body" JP f fd) (B:Free0 mg) (F_next:Fn P w K mg base 1 "_law_next" ["_law_deals"] y4) (F_draw:Fn P w K mg base 1 "_law_draw" ["_law_deal_here","_law_many_here"] qI) (F_statement:Fn P w K mg base (2 * lv+9) "_law_statement" ["_law_deals","_law_world","_law_deep"] (jaE lv)):FnOk P w K mg base CX0 (2 * lv+10) f fd ["_law_deals","_law_world","_law_deep"] (Jk (lv+1)):=by
 have sc:FnScope ["_law_deals","_law_world","_law_deep","_law_body_here","_law_k"] ["_law_deals","_law_world","_law_deep"] (jw JP):=fQ
 refine F.okZ sc (fun vs H Q E h=>?_) (fun cdv A outer s H vs Q E hr h=>?_)
 ·obtain ⟨a,wd,ds,L,Z,xs,fr,rs,hds,left,_,_,rfl,_⟩:=h
  rfl
 obtain ⟨a,wd,ds,L,Z,xs,fr,rs,hds,left,h0,h4,rfl,D,W,fit,q⟩:=h
 have hu:(A.deeper (PyProof.Rows.envOfC "_law_body" (jw JP) s.heap.objs.size f cdv)).units+1 < cLine:=by have:=hr.units;omega
 refine ⟨_,(je (js (i:=3) sc.nd rfl oQ (jM jd))
   (je (kK PassesOwn.never rfl (kx (by rfl) B.range_ (jb (jV F_draw hr (jb (jV F_next hr (jb (zpv 0) jd)) (jb (jz jW (jM (jb ji (jb ji (jb ji (jb ji jd))))) (zpv 2) (fun _ _=>rfl)) jd))) jd)) (jy (i:=4) sc.nd rfl oQ) (jn (jT (qE (jv Jp (j0 jO (by rfl) B.len_ ke (jb (zpv 0) jd)) ji (jP _)) (qg (jv Jp (qB hu (zpv 1) jq (fun _ _=>rfl)) ji (jP _)))).pt (jn (kE (qS PySem.F.plainAttrs_list PySem.F.slot_list_append PySem.F.type_list_append za (zpv 3) (jb (jV F_statement hr (jb (zpv 0) (jb (zpv 1) (jb (zpv 2) jd)))) jd)))) jA)))
   (jn (jB (zi kS (by rfl) B.tuple_ zA (jb (zpv 3) jd)))))),?_⟩
 try dsimp only [q0]
 rw [show (4 - ((lv+1:Nat):Int))=3 - (lv:Nat) by omega]
 refine kb (σ':=[some (.ref a),some (.ref wd),some (.int (3 - (lv:Nat))),none,none]) rfl ?_
 refine ⟨sm rfl,fun p hp=>?_⟩
 have s1:=jr hp (.lst [])
 have e1:upd H p (.lst []) p=some (.lst []):=jg
 have np:=D.new hp
 have npw:p≠wd:=fun z=>by obtain ⟨kvs,h,-⟩:=W.d;rw [z,h] at hp;cases hp
 have npS:p ∉ wd :: a :: ds:=fun z=>by
  rcases List.mem_cons.mp z with z | z
  ·exact npw z
  ·exact np z
 have D1:=D.same s1
 have W1:=W.same s1
 have o1:Out (wd :: a :: ds) H (upd H p (.lst [])):=fun b o _ e=>s1 _ _ e
 generalize upd H p (.lst [])=H1 at *
 refine gQ ?_
 refine ⟨_,rfl,a,ds,L,rfl,D1,fun d H2 k2 hd e2 nd2 D2=>?_⟩
 rw [← List.drop_one] at nd2 D2
 unfold kF at q
 dsimp only at q
 generalize qb L=y at *
 obtain ⟨⟨w,n⟩,L2⟩:=y
 dsimp only at q e2 D2
 have W2:WorldAt H2 wd Z xs fr rs hds (left:Nat):=W1.of (fun _ e=>k2 _ _ (fun z=>by rw [z,D1.l] at e;cases e) e) (fun b zs hb _ e=>k2 _ _ (by rcases hb with rfl | rfl | rfl | rfl;exact fit.n;exact fit.f;exact fit.r;exact fit.h) e) (k2.tk D1.l)
 have npa:p≠a:=fun z=>np (z ▸ List.mem_cons_self ..)
 have npd:p≠d:=fun z=>by
  rcases hd with hd | hd
  ·rw [← z,e1] at hd;cases hd
  ·exact np (List.mem_cons_of_mem _ (z ▸ hd))
 have p2:=k2 _ _ npa e1
 refine ⟨sm rfl,fun p3 hp3=>?_⟩
 have s3:=jr hp3 (.lst [V.int 31,V.int 7,V.int 4,V.int 4])
 have e3:upd H2 p3 (.lst [V.int 31,V.int 7,V.int 4,V.int 4]) p3=some (.lst [V.int 31,V.int 7,V.int 4,V.int 4]):=jg
 have S:StA H a wd ds Z xs fr rs hds (left:Nat) (upd H2 p3 (.lst [V.int 31,V.int 7,V.int 4,V.int 4])) d w n 1 L2:=by
  refine StA.same (H:=H2) ⟨fun b o hb e=>k2 _ _ (fun z=>hb (by rw [z];exact List.mem_cons_of_mem _ (List.mem_cons_self ..))) (o1 _ _ hb e),e2,D2,W2,nd2,?_⟩ s3
  rcases hd with hd | hd
  ·refine .inl ?_
   cases z:H d with
   | none=>rfl
   | some o=>
    have:=s1 d o z
    rw [hd] at this;cases this
  ·exact .inr hd
 have p3':=s3 _ _ p2
 generalize upd H2 p3 (.lst [V.int 31,V.int 7,V.int 4,V.int 4])=H3 at *
 have hm:0 < JU lv∧JU lv≤31∧atI [V.int 31,V.int 7,V.int 4,V.int 4] (3 - (lv:Nat))=some (.int (JU lv)):=by
  have:lv=0∨lv=1∨lv=2∨lv=3:=by omega
  rcases this with rfl | rfl | rfl | rfl <;> exact ⟨by decide,by decide,rfl⟩
 have k4:=Keep.upd d H3 (dlO w (jl w n (JU lv)).2)
 have S4:=S.keep k4 jg
 have lo:=jR w n hm.1
 have hi:=jL w n hm.1
 refine ⟨_,rfl,p3,_,_,_,rfl,rfl,SqL.of e3,hm.2.2,d,w,n,JU lv,rfl,S.hd,hm.1,by omega,_,rfl,by omega,by omega,?_⟩
 have p4:=k4 _ _ npd p3'
 generalize upd H3 d (dlO w (jl w n (JU lv)).2)=H4 at *
 generalize jl w n (JU lv)=m at *
 let Pv:Nat→St→Hp→Prop:=fun i σ G=>∃ u4 k us,σ=[some (.ref a),some (.ref wd),some (.int (3 - (lv:Nat))),some (.ref p),u4]∧Out (wd :: a :: ds) H G∧DealsAt G a (ds.drop k) (ky (qa lv (kF xs fr rs hds lv) xs fr rs hds) L2 left i).2.1∧WorldAt G wd Z xs fr rs hds ((ky (qa lv (kF xs fr rs hds lv) xs fr rs hds) L2 left i).2.2:Nat)∧G p=some (.lst us)∧us.length≤i∧HeldL G ((ky (qa lv (kF xs fr rs hds lv) xs fr rs hds) L2 left i).1.map (stD (lv+1))) us
 refine yT Pv ⟨none,1,[],rfl,S4.o,S4.D,S4.W,p4,Nat.le_refl _,jt⟩ ?_ ?_
 ·rintro i σ G hi' ⟨u4,k,us,rfl,oG,DG,WG,hGp,hus,hHL⟩
  have es:ky (qa lv (kF xs fr rs hds lv) xs fr rs hds) L2 left (i+1)=if 0 < (ky (qa lv (kF xs fr rs hds lv) xs fr rs hds) L2 left i).2.1.length∧0 < (ky (qa lv (kF xs fr rs hds lv) xs fr rs hds) L2 left i).2.2 then ((ky (qa lv (kF xs fr rs hds lv) xs fr rs hds) L2 left i).1++[(qa lv (kF xs fr rs hds lv) xs fr rs hds (ky (qa lv (kF xs fr rs hds lv) xs fr rs hds) L2 left i).2.1 (ky (qa lv (kF xs fr rs hds lv) xs fr rs hds) L2 left i).2.2).1],(qa lv (kF xs fr rs hds lv) xs fr rs hds (ky (qa lv (kF xs fr rs hds lv) xs fr rs hds) L2 left i).2.1 (ky (qa lv (kF xs fr rs hds lv) xs fr rs hds) L2 left i).2.2).2) else ky (qa lv (kF xs fr rs hds lv) xs fr rs hds) L2 left i:=rfl
  have goal:Pv (i+1)=fun σ G=>∃ u4 k us,σ=[some (.ref a),some (.ref wd),some (.int (3 - (lv:Nat))),some (.ref p),u4]∧Out (wd :: a :: ds) H G∧DealsAt G a (ds.drop k) (ky (qa lv (kF xs fr rs hds lv) xs fr rs hds) L2 left (i+1)).2.1∧WorldAt G wd Z xs fr rs hds ((ky (qa lv (kF xs fr rs hds lv) xs fr rs hds) L2 left (i+1)).2.2:Nat)∧G p=some (.lst us)∧us.length≤i+1∧HeldL G ((ky (qa lv (kF xs fr rs hds lv) xs fr rs hds) L2 left (i+1)).1.map (stD (lv+1))) us:=rfl
  rw [goal]
  generalize ky (qa lv (kF xs fr rs hds lv) xs fr rs hds) L2 left (i+1)=R at *
  generalize ky (qa lv (kF xs fr rs hds lv) xs fr rs hds) L2 left i=R0 at *
  obtain ⟨bs,L3,lf⟩:=R0
  dsimp only at es DG WG hHL
  have dn:=DG.n
  obtain ⟨kvs,hw,-,-,-,-,-,kl⟩:=WG.d
  refine gQ ?_
  refine ⟨_,rfl,a,_,rfl,.inl (SqL.of DG.l),_,_,rfl,rfl,_,rfl,jU (fun c=>?_) (fun c=>?_)⟩
  ·have c':0 < L3.length:=by have:=of_decide_eq_true c;rw [List.length_map] at this;omega
   refine ⟨_,rfl,wd,.int (lf:Nat),rfl,.inl ⟨kvs,.inr (Str.ofString "left"),Rd.of hw,rfl,kl.symm⟩,_,_,rfl,rfl,_,rfl,jU (fun c2=>?_) (fun c2=>?_)⟩
   ·have c2':0 < lf:=by have:=of_decide_eq_true c2;omega
    rw [if_pos ⟨c',c2'⟩] at es
    subst es
    refine ⟨_,rfl,.inl ⟨rfl,_,SqL.of hGp⟩,_,rfl,_,rfl,_,rfl,a,wd,ds.drop k,L3,Z,xs,fr,rs,hds,lf,by omega,c2',rfl,DG,WG,fit,fun u G2 k2 o2 D2 W2 h2=>?_⟩
    have npG:p ∉ wd :: a :: ds.drop k:=fun z=>npS (qZ _ z)
    have hGp2:=o2 _ _ npG hGp
    have tk:TK G (upd G2 p (.lst (us++[u]))):=fun b ys e=>by
     rw [jx (fun z=>by rw [z,hGp] at e;cases e)]
     exact o2.tkW DG WG _ _ e
    have tk2:TK G2 (upd G2 p (.lst (us++[u]))):=fun b ys e=>by
     rw [jx (fun z=>by rw [z,hGp2] at e;cases e)]
     exact e
    refine ⟨p,_,_,rfl,rfl,hGp2,j8 (by omega),_,k+k2,us++[u],rfl,fun b o hb e=>?_,?_,?_,jg,by rw [List.length_append];exact Nat.succ_le_succ hus,?_⟩
    ·rw [jx (ju e hp)]
     exact o2 _ _ (fun z=>hb (qZ _ z)) (oG _ _ hb e)
    ·rw [List.drop_drop] at D2
     exact D2.put (fun z=>npS (qZ _ (List.mem_cons_of_mem _ z)))
    ·refine W2.of (fun _ e=>?_) (fun b zs hb nz e=>?_) tk2
     ·rw [jx npw.symm];exact e
     ·rw [jx (by
       obtain ⟨hs,hh,-⟩:=W.h
       rcases hb with rfl | rfl | rfl | rfl;exact ju W.n hp;exact ju W.f hp;exact ju W.r hp;exact ju hh hp)]
      exact e
    ·rw [List.map_append]
     exact qK (tk.heldL hHL) (tk2.held h2)
   ·rw [if_neg (fun h=>c2 (decide_eq_true (by have:=h.2;omega)))] at es
    subst es
    exact ⟨_,k,us,rfl,oG,DG,WG,hGp,Nat.le_succ_of_le hus,hHL⟩
  ·rw [if_neg (fun h=>c (decide_eq_true (by rw [List.length_map,dn];have:=h.1;omega)))] at es
   subst es
   exact ⟨_,k,us,rfl,oG,DG,WG,hGp,Nat.le_succ_of_le hus,hHL⟩
 rintro σ G ⟨u4,k,us,rfl,oG,DG,WG,hGp,hus,hHL⟩
 refine ⟨_,rfl,p,us,rfl,.inl ⟨SqL.of hGp,fun t ht=>?_⟩⟩
 have s5:=jr ht (.tup us)
 exact q _ _ k (fun b o hb e=>s5 _ _ (oG _ _ hb e)) (DG.same s5) (WG.same s5) (jQ jg (hHL.mono s5))
theorem ZH {f:Addr} {fd:FuncData} (F:Fun K "_law_body" "_law_body" JP f fd) (b:Binds K fd ["_law_deals","_law_world","_law_deep"] []) (m:mg "_law_body" = some (.ref f)) {f2:Addr} {fd2:FuncData} (F2:Fun K "_law_statement" "_law_statement" q8 f2 fd2) (b2:Binds K fd2 ["_law_deals","_law_world","_law_deep"] []) (m2:mg "_law_statement" = some (.ref f2)) (B:Free0 mg) (F_next:Fn P w K mg base 1 "_law_next" ["_law_deals"] y4) (F_draw:Fn P w K mg base 1 "_law_draw" ["_law_deal_here","_law_many_here"] qI) (F_number:Fn P w K mg base 2 "_law_number" ["_law_deal_here"] zQ) (F_place:Fn P w K mg base 3 "_law_place" ["_law_deal_here","_law_numbers"] yq) (F_term:Fn P w K mg base 4 "_law_term" ["_law_deal_here","_law_numbers","_law_rows"] Jh) (F_least:Fn P w K mg base 5 "_law_least" ["_law_deal_here","_law_numbers","_law_rows"] Ji) (F_claim:Fn P w K mg base 6 "_law_claim" ["_law_deal_here","_law_numbers","_law_rows"] Jj) (F_claims:Fn P w K mg base 7 "_law_claims" ["_law_deals","_law_many_here","_law_numbers","_law_rows"] yM) (F_call:Fn P w K mg base 2 "_law_call" ["_law_deal_here","_law_x","_law_world"] YN):∀ lv,Fn P w K mg base (2 * lv+8) "_law_body" ["_law_deals","_law_world","_law_deep"] (Jk lv)
 | 0=>Fn.mk' F b m (jbv F)
 | lv+1=>Fn.mk' F b m (jcP F B F_next F_draw (Fn.mk' F2 b2 m2 (jcI F2 B F_next F_draw F_number F_place F_term F_least F_claim F_claims F_call (ZH F b m F2 b2 m2 B F_next F_draw F_number F_place F_term F_least F_claim F_claims F_call lv))))
end
abbrev Ku:Stmt:=top 41
theorem jfF {H:Hp} {Q:VK} {a b:Addr} {xs ys:List Str} (ha:H a=some (.lst (xs.map V.str))) (hb:H b=some (.lst (ys.map V.str))) (hz:xs.length+ys.length≤1000) (q:∀ l H',Same H H'→H l=none→H' l=some (.lst ((xs++ys).map V.str))→Q (.ref l) H'):jfd (.ref a) (.ref b) H Q:=⟨a,b,_,_,rfl,rfl,ha,hb,kc (by rw [List.length_map,List.length_map];exact hz),fun l hl=>q l _ (jG hl _) hl (by rw [jg,List.map_append])⟩
def j9 (w:Int) (n:Dl) (tk:List Str):Nat→List Str×Dl
 | 0=>([],n)
 | i+1=>
  let p:=j9 w n tk i
  let r:=kY w p.2 (tk++p.1)
  (p.1++[r.1],r.2)
theorem kI (w:Int) (n:Dl) {tk:List Str} (h0:tk≠[]) (h:∀ z∈tk,NmW z):∀ i,tk.length+i≤26→(j9 w n tk i).1.length=i∧(∀ z∈(j9 w n tk i).1,NmW z)∧(∀ z∈(j9 w n tk i).1,z ∉ tk)∧(j9 w n tk i).1.Nodup
 | 0,_=>⟨rfl,(fun _ z=>nomatch z),(fun _ z=>nomatch z),List.nodup_nil⟩
 | i+1,hi=>by
  obtain ⟨h1,h2,h3,h4⟩:=kI w n h0 h i (by omega)
  obtain ⟨h5,h6⟩:=yy w (j9 w n tk i).2 (tk:=tk++(j9 w n tk i).1) (by simp [h0]) (by rw [List.length_append];omega) (fun z hz=>(List.mem_append.mp hz).elim (h z) (h2 z))
  show ((j9 w n tk i).1++[_]).length=_∧(∀ z∈(j9 w n tk i).1++[_],NmW z)∧(∀ z∈(j9 w n tk i).1++[_],z ∉ tk)∧((j9 w n tk i).1++[_]).Nodup
  refine ⟨by rw [List.length_append,h1];rfl,fun z hz=>?_,fun z hz=>?_,?_⟩
  ·rcases List.mem_append.mp hz with hz | hz
   ·exact h2 z hz
   ·rw [List.mem_singleton.mp hz];exact h5
  ·rcases List.mem_append.mp hz with hz | hz
   ·exact h3 z hz
   ·rw [List.mem_singleton.mp hz];exact fun q=>h6 (List.mem_append.mpr (.inl q))
  ·exact List.nodup_append.mpr ⟨h4,List.nodup_cons.mpr ⟨fun z=>(nomatch z),List.nodup_nil⟩,fun x hx y hy e=>h6 (List.mem_append.mpr (.inr (by rw [← List.mem_singleton.mp hy,← e];exact hx)))⟩
structure NmAt (d l p:Addr) (w:Int) (n:Dl) (tk:List Str) (G0:Hp) (i:Nat) (G:Hp):Prop where
 k:∀ b o,b≠d→b≠l→G0 b=some o→G b=some o
 hd:G d=some (dlO w (j9 w n tk i).2)
 hl:G l=some (.lst ((tk++(j9 w n tk i).1).map V.str))
 hp:G p=some (.lst ((j9 w n tk i).1.map V.str))
theorem NmAt.ok {d l p:Addr} {w:Int} {n:Dl} {tk:List Str} {G0:Hp} {i:Nat} {G:Hp} (N:NmAt d l p w n tk G0 i G) (h0:tk≠[]) (h:∀ z∈tk,NmW z) (hi:tk.length+i≤25):tk++(j9 w n tk i).1≠[]∧(tk++(j9 w n tk i).1).length≤25∧∀ z∈tk++(j9 w n tk i).1,NmW z:=by
 obtain ⟨h1,h2,-,-⟩:=kI w n h0 h i (by omega)
 exact ⟨by simp [h0],by rw [List.length_append];omega,fun z hz=>(List.mem_append.mp hz).elim (h z) (h2 z)⟩
theorem NmAt.zero {d l p:Addr} {w:Int} {n:Dl} {tk:List Str} {G:Hp} (hd:G d=some (dlO w n)) (hl:G l=some (.lst (tk.map V.str))) (hp:G p=none):NmAt d l p w n tk G 0 (upd G p (.lst [])):=
 ⟨fun b o _ _ e=>by rw [jx (ju e hp)];exact e,by rw [jx (ju hd hp)];exact hd,by rw [jx (ju hl hp),show tk++(j9 w n tk 0).1=tk from List.append_nil tk];exact hl,jg⟩
theorem NmAt.step {d l p:Addr} {w:Int} {n:Dl} {tk:List Str} {G0:Hp} {i:Nat} {G G':Hp} (N:NmAt d l p w n tk G0 i G) (hp0:G0 p=none) (pd:p≠d) (pl:p≠l) (q:∀ b o,b≠d→b≠l→G b=some o→G' b=some o) (e1:G' d=some (dlO w (kY w (j9 w n tk i).2 (tk++(j9 w n tk i).1)).2)) (e2:G' l=some (.lst ((tk++(j9 w n tk i).1++[(kY w (j9 w n tk i).2 (tk++(j9 w n tk i).1)).1]).map V.str))):G' p=some (.lst ((j9 w n tk i).1.map V.str))∧NmAt d l p w n tk G0 (i+1) (upd G' p (.lst ((j9 w n tk i).1.map V.str++[.str (kY w (j9 w n tk i).2 (tk++(j9 w n tk i).1)).1]))):=by
 refine ⟨q _ _ pd pl N.hp,fun b o hb hb2 e=>?_,?_,?_,?_⟩
 ·rw [jx (ju e hp0)];exact q _ _ hb hb2 (N.k _ _ hb hb2 e)
 ·rw [jx pd.symm];exact e1
 ·rw [jx pl.symm,e2,List.append_assoc];rfl
 ·rw [jg]
  show _=some (HO.lst (((j9 w n tk i).1++[_]).map V.str))
  rw [List.map_append]
  rfl
structure PrA (H0:Hp) (a:Addr) (ds0:List Addr) (H:Hp) (d:Addr) (w:Int) (n:Dl) (k:Nat) (L:List (Int×Dl)):Prop where
 o:Out (a :: ds0) H0 H
 hd:H d=some (dlO w n)
 D:DealsAt H a (ds0.drop k) L
 nd:d ∉ ds0.drop k
 dd:H0 d=none∨d∈ds0
theorem PrA.keep2 {H0 H H':Hp} {a d l:Addr} {ds0:List Addr} {w:Int} {n m:Dl} {k:Nat} {L:List (Int×Dl)} (S:PrA H0 a ds0 H d w n k L) (nl:l ∉ a :: ds0) (hl:H0 l=none) (q:∀ b o,b≠d→b≠l→H b=some o→H' b=some o) (e:H' d=some (dlO w m)):PrA H0 a ds0 H' d w m k L:=by
 have D:=S.D
 refine ⟨fun b o hb h=>q _ _ (fun z=>?_) (ju h hl) (S.o _ _ hb h),e,⟨q _ _ (fun z=>?_) (fun z=>nl (z ▸ List.mem_cons_self ..)) D.l,D.n,D.nd,D.few,fun i b x h1 h2=>q _ _ (fun z=>S.nd (z ▸ List.mem_of_getElem? h1)) (fun z=>nl (z ▸ List.mem_cons_of_mem _ (List.mem_of_mem_drop (List.mem_of_getElem? h1)))) (D.at_ i b x h1 h2)⟩,S.nd,S.dd⟩
 ·rcases S.dd with z2 | z2
  ·rw [← z,h] at z2;cases z2
  ·exact hb (z ▸ List.mem_cons_of_mem _ z2)
 ·have h1:=D.l
  rw [z,S.hd] at h1
  injection h1 with h1;injection h1 with h1
  cases hh:ds0.drop k with
  | nil=>rw [hh] at h1;cases h1
  | cons x xs=>rw [hh] at h1;injection h1 with h1;cases h1
theorem PrA.keep {H0 H H':Hp} {a d:Addr} {ds0:List Addr} {w:Int} {n m:Dl} {k:Nat} {L:List (Int×Dl)} (S:PrA H0 a ds0 H d w n k L) (q:Keep d H H') (e:H' d=some (dlO w m)):PrA H0 a ds0 H' d w m k L:=by
 refine ⟨fun b o hb h=>q _ _ (fun z=>?_) (S.o _ _ hb h),e,S.D.keep q S.hd S.nd,S.nd,S.dd⟩
 rcases S.dd with z2 | z2
 ·rw [← z,h] at z2;cases z2
 ·exact hb (z ▸ List.mem_cons_of_mem _ z2)
theorem PrA.same {H0 H H':Hp} {a d:Addr} {ds0:List Addr} {w:Int} {n:Dl} {k:Nat} {L:List (Int×Dl)} (S:PrA H0 a ds0 H d w n k L) (s:Same H H'):PrA H0 a ds0 H' d w n k L:=S.keep (Keep.same s) (s _ _ S.hd)
def yj (e:Int):Int:=if e / 3=0 then 2 else 5
def Kw (hds:List Hd) (h:Hd) (L:List (Int×Dl)):Pc×List (Int×Dl):=
 let y:=qb L
 let ps:=j9 y.1.1 y.1.2 jE h.2.1
 let rs:=j9 y.1.1 ps.2 (jE++ps.1) h.2.2
 let e:=jl y.1.1 rs.2 4
 let fs:=j9 y.1.1 e.2 (jE++ps.1++rs.1) e.1.toNat
 let m:=jl y.1.1 fs.2 4
 let a:=jl y.1.1 m.2 (yj m.1)
 let nd:=kC ps.1 rs.1 y.2 a.1.toNat
 let b:=jl y.1.1 a.2 (yj m.1)
 let gv:=kC (ps.1++[Str.ofString "out"]) rs.1 nd.2 b.1.toNat
 let bd:=kF (ps.1++Str.ofString "out" :: fs.1) (Str.ofString "out" :: fs.1) rs.1 hds 4 (gv.2,30)
 (⟨h.1,ps.1,rs.1,nd.1,gv.1,4,bd.1⟩,bd.2.1)
def jaF:Sp:=fun vs H Q _=>∃ (a hl:Addr) (ds:List Addr) (L:List (Int×Dl)) (hs:List V) (hds:List Hd) (k:Nat) (h:Hd),vs=[.ref a,.ref hl,.int (k:Nat)]∧DealsAt H a ds L∧H hl=some (.lst hs)∧HeldL H (hds.map hdD) hs∧hl≠a∧hds.length≤100∧(∀ h∈hds,h.2.1≤4∧h.2.2≤3)∧hds[k]?=some h∧∀ u H' j,Out (a :: ds) H H'→DealsAt H' a (ds.drop j) (Kw hds h L).2→Held H' (Kw hds h L).1.toD u→Q u H'
theorem je4 {H:Hp} {p:Addr} {A:Wd} {xs fr rs:List Str} {hds:List Hd} {hs:List V} (hn:H A.nl=some (.lst (xs.map V.str))) (hf:H A.fl=some (.lst (fr.map V.str))) (hr:H A.rl=some (.lst (rs.map V.str))) (hh:H A.hl=some (.lst hs)) (hH:HeldL H (hds.map hdD) hs) (h0:H p=some (.dK [])):WorldAt (upd H p (.dK (yB [] [(.inr (Str.ofString "numbers"),.ref A.nl),(.inr (Str.ofString "free"),.ref A.fl),(.inr (Str.ofString "rows"),.ref A.rl),(.inr (Str.ofString "heads"),.ref A.hl),(.inr (Str.ofString "left"),.int 30)]))) p A xs fr rs hds 30:=by
 have nl:∀ b zs,H b=some (.lst zs)→∀ o,upd H p o b=some (.lst zs):=fun b zs e o=>by rw [jx (fun z=>by rw [z,h0] at e;cases e)];exact e
 refine ⟨⟨_,jg,zL _ _,?_,?_,?_,?_,?_⟩,nl _ _ hn _,nl _ _ hf _,nl _ _ hr _,hs,nl _ _ hh _,TK.heldL (fun b ys e=>by rw [jx (fun z=>by rw [z,h0] at e;cases e)];exact e) hH⟩
 all_goals rfl
theorem YI {X:Cx} {k k':Nat} {x:Str} {ps:List Str} {sp:Sp} {p pos:Pos} (F:Fn X.prog X.w X.K X.mg X.base k x ps sp) (hr:Room k' X.A) (hk:k≤k':=by omega) (hg:Gl X x:=by rfl) (hd:(x == ("__debug__" : Str))=false:=by decide):QE X (.Call (.Name x p) [] [] pos) (fun σ H Q=>sp [] H Q E0):=by
 obtain ⟨f,fd,G,b,kp,m⟩:=F.ex
 exact ⟨jcA G (hr.mono hk) hg m kp b .nil jeR hd⟩
theorem yo:jE≠[]:=fun z=>by cases z
section
variable {P:Program} {w:World} {K:W.Frag} {mg:Str→Option Value} {base:Heap}
theorem jcJ {f:Addr} {fd:FuncData} (F:Fun K "_law_proc" "_law_proc" Ku f fd) (B:Free0 mg) (F_next:Fn P w K mg base 1 "_law_next" ["_law_deals"] y4) (F_draw:Fn P w K mg base 1 "_law_draw" ["_law_deal_here","_law_many_here"] qI) (F_taken:Fn P w K mg base 1 "_law_taken" [] J3) (F_name:Fn P w K mg base 2 "_law_name" ["_law_deal_here","_law_taken_here"] Ko) (F_claims:Fn P w K mg base 7 "_law_claims" ["_law_deals","_law_many_here","_law_numbers","_law_rows"] yM) (F_body:Fn P w K mg base 16 "_law_body" ["_law_deals","_law_world","_law_deep"] (Jk 4)):FnOk P w K mg base CX0 17 f fd ["_law_deals","_law_heads","_law_k"] jaF:=by
 have sc:FnScope ["_law_deals","_law_heads","_law_k","_law_deal_here","_law_f","_law_many_here","_law_count","_law_taken_here","_law_params","_law_rows","_law_free","_law_world","_law_most","_law_needs","_law_gives","_law_body_here"] ["_law_deals","_law_heads","_law_k"] (jw Ku):=fQ
 refine F.okZ sc (fun vs H Q E h=>?_) (fun cdv A outer s H vs Q E hr h=>?_)
 ·obtain ⟨a,hl,ds,L,hs,hds,k,h,rfl,_⟩:=h
  rfl
 obtain ⟨a,hl,ds,L,hs,hds,k,h,rfl,D,hhl,hH,nha,hz,hsm,hk,q⟩:=h
 refine ⟨_,(je (js (i:=3) sc.nd rfl oQ (jV F_next hr (jb (zpv 0) jd)))
   (je (ql (jz jW (zpv 1) (zpv 2) (fun _ _=>rfl)) (qR rfl (jJ (jy (i:=4) sc.nd rfl oQ) (jJ (jy (i:=5) sc.nd rfl oQ) (jJ (jy (i:=6) sc.nd rfl oQ) kX)))))
   (je (js (i:=7) sc.nd rfl oQ (YI F_taken hr))
   (je (zC (i:=8) sc.nd rfl oQ ["_law_j"] [3,7] rfl (qH (sc:=jw Ku) (N:=["_law_deals","_law_heads","_law_k","_law_deal_here","_law_f","_law_many_here","_law_count","_law_taken_here","_law_params","_law_rows","_law_free","_law_world","_law_most","_law_needs","_law_gives","_law_body_here"]) rfl rfl (by decide +kernel)) (kx (by rfl) B.range_ (jb (zpv 5) jd)) (fun s H ex=>⟨(jy (i:=0) (show List.Nodup (["_law_j","_law_deal_here","_law_taken_here"]:List Str) by decide +kernel) rfl oQ),qm,(jV F_name hr (jb (zpv 1) (jb (zpv 2) jd)))⟩))
   (je (zC (i:=9) sc.nd rfl oQ ["_law_j"] [3,7] rfl (qH (sc:=jw Ku) (N:=["_law_deals","_law_heads","_law_k","_law_deal_here","_law_f","_law_many_here","_law_count","_law_taken_here","_law_params","_law_rows","_law_free","_law_world","_law_most","_law_needs","_law_gives","_law_body_here"]) rfl rfl (by decide +kernel)) (kx (by rfl) B.range_ (jb (zpv 6) jd)) (fun s H ex=>⟨(jy (i:=0) (show List.Nodup (["_law_j","_law_deal_here","_law_taken_here"]:List Str) by decide +kernel) rfl oQ),qm,(jV F_name hr (jb (zpv 1) (jb (zpv 2) jd)))⟩))
   (je (js (i:=10) sc.nd rfl oQ (jD kB (jM (jb jq jd)) (ze ["_law_j"] [3,7] rfl (qH (sc:=jw Ku) (N:=["_law_deals","_law_heads","_law_k","_law_deal_here","_law_f","_law_many_here","_law_count","_law_taken_here","_law_params","_law_rows","_law_free","_law_world","_law_most","_law_needs","_law_gives","_law_body_here"]) rfl rfl (by decide +kernel)) (kx (by rfl) B.range_ (jb (jV F_draw hr (jb (zpv 3) (jb ji jd))) jd)) (fun s H ex=>⟨(jy (i:=0) (show List.Nodup (["_law_j","_law_deal_here","_law_taken_here"]:List Str) by decide +kernel) rfl oQ),qm,(jV F_name hr (jb (zpv 1) (jb (zpv 2) jd)))⟩))))
   (je (js (i:=11) sc.nd rfl oQ (jbX (zO jq (jD kB (zpv 8) (zpv 10)) (zO jq (zpv 10) (zO jq (zpv 9) (zO jq (zpv 1) (zO jq ji jbV))))) rfl rfl (by simp) (by decide)))
   (je (js (i:=12) sc.nd rfl oQ (jz jW (jM (jb ji (jb ji jd))) (jD yx (jV F_draw hr (jb (zpv 3) (jb ji jd))) ji) (fun _ _=>rfl)))
   (je (js (i:=13) sc.nd rfl oQ (jV F_claims hr (jb (zpv 0) (jb (jV F_draw hr (jb (zpv 3) (jb (zpv 12) jd))) (jb (zpv 8) (jb (zpv 9) jd))))))
   (je (js (i:=14) sc.nd rfl oQ (jV F_claims hr (jb (zpv 0) (jb (jV F_draw hr (jb (zpv 3) (jb (zpv 12) jd))) (jb (jD kB (zpv 8) (jM (jb jq jd))) (jb (zpv 9) jd))))))
   (je (js (i:=15) sc.nd rfl oQ (jV F_body hr (jb (zpv 0) (jb (zpv 11) (jb ji jd)))))
   (jn (jB (jX (jb jq (jb (zpv 4) (jb (zi kS (by rfl) B.tuple_ zA (jb (zpv 8) jd)) (jb (zi kS (by rfl) B.tuple_ zA (jb (zpv 9) jd)) (jb (zpv 13) (jb (zpv 14) (jb (zpv 15) jd))))))))))))))))))))),?_⟩
 try dsimp only [q0]
 refine kb (σ':=[some (.ref a),some (.ref hl),some (.int (k:Nat)),none,none,none,none,none,none,none,none,none,none,none,none,none]) rfl ?_
 refine jc3 ?_
 intro _ _ _ _ _ _ _ _ _ _ _
 refine ⟨_,rfl,a,ds,L,rfl,D,fun d H2 k2 hd e2 nd2 D2=>?_⟩
 rw [← List.drop_one] at nd2 D2
 unfold Kw at q
 dsimp only at q
 generalize qb L=y at *
 obtain ⟨⟨w,n⟩,L2⟩:=y
 dsimp only at q e2 D2
 have S:PrA H a ds H2 d w n 1 L2:=⟨fun b o hb e=>k2 _ _ (fun z=>hb (z ▸ List.mem_cons_self ..)) e,e2,D2,nd2,hd⟩
 have hl2:=k2 _ _ nha hhl
 have hH2:=(k2.tk D.l).heldL hH
 have free:∀ {G:Hp} {t:Addr},(∀ b o,H2 b=some o→∃ o',G b=some o')→G t=none→H t=none:=fun {G t} hG ht=>by
  cases z:H t with
  | none=>rfl
  | some o=>
   obtain ⟨o1,h1⟩:∃ o1,H2 t=some o1:=by
    by_cases e:t=a
    ·exact ⟨_,e ▸ D2.l⟩
    ·exact ⟨o,k2 _ _ e z⟩
   obtain ⟨o2,h2⟩:=hG _ _ h1
   rw [ht] at h2;cases h2
 clear e2 D2 nd2 hd k2
 refine gQ ?_
 obtain ⟨v,ev,hv⟩:=hH2.get (j:=k) (d:=hdD h) (by rw [List.getElem?_map,hk];rfl)
 obtain ⟨b,rfl,hb⟩:=YZ hv
 refine ⟨_,rfl,_,rfl,hl,_,_,.ref b,rfl,rfl,SqL.of hl2,ko ev,b,_,rfl,SqT.of hb,rfl,_,_,rfl,_,_,rfl,_,_,rfl,rfl,?_⟩
 refine kb (σ':=[some (.ref a),some (.ref hl),some (.int (k:Nat)),some (.ref d),some (.str h.1),some (.int (h.2.1:Nat)),some (.int (h.2.2:Nat)),none,none,none,none,none,none,none,none,none]) rfl ?_
 obtain ⟨sm1,sm2⟩:=hsm h (List.mem_of_getElem? hk)
 refine ⟨rfl,fun tl htl=>?_⟩
 have s3:=jr htl (.lst (jE.map V.str))
 have e3:upd H2 tl (.lst (jE.map V.str)) tl=some (.lst (jE.map V.str)):=jg
 have S3:=S.same s3
 have ntl:H tl=none:=free (fun b o e=>⟨o,e⟩) htl
 have hl3:=s3 _ _ hl2
 have hH3:=hH2.mono s3
 generalize upd H2 tl (.lst (jE.map V.str))=H3 at *
 refine gQ ?_
 refine ⟨_,rfl,_,rfl,(by omega),(by omega),fun p hp=>?_⟩
 rw [Int.toNat_natCast]
 have npd:p≠d:=(ju S3.hd hp).symm
 have npt:p≠tl:=(ju e3 hp).symm
 have t16:jE.length=16:=rfl
 refine kR (fun i σ' G=>∃ u,σ'=[u,some (.ref d),some (.ref tl)]∧NmAt d tl p w n jE H3 i G) ⟨none,rfl,NmAt.zero S3.hd e3 hp⟩ ?_ ?_
 ·rintro i σ' G hi ⟨u,rfl,N⟩
  obtain ⟨o1,o2,o3⟩:=N.ok yo kM (by omega)
  have nl:=(kI w n yo kM i (by omega)).1
  unfold qN JB
  refine yl ?_
  refine ⟨_,rfl,_,rfl,d,tl,w,_,_,rfl,N.hd,N.hl,o1,o2,o3,fun G' q1 q2 q3=>?_⟩
  obtain ⟨r1,r2⟩:=N.step hp npd npt q1 q2 q3
  exact ⟨_,r1,j8 (by rw [List.length_map];omega),_,rfl,r2⟩
 rintro σ' G ⟨u,rfl,N⟩
 obtain ⟨pn1,pn2,pn3,pn4⟩:=kI w n yo kM h.2.1 (by omega)
 have S4:=S3.keep2 (D.new ntl) ntl N.k N.hd
 have hl4:=N.k _ _ (fun z=>by rw [z,S3.hd] at hl3;injection hl3 with e;injection e with e;exact Jr hH3 0 _ e.symm) (fun z=>by rw [z] at hhl;rw [ntl] at hhl;cases hhl) hl3
 have hH4:HeldL G (hds.map hdD) hs:=TK.heldL (fun b ys e=>N.k _ _ (fun z=>by rw [z,S3.hd] at e;cases e) (fun z=>by rw [z,e3] at e;cases e) e) hH3
 have p4:=N.hp
 have t4:=N.hl
 have pH:H p=none:=free (G:=H3) (fun b o e=>⟨o,s3 _ _ e⟩) hp
 have free4:∀ b o,H2 b=some o→∃ o',G b=some o':=fun b o e=>by
  by_cases z:b=d
  ·exact ⟨_,z ▸ S4.hd⟩
  by_cases z2:b=tl
  ·exact ⟨_,z2 ▸ t4⟩
  exact ⟨o,N.k _ _ z z2 (s3 _ _ e)⟩
 clear N S3 hl3 hH3 s3 e3 hl2 hH2 ev hv hb S hp htl
 generalize j9 w n jE h.2.1=ps at *
 obtain ⟨ps,n1⟩:=ps
 dsimp only at q pn1 pn2 pn3 pn4 p4 t4 S4
 have tk1:∀ z∈jE++ps,NmW z:=fun z hz=>(List.mem_append.mp hz).elim (kM z) (pn2 z)
 have tn1:jE++ps≠[]:=fun z=>by cases z
 have tl1:(jE++ps).length=16+h.2.1:=by rw [List.length_append,pn1];rfl
 refine gQ ?_
 refine ⟨_,rfl,_,rfl,(by omega),(by omega),fun p2 hp2=>?_⟩
 rw [Int.toNat_natCast]
 have n2d:p2≠d:=(ju S4.hd hp2).symm
 have n2t:p2≠tl:=(ju t4 hp2).symm
 refine kR (fun i σ' G'=>∃ u,σ'=[u,some (.ref d),some (.ref tl)]∧NmAt d tl p2 w n1 (jE++ps) G i G') ⟨none,rfl,NmAt.zero S4.hd t4 hp2⟩ ?_ ?_
 ·rintro i σ' G' hi ⟨u,rfl,N⟩
  obtain ⟨o1,o2,o3⟩:=N.ok tn1 tk1 (by omega)
  have nl:=(kI w n1 tn1 tk1 i (by omega)).1
  unfold qN JB
  refine yl ?_
  refine ⟨_,rfl,_,rfl,d,tl,w,_,_,rfl,N.hd,N.hl,o1,o2,o3,fun G' q1 q2 q3=>?_⟩
  obtain ⟨r1,r2⟩:=N.step hp2 n2d n2t q1 q2 q3
  exact ⟨_,r1,j8 (by rw [List.length_map];omega),_,rfl,r2⟩
 rintro σ' G5 ⟨u5,rfl,N⟩
 obtain ⟨rn1,rn2,rn3,rn4⟩:=kI w n1 tn1 tk1 h.2.2 (by omega)
 have S5:=S4.keep2 (D.new ntl) ntl N.k N.hd
 have nhd:hl≠d:=fun z=>by rw [z,S4.hd] at hl4;injection hl4 with e;injection e with e;exact Jr hH4 0 _ e.symm
 have nht:hl≠tl:=fun z=>by rw [z,ntl] at hhl;cases hhl
 have hl5:=N.k _ _ nhd nht hl4
 have ttk:∀ {X Y:Hp} {zs:List Str} {m:Dl},X d=some (dlO w m)→X tl=some (.lst (zs.map V.str))→(∀ b o,b≠d→b≠tl→X b=some o→Y b=some o)→TK X Y:=fun h1 h2 k b ys e=>k _ _ (fun z=>by rw [z,h1] at e;cases e) (fun z=>by rw [z,h2] at e;cases e) e
 have hH5:HeldL G5 (hds.map hdD) hs:=(ttk S4.hd t4 N.k).heldL hH4
 have p5:=N.k _ _ npd npt p4
 have r5:=N.hp
 have t5:=N.hl
 have rH:H p2=none:=free free4 hp2
 have free5:∀ b o,H2 b=some o→∃ o',G5 b=some o':=fun b o e=>by
  by_cases z:b=d
  ·exact ⟨_,z ▸ S5.hd⟩
  by_cases z2:b=tl
  ·exact ⟨_,z2 ▸ t5⟩
  obtain ⟨o',e'⟩:=free4 b o e
  exact ⟨o',N.k _ _ z z2 e'⟩
 clear N S4 hl4 hH4 p4 t4 free4 hp2
 generalize j9 w n1 (jE++ps) h.2.2=rs at *
 obtain ⟨rs,n2⟩:=rs
 dsimp only at q rn1 rn2 rn3 rn4 r5 t5 S5
 have tk2:∀ z∈jE++ps++rs,NmW z:=fun z hz=>(List.mem_append.mp hz).elim (tk1 z) (rn2 z)
 have tn2:jE++ps++rs≠[]:=fun z=>by cases z
 have tl2:(jE++ps++rs).length=16+h.2.1+h.2.2:=by rw [List.length_append,tl1,rn1]
 refine gQ ?_
 refine ⟨sm rfl,fun p6 hp6=>?_⟩
 have s6:=jr hp6 (.lst [V.str (Str.ofString "out")])
 have e6:upd G5 p6 (.lst [V.str (Str.ofString "out")]) p6=some (.lst ([Str.ofString "out"].map V.str)):=jg
 have S6:=S5.same s6
 have n6t:p6≠tl:=(ju t5 hp6).symm
 have n6d:p6≠d:=(ju S5.hd hp6).symm
 generalize upd G5 p6 (.lst [V.str (Str.ofString "out")])=G6 at *
 have lo:=jR w n2 (m:=4) (by decide)
 have hi:=jL w n2 (m:=4) (by decide)
 have k7:=Keep.upd d G6 (dlO w (jl w n2 4).2)
 have S7:=S6.keep k7 jg
 have e7:=k7 _ _ n6d e6
 have t7:=k7.strs S6.hd (s6 _ _ t5)
 have p7:=k7.strs S6.hd (s6 _ _ p5)
 have r7:=k7.strs S6.hd (s6 _ _ r5)
 have hl7:=k7 _ _ nhd (s6 _ _ hl5)
 have hH7:=(k7.tk S6.hd).heldL (hH5.mono s6)
 have free7:∀ b o,H2 b=some o→∃ o',upd G6 d (dlO w (jl w n2 4).2) b=some o':=fun b o e=>by
  by_cases z:b=d
  ·exact ⟨_,by rw [z];exact S7.hd⟩
  obtain ⟨o',e'⟩:=free5 b o e
  exact ⟨o',k7 _ _ z (s6 _ _ e')⟩
 refine ⟨_,rfl,d,w,n2,4,rfl,S6.hd,by decide,by decide,?_⟩
 generalize upd G6 d (dlO w (jl w n2 4).2)=G7 at *
 generalize jl w n2 4=e at *
 obtain ⟨e,n3⟩:=e
 dsimp only at q lo hi S7 ⊢
 obtain ⟨c,rfl⟩:∃ c:Nat,e=(c:Nat):=⟨e.toNat,by omega⟩
 rw [Int.toNat_natCast] at q
 clear k7 S6 e6 s6 S5 t5 p5 r5 hl5 hH5 free5 hp6
 refine ⟨_,rfl,(by omega),(by omega),fun p8 hp8=>?_⟩
 rw [Int.toNat_natCast]
 have n8d:p8≠d:=(ju S7.hd hp8).symm
 have n8t:p8≠tl:=(ju t7 hp8).symm
 refine kR (fun i σ' G'=>∃ u,σ'=[u,some (.ref d),some (.ref tl)]∧NmAt d tl p8 w n3 (jE++ps++rs) G7 i G') ⟨none,rfl,NmAt.zero S7.hd t7 hp8⟩ ?_ ?_
 ·rintro i σ' G' hi ⟨u,rfl,N⟩
  obtain ⟨o1,o2,o3⟩:=N.ok tn2 tk2 (by omega)
  have nl:=(kI w n3 tn2 tk2 i (by omega)).1
  unfold qN JB
  refine yl ?_
  refine ⟨_,rfl,_,rfl,d,tl,w,_,_,rfl,N.hd,N.hl,o1,o2,o3,fun G' q1 q2 q3=>?_⟩
  obtain ⟨r1,r2⟩:=N.step hp8 n8d n8t q1 q2 q3
  exact ⟨_,r1,j8 (by rw [List.length_map];omega),_,rfl,r2⟩
 rintro σ' G8 ⟨u8,rfl,N⟩
 obtain ⟨fn1,fn2,fn3,fn4⟩:=kI w n3 tn2 tk2 c (by omega)
 have S8:=S7.keep2 (D.new ntl) ntl N.k N.hd
 have hl8:=N.k _ _ nhd nht hl7
 have hH8:HeldL G8 (hds.map hdD) hs:=(ttk S7.hd t7 N.k).heldL hH7
 have p8':=N.k _ _ npd npt p7
 have r8:=N.k _ _ n2d n2t r7
 have e8:=N.k _ _ n6d n6t e7
 have f8:=N.hp
 have t8:=N.hl
 have free8:∀ b o,H2 b=some o→∃ o',G8 b=some o':=fun b o e=>by
  by_cases z:b=d
  ·exact ⟨_,z ▸ S8.hd⟩
  by_cases z2:b=tl
  ·exact ⟨_,z2 ▸ t8⟩
  obtain ⟨o',e'⟩:=free7 b o e
  exact ⟨o',N.k _ _ z z2 e'⟩
 clear N S7 hl7 hH7 p7 r7 e7 t7 free7 hp8
 generalize j9 w n3 (jE++ps++rs) c=fs at *
 obtain ⟨fs,n4⟩:=fs
 dsimp only at q fn1 fn2 fn3 fn4 f8 t8 S8
 refine jfF e8 f8 (by rw [fn1];show 1+c≤1000;omega) fun fl G9 s9 n9 e9=>?_
 have S9:=S8.same s9
 have p9:=s9 _ _ p8'
 have r9:=s9 _ _ r8
 have hl9:=s9 _ _ hl8
 have hH9:=hH8.mono s9
 have fH:H fl=none:=free free8 n9
 have free9:∀ b o,H2 b=some o→∃ o',G9 b=some o':=fun b o e=>by
  obtain ⟨o',e'⟩:=free8 b o e
  exact ⟨o',s9 _ _ e'⟩
 clear S8 p8' r8 e8 f8 t8 free8 hl8 hH8 s9 n9
 rw [show [Str.ofString "out"]++fs=Str.ofString "out" :: fs from rfl] at e9
 refine gQ ?_
 refine fun wd hwd=>?_
 have s10:=jr hwd (.dK [])
 have e10:upd G9 wd (.dK []) wd=some (.dK []):=jg
 have wH:H wd=none:=free free9 hwd
 generalize upd G9 wd (.dK [])=G10 at *
 refine ⟨_,rfl,_,rfl,jfF (xs:=ps) (s10 _ _ p9) (s10 _ _ e9) (by rw [pn1,List.length_cons,fn1];omega) fun nl G11 s11 n11 e11=>?_⟩
 have s9':=s10.trans s11
 have w11:=s11 _ _ e10
 have W:=je4 (A:=⟨nl,fl,p2,hl⟩) (xs:=ps++Str.ofString "out" :: fs) (fr:=Str.ofString "out" :: fs) (rs:=rs) (hds:=hds) (hs:=hs) e11 (s9' _ _ e9) (s9' _ _ r9) (s9' _ _ hl9) (hH9.mono s9') w11
 refine ⟨_,rfl,_,rfl,_,rfl,w11,[(.inr (Str.ofString "numbers"),.ref nl),(.inr (Str.ofString "free"),.ref fl),(.inr (Str.ofString "rows"),.ref p2),(.inr (Str.ofString "heads"),.ref hl),(.inr (Str.ofString "left"),.int 30)],rfl,by show 5≤15;decide,?_⟩
 have ka:∀ {b:Addr},H b=none→b≠a:=fun hb z=>by rw [z,D.l] at hb;cases hb
 have fit:WdFit ⟨nl,fl,p2,hl⟩ a (ps++Str.ofString "out" :: fs) (Str.ofString "out" :: fs) rs hds:=by
  refine ⟨fun z=>?_,ka fH,ka rH,nha,?_,?_,?_,?_,?_,hz,fun h' hh=>Nat.le_trans (hsm h' hh).1 (by decide)⟩
  ·have:=s10 _ _ S9.D.l
   rw [← z,n11] at this;cases this
  ·rw [List.length_append,List.length_cons];omega
  ·rw [List.length_append,List.length_cons,pn1,fn1];omega
  ·rw [List.length_cons];omega
  ·rw [List.length_cons,fn1];omega
  ·omega
 have k12:∀ b o,b≠wd→G11 b=some o→upd G11 wd (.dK (yB [] [(.inr (Str.ofString "numbers"),.ref nl),(.inr (Str.ofString "free"),.ref fl),(.inr (Str.ofString "rows"),.ref p2),(.inr (Str.ofString "heads"),.ref hl),(.inr (Str.ofString "left"),.int 30)])) b=some o:=fun b o hb e=>by rw [jx hb];exact e
 have S11:=S9.same s9'
 have lw:∀ {b:Addr} {zs:List V},G11 b=some (.lst zs)→b≠wd:=fun e z=>by rw [z,w11] at e;cases e
 have S12:=S11.keep2 (D.new wH) wH (fun b o _ hb e=>k12 b o hb e) (k12 _ _ (lw S11.hd) S11.hd)
 have p12:=k12 _ _ (lw (s9' _ _ p9)) (s9' _ _ p9)
 have r12:=k12 _ _ (lw (s9' _ _ r9)) (s9' _ _ r9)
 generalize upd G11 wd (.dK (yB [] [(.inr (Str.ofString "numbers"),.ref nl),(.inr (Str.ofString "free"),.ref fl),(.inr (Str.ofString "rows"),.ref p2),(.inr (Str.ofString "heads"),.ref hl),(.inr (Str.ofString "left"),.int 30)]))=G12 at *
 clear k12 S11 lw S9 p9 r9 hl9 hH9 free9 e9 s10 s11 s9' w11 e11 n11 e10 hwd
 have npa:=ka pH
 have nra:=ka rH
 have pl:ps.length≤100:=by omega
 have rl:rs.length≤100:=by omega
 refine gQ ?_
 refine ⟨sm rfl,fun p13 hp13=>?_⟩
 have s13:=jr hp13 (.lst [V.int 2,V.int 5])
 have e13:upd G12 p13 (.lst [V.int 2,V.int 5]) p13=some (.lst [V.int 2,V.int 5]):=jg
 have S13:=S12.same s13
 have W13:=W.same s13
 have p13':=s13 _ _ p12
 have r13:=s13 _ _ r12
 have n13d:p13≠d:=(ju S12.hd hp13).symm
 generalize upd G12 p13 (.lst [V.int 2,V.int 5])=G13 at *
 have lo:=jR w n4 (m:=4) (by decide)
 have hi:=jL w n4 (m:=4) (by decide)
 have k14:=Keep.upd d G13 (dlO w (jl w n4 4).2)
 have S14:=S13.keep k14 jg
 have W14:=W13.keep k14 S13.hd
 have p14:=k14.strs S13.hd p13'
 have r14:=k14.strs S13.hd r13
 refine ⟨_,rfl,d,w,n4,4,rfl,S13.hd,by decide,by decide,_,_,rfl,rfl,⟨by decide,by decide⟩,p13,_,_,.int (yj (jl w n4 4).1),rfl,rfl,SqL.of (k14 _ _ n13d e13),?_,?_⟩
 ·have:(jl w n4 4).1 / 3=0∨(jl w n4 4).1 / 3=1:=by omega
  unfold yj
  rcases this with h | h <;> rw [h] <;> rfl
 generalize upd G13 d (dlO w (jl w n4 4).2)=G14 at *
 generalize jl w n4 4=mo at *
 obtain ⟨mo,n5⟩:=mo
 dsimp only at q S14 ⊢
 have mp:0 < yj mo∧yj mo≤5:=by unfold yj;split <;> exact ⟨by decide,by decide⟩
 generalize yj mo=most at *
 clear S12 S13 W W13 p12 p13' r12 r13 s13 e13 hp13
 refine gQ ?_
 have lo1:=jR w n5 mp.1
 have hi1:=jL w n5 mp.1
 have k15:=Keep.upd d G14 (dlO w (jl w n5 most).2)
 have S15:=S14.keep k15 jg
 have W15:=W14.keep k15 S14.hd
 have p15:=k15.strs S14.hd p14
 have r15:=k15.strs S14.hd r14
 refine ⟨_,rfl,_,rfl,_,rfl,d,w,n5,most,rfl,S14.hd,mp.1,by omega,?_⟩
 generalize upd G14 d (dlO w (jl w n5 most).2)=G15 at *
 generalize jl w n5 most=m1 at *
 obtain ⟨m1,n6⟩:=m1
 dsimp only at q S15 lo1 hi1 ⊢
 obtain ⟨m1,rfl⟩:∃ c:Nat,m1=(c:Nat):=⟨m1.toNat,by omega⟩
 rw [Int.toNat_natCast] at q
 refine ⟨_,rfl,_,rfl,a,p,p2,ds.drop 1,L2,m1,ps,rs,rfl,S15.D,p15,r15,npa,nra,pl,rl,by omega,fun u16 G16 o16 D16 h16=>?_⟩
 have da:d ∉ a :: ds.drop 1:=fun z=>by
  rcases List.mem_cons.mp z with z | z
  ·have:=S15.D.l
   rw [← z,S15.hd] at this
   injection this with this;injection this with this
   cases hh:ds.drop 1 with
   | nil=>rw [hh] at this;cases this
   | cons x xs=>rw [hh] at this;injection this with this;cases this
  ·exact S15.nd z
 have S16:PrA H a ds G16 d w n6 (1+m1) (kC ps rs L2 m1).2:=⟨S15.o.then (o16.sub fun b hb=>by
  rcases List.mem_cons.mp hb with rfl | hb
  ·exact List.mem_cons_self ..
  ·exact List.mem_cons_of_mem _ (List.mem_of_mem_drop hb)),o16 _ _ da S15.hd,by rw [← List.drop_drop];exact D16,fun z=>S15.nd (by rw [← List.drop_drop] at z;exact List.mem_of_mem_drop z),S15.dd⟩
 have W16:=W15.out o16 S15.D fit
 have p16:=o16 _ _ (S15.D.ne p15 npa) p15
 have r16:=o16 _ _ (S15.D.ne r15 nra) r15
 generalize kC ps rs L2 m1=nd at *
 obtain ⟨nd,L3⟩:=nd
 dsimp only at q S16 h16
 clear S14 W14 p14 r14 S15 W15 p15 r15 k14 k15 D16 o16 da
 refine gQ ?_
 have lo2:=jR w n6 mp.1
 have hi2:=jL w n6 mp.1
 have k17:=Keep.upd d G16 (dlO w (jl w n6 most).2)
 have S17:=S16.keep k17 jg
 have W17:=W16.keep k17 S16.hd
 have p17:=k17.strs S16.hd p16
 have r17:=k17.strs S16.hd r16
 have h17:=(k17.tk S16.hd).held h16
 refine ⟨_,rfl,_,rfl,_,rfl,d,w,n6,most,rfl,S16.hd,mp.1,by omega,?_⟩
 generalize upd G16 d (dlO w (jl w n6 most).2)=G17 at *
 generalize jl w n6 most=m2 at *
 obtain ⟨m2,n7⟩:=m2
 dsimp only at q S17 lo2 hi2 ⊢
 obtain ⟨m2,rfl⟩:∃ c:Nat,m2=(c:Nat):=⟨m2.toNat,by omega⟩
 rw [Int.toNat_natCast] at q
 refine ⟨_,rfl,sm rfl,fun p18 hp18=>?_⟩
 have s18:=jr hp18 (.lst [V.str (Str.ofString "out")])
 refine jfF (xs:=ps) (ys:=[Str.ofString "out"]) (s18 _ _ p17) jg (by show ps.length+1≤1000;omega) fun p19 G19 s19 n19 e19=>?_
 have s20:=s18.trans s19
 have S19:=S17.same s20
 have W19:=W17.same s20
 have p19':=s20 _ _ p17
 have r19:=s20 _ _ r17
 have h19:=h17.mono s20
 have n19a:p19≠a:=fun z=>by
  have:=s18 _ _ S17.D.l
  rw [← z,n19] at this;cases this
 refine ⟨_,rfl,a,p19,p2,ds.drop (1+m1),L3,m2,ps++[Str.ofString "out"],rs,rfl,S19.D,e19,r19,n19a,nra,by rw [List.length_append];show _+1≤100;omega,rl,by omega,fun u20 G20 o20 D20 h20=>?_⟩
 have o20':Out (a :: ds) G19 G20:=o20.sub fun b hb=>by
  rcases List.mem_cons.mp hb with rfl | hb
  ·exact List.mem_cons_self ..
  ·exact List.mem_cons_of_mem _ (List.mem_of_mem_drop hb)
 have o20h:=S19.o.then o20'
 have W20:=W19.out o20 S19.D fit
 have p20:=o20 _ _ (S19.D.ne p19' npa) p19'
 have r20:=o20 _ _ (S19.D.ne r19 nra) r19
 have h20':=(o20.tk S19.D).held h19
 rw [List.drop_drop] at D20
 generalize kC (ps++[Str.ofString "out"]) rs L3 m2=gv at *
 obtain ⟨gv,L4⟩:=gv
 dsimp only at q D20 h20
 clear S16 S17 S19 W16 W17 W19 p16 p17 p19' r16 r17 r19 h16 h17 h19 k17 s18 s19 s20 n19 e19 n19a hp18 o20 o20'
 refine gQ ?_
 refine ⟨_,rfl,_,rfl,a,wd,_,L4,⟨nl,fl,p2,hl⟩,ps++Str.ofString "out" :: fs,Str.ofString "out" :: fs,rs,hds,30,by decide,by decide,rfl,D20,W20,fit,fun u21 G21 k21 o21 D21 W21 h21=>?_⟩
 have tk:=o21.tkW D20 W20
 have lw:∀ {b:Addr} {zs:List Str},G20 b=some (.lst (zs.map V.str))→b≠a→b ∉ wd :: a :: ds.drop (1+m1+m2):=fun {b zs} e ha z=>by
  rcases List.mem_cons.mp z with z | z
  ·obtain ⟨kvs,hw,-⟩:=W20.d
   rw [z,hw] at e;cases e
  ·exact D20.ne e ha z
 have p21:=o21 _ _ (lw p20 npa) p20
 have r21:=o21 _ _ (lw r20 nra) r20
 have o22:Out (a :: ds) H G21:=fun b o hb e=>o21 _ _ (fun z=>by
  rcases List.mem_cons.mp z with z | z
  ·rw [z,wH] at e;cases e
  ·rcases List.mem_cons.mp z with z | z
   ·exact hb (z ▸ List.mem_cons_self ..)
   ·exact hb (List.mem_cons_of_mem _ (List.mem_of_mem_drop z))) (o20h _ _ hb e)
 rw [List.drop_drop] at D21
 refine gQ ?_
 refine ⟨_,rfl,_,rfl,p,_,rfl,.inl ⟨SqL.of p21,fun t1 ht1=>?_⟩⟩
 have s1:=jr ht1 (.tup (ps.map V.str))
 refine ⟨_,rfl,p2,_,rfl,.inl ⟨SqL.of (s1 _ _ r21),fun t2 ht2=>?_⟩⟩
 have s2:=jr ht2 (.tup (rs.map V.str))
 refine ⟨_,rfl,_,rfl,_,rfl,sm rfl,fun t3 ht3=>?_⟩
 have s3:=jr ht3 (.tup [V.str (Str.ofString "proc"),V.str h.1,V.ref t1,V.ref t2,u16,u20,u21])
 have s13:=s1.trans (s2.trans s3)
 refine q _ _ _ (fun b o hb e=>s13 _ _ (o22 _ _ hb e)) (D21.same s13) ?_
 exact jQ jg (jh jj (jh jj (jh (jQ (s3 _ _ (s2 _ _ jg)) (qy _)) (jh (jQ (s3 _ _ jg) (qy _)) (jh ((tk.held h20').mono s13) (jh ((tk.held h20).mono s13) (jh (h21.mono s13) jt)))))))
end
abbrev zT:Stmt:=top 42
def zM (ns:List Int) (m:Nat):List (Int×Dl):=(List.range m).map fun k=>KM ns (k:Nat)
theorem ZO (ns:List Int) (m:Nat):zM ns (m+1)=zM ns m++[KM ns (m:Nat)]:=by unfold zM;rw [List.range_succ,List.map_append];rfl
theorem DealsAt.snoc {H H':Hp} {a r:Addr} {ds:List Addr} {L:List (Int×Dl)} {x:Int×Dl} (D:DealsAt H a ds L) (s:Same H H') (hr:H r=none) (er:H' r=some (dlO x.1 x.2)) (hz:ds.length < 100):DealsAt (upd H' a (.lst ((ds++[r]).map V.ref))) a (ds++[r]) (L++[x]):=by
 have hn:=D.new hr
 have hx:∀ (i:Nat) d y,ds[i]?=some d→L[i]?=some y→d≠a:=fun i d y h1 h2 z=>by
  have e:=D.at_ i d y h1 h2
  rw [z,D.l] at e
  injection e with e;injection e with e
  cases ds with
  | nil=>cases e
  | cons q qs=>injection e with e;cases e
 refine ⟨jg,by rw [List.length_append,List.length_append,D.n];rfl,List.nodup_append.mpr ⟨D.nd,List.nodup_cons.mpr ⟨fun z=>(nomatch z),List.nodup_nil⟩,fun y hy z hz e=>hn (List.mem_cons_of_mem _ (by rw [← List.mem_singleton.mp hz,← e];exact hy))⟩,by rw [List.length_append];exact hz,fun i d y h1 h2=>?_⟩
 have dn:=D.n
 by_cases hi:i < ds.length
 ·rw [List.getElem?_append_left hi] at h1
  rw [List.getElem?_append_left (by omega)] at h2
  rw [jx (hx i d y h1 h2)]
  exact s _ _ (D.at_ i d y h1 h2)
 ·rw [List.getElem?_append_right (by omega)] at h1
  rw [List.getElem?_append_right (by omega),← dn] at h2
  cases hj:i - ds.length with
  | zero=>
   rw [hj] at h1 h2
   cases h1
   cases h2
   rw [jx (fun (z:r=a)=>hn (z ▸ List.mem_cons_self ..))]
   exact er
  | succ j=>rw [hj] at h1;cases h1
def jY (w:Int) (n:Dl) (tk:List Str):Nat→List Hd×Dl
 | 0=>([],n)
 | i+1=>
  let p:=jY w n tk i
  let r:=kY w p.2 (tk++p.1.map (·.1))
  let a:=jl w r.2 5
  let b:=jl w a.2 4
  (p.1++[(r.1,a.1.toNat,b.1.toNat)],b.2)
theorem yS (w:Int) (n:Dl) {tk:List Str} (h0:tk≠[]) (h:∀ z∈tk,NmW z):∀ i,tk.length+i≤26→(jY w n tk i).1.length=i∧(∀ z∈(jY w n tk i).1.map (·.1),NmW z)∧(∀ z∈(jY w n tk i).1.map (·.1),z ∉ tk)∧((jY w n tk i).1.map (·.1)).Nodup∧∀ x∈(jY w n tk i).1,x.2.1≤4∧x.2.2≤3
 | 0,_=>⟨rfl,(fun _ z=>nomatch z),(fun _ z=>nomatch z),List.nodup_nil,(fun _ z=>nomatch z)⟩
 | i+1,hi=>by
  obtain ⟨h1,h2,h3,h4,h7⟩:=yS w n h0 h i (by omega)
  obtain ⟨h5,h6⟩:=yy w (jY w n tk i).2 (tk:=tk++(jY w n tk i).1.map (·.1)) (by simp [h0]) (by rw [List.length_append,List.length_map];omega) (fun z hz=>(List.mem_append.mp hz).elim (h z) (h2 z))
  have es:jY w n tk (i+1)=((jY w n tk i).1++[((kY w (jY w n tk i).2 (tk++(jY w n tk i).1.map (·.1))).1,(jl w (kY w (jY w n tk i).2 (tk++(jY w n tk i).1.map (·.1))).2 5).1.toNat,(jl w (jl w (kY w (jY w n tk i).2 (tk++(jY w n tk i).1.map (·.1))).2 5).2 4).1.toNat)],(jl w (jl w (kY w (jY w n tk i).2 (tk++(jY w n tk i).1.map (·.1))).2 5).2 4).2):=rfl
  have b1:=jL w (kY w (jY w n tk i).2 (tk++(jY w n tk i).1.map (·.1))).2 (m:=5) (by decide)
  have b2:=jL w (jl w (kY w (jY w n tk i).2 (tk++(jY w n tk i).1.map (·.1))).2 5).2 (m:=4) (by decide)
  rw [es]
  generalize kY w (jY w n tk i).2 (tk++(jY w n tk i).1.map (·.1))=nm at *
  generalize jl w (jl w nm.2 5).2 4=y at *
  generalize jl w nm.2 5=x at *
  dsimp only
  rw [List.map_append]
  refine ⟨by rw [List.length_append,h1];rfl,fun z hz=>?_,fun z hz=>?_,?_,fun z hz=>?_⟩
  ·rcases List.mem_append.mp hz with hz | hz
   ·exact h2 z hz
   ·rw [List.mem_singleton.mp hz];exact h5
  ·rcases List.mem_append.mp hz with hz | hz
   ·exact h3 z hz
   ·rw [List.mem_singleton.mp hz];exact fun q=>h6 (List.mem_append.mpr (.inl q))
  ·exact List.nodup_append.mpr ⟨h4,List.nodup_cons.mpr ⟨fun z=>(nomatch z),List.nodup_nil⟩,fun x hx y hy e=>h6 (List.mem_append.mpr (.inr ((show _=nm.1 from e.trans (List.mem_singleton.mp hy)) ▸ hx)))⟩
  ·rcases List.mem_append.mp hz with hz | hz
   ·exact h7 z hz
   ·rw [List.mem_singleton.mp hz];exact ⟨by show x.1.toNat≤4;omega,by show y.1.toNat≤3;omega⟩
def zK (hds:List Hd) (L:List (Int×Dl)):Nat→List Pc×List (Int×Dl)
 | 0=>([],L)
 | i+1=>
  let p:=zK hds L i
  let r:=Kw hds (hds.getD i ("",0,0)) p.2
  (p.1++[r.1],r.2)
def yA (e:Int):Int:=if e / 3=0 then 3 else 4
def qd (ns:List Int) (m:Nat):List Hd:=
 let y:=qb (zM ns m)
 let e:=jl y.1.1 y.1.2 4
 let c:=jl y.1.1 e.2 (yA e.1)
 (jY y.1.1 c.2 jE (1+c.1).toNat).1
def Zs (ns:List Int) (m:Nat):List Pc:=(zK (qd ns m) (qb (zM ns m)).2 (qd ns m).length).1
def Kn (K:W.Frag):Sp:=fun vs H Q _=>∃ (a tl:Addr) (ns:List Int) (m:Nat),vs=[.ref a,.int (m:Nat),.ref tl]∧SqL K H a (ns.map V.int)∧ns.length≤63∧m≤63∧H tl=some (.lst (jE.map V.str))∧∀ u H',Keep tl H H'→H' tl=some (.lst ((jE++(qd ns m).map (·.1)).map V.str))→Held H' (.tup ((Zs ns m).map Pc.toD)) u→Q u H'
section
variable {P:Program} {w:World} {K:W.Frag} {mg:Str→Option Value} {base:Heap}
theorem Zw {f:Addr} {fd:FuncData} (F:Fun K "_law_program" "_law_program" zT f fd) (B:Free0 mg) (F_deal:Fn P w K mg base 1 "_law_deal" ["_law_script","_law_k"] (Z2 K)) (F_next:Fn P w K mg base 1 "_law_next" ["_law_deals"] y4) (F_draw:Fn P w K mg base 1 "_law_draw" ["_law_deal_here","_law_many_here"] qI) (F_name:Fn P w K mg base 2 "_law_name" ["_law_deal_here","_law_taken_here"] Ko) (F_proc:Fn P w K mg base 17 "_law_proc" ["_law_deals","_law_heads","_law_k"] jaF):FnOk P w K mg base CX0 18 f fd ["_law_script","_law_many_here","_law_taken_here"] (Kn K):=by
 have sc:FnScope ["_law_script","_law_many_here","_law_taken_here","_law_deals","_law_deal_here","_law_heads","_law_k"] ["_law_script","_law_many_here","_law_taken_here"] (jw zT):=fQ
 refine F.okZ sc (fun vs H Q E h=>?_) (fun cdv A outer s H vs Q E hr h=>?_)
 ·obtain ⟨a,tl,ns,m,rfl,_⟩:=h
  rfl
 obtain ⟨sa,tl,ns,m,rfl,hS,hn,hm,htl,q⟩:=h
 refine ⟨_,(je (js (i:=3) sc.nd rfl oQ (ze ["_law_k"] [0] rfl (qH (sc:=jw zT) (N:=["_law_script","_law_many_here","_law_taken_here","_law_deals","_law_deal_here","_law_heads","_law_k"]) rfl rfl (by decide +kernel)) (kx (by rfl) B.range_ (jb (zpv 1) jd)) (fun s H ex=>⟨(jy (i:=0) (show List.Nodup (["_law_k","_law_script"]:List Str) by decide +kernel) rfl oQ),qm,(jV F_deal hr (jb (zpv 1) (jb (zpv 0) jd)))⟩)))
   (je (js (i:=4) sc.nd rfl oQ (jV F_next hr (jb (zpv 3) jd)))
   (je (js (i:=5) sc.nd rfl oQ (jM jd))
   (je (kK PassesOwn.never rfl (kx (by rfl) B.range_ (jb (jD qX ji (jV F_draw hr (jb (zpv 4) (jb (jz jW (jM (jb ji (jb ji jd))) (jD yx (jV F_draw hr (jb (zpv 4) (jb ji jd))) ji) (fun _ _=>rfl)) jd)))) jd)) (jy (i:=6) sc.nd rfl oQ) (jn (kE (qS PySem.F.plainAttrs_list PySem.F.slot_list_append PySem.F.type_list_append za (zpv 5) (jb (jX (jb (jV F_name hr (jb (zpv 4) (jb (zpv 2) jd))) (jb (jV F_draw hr (jb (zpv 4) (jb ji jd))) (jb (jV F_draw hr (jb (zpv 4) (jb ji jd))) jd)))) jd)))))
   (jn (jB (zi kS (by rfl) B.tuple_ zA (jb (ze ["_law_k"] [3,5] rfl (qH (sc:=jw zT) (N:=["_law_script","_law_many_here","_law_taken_here","_law_deals","_law_deal_here","_law_heads","_law_k"]) rfl rfl (by decide +kernel)) (kx (by rfl) B.range_ (jb (j0 jO (by rfl) B.len_ ke (jb (zpv 5) jd)) jd)) (fun s H ex=>⟨(jy (i:=0) (show List.Nodup (["_law_k","_law_deals","_law_heads"]:List Str) by decide +kernel) rfl oQ),qm,(jV F_proc hr (jb (zpv 1) (jb (zpv 2) (jb (zpv 0) jd))))⟩)) jd)))))))),?_⟩
 try dsimp only [q0]
 refine kb (σ':=[some (.ref sa),some (.int (m:Nat)),some (.ref tl),none,none,none,none]) rfl ?_
 refine jeZ ?_
 intro _ _ _ _
 refine ⟨_,rfl,_,rfl,(by omega),(by omega),fun a ha=>?_⟩
 rw [Int.toNat_natCast]
 have s0:=jr ha (.lst [])
 refine kR (fun i σ' G=>∃ u ds,σ'=[u,some (.ref sa)]∧Same H G∧DealsAt G a ds (zM ns i)∧∀ x∈ds,H x=none) ⟨none,[],rfl,s0,⟨jg,rfl,List.nodup_nil,Nat.zero_le _,fun i d x h=>by cases h⟩,fun _ z=>nomatch z⟩ ?_ ?_
 ·rintro i σ' G hi ⟨u,ds,rfl,sG,DG,hx⟩
  have dl:ds.length=i:=by rw [DG.n];unfold zM;rw [List.length_map,List.length_range]
  unfold qN JB
  refine yl ?_
  refine ⟨_,rfl,_,rfl,sa,ns,(i:Nat),by rw [show (0:Int)+((i:Nat):Int)=((i:Nat):Int) by omega];rfl,sG.seq hS,hn,by omega,by omega,fun r G' hr sG' er=>?_⟩
  refine ⟨ds.map V.ref,sG' _ _ DG.l,j8 (by rw [List.length_map];omega),_,ds++[r],rfl,fun b o e=>?_,?_,fun x hx'=>?_⟩
  ·rw [jx (ju e ha)];exact sG' _ _ (sG _ _ e)
  ·rw [ZO]
   have:=DG.snoc sG' hr er (by omega)
   rw [List.map_append] at this
   exact this
  ·rcases List.mem_append.mp hx' with h | h
   ·exact hx x h
   ·rw [List.mem_singleton.mp h];exact sG.free hr
 rintro σ' G ⟨u,ds,rfl,sG,DG,hx⟩
 unfold Zs qd at q
 dsimp only at q
 generalize zM ns m=L at *
 refine gQ ?_
 refine ⟨_,rfl,a,ds,L,rfl,DG,fun d H2 k2 hd e2 nd2 D2=>?_⟩
 rw [← List.drop_one] at nd2 D2
 generalize qb L=y at *
 obtain ⟨⟨w,n⟩,L2⟩:=y
 dsimp only at q e2 D2
 have nta:tl≠a:=fun z=>by rw [z,ha] at htl;cases htl
 have ntd:tl ∉ a :: ds:=fun z=>by
  rcases List.mem_cons.mp z with z | z
  ·exact nta z
  ·have:=hx _ z
   rw [htl] at this;cases this
 have dH:H d=none:=by
  rcases hd with h | h
  ·exact sG.free h
  ·exact hx _ h
 have k2':Keep tl H H2:=fun b o _ e=>k2 _ _ (ju e ha) (sG _ _ e)
 have S:PrA (fun _=>none) a ds H2 d w n 1 L2:=⟨fun _ _ _ e=>(nomatch e),e2,D2,nd2,.inl rfl⟩
 have t2:=k2 _ _ nta (sG _ _ htl)
 have hx2:∀ b,H2 b=none→b ∉ a :: ds:=fun b hb z=>by
  by_cases e:b=a
  ·rw [e,D2.l] at hb;cases hb
  cases z2:G b with
  | none=>exact DG.new z2 z
  | some o=>rw [k2 _ _ e z2] at hb;cases hb
 clear e2 D2 nd2 hd k2 DG
 refine gQ ?_
 refine ⟨sm rfl,fun hl hhl=>?_⟩
 have s3:=jr hhl (.lst [])
 have e3:upd H2 hl (.lst []) hl=some (.lst []):=jg
 have S3:=S.same s3
 have t3:=s3 _ _ t2
 have k3:Keep tl H (upd H2 hl (.lst [])):=k2'.trans (Keep.same s3)
 have nhd:hl≠d:=(ju S.hd hhl).symm
 have nht:hl≠tl:=(ju t2 hhl).symm
 have nha:hl≠a:=(ju S.D.l hhl).symm
 have hlH:H hl=none:=by
  cases z:H hl with
  | none=>rfl
  | some o=>exact absurd (k2' _ _ nht z) (by rw [hhl];exact fun z=>nomatch z)
 have nhds:=hx2 _ hhl
 generalize upd H2 hl (.lst [])=H3 at *
 clear S t2 k2' hhl s3
 refine gQ ?_
 refine ⟨_,rfl,sm rfl,fun p4 hp4=>?_⟩
 have s4:=jr hp4 (.lst [V.int 3,V.int 4])
 have e4:upd H3 p4 (.lst [V.int 3,V.int 4]) p4=some (.lst [V.int 3,V.int 4]):=jg
 have S4:=S3.same s4
 have n4d:p4≠d:=(ju S3.hd hp4).symm
 have t4:=s4 _ _ t3
 have h4:=s4 _ _ e3
 have k4:=k3.trans (Keep.same s4)
 generalize upd H3 p4 (.lst [V.int 3,V.int 4])=H4 at *
 have lo:=jR w n (m:=4) (by decide)
 have hi:=jL w n (m:=4) (by decide)
 have kd:=Keep.upd d H4 (dlO w (jl w n 4).2)
 have S5:=S4.keep kd jg
 have ntd':tl≠d:=fun z=>by rw [z,dH] at htl;cases htl
 have t5:=kd _ _ ntd' t4
 have h5:=kd _ _ nhd h4
 have k5:Keep tl H (upd H4 d (dlO w (jl w n 4).2)):=fun b o hb e=>kd _ _ (ju e dH) (k4 _ _ hb e)
 refine ⟨_,rfl,d,w,n,4,rfl,S4.hd,by decide,by decide,_,_,rfl,rfl,⟨by decide,by decide⟩,p4,_,_,.int (yA (jl w n 4).1),rfl,rfl,SqL.of (kd _ _ n4d e4),?_,?_⟩
 ·have:(jl w n 4).1 / 3=0∨(jl w n 4).1 / 3=1:=by omega
  unfold yA
  rcases this with h | h <;> rw [h] <;> rfl
 generalize upd H4 d (dlO w (jl w n 4).2)=H5 at *
 generalize jl w n 4=e at *
 have mp:0 < yA e.1∧yA e.1≤6:=by unfold yA;split <;> exact ⟨by decide,by decide⟩
 generalize yA e.1=most at *
 clear S3 S4 t3 t4 h4 k3 k4 kd e4 s4 hp4 e3 n4d
 have lo:=jR w e.2 mp.1
 have hi:=jL w e.2 mp.1
 have kd:=Keep.upd d H5 (dlO w (jl w e.2 most).2)
 have S6:=S5.keep kd jg
 have t6:=kd _ _ ntd' t5
 have h6:=kd _ _ nhd h5
 have k6:Keep tl H (upd H5 d (dlO w (jl w e.2 most).2)):=fun b o hb e=>kd _ _ (ju e dH) (k5 _ _ hb e)
 refine ⟨d,w,e.2,most,rfl,S5.hd,mp.1,by omega,_,_,rfl,rfl,_,rfl,by omega,by omega,?_⟩
 generalize upd H5 d (dlO w (jl w e.2 most).2)=H6 at *
 generalize jl w e.2 most=c at *
 clear S5 t5 h5 k5 kd
 have t16:jE.length=16:=rfl
 refine yT (fun i σ G=>∃ u hs,σ=[some (.ref sa),some (.int (m:Nat)),some (.ref tl),some (.ref a),some (.ref d),some (.ref hl),u]∧Keep tl H G∧PrA (fun _=>none) a ds G d w (jY w c.2 jE i).2 1 L2∧G tl=some (.lst ((jE++(jY w c.2 jE i).1.map (·.1)).map V.str))∧G hl=some (.lst hs)∧hs.length=i∧HeldL G ((jY w c.2 jE i).1.map hdD) hs) ⟨none,[],rfl,k6,S6,t6,h6,rfl,jt⟩ ?_ ?_
 ·rintro i σ G hi' ⟨u,hs,rfl,kG,S,tG,hG,hsl,hH⟩
  have hi2:i < (1+c.1).toNat:=hi'
  obtain ⟨h1,h2,-,-,-⟩:=yS w c.2 yo kM i (by omega)
  refine gQ ?_
  refine ⟨_,rfl,.inl ⟨rfl,_,SqL.of hG⟩,_,rfl,_,rfl,d,tl,w,_,_,rfl,S.hd,tG,by simp [yo],by rw [List.length_append,List.length_map];omega,fun z hz=>(List.mem_append.mp hz).elim (kM z) (h2 z),fun G1 q1 q2 q3=>?_⟩
  have S1:=S.keep2 ntd rfl q1 q2
  have k1:Keep tl H G1:=fun b o hb e=>q1 _ _ (ju e dH) hb (kG _ _ hb e)
  have hG1:=q1 _ _ nhd nht hG
  have hH1:=TK.heldL (fun b ys e=>q1 _ _ (fun z=>by rw [z,S.hd] at e;cases e) (fun z=>by rw [z,tG] at e;cases e) e) hH
  have es:jY w c.2 jE (i+1)=((jY w c.2 jE i).1++[((kY w (jY w c.2 jE i).2 (jE++(jY w c.2 jE i).1.map (·.1))).1,(jl w (kY w (jY w c.2 jE i).2 (jE++(jY w c.2 jE i).1.map (·.1))).2 5).1.toNat,(jl w (jl w (kY w (jY w c.2 jE i).2 (jE++(jY w c.2 jE i).1.map (·.1))).2 5).2 4).1.toNat)],(jl w (jl w (kY w (jY w c.2 jE i).2 (jE++(jY w c.2 jE i).1.map (·.1))).2 5).2 4).2):=rfl
  rw [es]
  generalize kY w (jY w c.2 jE i).2 (jE++(jY w c.2 jE i).1.map (·.1))=nm at *
  generalize (jY w c.2 jE i).1=hd0 at *
  clear S q1 q2 hG hH kG es
  have lo1:=jR w nm.2 (m:=5) (by decide)
  have lo2:=jR w (jl w nm.2 5).2 (m:=4) (by decide)
  have kd:=Keep.upd d G1 (dlO w (jl w nm.2 5).2)
  have S2:=S1.keep kd jg
  refine ⟨_,rfl,d,w,nm.2,5,rfl,S1.hd,by decide,by decide,?_⟩
  have kd2:=Keep.upd d (upd G1 d (dlO w (jl w nm.2 5).2)) (dlO w (jl w (jl w nm.2 5).2 4).2)
  have S3:=S2.keep kd2 jg
  refine ⟨_,rfl,d,w,(jl w nm.2 5).2,4,rfl,S2.hd,by decide,by decide,sm rfl,fun t ht=>?_⟩
  have kd3:=kd.trans kd2
  generalize upd (upd G1 d (dlO w (jl w nm.2 5).2)) d (dlO w (jl w (jl w nm.2 5).2 4).2)=G3 at *
  generalize (jl w (jl w nm.2 5).2 4)=y at *
  generalize (jl w nm.2 5)=x at *
  obtain ⟨x,x2⟩:=x
  obtain ⟨y,y2⟩:=y
  dsimp only at lo1 lo2 S3 ⊢
  obtain ⟨x,rfl⟩:∃ c:Nat,x=(c:Nat):=⟨x.toNat,by omega⟩
  obtain ⟨y,rfl⟩:∃ c:Nat,y=(c:Nat):=⟨y.toNat,by omega⟩
  rw [Int.toNat_natCast,Int.toNat_natCast]
  have hG3:=kd3 _ _ nhd hG1
  have tG3:=kd3 _ _ ntd' q3
  have s4:=jr ht (.tup [V.str nm.1,V.int (x:Nat),V.int (y:Nat)])
  have e4:upd G3 t (.tup [V.str nm.1,V.int (x:Nat),V.int (y:Nat)]) t=some (.tup [V.str nm.1,V.int (x:Nat),V.int (y:Nat)]):=jg
  have S4:=S3.same s4
  generalize upd G3 t (.tup [V.str nm.1,V.int (x:Nat),V.int (y:Nat)])=G4 at *
  have hG4:=s4 _ _ hG3
  have k4:Keep tl H G4:=fun b o hb e=>s4 _ _ (kd3 _ _ (ju e dH) (k1 _ _ hb e))
  have hH4:=((kd3.tk S1.hd).heldL hH1).mono s4
  have tk5:TK G4 (upd G4 hl (.lst (hs++[.ref t]))):=fun b ys e=>by rw [jx (fun z=>by rw [z,hG4] at e;cases e)];exact e
  refine ⟨hl,hs,_,rfl,rfl,hG4,j8 (by omega),_,hs++[.ref t],rfl,fun b o hb e=>?_,?_,?_,jg,by rw [List.length_append,hsl];rfl,?_⟩
  ·rw [jx (ju e hlH)];exact k4 _ _ hb e
  ·exact S4.keep2 nhds rfl (fun b o _ hb e=>by rw [jx hb];exact e) (by rw [jx nhd.symm];exact S4.hd)
  ·rw [jx nht.symm,show jE++(hd0++[(nm.1,x,y)]).map (fun x:Hd=>x.1)=jE++hd0.map (fun x:Hd=>x.1)++[nm.1] by rw [List.map_append,List.append_assoc];rfl];exact s4 _ _ tG3
  ·rw [List.map_append]
   exact qK (tk5.heldL hH4) (tk5.held (jQ e4 (jh jj (jh kP (jh kP jt)))))
 rintro σ G ⟨u,hs,rfl,kG,S,tG,hG,hsl,hH⟩
 have DG:=S.D
 obtain ⟨h1,-,-,-,h5⟩:=yS w c.2 yo kM (1+c.1).toNat (by omega)
 generalize (jY w c.2 jE (1+c.1).toNat).1=hds at *
 clear S k6 S6 t6 h6 nhds
 have hhl:=hH.length
 rw [List.length_map] at hhl
 refine ⟨_,rfl,hl,_,rfl,.inl (SqL.of hG),_,rfl,by omega,by omega,fun p hp=>?_⟩
 rw [Int.toNat_natCast]
 have npt:p≠tl:=(ju tG hp).symm
 have pH:H p=none:=by
  cases z2:H p with
  | none=>rfl
  | some o=>rw [kG _ _ npt z2] at hp;cases hp
 have pds:=DG.new hp
 have s7:=jr hp (.lst [])
 refine kR (fun i σ' G'=>∃ u us j,σ'=[u,some (.ref a),some (.ref hl)]∧1≤j∧Keep tl H G'∧DealsAt G' a (ds.drop j) (zK hds L2 i).2∧G' hl=some (.lst hs)∧HeldL G' (hds.map hdD) hs∧G' p=some (.lst us)∧us.length=i∧HeldL G' ((zK hds L2 i).1.map Pc.toD) us∧G' tl=some (.lst ((jE++hds.map (·.1)).map V.str))) ⟨none,[],1,rfl,Nat.le_refl _,kG.trans (Keep.same s7),DG.same s7,s7 _ _ hG,hH.mono s7,jg,rfl,jt,s7 _ _ tG⟩ ?_ ?_
 ·rintro i σ' G' hi' ⟨u,us,j,rfl,hj,kG',DG',hG',hH',hGp,hul,hus,htG⟩
  have hi2:i < hds.length:=by rw [hhl];exact hi'
  have eg:hds[i]?=some (hds.getD i ("",0,0)):=by rw [List.getD_eq_getElem?_getD,List.getElem?_eq_getElem hi2];rfl
  have npS:∀ b,b∈a :: ds.drop j→b∈a :: ds.drop 1:=fun b hb=>by
   rcases List.mem_cons.mp hb with rfl | hb
   ·exact List.mem_cons_self ..
   ·rw [show j=1+(j - 1) by omega,← List.drop_drop] at hb
    exact List.mem_cons_of_mem _ (List.mem_of_mem_drop hb)
  unfold qN JB
  refine yl ?_
  refine ⟨_,rfl,_,rfl,_,rfl,a,hl,ds.drop j,_,hs,hds,i,_,by rw [show (0:Int)+((i:Nat):Int)=((i:Nat):Int) by omega];rfl,DG',hG',hH',nha,by omega,h5,eg,fun u2 G2 j2 o2 D2 hu2=>?_⟩
  have hGp2:=o2 _ _ (fun z=>pds (npS _ z)) hGp
  have tk:=o2.tk DG'
  have tk3:TK G2 (upd G2 p (.lst (us++[u2]))):=fun b ys e=>by rw [jx (fun z=>by rw [z,hGp2] at e;cases e)];exact e
  have nph:hl≠p:=(ju hG hp)
  rw [List.drop_drop] at D2
  refine ⟨us,hGp2,j8 (by omega),_,us++[u2],j+j2,rfl,by omega,fun b o hb e=>?_,?_,?_,tk3.heldL (tk.heldL hH'),jg,by rw [List.length_append,hul];rfl,?_,?_⟩
  ·rw [jx (ju e pH)]
   refine o2 _ _ (fun z=>?_) (kG' _ _ hb e)
   rcases List.mem_cons.mp z with z | z
   ·rw [z,ha] at e;cases e
   ·rw [hx _ (List.mem_of_mem_drop z)] at e;cases e
  ·refine D2.put (fun z=>pds ?_)
   rcases List.mem_cons.mp z with z | z
   ·exact z ▸ List.mem_cons_self ..
   ·rw [show j+j2=1+(j+j2 - 1) by omega,← List.drop_drop] at z
    exact List.mem_cons_of_mem _ (List.mem_of_mem_drop z)
  ·rw [jx nph]
   exact o2 _ _ (DG'.out hG' nha fun _ _ e=>by injection e with e;exact Jr hH' 0 _ e) hG'
  ·show HeldL _ (((zK hds L2 i).1++[_]).map Pc.toD) _
   rw [List.map_append]
   exact qK (tk3.heldL (tk.heldL hus)) (tk3.held hu2)
  ·rw [jx npt.symm];exact o2 _ _ (fun z=>ntd (by rcases List.mem_cons.mp z with z | z;exact z ▸ List.mem_cons_self ..;exact List.mem_cons_of_mem _ (List.mem_of_mem_drop z))) htG
 rintro σ' G' ⟨u,us,j,rfl,hj,kG',DG',hG',hH',hGp,hul,hus,htG⟩
 refine ⟨p,us,rfl,.inl ⟨SqL.of hGp,fun t ht=>?_⟩⟩
 have s8:=jr ht (.tup us)
 refine q _ _ (kG'.trans (Keep.same s8)) (s8 _ _ htG) (jQ jg ?_)
 rw [hhl]
 exact hus.mono s8
end
def Bd.ns:Bd→List Str
 | .is x=>[x]
 | .row _=>[]
theorem jdc (xs:List Str):(0:Int) < ((em xs).length:Nat):=by unfold em;rw [List.length_cons];omega
theorem jaT (w:Int) (n:Dl) (xs:List Str):qJ (em xs) (jl w n ((em xs).length:Nat)).1∈em xs:=Ky (jR w n (jdc xs)) (jL w n (jdc xs))
theorem yb (w:Int) (n:Dl) {xs:List Str} (h:0 < xs.length):qJ xs (jl w n (xs.length:Nat)).1∈xs:=Ky (jR w n (by omega)) (jL w n (by omega))
def jdx (xs rs:List Str) (t:Tm):Prop:=(∀ x∈t.ns,x∈em xs)∧∀ r∈t.rws,r∈rs
def K9 (xs rs:List Str) (C:Cl):Prop:=(∀ x∈C.ns,x∈em xs)∧∀ r∈C.rws,r∈rs
theorem zq (w:Int) (n:Dl) (xs:List Str):(qW w n xs).1.1∈em xs:=jaT w n xs
theorem yn (w:Int) (n:Dl) (xs rs:List Str):jdx xs rs (kZ w n xs rs).1:=by
 unfold kZ
 dsimp only
 split
 ·rename_i h
  refine ⟨fun x hx=>?_,fun r hr=>?_⟩
  ·rw [List.mem_singleton.mp hx];exact zq _ _ _
  ·rw [List.mem_singleton.mp hr];exact yb _ _ h.2
 ·refine ⟨fun x hx=>?_,fun r hr=>(nomatch hr)⟩
  rw [List.mem_singleton.mp hx];exact jaT _ _ _
theorem jc0 {xs rs:List Str} {a b:Tm} (c:Int) (ha:jdx xs rs a) (hb:jdx xs rs b):K9 xs rs (.least a b c):=⟨fun x hx=>(List.mem_append.mp hx).elim (ha.1 x) (hb.1 x),fun x hx=>(List.mem_append.mp hx).elim (ha.2 x) (hb.2 x)⟩
theorem jcY (w:Int) (n:Dl) (xs rs:List Str):K9 xs rs (.least (lsA w n xs rs) (lsB w n xs rs) (lsC w n xs rs)):=jc0 _ (yn _ _ _ _) (yn _ _ _ _)
theorem jfH (w:Int) (n:Dl) {xs rs:List Str} (h:0 < rs.length):(∀ x∈(bdN w n xs rs).1.ns,x∈em xs)∧∀ r∈(bdN w n xs rs).1.rws,r∈rs:=by
 unfold bdN
 dsimp only
 split
 ·exact ⟨fun x hx=>(nomatch hx),fun r hr=>by rw [List.mem_singleton.mp hr];exact yb _ _ h⟩
 ·have:=(yn w n xs []).1
  cases ht:(kZ w n xs []).1 with
  | is x=>
   rw [ht] at this
   exact ⟨this,fun r hr=>(nomatch hr)⟩
  | at_ r x d=>
   rw [ht] at this
   exact ⟨this,fun r hr=>(nomatch hr)⟩
theorem Yv (w:Int) (n:Dl) (xs rs:List Str):K9 xs rs (Jb w n xs rs).1:=by
 unfold Jb
 dsimp only
 split
 ·exact jcY _ _ _ _
 rename_i h
 have hp:0 < rs.length:=by omega
 split
 ·refine ⟨fun x hx=>?_,fun r hr=>?_⟩
  ·rcases List.mem_cons.mp hx with rfl | hx
   ·exact zq _ _ _
   ·rw [List.mem_singleton.mp hx];exact zq _ _ _
  ·rw [List.mem_singleton.mp hr];exact yb _ _ hp
 ·have hb:=jfH w (jl w (qW w (qW w (jl w n 4).2 xs).2 xs).2 (rs.length:Nat)).2 (xs:=xs) hp
  refine ⟨fun x hx=>?_,fun r hr=>?_⟩
  ·rcases List.mem_append.mp hx with hx | hx
   ·rcases List.mem_cons.mp hx with rfl | hx
    ·exact zq _ _ _
    ·rw [List.mem_singleton.mp hx];exact zq _ _ _
   ·refine hb.1 x ?_
    cases hc:(bdN w (jl w (qW w (qW w (jl w n 4).2 xs).2 xs).2 (rs.length:Nat)).2 xs rs).1 with
    | is y=>rw [hc] at hx;exact hx
    | row r=>rw [hc] at hx;exact hx
  ·rcases List.mem_cons.mp hr with rfl | hr
   ·exact yb _ _ hp
   ·exact hb.2 r hr
theorem yf (xs rs:List Str) (L:List (Int×Dl)):∀ m,(kC xs rs L m).1.length=m∧∀ C∈(kC xs rs L m).1,K9 xs rs C
 | 0=>⟨rfl,fun _ h=>(nomatch h)⟩
 | m+1=>by
  obtain ⟨h1,h2⟩:=yf xs rs L m
  refine ⟨?_,fun C hC=>?_⟩
  ·show (_++[_]).length=_
   rw [List.length_append,h1];rfl
  ·rcases List.mem_append.mp (show C∈(kC xs rs L m).1++[_] from hC) with hC | hC
   ·exact h2 C hC
   ·rw [List.mem_singleton.mp hC];exact Yv _ _ _ _
theorem ZT (w:Int) {xs:List Str} (h:0 < xs.length) (n:Dl):∀ i,∀ x∈(zh w xs n i).1,x∈xs
 | 0,x,hx=>(nomatch hx)
 | i+1,x,hx=>by
  rcases List.mem_append.mp (show x∈(zh w xs n i).1++[_] from hx) with hx | hx
  ·exact ZT w h n i x hx
  ·rw [List.mem_singleton.mp hx];exact yb _ _ h
theorem KK {α:Type}:∀ (l:List α) (k:Nat) (h:k < l.length),(l[k] :: l.eraseIdx k).Perm l
 | _ :: _,0,_=>List.Perm.refl _
 | x :: l,k+1,h=>(List.Perm.swap x (l[k]'(Nat.lt_of_succ_lt_succ h)) (l.eraseIdx k)).trans ((KK l k (Nat.lt_of_succ_lt_succ h)).cons x)
theorem Kx (w:Int) (rs:List Str) (n:Dl):∀ i,i≤rs.length→((kL w rs n i).1++(kL w rs n i).2.2).Perm rs
 | 0,_=>List.Perm.refl _
 | i+1,h=>by
  obtain ⟨-,h2⟩:=yN w rs n i (by omega)
  have ih:=Kx w rs n i (by omega)
  show ((kL w rs n i).1++[_]++(kL w rs n i).2.2.eraseIdx _).Perm rs
  generalize kL w rs n i=p at *
  have hp:(0:Int) < (p.2.2.length:Nat):=by omega
  have lo:=jR w p.2.1 hp
  have hi:=jL w p.2.1 hp
  generalize (jl w p.2.1 (p.2.2.length:Nat)).1=d at *
  have hd:d.toNat < p.2.2.length:=by omega
  have e:qJ p.2.2 d=p.2.2[d.toNat]:=by unfold qJ;rw [List.getD_eq_getElem?_getD,List.getElem?_eq_getElem hd];rfl
  rw [e,List.append_assoc]
  exact ((KK _ _ hd).append_left p.1).trans ih
structure NdOk (xs fr rs:List Str) (hds:List Hd) (N:Nd):Prop where
 few:N.few
 rw:∀ r∈N.rws,r∈rs
 ns:∀ x∈N.ns,x∈em xs
 tgt:∀ x,N.tgt=some x→x∈fr
 call:∀ x f as q,N=.leaf (.call x f as q)→(f,as.length,q.length)∈hds∧q.Nodup
 nl:N.ns.length≤20
structure Fit (xs fr rs:List Str) (hds:List Hd):Prop where
 f0:0 < fr.length
 fx:∀ x∈fr,x∈xs
 x0:0 < xs.length
 hd:∀ h∈hds,h.2.1≤4∧h.2.2≤3
 nd:rs.Nodup
theorem jdn {xs fr rs:List Str} {hds:List Hd} (F:Fit xs fr rs hds) (w:Int) (n:Dl) {x:Str} (hx:x∈fr):NdOk xs fr rs hds (.leaf (Yx w n x xs rs hds).1):=by
 have hxx:x∈em xs:=List.mem_cons_of_mem _ (F.fx x hx)
 unfold Yx
 dsimp only
 split
 ·exact ⟨trivial,fun r hr=>(nomatch hr),fun y hy=>by
   rcases List.mem_cons.mp hy with rfl | hy
   ·exact hxx
   ·rw [List.mem_singleton.mp hy];exact hxx,fun y e=>by cases e;exact hx,fun _ _ _ _ e=>(nomatch e),by show 2≤20;decide⟩
 rename_i h0
 have hj:(jl w n ((zV rs hds).length:Nat)).1.toNat < (zV rs hds).length:=by
  have lo:=jR w n (m:=((zV rs hds).length:Nat)) (by omega)
  have hi:=jL w n (m:=((zV rs hds).length:Nat)) (by omega)
  omega
 have hm:(zV rs hds).getD (jl w n ((zV rs hds).length:Nat)).1.toNat ("",0,0)∈zV rs hds:=by
  rw [List.getD_eq_getElem?_getD,List.getElem?_eq_getElem hj]
  exact List.getElem_mem hj
 generalize (zV rs hds).getD (jl w n ((zV rs hds).length:Nat)).1.toNat ("",0,0)=h at *
 generalize (jl w n ((zV rs hds).length:Nat)).2=n2 at *
 obtain ⟨hm1,hm2⟩:=List.mem_filter.mp hm
 have hm2:h.2.2≤rs.length:=of_decide_eq_true hm2
 obtain ⟨b1,b2⟩:=F.hd h hm1
 have al:=JL w xs n2 h.2.1
 have ai:=ZT w F.x0 n2 h.2.1
 generalize zh w xs n2 h.2.1=as at *
 obtain ⟨pl,-⟩:=yN w rs as.2 h.2.2 hm2
 have pp:=Kx w rs as.2 h.2.2 hm2
 generalize kL w rs as.2 h.2.2=q at *
 have nd:=pp.nodup_iff.mpr F.nd
 refine ⟨⟨by omega,by omega⟩,fun r hr=>pp.mem_iff.mp (List.mem_append.mpr (.inl hr)),fun y hy=>?_,fun y e=>by cases e;exact hx,fun x' f' as' q' e=>?_,?_⟩
 ·rcases List.mem_cons.mp hy with rfl | hy
  ·exact hxx
  ·exact List.mem_cons_of_mem _ (ai y hy)
 ·cases e
  rw [al,pl]
  exact ⟨hm1,(List.nodup_append.mp nd).1⟩
 ·show (as.1.length+1)≤20
  omega
def KW {lv:Nat} (S:StN (lv+1)):List Nd:=JC S :: (kQ S).flatMap (ku lv)
def Y7 (xs fr rs:List Str) (hds:List Hd) (l:List Nd) (a b:Nat):Prop:=(∀ N∈l,NdOk xs fr rs hds N)∧l.length+a≤b
theorem zU {xs fr rs:List Str} {hds:List Hd} {lv:Nat} {S:Sm} {a:Nat} (h:NdOk xs fr rs hds (.leaf S)):Y7 xs fr rs hds (KW (lv:=lv) (Fo.leaf S)) a (a+1):=⟨fun N hN=>by rw [List.mem_singleton.mp hN];exact h,by show 1+a≤a+1;omega⟩
section
variable {xs fr rs:List Str} {hds:List Hd}
theorem je9 (F:Fit xs fr rs hds) {x:Str} {t:Tm} (c:Int) (hx:x∈fr) (ht:jdx xs rs t):NdOk xs fr rs hds (.leaf (.set x t c)):=⟨trivial,ht.2,fun y hy=>by
 rcases List.mem_append.mp hy with hy | hy
 ·rw [List.mem_singleton.mp hy];exact List.mem_cons_of_mem _ (F.fx x hx)
 ·exact ht.1 y hy,fun y e=>by cases e;exact hx,fun _ _ _ _ e=>(nomatch e),Nat.le_trans (Sm.ns_len (S:=.set x t c) trivial) (by decide)⟩
theorem put_ok {r x:Str} {d:Int} {t:Tm} (c:Int) (hr:r∈rs) (hx:x∈em xs) (ht:jdx xs rs t):NdOk xs fr rs hds (.leaf (.put r x d t c)):=⟨trivial,fun y hy=>by
 rcases List.mem_append.mp hy with hy | hy
 ·rw [List.mem_singleton.mp hy];exact hr
 ·exact ht.2 y hy,fun y hy=>by
 rcases List.mem_append.mp hy with hy | hy
 ·rw [List.mem_singleton.mp hy];exact hx
 ·exact ht.1 y hy,fun y e=>(nomatch e),fun _ _ _ _ e=>(nomatch e),Nat.le_trans (Sm.ns_len (S:=.put r x d t c) trivial) (by decide)⟩
theorem jfI (F:Fit xs fr rs hds) {x:Str} (hx:x∈fr):NdOk xs fr rs hds (.leaf (.any x)):=⟨trivial,fun _ h=>(nomatch h),fun y hy=>by rw [List.mem_singleton.mp hy];exact List.mem_cons_of_mem _ (F.fx x hx),fun y e=>by cases e;exact hx,fun _ _ _ _ e=>(nomatch e),by show 1≤20;decide⟩
theorem jdj {C:Cl} (h:K9 xs rs C):NdOk xs fr rs hds (.leaf (.claim C)):=⟨trivial,h.2,h.1,fun _ e=>(nomatch e),fun _ _ _ _ e=>(nomatch e),Nat.le_trans C.ns_len (by decide)⟩
theorem jfB {a b:Tm} {c:Int} {x y:List D} (h:K9 xs rs (.least a b c)):NdOk xs fr rs hds (.ite a b c x y):=⟨trivial,h.2,h.1,fun _ e=>(nomatch e),fun _ _ _ _ e=>(nomatch e),Nat.le_trans (Cl.least a b c).ns_len (by decide)⟩
theorem ZI {α:Type} (f:α→List Str) (k:Nat):∀ l:List α,(∀ a∈l,(f a).length≤k)→(l.flatMap f).length≤l.length * k
 | [],_=>Nat.zero_le _
 | a :: l,h=>by
  have h1:=ZI f k l (fun b hb=>h b (List.mem_cons_of_mem _ hb))
  have h2:=h a (List.mem_cons_self ..)
  rw [List.flatMap_cons,List.length_append,List.length_cons,Nat.succ_mul]
  omega
theorem je5 {a b:Tm} {c:Int} {ks:List Cl} {x:List D} (h:K9 xs rs (.least a b c)) (hk:∀ C∈ks,K9 xs rs C) (h6:ks.length≤6):NdOk xs fr rs hds (.whl a b c ks x):=by
 refine ⟨Nat.le_trans h6 (by decide),fun r hr=>?_,fun y hy=>?_,fun _ e=>(nomatch e),fun _ _ _ _ e=>(nomatch e),?_⟩
 ·obtain ⟨C,hC,hr⟩:=List.mem_flatMap.mp hr
  rcases List.mem_cons.mp hC with rfl | hC
  ·exact h.2 r hr
  ·exact (hk C hC).2 r hr
 ·obtain ⟨C,hC,hy⟩:=List.mem_flatMap.mp hy
  rcases List.mem_cons.mp hC with rfl | hC
  ·exact h.1 y hy
  ·exact (hk C hC).1 y hy
 ·show ((Cl.least a b c).ns++ks.flatMap Cl.ns).length≤20
  have h1:=ZI Cl.ns 3 ks (fun C _=>C.ns_len)
  have h2:(Cl.least a b c).ns.length=2:=by cases a <;> cases b <;> rfl
  rw [List.length_append]
  omega
theorem jc8 (F:Fit xs fr rs hds) {lv:Nat} {bf:Pr2→List (StN lv)×Pr2} (hb:∀ S,Y7 xs fr rs hds (ku lv (bf S).1) (bf S).2.2 S.2) (L:List (Int×Dl)) (left:Nat) (w:Int) (n:Dl) (f:Int) {x:Str} (hx:x∈fr):Y7 xs fr rs hds (KW (KI lv bf xs rs hds L left w n f x).1) (KI lv bf xs rs hds L left w n f x).2.2 (left+1):=by
 unfold KI
 split
 ·rename_i h
  exact zU (put_ok _ (yb _ _ h.2) (zq _ _ _) (yn _ _ _ _))
 split
 ·exact zU (jfI F hx)
 split
 ·exact zU (jdj (Yv _ _ _ _))
 split
 ·obtain ⟨b1,b2⟩:=hb (L,left)
  obtain ⟨c1,c2⟩:=hb (bf (L,left)).2
  refine ⟨fun N hN=>?_,?_⟩
  ·rcases List.mem_cons.mp hN with rfl | hN
   ·exact jfB (jcY _ _ _ _)
   ·obtain ⟨l,hl,hN⟩:=List.mem_flatMap.mp hN
    rcases List.mem_cons.mp hl with rfl | hl
    ·exact b1 N hN
    ·rw [List.mem_singleton.mp hl] at hN;exact c1 N hN
  ·show ((ku lv (bf (L,left)).1++(ku lv (bf (bf (L,left)).2).1++[])).length+1)+(bf (bf (L,left)).2).2.2≤left+1
   rw [List.append_nil,List.length_append]
   dsimp only at b2 c2
   omega
 split
 ·have hm:(jl w (jl w (zj w n xs rs).2 4).2 (if (jl w (zj w n xs rs).2 4).1 / 3=0 then 3 else 7)).1.toNat≤6:=by
   have key:∀ mm:Int,0 < mm→mm≤7→(jl w (jl w (zj w n xs rs).2 4).2 mm).1.toNat≤6:=fun mm h1 h2=>by
    have:=jL w (jl w (zj w n xs rs).2 4).2 h1
    omega
   exact key _ (by split <;> decide) (by split <;> decide)
  dsimp only
  generalize (jl w (jl w (zj w n xs rs).2 4).2 (if (jl w (zj w n xs rs).2 4).1 / 3=0 then 3 else 7)).1.toNat=m at *
  obtain ⟨k1,k2⟩:=yf xs rs L m
  obtain ⟨b1,b2⟩:=hb ((kC xs rs L m).2,left)
  refine ⟨fun N hN=>?_,?_⟩
  ·rcases List.mem_cons.mp hN with rfl | hN
   ·exact je5 (jcY _ _ _ _) k2 (by omega)
   ·obtain ⟨l,hl,hN⟩:=List.mem_flatMap.mp hN
    rw [List.mem_singleton.mp hl] at hN;exact b1 N hN
  ·show ((ku lv (bf ((kC xs rs L m).2,left)).1++[]).length+1)+(bf ((kC xs rs L m).2,left)).2.2≤left+1
   rw [List.append_nil]
   dsimp only at b2
   omega
 split
 ·exact zU (jdn F _ _ hx)
 ·exact zU (je9 F _ hx (yn _ _ _ _))
theorem jb9 (F:Fit xs fr rs hds) {lv:Nat} {bf:Pr2→List (StN lv)×Pr2} (hb:∀ S,Y7 xs fr rs hds (ku lv (bf S).1) (bf S).2.2 S.2) (L:List (Int×Dl)) {left:Nat} (h:0 < left):Y7 xs fr rs hds (KW (qa lv bf xs fr rs hds L left).1) (qa lv bf xs fr rs hds L left).2.2 left:=by
 have:=jc8 F hb (qb L).2 (left - 1) (qb L).1.1 (jl (qb L).1.1 (jl (qb L).1.1 (qb L).1.2 8).2 (fr.length:Nat)).2 (jl (qb L).1.1 (qb L).1.2 8).1 (yb (qb L).1.1 (jl (qb L).1.1 (qb L).1.2 8).2 F.f0)
 rw [Nat.sub_add_cancel h] at this
 exact this
theorem ZB {lv:Nat} {f:List (Int×Dl)→Nat→StN (lv+1)×Pr2} (hf:∀ L left,0 < left→Y7 xs fr rs hds (KW (f L left).1) (f L left).2.2 left) (L:List (Int×Dl)) (left:Nat):∀ k,Y7 xs fr rs hds (ku (lv+1) (ky f L left k).1) (ky f L left k).2.2 left
 | 0=>⟨fun _ h=>(nomatch h),by show 0+left≤left;omega⟩
 | k+1=>by
  obtain ⟨h1,h2⟩:=ZB hf L left k
  have es:ky f L left (k+1)=if 0 < (ky f L left k).2.1.length∧0 < (ky f L left k).2.2 then ((ky f L left k).1++[(f (ky f L left k).2.1 (ky f L left k).2.2).1],(f (ky f L left k).2.1 (ky f L left k).2.2).2) else ky f L left k:=rfl
  rw [es]
  split
  ·rename_i c
   obtain ⟨g1,g2⟩:=hf (ky f L left k).2.1 (ky f L left k).2.2 c.2
   dsimp only
   have e:ku (lv+1) ((ky f L left k).1++[(f (ky f L left k).2.1 (ky f L left k).2.2).1])=ku (lv+1) (ky f L left k).1++KW (f (ky f L left k).2.1 (ky f L left k).2.2).1:=by
    rw [KY,zX]
    exact congrArg _ (List.append_nil _)
   rw [e]
   refine ⟨fun N hN=>(List.mem_append.mp hN).elim (h1 N) (g1 N),?_⟩
   rw [List.length_append]
   omega
  ·exact ⟨h1,h2⟩
theorem ZS (F:Fit xs fr rs hds):∀ (lv:Nat) (S:Pr2),Y7 xs fr rs hds (ku lv (kF xs fr rs hds lv S).1) (kF xs fr rs hds lv S).2.2 S.2
 | 0,S=>⟨fun _ h=>(nomatch h),by show 0+S.2≤S.2;omega⟩
 | lv+1,S=>ZB (fun L left h=>jb9 F (ZS F lv) L h) _ _ _
end
structure PGood (hds:List Hd) (p:Pc):Prop where
 sh:PcSh 4 p
 hd:yD p=none
 pr:zB p
 st:∀ T:Tks,(∀ h∈hds,T.find? (fun t=>t.1 == h.1)=some h)→∀ N∈ku p.lv p.bd,stR N p T=none
theorem JS {z:Str} (h:NmW z):z≠Str.ofString "":=fun e=>by
 obtain ⟨i,r,rfl,-,-⟩:=h
 have:=jaw (show wdS _=wdS [] from e)
 cases this
theorem j6 {z:Str} (h:NmW z):z.length≤100:=by
 obtain ⟨i,r,rfl,-,h⟩:=h
 rw [zD,List.length_cons]
 omega
theorem JF:Str.ofString "out"∈jE:=by decide +kernel
theorem JV {f:Nd→Option Rf}:∀ {l:List Nd},(∀ N∈l,f N=none)→yd f l=none
 | [],_=>rfl
 | N :: l,h=>by
  rw [yG,h N (List.mem_cons_self ..)]
  exact JV (fun M hM=>h M (List.mem_cons_of_mem _ hM))
theorem PGood.proc {hds:List Hd} {p:Pc} (h:PGood hds p) {T:Tks} (hT:∀ h∈hds,T.find? (fun t=>t.1 == h.1)=some h):Jo T p=none:=by
 unfold Jo
 rw [h.hd]
 dsimp only
 rw [if_pos h.pr]
 exact JV (h.st T hT)
theorem jf4 {hds:List Hd} {f:Str} {ps rs fs:List Str} {nd gv:List Cl} {bd:List (StN 4)} (hf:f.length≤100) (hh:∀ h∈hds,h.1.length≤100) (hps:∀ z∈ps,NmW z∧z ∉ jE) (hrs:∀ z∈rs,NmW z∧z ∉ jE) (hfs:∀ z∈fs,NmW z∧z ∉ jE) (nps:ps.Nodup) (nrs:rs.Nodup) (d1:∀ z∈rs,z ∉ ps) (d2:∀ z∈fs,z ∉ ps∧z ∉ rs) (lp:ps.length≤4) (lr:rs.length≤3) (ln:nd.length≤4) (lg:gv.length≤4) (hn:∀ C∈nd,K9 ps rs C) (hg:∀ C∈gv,K9 (ps++[Str.ofString "out"]) rs C) (hb:Y7 (ps++Str.ofString "out" :: fs) (Str.ofString "out" :: fs) rs hds (ku 4 bd) 0 30):PGood hds ⟨f,ps,rs,nd,gv,4,bd⟩:=by
 obtain ⟨b1,b2⟩:=hb
 have b2:(ku 4 bd).length≤30:=b2
 have or_:Str.ofString "out" ∉ rs:=fun z=>(hrs _ z).2 JF
 have op:Str.ofString "out" ∉ ps:=fun z=>(hps _ z).2 JF
 have e0:Str.ofString "" ∉ rs:=fun z=>JS (hrs _ z).1 rfl
 have nr:∀ x∈em (ps++Str.ofString "out" :: fs),x ∉ rs:=fun x hx z=>by
  rcases List.mem_cons.mp hx with rfl | hx
  ·exact e0 z
  rcases List.mem_append.mp hx with hx | hx
  ·exact d1 x z hx
  rcases List.mem_cons.mp hx with rfl | hx
  ·exact or_ z
  ·exact (d2 x hx).2 z
 have so:(Str.ofString "out").length≤100:=by decide +kernel
 have se:(Str.ofString "").length≤100:=by decide +kernel
 have ss:∀ x∈em (ps++Str.ofString "out" :: fs),x.length≤100:=fun x hx=>by
  rcases List.mem_cons.mp hx with rfl | hx
  ·exact se
  rcases List.mem_append.mp hx with hx | hx
  ·exact j6 (hps x hx).1
  rcases List.mem_cons.mp hx with rfl | hx
  ·exact so
  ·exact j6 (hfs x hx).1
 have pn:∀ x∈em ps,x∈em (ps++Str.ofString "out" :: fs):=fun x hx=>by
  rcases List.mem_cons.mp hx with rfl | hx
  ·exact List.mem_cons_self ..
  ·exact List.mem_cons_of_mem _ (List.mem_append.mpr (.inl hx))
 have pg:∀ x∈em (ps++[Str.ofString "out"]),x∈em (ps++Str.ofString "out" :: fs):=fun x hx=>by
  rcases List.mem_cons.mp hx with rfl | hx
  ·exact List.mem_cons_self ..
  rcases List.mem_append.mp hx with hx | hx
  ·exact List.mem_cons_of_mem _ (List.mem_append.mpr (.inl hx))
  ·rw [List.mem_singleton.mp hx]
   exact List.mem_cons_of_mem _ (List.mem_append.mpr (.inr (List.mem_cons_self ..)))
 have rw_:∀ C∈nd++gv,∀ r∈C.rws,r∈rs:=fun C hC r hr=>(List.mem_append.mp hC).elim (fun h=>(hn C h).2 r hr) (fun h=>(hg C h).2 r hr)
 have hhd:yD ⟨f,ps,rs,nd,gv,4,bd⟩=none:=if_pos ⟨List.nodup_append.mpr ⟨nps,nrs,fun x hx y hy e=>d1 y hy (e ▸ hx)⟩,fun z=>(List.mem_append.mp z).elim op or_⟩
 refine ⟨⟨rfl,⟨by show nd.length≤20;omega,by show gv.length≤20;omega,hf,fun C hC=>⟨fun r hr=>j6 (hrs r (rw_ C hC r hr)).1,fun x hx=>?_⟩⟩,by show (ps++rs).length≤100;rw [List.length_append];omega,by show (ku 4 bd).length≤100;omega,fun N hN=>⟨(b1 N hN).few,fun r hr=>j6 (hrs r ((b1 N hN).rw r hr)).1,fun x hx=>ss x ((b1 N hN).ns x hx),fun x hx=>?_,hf,fun x g as q e=>hh _ ((b1 N hN).call x g as q e).1⟩⟩,hhd,⟨rw_,fun x hx=>?_,fun x hx=>?_⟩,fun T hT N hN=>?_⟩
 ·rcases List.mem_append.mp hC with hC | hC
  ·exact ss x (pn x ((hn C hC).1 x hx))
  ·exact ss x (pg x ((hg C hC).1 x hx))
 ·rcases List.mem_cons.mp ((b1 N hN).tgt x hx) with rfl | h
  ·exact so
  ·exact j6 (hfs x h).1
 ·obtain ⟨C,hC,hx⟩:=List.mem_flatMap.mp hx
  exact List.mem_cons.mp ((hn C hC).1 x hx)
 ·obtain ⟨C,hC,hx⟩:=List.mem_flatMap.mp hx
  rcases List.mem_cons.mp ((hg C hC).1 x hx) with h | h
  ·exact .inl h
  rcases List.mem_append.mp h with h | h
  ·exact .inr (.inr h)
  ·exact .inr (.inl (List.mem_singleton.mp h))
 ·obtain ⟨n1,n2,n3,n4,n5,-⟩:=b1 N hN
  unfold stR
  rw [if_pos n2,if_neg (fun h=>by obtain ⟨x,h1,h2⟩:=h;exact nr x (n3 x h1) h2),if_neg]
  ·cases N with
   | leaf S=>
    cases S with
    | call x g as q=>
     obtain ⟨c1,c2⟩:=n5 x g as q rfl
     show KR T g as q=none
     unfold KR
     rw [hT _ c1]
     dsimp only
     rw [if_pos c2,if_pos rfl]
    | _=>rfl
   | _=>rfl
  ·intro h
   cases e:N.tgt with
   | none=>rw [e] at h;cases h
   | some x=>
    rw [e] at h
    have hx:x∈ps:=of_decide_eq_true h
    rcases List.mem_cons.mp (n4 x e) with rfl | h2
    ·exact op hx
    ·exact (d2 x h2).1 hx
theorem jcW (e:Int):0 < yj e∧yj e≤5:=by unfold yj;split <;> exact ⟨by decide,by decide⟩
theorem jcX (e:Int):0 < yA e∧yA e≤4:=by unfold yA;split <;> exact ⟨by decide,by decide⟩
theorem Z6 {hds:List Hd} (hh:∀ h∈hds,h.2.1≤4∧h.2.2≤3) (hN:∀ h∈hds,NmW h.1) {h:Hd} (hm:h∈hds) (L:List (Int×Dl)):PGood hds (Kw hds h L).1∧(Kw hds h L).1.tk=h:=by
 unfold Kw
 dsimp only
 generalize qb L=y
 obtain ⟨⟨w,n⟩,L2⟩:=y
 dsimp only
 obtain ⟨m1,m2⟩:=hh h hm
 have t16:jE.length=16:=rfl
 obtain ⟨p1,p2,p3,p4⟩:=kI w n yo kM h.2.1 (by omega)
 generalize j9 w n jE h.2.1=ps at *
 have tk1:∀ z∈jE++ps.1,NmW z:=fun z hz=>(List.mem_append.mp hz).elim (kM z) (p2 z)
 have tn1:jE++ps.1≠[]:=fun z=>by cases z
 have tl1:(jE++ps.1).length=16+h.2.1:=by rw [List.length_append,p1];rfl
 obtain ⟨r1,r2,r3,r4⟩:=kI w ps.2 tn1 tk1 h.2.2 (by omega)
 generalize j9 w ps.2 (jE++ps.1) h.2.2=rs at *
 have tk2:∀ z∈jE++ps.1++rs.1,NmW z:=fun z hz=>(List.mem_append.mp hz).elim (tk1 z) (r2 z)
 have tn2:jE++ps.1++rs.1≠[]:=fun z=>by cases z
 have tl2:(jE++ps.1++rs.1).length=16+h.2.1+h.2.2:=by rw [List.length_append,tl1,r1]
 have lo:=jR w rs.2 (m:=4) (by decide)
 have hi:=jL w rs.2 (m:=4) (by decide)
 generalize jl w rs.2 4=e at *
 obtain ⟨f1,f2,f3,f4⟩:=kI w e.2 tn2 tk2 e.1.toNat (by omega)
 generalize j9 w e.2 (jE++ps.1++rs.1) e.1.toNat=fs at *
 generalize jl w fs.2 4=mo at *
 obtain ⟨mp1,mp2⟩:=jcW mo.1
 generalize yj mo.1=most at *
 have hi1:=jL w mo.2 mp1
 have hi2:=jL w (jl w mo.2 most).2 mp1
 generalize jl w (jl w mo.2 most).2 most=b at *
 generalize jl w mo.2 most=a at *
 obtain ⟨n1,n2⟩:=yf ps.1 rs.1 L2 a.1.toNat
 generalize kC ps.1 rs.1 L2 a.1.toNat=nd at *
 obtain ⟨g1,g2⟩:=yf (ps.1++[Str.ofString "out"]) rs.1 nd.2 b.1.toNat
 generalize kC (ps.1++[Str.ofString "out"]) rs.1 nd.2 b.1.toNat=gv at *
 have F:Fit (ps.1++Str.ofString "out" :: fs.1) (Str.ofString "out" :: fs.1) rs.1 hds:=⟨by rw [List.length_cons];omega,fun x hx=>List.mem_append.mpr (.inr hx),by rw [List.length_append,List.length_cons];omega,hh,r4⟩
 obtain ⟨b1,b2⟩:=ZS F 4 (gv.2,30)
 refine ⟨jf4 (fs:=fs.1) (j6 (hN h hm)) (fun h hh=>j6 (hN h hh)) (fun z hz=>⟨p2 z hz,p3 z hz⟩) (fun z hz=>⟨r2 z hz,fun q=>r3 z hz (List.mem_append.mpr (.inl q))⟩) (fun z hz=>⟨f2 z hz,fun q=>f3 z hz (List.mem_append.mpr (.inl (List.mem_append.mpr (.inl q))))⟩) p4 r4 (fun z hz q=>r3 z hz (List.mem_append.mpr (.inr q))) (fun z hz=>⟨fun q=>f3 z hz (List.mem_append.mpr (.inl (List.mem_append.mpr (.inr q)))),fun q=>f3 z hz (List.mem_append.mpr (.inr q))⟩) (by omega) (by omega) (by omega) (by omega) n2 g2 ⟨b1,by dsimp only at b2;omega⟩,?_⟩
 show (h.1,ps.1.length,rs.1.length)=h
 rw [p1,r1]
theorem JQ {hds:List Hd} (hh:∀ h∈hds,h.2.1≤4∧h.2.2≤3) (hN:∀ h∈hds,NmW h.1) (L:List (Int×Dl)):∀ i,i≤hds.length→(zK hds L i).1.map Pc.tk=hds.take i∧∀ p∈(zK hds L i).1,PGood hds p
 | 0,_=>⟨rfl,fun _ h=>(nomatch h)⟩
 | i+1,hi=>by
  obtain ⟨h1,h2⟩:=JQ hh hN L i (by omega)
  have hi':i < hds.length:=hi
  have e:hds.getD i ("",0,0)=hds[i]:=by rw [List.getD_eq_getElem?_getD,List.getElem?_eq_getElem hi'];rfl
  obtain ⟨k1,k2⟩:=Z6 hh hN (h:=hds.getD i ("",0,0)) (by rw [e];exact List.getElem_mem hi') (zK hds L i).2
  show ((zK hds L i).1++[_]).map Pc.tk=_∧∀ p∈(zK hds L i).1++[_],PGood hds p
  refine ⟨?_,fun p hp=>?_⟩
  ·rw [List.map_append,h1,List.take_succ,List.getElem?_eq_getElem hi',← e]
   exact congrArg _ (congrArg (fun x=>[x]) k2)
  ·rcases List.mem_append.mp hp with hp | hp
   ·exact h2 p hp
   ·rw [List.mem_singleton.mp hp];exact k1
theorem ZE (ns:List Int) (m:Nat):0 < (qd ns m).length∧(qd ns m).length≤4∧((qd ns m).map (·.1)).Nodup∧(∀ h∈qd ns m,h.2.1≤4∧h.2.2≤3)∧(∀ z∈(qd ns m).map (·.1),NmW z)∧∀ z∈(qd ns m).map (·.1),z ∉ jE:=by
 unfold qd
 dsimp only
 generalize qb (zM ns m)=y
 obtain ⟨mp1,mp2⟩:=jcX (jl y.1.1 y.1.2 4).1
 generalize yA (jl y.1.1 y.1.2 4).1=most at *
 have lo:=jR y.1.1 (jl y.1.1 y.1.2 4).2 mp1
 have hi:=jL y.1.1 (jl y.1.1 y.1.2 4).2 mp1
 generalize jl y.1.1 (jl y.1.1 y.1.2 4).2 most=c at *
 have t16:jE.length=16:=rfl
 obtain ⟨h1,h2,h3,h4,h5⟩:=yS y.1.1 c.2 yo kM (1+c.1).toNat (by omega)
 exact ⟨by omega,by omega,h4,h5,h2,h3⟩
theorem yU:∀ {hds:List Hd} {h:Hd},(hds.map (·.1)).Nodup→h∈hds→hds.find? (fun t=>t.1 == h.1)=some h
 | [],_,_,h=>(nomatch h)
 | x :: hds,h,nd,hm=>by
  obtain ⟨n1,n2⟩:=List.nodup_cons.mp nd
  rcases List.mem_cons.mp hm with rfl | hm
  ·rw [List.find?_cons_of_pos (by simp)]
  ·rw [List.find?_cons_of_neg (fun z=>n1 (List.mem_map.mpr ⟨h,hm,(show x.1=h.1 by simpa using z).symm⟩))]
   exact yU n2 hm
theorem jcn (ns:List Int) (m:Nat):(Zs ns m).map Pc.tk=qd ns m∧∀ p∈Zs ns m,PGood (qd ns m) p:=by
 obtain ⟨-,-,h2,h3,h4,-⟩:=ZE ns m
 obtain ⟨k1,k2⟩:=JQ h3 (fun h hh=>h4 _ (List.mem_map.mpr ⟨h,hh,rfl⟩)) (qb (zM ns m)).2 (qd ns m).length (Nat.le_refl _)
 rw [List.take_length] at k1
 exact ⟨k1,k2⟩
abbrev zm:Stmt:=top 43
def JH (x a b r s f st:Str):List Nd:=
 [.leaf (.put x "" 0 (.is "") 0),
   .leaf (.set x (.at_ x "" 0) 0),
   .leaf (.claim (.rise "" 0 "" 0 x)),
   .leaf (.claim (.each "" 0 "" 0 r ">=" (.row x) 0)),
   .leaf (.set r (.is "") 0),
   .leaf (.any s),
   .leaf (.set x (.is r) 0),
   .leaf (.put r s 0 (.is "") 0),
   .leaf (.claim (.least (.is r) (.is "") 0)),
   .leaf (.call x st [] []),
   .leaf (.call x f [a,b] [r,r]),
   .leaf (.call x f [a,r] [r,s]),
   .leaf (.call r f [a,b] [r,s]),
   .leaf (.call x f [a,b] [r,x]),
   .ite (.at_ x "" 0) (.is "") 0 [] [],
   .leaf (.set x (.at_ r s 0) 0),
   .leaf (.claim (.each r 0 "" 0 s ">=" (.is "") 0)),
   .leaf (.claim (.each "" 0 "" 0 r ">=" (.is s) 0)),
   .whl (.at_ x "" 0) (.is "") 0 [] [],
   .whl (.is "") (.is "") 1 [(.rise "" 0 r 1 r)] [],
   .whl (.is "") (.is "") 1 [(.each "" 0 "" 0 x ">=" (.is "") 0)] [],
   .whl (.is "") (.is "") 1 [(.least (.at_ x "" 0) (.is "") 0)] []]
theorem Jv {H:Hp} {Q:VK} {a b:Addr} {us vs:List V} {ds es:List D} (ha:H a=some (.lst us)) (hb:H b=some (.lst vs)) (hd:HeldL H ds us) (he:HeldL H es vs) (hz:ds.length+es.length≤1000) (q:∀ l H',Same H H'→H l=none→∀ ws,H' l=some (.lst ws)→HeldL H' (ds++es) ws→Q (.ref l) H'):jfd (.ref a) (.ref b) H Q:=⟨a,b,us,vs,rfl,rfl,ha,hb,kc (by rw [← hd.length,← he.length];exact hz),fun l hl=>q l _ (jG hl _) hl _ jg ((qi hd he).mono (jG hl _))⟩
def Zh:Sp:=fun vs H Q _=>∃ (x a b r s f st:Str),vs=[.str x,.str a,.str b,.str r,.str s,.str f,.str st]∧∀ l us H',Same H H'→H' l=some (.lst us)→HeldL H' ((JH x a b r s f st).map Nd.toD) us→Q (.ref l) H'
section
variable {P:Program} {w:World} {K:W.Frag} {mg:Str→Option Value} {base:Heap}
theorem jbp {f:Addr} {fd:FuncData} (F:Fun K "_law_names_wrong" "_law_names_wrong" zm f fd):FnOk P w K mg base CX0 1 f fd ["_law_x","_law_a","_law_b","_law_r","_law_s","_law_f","_law_strange"] Zh:=by
 have sc:FnScope ["_law_x","_law_a","_law_b","_law_r","_law_s","_law_f","_law_strange","_law_nought","_law_at","_law_some"] ["_law_x","_law_a","_law_b","_law_r","_law_s","_law_f","_law_strange"] (jw zm):=fQ
 refine F.okZ sc (fun vs H Q E h=>?_) (fun cdv A outer s H vs Q E hr h=>?_)
 ·obtain ⟨x,a,b,r,s,f,st,rfl,_⟩:=h
  rfl
 obtain ⟨x,a,b,r,s,g,st,rfl,q⟩:=h
 refine ⟨_,(je (js (i:=7) sc.nd rfl oQ (zpd (jp (ja jF (ja jF jm)))))
   (je (js (i:=8) sc.nd rfl oQ (zpd (jp (ja jF (ja kg jm)))))
   (je (js (i:=9) sc.nd rfl oQ (jM (jb (zpd (jp (ja jF (ja (jo 0) (ja (jo 8) (ja (jo 7) (ja kg jm))))))) (jb (zpd (jp (ja jF (ja (jo 0) (ja (jp (ja jF (ja (jo 0) (ja (jo 8) jm)))) (ja kg jm)))))) (jb (zpd (jp (ja jF (ja (jp (ja jF (ja (jo 8) (ja (jo 8) (ja (jo 0) jm))))) jm)))) jd)))))
   (je (js (i:=9) sc.nd rfl oQ (jD kB (zpv 9) (jM (jb (zpd (jp (ja jF (ja (jp (ja jF (ja (jo 8) (ja (jo 8) (ja (jo 3) (ja jF (ja (jp (ja jF (ja (jo 0) jm))) (ja kg jm)))))))) jm)))) (jb (zpd (jp (ja jF (ja (jo 3) (ja (jo 7) (ja kg jm)))))) (jb (zpd (jp (ja jF (ja (jo 4) jm)))) jd))))))
   (je (js (i:=9) sc.nd rfl oQ (jD kB (zpv 9) (jM (jb (zpd (jp (ja jF (ja (jo 0) (ja (jp (ja jF (ja (jo 3) jm))) (ja kg jm)))))) (jb (zpd (jp (ja jF (ja (jo 3) (ja (jp (ja (jo 4) (ja kg jm))) (ja (jo 7) (ja kg jm))))))) jd)))))
   (je (js (i:=9) sc.nd rfl oQ (jD kB (zpv 9) (jM (jb (zpd (jp (ja jF (ja (jp (ja jF (ja (jp (ja jF (ja (jo 3) jm))) (ja (jo 7) (ja kg jm))))) jm)))) (jb (zpd (jp (ja jF (ja (jo 0) (ja (jo 6) (ja (jp jm) (ja (jp jm) jm))))))) jd)))))
   (je (js (i:=9) sc.nd rfl oQ (jD kB (zpv 9) (jM (jb (zpd (jp (ja jF (ja (jo 0) (ja (jo 5) (ja (jp (ja (jo 1) (ja (jo 2) jm))) (ja (jp (ja (jo 3) (ja (jo 3) jm))) jm))))))) (jb (zpd (jp (ja jF (ja (jo 0) (ja (jo 5) (ja (jp (ja (jo 1) (ja (jo 3) jm))) (ja (jp (ja (jo 3) (ja (jo 4) jm))) jm))))))) jd)))))
   (je (js (i:=9) sc.nd rfl oQ (jD kB (zpv 9) (jM (jb (zpd (jp (ja jF (ja (jo 3) (ja (jo 5) (ja (jp (ja (jo 1) (ja (jo 2) jm))) (ja (jp (ja (jo 3) (ja (jo 4) jm))) jm))))))) (jb (zpd (jp (ja jF (ja (jo 0) (ja (jo 5) (ja (jp (ja (jo 1) (ja (jo 2) jm))) (ja (jp (ja (jo 3) (ja (jo 0) jm))) jm))))))) jd)))))
   (je (js (i:=9) sc.nd rfl oQ (jD kB (zpv 9) (jM (jb (zpd (jp (ja jF (ja (jp (ja jF (ja (jp (ja jF (ja (jo 0) (ja (jo 8) jm)))) (ja (jo 7) (ja kg jm))))) (ja (jp jm) (ja (jp jm) jm)))))) (jb (zpd (jp (ja jF (ja (jo 0) (ja (jp (ja jF (ja (jo 3) (ja (jp (ja (jo 4) (ja kg jm))) jm)))) (ja kg jm)))))) jd)))))
   (je (js (i:=9) sc.nd rfl oQ (jD kB (zpv 9) (jM (jb (zpd (jp (ja jF (ja (jp (ja jF (ja (jp (ja (jo 3) (ja kg jm))) (ja (jo 8) (ja (jo 4) (ja jF (ja (jo 7) (ja kg jm)))))))) jm)))) jd))))
   (je (js (i:=9) sc.nd rfl oQ (jD kB (zpv 9) (jM (jb (zpd (jp (ja jF (ja (jp (ja jF (ja (jo 8) (ja (jo 8) (ja (jo 3) (ja jF (ja (jp (ja jF (ja (jo 4) jm))) (ja kg jm)))))))) jm)))) jd))))
   (je (js (i:=9) sc.nd rfl oQ (jD kB (zpv 9) (jM (jb (zpd (jp (ja jF (ja (jp (ja jF (ja (jp (ja jF (ja (jo 0) (ja (jo 8) jm)))) (ja (jo 7) (ja kg jm))))) (ja (jp jm) (ja (jp jm) jm)))))) jd))))
   (je (js (i:=9) sc.nd rfl oQ (jD kB (zpv 9) (jM (jb (zpd (jp (ja jF (ja (jp (ja jF (ja (jo 7) (ja (jo 7) (ja kg jm))))) (ja (jp (ja (jp (ja jF (ja (jo 8) (ja (jp (ja (jo 3) (ja kg jm))) (ja (jo 3) jm))))) jm)) (ja (jp jm) jm)))))) jd))))
   (je (js (i:=9) sc.nd rfl oQ (jD kB (zpv 9) (jM (jb (zpd (jp (ja jF (ja (jp (ja jF (ja (jo 7) (ja (jo 7) (ja kg jm))))) (ja (jp (ja (jp (ja jF (ja (jo 8) (ja (jo 8) (ja (jo 0) (ja jF (ja (jo 7) (ja kg jm)))))))) jm)) (ja (jp jm) jm)))))) jd))))
   (jn (jB (jD kB (zpv 9) (jM (jb (zpd (jp (ja jF (ja (jp (ja jF (ja (jo 7) (ja (jo 7) (ja kg jm))))) (ja (jp (ja (jp (ja jF (ja (jp (ja jF (ja (jo 0) (ja (jo 8) jm)))) (ja (jo 7) (ja kg jm))))) jm)) (ja (jp jm) jm)))))) jd))))))))))))))))))),?_⟩
 try dsimp only [q0]
 refine kb (σ':=[some (.str x),some (.str a),some (.str b),some (.str r),some (.str s),some (.str g),some (.str st),none,none,none]) rfl ?_
 refine jfC ?_
 intro _ _ _ _ _ _ _ _ _ _ _ _ _ _
 refine ⟨(Tm.is "").toD,⟨_,rfl,Nat.le_of_ble_eq_true rfl,_,_,rfl,rfl,_,_,rfl,rfl,rfl⟩,fun vn H1 s1 hn=>?_⟩
 refine gQ ?_
 refine ⟨plD "" 0,⟨_,rfl,Nat.le_of_ble_eq_true rfl,_,_,rfl,rfl,_,_,rfl,rfl,rfl⟩,fun va H2 s2 ha=>?_⟩
 refine gQ ?_
 replace hn:=hn.mono s2
 have sH:=s1.trans s2
 clear s1 s2
 refine ⟨(.leaf (.put x "" 0 (.is "") 0):Nd).toD,⟨_,rfl,Nat.le_of_ble_eq_true rfl,_,_,rfl,rfl,_,_,rfl,⟨_,rfl,jj⟩,_,_,rfl,⟨_,rfl,(ha)⟩,_,_,rfl,⟨_,rfl,(hn)⟩,_,_,rfl,rfl,rfl⟩,fun v1 G1 s1 h1=>⟨(.leaf (.set x (.at_ x "" 0) 0):Nd).toD,⟨_,rfl,Nat.le_of_ble_eq_true rfl,_,_,rfl,rfl,_,_,rfl,⟨_,rfl,jj⟩,_,_,rfl,⟨_,rfl,Nat.le_of_ble_eq_true rfl,_,_,rfl,rfl,_,_,rfl,⟨_,rfl,jj⟩,_,_,rfl,⟨_,rfl,(ha.mono s1)⟩,rfl⟩,_,_,rfl,rfl,rfl⟩,fun v2 G2 s2 h2=>⟨(.leaf (.claim (.rise "" 0 "" 0 x)):Nd).toD,⟨_,rfl,Nat.le_of_ble_eq_true rfl,_,_,rfl,rfl,_,_,rfl,⟨_,rfl,Nat.le_of_ble_eq_true rfl,_,_,rfl,rfl,_,_,rfl,⟨_,rfl,(ha.mono (s1.trans s2))⟩,_,_,rfl,⟨_,rfl,(ha.mono (s1.trans s2))⟩,_,_,rfl,⟨_,rfl,jj⟩,rfl⟩,rfl⟩,fun v3 G3 s3 h3=>⟨sm rfl,fun p hp=>?_⟩⟩⟩⟩
 have sp:=jr hp (.lst [v1,v2,v3])
 have ep:upd G3 p (.lst [v1,v2,v3]) p=some (.lst [v1,v2,v3]):=jg
 have st1:=s1.trans (s2.trans (s3.trans (sp)))
 have hE:HeldL _ ([.leaf (.put x "" 0 (.is "") 0),.leaf (.set x (.at_ x "" 0) 0),.leaf (.claim (.rise "" 0 "" 0 x))].map Nd.toD) _:=(jh (h1.mono (s2.trans (s3.trans (sp)))) (jh (h2.mono (s3.trans (sp))) (jh (h3.mono (sp)) jt)))
 generalize upd G3 p (.lst [v1,v2,v3])=G9 at *
 replace hn:=hn.mono st1
 replace ha:=ha.mono st1
 replace sH:=sH.trans st1
 have hP:=hE
 have eP:=ep
 clear hE ep sp st1 s1 h1 s2 h2 s3 h3 hp
 refine gQ ?_
 refine ⟨_,rfl,(.leaf (.claim (.each "" 0 "" 0 r ">=" (.row x) 0)):Nd).toD,⟨_,rfl,Nat.le_of_ble_eq_true rfl,_,_,rfl,rfl,_,_,rfl,⟨_,rfl,Nat.le_of_ble_eq_true rfl,_,_,rfl,rfl,_,_,rfl,⟨_,rfl,(ha)⟩,_,_,rfl,⟨_,rfl,(ha)⟩,_,_,rfl,⟨_,rfl,jj⟩,_,_,rfl,rfl,_,_,rfl,⟨_,rfl,Nat.le_of_ble_eq_true rfl,_,_,rfl,rfl,_,_,rfl,⟨_,rfl,jj⟩,rfl⟩,_,_,rfl,rfl,rfl⟩,rfl⟩,fun v1 G1 s1 h1=>⟨(.leaf (.set r (.is "") 0):Nd).toD,⟨_,rfl,Nat.le_of_ble_eq_true rfl,_,_,rfl,rfl,_,_,rfl,⟨_,rfl,jj⟩,_,_,rfl,⟨_,rfl,(hn.mono s1)⟩,_,_,rfl,rfl,rfl⟩,fun v2 G2 s2 h2=>⟨(.leaf (.any s):Nd).toD,⟨_,rfl,Nat.le_of_ble_eq_true rfl,_,_,rfl,rfl,_,_,rfl,⟨_,rfl,jj⟩,rfl⟩,fun v3 G3 s3 h3=>⟨sm rfl,fun p hp=>?_⟩⟩⟩⟩
 have sp:=jr hp (.lst [v1,v2,v3])
 have ep:upd G3 p (.lst [v1,v2,v3]) p=some (.lst [v1,v2,v3]):=jg
 have st1:=s1.trans (s2.trans (s3.trans (sp)))
 have hE:HeldL _ ([.leaf (.claim (.each "" 0 "" 0 r ">=" (.row x) 0)),.leaf (.set r (.is "") 0),.leaf (.any s)].map Nd.toD) _:=(jh (h1.mono (s2.trans (s3.trans (sp)))) (jh (h2.mono (s3.trans (sp))) (jh (h3.mono (sp)) jt)))
 generalize upd G3 p (.lst [v1,v2,v3])=G9 at *
 replace hn:=hn.mono st1
 replace ha:=ha.mono st1
 replace sH:=sH.trans st1
 refine Jv (st1 _ _ eP) ep (hP.mono st1) hE (Nat.le_of_ble_eq_true rfl) fun l G s9 n9 ws e hl=>?_
 replace hn:=hn.mono s9
 replace ha:=ha.mono s9
 replace sH:=sH.trans s9
 clear hP eP
 have hP:=hl
 have eP:=e
 clear hE ep sp st1 s1 h1 s2 h2 s3 h3 hp hl e s9 n9
 clear G9
 refine gQ ?_
 refine ⟨_,rfl,(.leaf (.set x (.is r) 0):Nd).toD,⟨_,rfl,Nat.le_of_ble_eq_true rfl,_,_,rfl,rfl,_,_,rfl,⟨_,rfl,jj⟩,_,_,rfl,⟨_,rfl,Nat.le_of_ble_eq_true rfl,_,_,rfl,rfl,_,_,rfl,⟨_,rfl,jj⟩,rfl⟩,_,_,rfl,rfl,rfl⟩,fun v1 G1 s1 h1=>⟨(.leaf (.put r s 0 (.is "") 0):Nd).toD,⟨_,rfl,Nat.le_of_ble_eq_true rfl,_,_,rfl,rfl,_,_,rfl,⟨_,rfl,jj⟩,_,_,rfl,⟨_,rfl,Nat.le_of_ble_eq_true rfl,_,_,rfl,⟨_,rfl,jj⟩,_,_,rfl,rfl,rfl⟩,_,_,rfl,⟨_,rfl,(hn.mono s1)⟩,_,_,rfl,rfl,rfl⟩,fun v2 G2 s2 h2=>⟨sm rfl,fun p hp=>?_⟩⟩⟩
 have sp:=jr hp (.lst [v1,v2])
 have ep:upd G2 p (.lst [v1,v2]) p=some (.lst [v1,v2]):=jg
 have st1:=s1.trans (s2.trans (sp))
 have hE:HeldL _ ([.leaf (.set x (.is r) 0),.leaf (.put r s 0 (.is "") 0)].map Nd.toD) _:=(jh (h1.mono (s2.trans (sp))) (jh (h2.mono (sp)) jt))
 generalize upd G2 p (.lst [v1,v2])=G9 at *
 replace hn:=hn.mono st1
 replace ha:=ha.mono st1
 replace sH:=sH.trans st1
 refine Jv (st1 _ _ eP) ep (hP.mono st1) hE (Nat.le_of_ble_eq_true rfl) fun l G s9 n9 ws e hl=>?_
 replace hn:=hn.mono s9
 replace ha:=ha.mono s9
 replace sH:=sH.trans s9
 clear hP eP
 have hP:=hl
 have eP:=e
 clear hE ep sp st1 s1 h1 s2 h2 hp hl e s9 n9
 clear G9
 refine gQ ?_
 refine ⟨_,rfl,(.leaf (.claim (.least (.is r) (.is "") 0)):Nd).toD,⟨_,rfl,Nat.le_of_ble_eq_true rfl,_,_,rfl,rfl,_,_,rfl,⟨_,rfl,Nat.le_of_ble_eq_true rfl,_,_,rfl,rfl,_,_,rfl,⟨_,rfl,Nat.le_of_ble_eq_true rfl,_,_,rfl,rfl,_,_,rfl,⟨_,rfl,jj⟩,rfl⟩,_,_,rfl,⟨_,rfl,(hn)⟩,_,_,rfl,rfl,rfl⟩,rfl⟩,fun v1 G1 s1 h1=>⟨(.leaf (.call x st [] []):Nd).toD,⟨_,rfl,Nat.le_of_ble_eq_true rfl,_,_,rfl,rfl,_,_,rfl,⟨_,rfl,jj⟩,_,_,rfl,⟨_,rfl,jj⟩,_,_,rfl,⟨_,rfl,Nat.le_of_ble_eq_true rfl,rfl⟩,_,_,rfl,⟨_,rfl,Nat.le_of_ble_eq_true rfl,rfl⟩,rfl⟩,fun v2 G2 s2 h2=>⟨sm rfl,fun p hp=>?_⟩⟩⟩
 have sp:=jr hp (.lst [v1,v2])
 have ep:upd G2 p (.lst [v1,v2]) p=some (.lst [v1,v2]):=jg
 have st1:=s1.trans (s2.trans (sp))
 have hE:HeldL _ ([.leaf (.claim (.least (.is r) (.is "") 0)),.leaf (.call x st [] [])].map Nd.toD) _:=(jh (h1.mono (s2.trans (sp))) (jh (h2.mono (sp)) jt))
 generalize upd G2 p (.lst [v1,v2])=G9 at *
 replace hn:=hn.mono st1
 replace ha:=ha.mono st1
 replace sH:=sH.trans st1
 refine Jv (st1 _ _ eP) ep (hP.mono st1) hE (Nat.le_of_ble_eq_true rfl) fun l G s9 n9 ws e hl=>?_
 replace hn:=hn.mono s9
 replace ha:=ha.mono s9
 replace sH:=sH.trans s9
 clear hP eP
 have hP:=hl
 have eP:=e
 clear hE ep sp st1 s1 h1 s2 h2 hp hl e s9 n9
 clear G9
 refine gQ ?_
 refine ⟨_,rfl,(.leaf (.call x g [a,b] [r,r]):Nd).toD,⟨_,rfl,Nat.le_of_ble_eq_true rfl,_,_,rfl,rfl,_,_,rfl,⟨_,rfl,jj⟩,_,_,rfl,⟨_,rfl,jj⟩,_,_,rfl,⟨_,rfl,Nat.le_of_ble_eq_true rfl,_,_,rfl,⟨_,rfl,jj⟩,_,_,rfl,⟨_,rfl,jj⟩,rfl⟩,_,_,rfl,⟨_,rfl,Nat.le_of_ble_eq_true rfl,_,_,rfl,⟨_,rfl,jj⟩,_,_,rfl,⟨_,rfl,jj⟩,rfl⟩,rfl⟩,fun v1 G1 s1 h1=>⟨(.leaf (.call x g [a,r] [r,s]):Nd).toD,⟨_,rfl,Nat.le_of_ble_eq_true rfl,_,_,rfl,rfl,_,_,rfl,⟨_,rfl,jj⟩,_,_,rfl,⟨_,rfl,jj⟩,_,_,rfl,⟨_,rfl,Nat.le_of_ble_eq_true rfl,_,_,rfl,⟨_,rfl,jj⟩,_,_,rfl,⟨_,rfl,jj⟩,rfl⟩,_,_,rfl,⟨_,rfl,Nat.le_of_ble_eq_true rfl,_,_,rfl,⟨_,rfl,jj⟩,_,_,rfl,⟨_,rfl,jj⟩,rfl⟩,rfl⟩,fun v2 G2 s2 h2=>⟨sm rfl,fun p hp=>?_⟩⟩⟩
 have sp:=jr hp (.lst [v1,v2])
 have ep:upd G2 p (.lst [v1,v2]) p=some (.lst [v1,v2]):=jg
 have st1:=s1.trans (s2.trans (sp))
 have hE:HeldL _ ([.leaf (.call x g [a,b] [r,r]),.leaf (.call x g [a,r] [r,s])].map Nd.toD) _:=(jh (h1.mono (s2.trans (sp))) (jh (h2.mono (sp)) jt))
 generalize upd G2 p (.lst [v1,v2])=G9 at *
 replace hn:=hn.mono st1
 replace ha:=ha.mono st1
 replace sH:=sH.trans st1
 refine Jv (st1 _ _ eP) ep (hP.mono st1) hE (Nat.le_of_ble_eq_true rfl) fun l G s9 n9 ws e hl=>?_
 replace hn:=hn.mono s9
 replace ha:=ha.mono s9
 replace sH:=sH.trans s9
 clear hP eP
 have hP:=hl
 have eP:=e
 clear hE ep sp st1 s1 h1 s2 h2 hp hl e s9 n9
 clear G9
 refine gQ ?_
 refine ⟨_,rfl,(.leaf (.call r g [a,b] [r,s]):Nd).toD,⟨_,rfl,Nat.le_of_ble_eq_true rfl,_,_,rfl,rfl,_,_,rfl,⟨_,rfl,jj⟩,_,_,rfl,⟨_,rfl,jj⟩,_,_,rfl,⟨_,rfl,Nat.le_of_ble_eq_true rfl,_,_,rfl,⟨_,rfl,jj⟩,_,_,rfl,⟨_,rfl,jj⟩,rfl⟩,_,_,rfl,⟨_,rfl,Nat.le_of_ble_eq_true rfl,_,_,rfl,⟨_,rfl,jj⟩,_,_,rfl,⟨_,rfl,jj⟩,rfl⟩,rfl⟩,fun v1 G1 s1 h1=>⟨(.leaf (.call x g [a,b] [r,x]):Nd).toD,⟨_,rfl,Nat.le_of_ble_eq_true rfl,_,_,rfl,rfl,_,_,rfl,⟨_,rfl,jj⟩,_,_,rfl,⟨_,rfl,jj⟩,_,_,rfl,⟨_,rfl,Nat.le_of_ble_eq_true rfl,_,_,rfl,⟨_,rfl,jj⟩,_,_,rfl,⟨_,rfl,jj⟩,rfl⟩,_,_,rfl,⟨_,rfl,Nat.le_of_ble_eq_true rfl,_,_,rfl,⟨_,rfl,jj⟩,_,_,rfl,⟨_,rfl,jj⟩,rfl⟩,rfl⟩,fun v2 G2 s2 h2=>⟨sm rfl,fun p hp=>?_⟩⟩⟩
 have sp:=jr hp (.lst [v1,v2])
 have ep:upd G2 p (.lst [v1,v2]) p=some (.lst [v1,v2]):=jg
 have st1:=s1.trans (s2.trans (sp))
 have hE:HeldL _ ([.leaf (.call r g [a,b] [r,s]),.leaf (.call x g [a,b] [r,x])].map Nd.toD) _:=(jh (h1.mono (s2.trans (sp))) (jh (h2.mono (sp)) jt))
 generalize upd G2 p (.lst [v1,v2])=G9 at *
 replace hn:=hn.mono st1
 replace ha:=ha.mono st1
 replace sH:=sH.trans st1
 refine Jv (st1 _ _ eP) ep (hP.mono st1) hE (Nat.le_of_ble_eq_true rfl) fun l G s9 n9 ws e hl=>?_
 replace hn:=hn.mono s9
 replace ha:=ha.mono s9
 replace sH:=sH.trans s9
 clear hP eP
 have hP:=hl
 have eP:=e
 clear hE ep sp st1 s1 h1 s2 h2 hp hl e s9 n9
 clear G9
 refine gQ ?_
 refine ⟨_,rfl,(.ite (.at_ x "" 0) (.is "") 0 [] []:Nd).toD,⟨_,rfl,Nat.le_of_ble_eq_true rfl,_,_,rfl,rfl,_,_,rfl,⟨_,rfl,Nat.le_of_ble_eq_true rfl,_,_,rfl,rfl,_,_,rfl,⟨_,rfl,Nat.le_of_ble_eq_true rfl,_,_,rfl,rfl,_,_,rfl,⟨_,rfl,jj⟩,_,_,rfl,⟨_,rfl,(ha)⟩,rfl⟩,_,_,rfl,⟨_,rfl,(hn)⟩,_,_,rfl,rfl,rfl⟩,_,_,rfl,⟨_,rfl,Nat.le_of_ble_eq_true rfl,rfl⟩,_,_,rfl,⟨_,rfl,Nat.le_of_ble_eq_true rfl,rfl⟩,rfl⟩,fun v1 G1 s1 h1=>⟨(.leaf (.set x (.at_ r s 0) 0):Nd).toD,⟨_,rfl,Nat.le_of_ble_eq_true rfl,_,_,rfl,rfl,_,_,rfl,⟨_,rfl,jj⟩,_,_,rfl,⟨_,rfl,Nat.le_of_ble_eq_true rfl,_,_,rfl,rfl,_,_,rfl,⟨_,rfl,jj⟩,_,_,rfl,⟨_,rfl,Nat.le_of_ble_eq_true rfl,_,_,rfl,⟨_,rfl,jj⟩,_,_,rfl,rfl,rfl⟩,rfl⟩,_,_,rfl,rfl,rfl⟩,fun v2 G2 s2 h2=>⟨sm rfl,fun p hp=>?_⟩⟩⟩
 have sp:=jr hp (.lst [v1,v2])
 have ep:upd G2 p (.lst [v1,v2]) p=some (.lst [v1,v2]):=jg
 have st1:=s1.trans (s2.trans (sp))
 have hE:HeldL _ ([.ite (.at_ x "" 0) (.is "") 0 [] [],.leaf (.set x (.at_ r s 0) 0)].map Nd.toD) _:=(jh (h1.mono (s2.trans (sp))) (jh (h2.mono (sp)) jt))
 generalize upd G2 p (.lst [v1,v2])=G9 at *
 replace hn:=hn.mono st1
 replace ha:=ha.mono st1
 replace sH:=sH.trans st1
 refine Jv (st1 _ _ eP) ep (hP.mono st1) hE (Nat.le_of_ble_eq_true rfl) fun l G s9 n9 ws e hl=>?_
 replace hn:=hn.mono s9
 replace ha:=ha.mono s9
 replace sH:=sH.trans s9
 clear hP eP
 have hP:=hl
 have eP:=e
 clear hE ep sp st1 s1 h1 s2 h2 hp hl e s9 n9
 clear G9
 refine gQ ?_
 refine ⟨_,rfl,(.leaf (.claim (.each r 0 "" 0 s ">=" (.is "") 0)):Nd).toD,⟨_,rfl,Nat.le_of_ble_eq_true rfl,_,_,rfl,rfl,_,_,rfl,⟨_,rfl,Nat.le_of_ble_eq_true rfl,_,_,rfl,rfl,_,_,rfl,⟨_,rfl,Nat.le_of_ble_eq_true rfl,_,_,rfl,⟨_,rfl,jj⟩,_,_,rfl,rfl,rfl⟩,_,_,rfl,⟨_,rfl,(ha)⟩,_,_,rfl,⟨_,rfl,jj⟩,_,_,rfl,rfl,_,_,rfl,⟨_,rfl,(hn)⟩,_,_,rfl,rfl,rfl⟩,rfl⟩,fun v1 G1 s1 h1=>⟨sm rfl,fun p hp=>?_⟩⟩
 have sp:=jr hp (.lst [v1])
 have ep:upd G1 p (.lst [v1]) p=some (.lst [v1]):=jg
 have st1:=s1.trans (sp)
 have hE:HeldL _ ([.leaf (.claim (.each r 0 "" 0 s ">=" (.is "") 0))].map Nd.toD) _:=(jh (h1.mono (sp)) jt)
 generalize upd G1 p (.lst [v1])=G9 at *
 replace hn:=hn.mono st1
 replace ha:=ha.mono st1
 replace sH:=sH.trans st1
 refine Jv (st1 _ _ eP) ep (hP.mono st1) hE (Nat.le_of_ble_eq_true rfl) fun l G s9 n9 ws e hl=>?_
 replace hn:=hn.mono s9
 replace ha:=ha.mono s9
 replace sH:=sH.trans s9
 clear hP eP
 have hP:=hl
 have eP:=e
 clear hE ep sp st1 s1 h1 hp hl e s9 n9
 clear G9
 refine gQ ?_
 refine ⟨_,rfl,(.leaf (.claim (.each "" 0 "" 0 r ">=" (.is s) 0)):Nd).toD,⟨_,rfl,Nat.le_of_ble_eq_true rfl,_,_,rfl,rfl,_,_,rfl,⟨_,rfl,Nat.le_of_ble_eq_true rfl,_,_,rfl,rfl,_,_,rfl,⟨_,rfl,(ha)⟩,_,_,rfl,⟨_,rfl,(ha)⟩,_,_,rfl,⟨_,rfl,jj⟩,_,_,rfl,rfl,_,_,rfl,⟨_,rfl,Nat.le_of_ble_eq_true rfl,_,_,rfl,rfl,_,_,rfl,⟨_,rfl,jj⟩,rfl⟩,_,_,rfl,rfl,rfl⟩,rfl⟩,fun v1 G1 s1 h1=>⟨sm rfl,fun p hp=>?_⟩⟩
 have sp:=jr hp (.lst [v1])
 have ep:upd G1 p (.lst [v1]) p=some (.lst [v1]):=jg
 have st1:=s1.trans (sp)
 have hE:HeldL _ ([.leaf (.claim (.each "" 0 "" 0 r ">=" (.is s) 0))].map Nd.toD) _:=(jh (h1.mono (sp)) jt)
 generalize upd G1 p (.lst [v1])=G9 at *
 replace hn:=hn.mono st1
 replace ha:=ha.mono st1
 replace sH:=sH.trans st1
 refine Jv (st1 _ _ eP) ep (hP.mono st1) hE (Nat.le_of_ble_eq_true rfl) fun l G s9 n9 ws e hl=>?_
 replace hn:=hn.mono s9
 replace ha:=ha.mono s9
 replace sH:=sH.trans s9
 clear hP eP
 have hP:=hl
 have eP:=e
 clear hE ep sp st1 s1 h1 hp hl e s9 n9
 clear G9
 refine gQ ?_
 refine ⟨_,rfl,(.whl (.at_ x "" 0) (.is "") 0 [] []:Nd).toD,⟨_,rfl,Nat.le_of_ble_eq_true rfl,_,_,rfl,rfl,_,_,rfl,⟨_,rfl,Nat.le_of_ble_eq_true rfl,_,_,rfl,rfl,_,_,rfl,⟨_,rfl,Nat.le_of_ble_eq_true rfl,_,_,rfl,rfl,_,_,rfl,⟨_,rfl,jj⟩,_,_,rfl,⟨_,rfl,(ha)⟩,rfl⟩,_,_,rfl,⟨_,rfl,(hn)⟩,_,_,rfl,rfl,rfl⟩,_,_,rfl,⟨_,rfl,Nat.le_of_ble_eq_true rfl,rfl⟩,_,_,rfl,⟨_,rfl,Nat.le_of_ble_eq_true rfl,rfl⟩,rfl⟩,fun v1 G1 s1 h1=>⟨sm rfl,fun p hp=>?_⟩⟩
 have sp:=jr hp (.lst [v1])
 have ep:upd G1 p (.lst [v1]) p=some (.lst [v1]):=jg
 have st1:=s1.trans (sp)
 have hE:HeldL _ ([.whl (.at_ x "" 0) (.is "") 0 [] []].map Nd.toD) _:=(jh (h1.mono (sp)) jt)
 generalize upd G1 p (.lst [v1])=G9 at *
 replace hn:=hn.mono st1
 replace ha:=ha.mono st1
 replace sH:=sH.trans st1
 refine Jv (st1 _ _ eP) ep (hP.mono st1) hE (Nat.le_of_ble_eq_true rfl) fun l G s9 n9 ws e hl=>?_
 replace hn:=hn.mono s9
 replace ha:=ha.mono s9
 replace sH:=sH.trans s9
 clear hP eP
 have hP:=hl
 have eP:=e
 clear hE ep sp st1 s1 h1 hp hl e s9 n9
 clear G9
 refine gQ ?_
 refine ⟨_,rfl,(.whl (.is "") (.is "") 1 [(.rise "" 0 r 1 r)] []:Nd).toD,⟨_,rfl,Nat.le_of_ble_eq_true rfl,_,_,rfl,rfl,_,_,rfl,⟨_,rfl,Nat.le_of_ble_eq_true rfl,_,_,rfl,rfl,_,_,rfl,⟨_,rfl,(hn)⟩,_,_,rfl,⟨_,rfl,(hn)⟩,_,_,rfl,rfl,rfl⟩,_,_,rfl,⟨_,rfl,Nat.le_of_ble_eq_true rfl,_,_,rfl,⟨_,rfl,Nat.le_of_ble_eq_true rfl,_,_,rfl,rfl,_,_,rfl,⟨_,rfl,(ha)⟩,_,_,rfl,⟨_,rfl,Nat.le_of_ble_eq_true rfl,_,_,rfl,⟨_,rfl,jj⟩,_,_,rfl,rfl,rfl⟩,_,_,rfl,⟨_,rfl,jj⟩,rfl⟩,rfl⟩,_,_,rfl,⟨_,rfl,Nat.le_of_ble_eq_true rfl,rfl⟩,rfl⟩,fun v1 G1 s1 h1=>⟨sm rfl,fun p hp=>?_⟩⟩
 have sp:=jr hp (.lst [v1])
 have ep:upd G1 p (.lst [v1]) p=some (.lst [v1]):=jg
 have st1:=s1.trans (sp)
 have hE:HeldL _ ([.whl (.is "") (.is "") 1 [(.rise "" 0 r 1 r)] []].map Nd.toD) _:=(jh (h1.mono (sp)) jt)
 generalize upd G1 p (.lst [v1])=G9 at *
 replace hn:=hn.mono st1
 replace ha:=ha.mono st1
 replace sH:=sH.trans st1
 refine Jv (st1 _ _ eP) ep (hP.mono st1) hE (Nat.le_of_ble_eq_true rfl) fun l G s9 n9 ws e hl=>?_
 replace hn:=hn.mono s9
 replace ha:=ha.mono s9
 replace sH:=sH.trans s9
 clear hP eP
 have hP:=hl
 have eP:=e
 clear hE ep sp st1 s1 h1 hp hl e s9 n9
 clear G9
 refine gQ ?_
 refine ⟨_,rfl,(.whl (.is "") (.is "") 1 [(.each "" 0 "" 0 x ">=" (.is "") 0)] []:Nd).toD,⟨_,rfl,Nat.le_of_ble_eq_true rfl,_,_,rfl,rfl,_,_,rfl,⟨_,rfl,Nat.le_of_ble_eq_true rfl,_,_,rfl,rfl,_,_,rfl,⟨_,rfl,(hn)⟩,_,_,rfl,⟨_,rfl,(hn)⟩,_,_,rfl,rfl,rfl⟩,_,_,rfl,⟨_,rfl,Nat.le_of_ble_eq_true rfl,_,_,rfl,⟨_,rfl,Nat.le_of_ble_eq_true rfl,_,_,rfl,rfl,_,_,rfl,⟨_,rfl,(ha)⟩,_,_,rfl,⟨_,rfl,(ha)⟩,_,_,rfl,⟨_,rfl,jj⟩,_,_,rfl,rfl,_,_,rfl,⟨_,rfl,(hn)⟩,_,_,rfl,rfl,rfl⟩,rfl⟩,_,_,rfl,⟨_,rfl,Nat.le_of_ble_eq_true rfl,rfl⟩,rfl⟩,fun v1 G1 s1 h1=>⟨sm rfl,fun p hp=>?_⟩⟩
 have sp:=jr hp (.lst [v1])
 have ep:upd G1 p (.lst [v1]) p=some (.lst [v1]):=jg
 have st1:=s1.trans (sp)
 have hE:HeldL _ ([.whl (.is "") (.is "") 1 [(.each "" 0 "" 0 x ">=" (.is "") 0)] []].map Nd.toD) _:=(jh (h1.mono (sp)) jt)
 generalize upd G1 p (.lst [v1])=G9 at *
 replace hn:=hn.mono st1
 replace ha:=ha.mono st1
 replace sH:=sH.trans st1
 refine Jv (st1 _ _ eP) ep (hP.mono st1) hE (Nat.le_of_ble_eq_true rfl) fun l G s9 n9 ws e hl=>?_
 replace hn:=hn.mono s9
 replace ha:=ha.mono s9
 replace sH:=sH.trans s9
 clear hP eP
 have hP:=hl
 have eP:=e
 clear hE ep sp st1 s1 h1 hp hl e s9 n9
 clear G9
 refine gQ ?_
 refine ⟨_,rfl,(.whl (.is "") (.is "") 1 [(.least (.at_ x "" 0) (.is "") 0)] []:Nd).toD,⟨_,rfl,Nat.le_of_ble_eq_true rfl,_,_,rfl,rfl,_,_,rfl,⟨_,rfl,Nat.le_of_ble_eq_true rfl,_,_,rfl,rfl,_,_,rfl,⟨_,rfl,(hn)⟩,_,_,rfl,⟨_,rfl,(hn)⟩,_,_,rfl,rfl,rfl⟩,_,_,rfl,⟨_,rfl,Nat.le_of_ble_eq_true rfl,_,_,rfl,⟨_,rfl,Nat.le_of_ble_eq_true rfl,_,_,rfl,rfl,_,_,rfl,⟨_,rfl,Nat.le_of_ble_eq_true rfl,_,_,rfl,rfl,_,_,rfl,⟨_,rfl,jj⟩,_,_,rfl,⟨_,rfl,(ha)⟩,rfl⟩,_,_,rfl,⟨_,rfl,(hn)⟩,_,_,rfl,rfl,rfl⟩,rfl⟩,_,_,rfl,⟨_,rfl,Nat.le_of_ble_eq_true rfl,rfl⟩,rfl⟩,fun v1 G1 s1 h1=>⟨sm rfl,fun p hp=>?_⟩⟩
 have sp:=jr hp (.lst [v1])
 have ep:upd G1 p (.lst [v1]) p=some (.lst [v1]):=jg
 have st1:=s1.trans (sp)
 have hE:HeldL _ ([.whl (.is "") (.is "") 1 [(.least (.at_ x "" 0) (.is "") 0)] []].map Nd.toD) _:=(jh (h1.mono (sp)) jt)
 generalize upd G1 p (.lst [v1])=G9 at *
 replace hn:=hn.mono st1
 replace ha:=ha.mono st1
 replace sH:=sH.trans st1
 refine Jv (st1 _ _ eP) ep (hP.mono st1) hE (Nat.le_of_ble_eq_true rfl) fun l G s n ws e hl=>?_
 exact q l ws G (sH.trans s) e hl
end
abbrev qC:Stmt:=top 44
def rfT:Rf→Str
 | .name=>"name"
 | .count=>"count"
 | .set=>"set"
def prD (x:Nd×Rf):D:=.tup [x.1.toD,.str (rfT x.2)]
def cnL (a b r s:Str):List (List Str×List Str):=[([a],[r,s]),([a,b,a],[r,s]),([a,b],[r]),([a,b],[])]
def cnD (x:List Str×List Str):D:=.tup [.tup (x.1.map D.str),.tup (x.2.map D.str)]
def cnW (x f:Str) (c:List Str×List Str):Nd×Rf:=(.leaf (.call x f c.1 c.2),.count)
def yO (x a b r s f:Str):List (Nd×Rf):=(cnL a b r s).map (cnW x f)++[(.leaf (.set a (.is x) 1),.set),(.leaf (.any b),.set)]++[(.leaf (.call a f [a,b] [r,s]),.set)]
def Yl:Sp:=fun vs H Q _=>∃ (x a b r s f:Str),vs=[.str x,.str a,.str b,.str r,.str s,.str f]∧∀ l us H',Same H H'→H' l=some (.lst us)→HeldL H' ((yO x a b r s f).map prD) us→Q (.ref l) H'
section
variable {P:Program} {w:World} {K:W.Frag} {mg:Str→Option Value} {base:Heap}
theorem jaa {f:Addr} {fd:FuncData} (F:Fun K "_law_others_wrong" "_law_others_wrong" qC f fd):FnOk P w K mg base CX0 1 f fd ["_law_x","_law_a","_law_b","_law_r","_law_s","_law_f"] Yl:=by
 have sc:FnScope ["_law_x","_law_a","_law_b","_law_r","_law_s","_law_f","_law_counts","_law_some"] ["_law_x","_law_a","_law_b","_law_r","_law_s","_law_f"] (jw qC):=fQ
 refine F.okZ sc (fun vs H Q E h=>?_) (fun cdv A outer s H vs Q E hr h=>?_)
 ·obtain ⟨x,a,b,r,s,f,rfl,_⟩:=h
  rfl
 obtain ⟨x,a,b,r,s,g,rfl,q⟩:=h
 refine ⟨_,(je (js (i:=6) sc.nd rfl oQ (jM (jb (zpd (jp (ja (jp (ja (jo 1) jm)) (ja (jp (ja (jo 3) (ja (jo 4) jm))) jm)))) (jb (zpd (jp (ja (jp (ja (jo 1) (ja (jo 2) (ja (jo 1) jm)))) (ja (jp (ja (jo 3) (ja (jo 4) jm))) jm)))) (jb (zpd (jp (ja (jp (ja (jo 1) (ja (jo 2) jm))) (ja (jp (ja (jo 3) jm)) jm)))) (jb (zpd (jp (ja (jp (ja (jo 1) (ja (jo 2) jm))) (ja (jp jm) jm)))) jd))))))
   (je (zC (i:=7) sc.nd rfl oQ ["_law_args","_law_rows"] [0,5] rfl (qH (sc:=jw qC) (N:=["_law_x","_law_a","_law_b","_law_r","_law_s","_law_f","_law_counts","_law_some"]) rfl rfl (by decide +kernel)) (zr (zpv 6)) (fun s H ex=>⟨(jbW (K:=K) (n:=2) rfl (jJ (jy (i:=0) (show List.Nodup (["_law_args","_law_rows","_law_x","_law_f"]:List Str) by decide +kernel) rfl oQ) (jJ (jy (i:=1) (show List.Nodup (["_law_args","_law_rows","_law_x","_law_f"]:List Str) by decide +kernel) rfl oQ) kX))),qm,(jX (jb (jX (jb jq (jb (zpv 2) (jb (zpv 3) (jb (zpv 0) (jb (zpv 1) jd)))))) (jb jq jd)))⟩))
   (je (js (i:=7) sc.nd rfl oQ (jD kB (zpv 7) (jM (jb (zpd (jp (ja (jp (ja jF (ja (jo 1) (ja (jp (ja jF (ja (jo 0) jm))) (ja kg jm))))) (ja jF jm)))) (jb (zpd (jp (ja (jp (ja jF (ja (jo 2) jm))) (ja jF jm)))) jd)))))
   (jn (jB (jD kB (zpv 7) (jM (jb (zpd (jp (ja (jp (ja jF (ja (jo 1) (ja (jo 5) (ja (jp (ja (jo 1) (ja (jo 2) jm))) (ja (jp (ja (jo 3) (ja (jo 4) jm))) jm)))))) (ja jF jm)))) jd)))))))),?_⟩
 try dsimp only [q0]
 refine kb (σ':=[some (.str x),some (.str a),some (.str b),some (.str r),some (.str s),some (.str g),none,none]) rfl ?_
 refine ⟨cnD ([a],[r,s]),⟨_,rfl,Nat.le_of_ble_eq_true rfl,_,_,rfl,⟨_,rfl,Nat.le_of_ble_eq_true rfl,_,_,rfl,⟨_,rfl,jj⟩,rfl⟩,_,_,rfl,⟨_,rfl,Nat.le_of_ble_eq_true rfl,_,_,rfl,⟨_,rfl,jj⟩,_,_,rfl,⟨_,rfl,jj⟩,rfl⟩,rfl⟩,fun v1 G1 s1 h1=>⟨cnD ([a,b,a],[r,s]),⟨_,rfl,Nat.le_of_ble_eq_true rfl,_,_,rfl,⟨_,rfl,Nat.le_of_ble_eq_true rfl,_,_,rfl,⟨_,rfl,jj⟩,_,_,rfl,⟨_,rfl,jj⟩,_,_,rfl,⟨_,rfl,jj⟩,rfl⟩,_,_,rfl,⟨_,rfl,Nat.le_of_ble_eq_true rfl,_,_,rfl,⟨_,rfl,jj⟩,_,_,rfl,⟨_,rfl,jj⟩,rfl⟩,rfl⟩,fun v2 G2 s2 h2=>⟨cnD ([a,b],[r]),⟨_,rfl,Nat.le_of_ble_eq_true rfl,_,_,rfl,⟨_,rfl,Nat.le_of_ble_eq_true rfl,_,_,rfl,⟨_,rfl,jj⟩,_,_,rfl,⟨_,rfl,jj⟩,rfl⟩,_,_,rfl,⟨_,rfl,Nat.le_of_ble_eq_true rfl,_,_,rfl,⟨_,rfl,jj⟩,rfl⟩,rfl⟩,fun v3 G3 s3 h3=>⟨cnD ([a,b],[]),⟨_,rfl,Nat.le_of_ble_eq_true rfl,_,_,rfl,⟨_,rfl,Nat.le_of_ble_eq_true rfl,_,_,rfl,⟨_,rfl,jj⟩,_,_,rfl,⟨_,rfl,jj⟩,rfl⟩,_,_,rfl,⟨_,rfl,Nat.le_of_ble_eq_true rfl,rfl⟩,rfl⟩,fun v4 G4 s4 h4=>⟨sm rfl,fun p hp=>?_⟩⟩⟩⟩⟩
 have sp:=jr hp (.lst [v1,v2,v3,v4])
 have ep:upd G4 p (.lst [v1,v2,v3,v4]) p=some (.lst [v1,v2,v3,v4]):=jg
 have hC:HeldL _ ((cnL a b r s).map cnD) _:=jh (h1.mono (s2.trans (s3.trans (s4.trans sp)))) (jh (h2.mono (s3.trans (s4.trans sp))) (jh (h3.mono (s4.trans sp)) (jh (h4.mono sp) jt)))
 have sH:=s1.trans (s2.trans (s3.trans (s4.trans sp)))
 generalize upd G4 p (.lst [v1,v2,v3,v4])=H1 at *
 have cl:(cnL a b r s).length=4:=rfl
 generalize hcs:cnL a b r s=cs at *
 generalize hvs:[v1,v2,v3,v4]=cv at *
 have hlen:=hC.length
 rw [List.length_map] at hlen
 refine gQ ?_
 refine ⟨_,rfl,p,rfl,⟨_,SqL.of ep⟩,fun l hl=>?_⟩
 let Pv:Nat→St→Hp→Prop:=fun i σ' G=>∃ u1 u2 us,σ'=[u1,u2,some (.str x),some (.str g)]∧Same H1 G∧G l=some (.lst us)∧us.length=i∧HeldL G (((cs.take i).map (cnW x g)).map prD) us
 refine Yu (xs:=cv) Pv ⟨none,none,[],rfl,jr hl _,jg,rfl,jt⟩ ?_ ?_ ?_
 ·rintro i σ' G _ ⟨u1,u2,us,rfl,sG,_⟩
  exact SqL.of (sG _ _ ep)
 ·rintro i v σ' G hx ⟨u1,u2,us,rfl,sG,hGl,hul,hus⟩
  have hi:i < cs.length:=by have:=(List.getElem?_eq_some_iff.mp hx).1;omega
  obtain ⟨v',e1,e2⟩:=hC.get (j:=i) (d:=cnD cs[i]) (by rw [List.getElem?_map,List.getElem?_eq_getElem hi];rfl)
  rw [hx] at e1
  cases e1
  have etk:(cs.take (i+1))=cs.take i++[cs[i]]:=by rw [List.take_succ,List.getElem?_eq_getElem hi];rfl
  obtain ⟨c,ys,rfl,hc,h5⟩:=jC e2
  obtain ⟨y1,r1,rfl,g1,h6⟩:=jk h5
  obtain ⟨y2,r2,rfl,g2,h7⟩:=jk h6
  cases jK h7
  refine ⟨c,_,rfl,SqT.of (sG _ _ hc),rfl,_,_,rfl,_,_,rfl,rfl,?_⟩
  unfold JB
  refine yl ?_
  refine ⟨_,rfl,_,rfl,_,rfl,_,rfl,sm rfl,fun t1 ht1=>⟨sm rfl,fun t2 ht2=>?_⟩⟩
  have sa:=jr ht1 (.tup [V.str (Str.ofString "call"),.str x,.str g,y1,y2])
  have sb:=jr ht2 (.tup [V.ref t1,V.str (Str.ofString "count")])
  have sab:=sG.trans (sa.trans sb)
  have hel:Held (upd (upd G t1 (.tup [V.str (Str.ofString "call"),.str x,.str g,y1,y2])) t2 (.tup [V.ref t1,V.str (Str.ofString "count")])) (prD (cnW x g cs[i])) (.ref t2):=jQ jg (jh (jQ (sb _ _ jg) (jh jj (jh jj (jh jj (jh (g1.mono sab) (jh (g2.mono sab) jt)))))) (jh jj jt))
  have hGl2:=sb _ _ (sa _ _ hGl)
  generalize upd (upd G t1 (.tup [V.str (Str.ofString "call"),.str x,.str g,y1,y2])) t2 (.tup [V.ref t1,V.str (Str.ofString "count")])=G6 at *
  have tk:TK G6 (upd G6 l (.lst (us++[.ref t2]))):=fun b ys e=>by rw [jx (fun z=>by rw [z,hGl2] at e;cases e)];exact e
  refine ⟨us,hGl2,j8 (by omega),_,_,us++[.ref t2],rfl,fun b o e=>?_,jg,by rw [List.length_append,hul];rfl,?_⟩
  ·rw [jx (ju e hl)];exact sab _ _ e
  ·rw [etk,List.map_append,List.map_append]
   exact qK (tk.heldL (hus.mono (sa.trans sb))) (tk.held hel)
 rintro σ' G ⟨u1,u2,us,rfl,sG,hGl,hul,hus⟩
 rw [← hlen,List.take_length,← hcs] at hus
 have sHG:=sH.trans sG
 refine gQ ?_
 refine ⟨_,rfl,prD (.leaf (.set a (.is x) 1),.set),⟨_,rfl,Nat.le_of_ble_eq_true rfl,_,_,rfl,⟨_,rfl,Nat.le_of_ble_eq_true rfl,_,_,rfl,rfl,_,_,rfl,⟨_,rfl,jj⟩,_,_,rfl,⟨_,rfl,Nat.le_of_ble_eq_true rfl,_,_,rfl,rfl,_,_,rfl,⟨_,rfl,jj⟩,rfl⟩,_,_,rfl,rfl,rfl⟩,_,_,rfl,rfl,rfl⟩,fun w1 K1 k1 j1=>⟨prD (.leaf (.any b),.set),⟨_,rfl,Nat.le_of_ble_eq_true rfl,_,_,rfl,⟨_,rfl,Nat.le_of_ble_eq_true rfl,_,_,rfl,rfl,_,_,rfl,⟨_,rfl,jj⟩,rfl⟩,_,_,rfl,rfl,rfl⟩,fun w2 K2 k2 j2=>⟨sm rfl,fun p3 hp3=>?_⟩⟩⟩
 have k3:=jr hp3 (.lst [w1,w2])
 have k13:=k1.trans (k2.trans k3)
 refine Jv (k13 _ _ hGl) jg (hus.mono k13) (es:=[prD (.leaf (.set a (.is x) 1),.set),prD (.leaf (.any b),.set)]) (jh (j1.mono (k2.trans k3)) (jh (j2.mono k3) jt)) (Nat.le_of_ble_eq_true rfl) fun l2 G2' s6 n6 ws e6 h6=>?_
 have sH2:=sHG.trans (k13.trans s6)
 refine gQ ?_
 refine ⟨_,rfl,prD (.leaf (.call a g [a,b] [r,s]),.set),⟨_,rfl,Nat.le_of_ble_eq_true rfl,_,_,rfl,⟨_,rfl,Nat.le_of_ble_eq_true rfl,_,_,rfl,rfl,_,_,rfl,⟨_,rfl,jj⟩,_,_,rfl,⟨_,rfl,jj⟩,_,_,rfl,⟨_,rfl,Nat.le_of_ble_eq_true rfl,_,_,rfl,⟨_,rfl,jj⟩,_,_,rfl,⟨_,rfl,jj⟩,rfl⟩,_,_,rfl,⟨_,rfl,Nat.le_of_ble_eq_true rfl,_,_,rfl,⟨_,rfl,jj⟩,_,_,rfl,⟨_,rfl,jj⟩,rfl⟩,rfl⟩,_,_,rfl,rfl,rfl⟩,fun w3 K3 k5 j3=>⟨sm rfl,fun p4 hp4=>?_⟩⟩
 have k6:=jr hp4 (.lst [w3])
 have k56:=k5.trans k6
 refine Jv (k56 _ _ e6) jg (h6.mono k56) (es:=[prD (.leaf (.call a g [a,b] [r,s]),.set)]) (jh (j3.mono k6) jt) (Nat.le_of_ble_eq_true rfl) fun l3 G3' s7 n7 ws2 e7 h7=>?_
 exact q l3 ws2 G3' (sH2.trans (k56.trans s7)) e7 h7
end
abbrev J5:Stmt:=top 45
def noC (c:Int):Cl:=.least (.is "") (.is "") c
def Kk (c f:Int) (d:D):D:=if f=0 then .tup [.str "while",(noC c).toD,.tup [],.tup [d]] else if f=1 then .tup [.str "if",(noC c).toD,.tup [d],.tup []] else .tup [.str "if",(noC c).toD,.tup [],.tup [d]]
def yi (c:Int):List Int→D→D
 | [],d=>d
 | f :: fs,d=>Kk c f (yi c fs d)
def Zg:Sp:=fun vs H Q _=>∃ (d:Addr) (w:Int) (n:Dl) (v:V) (e:D),vs=[.ref d,v]∧H d=some (dlO w n)∧Held H e v∧∀ u H' n' c fs,Keep d H H'→H' d=some (dlO w n')→fs.length≤3→Held H' (yi c fs e) u→Q u H'
section
variable {P:Program} {w:World} {K:W.Frag} {mg:Str→Option Value} {base:Heap}
theorem jbm {f:Addr} {fd:FuncData} (F:Fun K "_law_within" "_law_within" J5 f fd) (B:Free0 mg) (F_draw:Fn P w K mg base 1 "_law_draw" ["_law_deal_here","_law_many_here"] qI):FnOk P w K mg base CX0 2 f fd ["_law_deal_here","_law_statement_here"] Zg:=by
 have sc:FnScope ["_law_deal_here","_law_statement_here","_law_least_here","_law_k","_law_form"] ["_law_deal_here","_law_statement_here"] (jw J5):=fQ
 refine F.okZ sc (fun vs H Q E h=>?_) (fun cdv A outer s H vs Q E hr h=>?_)
 ·obtain ⟨d,w,n,v,e,rfl,_⟩:=h
  rfl
 obtain ⟨d,w,n,v,e,rfl,hd,hv,q⟩:=h
 refine ⟨_,(je (js (i:=2) sc.nd rfl oQ (jX (jb jq (jb (zpd (jp (ja jF (ja jF jm)))) (jb (zpd (jp (ja jF (ja jF jm)))) (jb (jH F_draw hr (jb (zpv 0) (jb ji jd))) jd))))))
   (je (kK PassesOwn.never rfl (kx (by rfl) B.range_ (jb (jH F_draw hr (jb (zpv 0) (jb ji jd))) jd)) (jy (i:=3) sc.nd rfl oQ) (je (js (i:=4) sc.nd rfl oQ (jH F_draw hr (jb (zpv 0) (jb ji jd))))
   (jn (jT (jv kq (zpv 4) ji (jP _)) (jn (js (i:=1) sc.nd rfl oQ (zpd (jp (ja jF (ja (jo 2) (ja (jp jm) (ja (jp (ja (jo 1) jm)) jm)))))))) (jn (jT (jv kq (zpv 4) ji (jP _)) (jn (js (i:=1) sc.nd rfl oQ (zpd (jp (ja jF (ja (jo 2) (ja (jp (ja (jo 1) jm)) (ja (jp jm) jm)))))))) (jn (js (i:=1) sc.nd rfl oQ (zpd (jp (ja jF (ja (jo 2) (ja (jp jm) (ja (jp (ja (jo 1) jm)) jm))))))))))))))
   (jn (jB (zpv 1))))),?_⟩
 try dsimp only [q0]
 refine kb (σ':=[some (.ref d),some v,none,none,none]) rfl ?_
 refine ⟨(Tm.is "").toD,⟨_,rfl,Nat.le_of_ble_eq_true rfl,_,_,rfl,rfl,_,_,rfl,rfl,rfl⟩,fun v1 H1 s1 h1=>⟨(Tm.is "").toD,⟨_,rfl,Nat.le_of_ble_eq_true rfl,_,_,rfl,rfl,_,_,rfl,rfl,rfl⟩,fun v2 H2 s2 h2=>?_⟩⟩
 have s12:=s1.trans s2
 have d2:=s12 _ _ hd
 have k3:=Keep.upd d H2 (dlO w (jl w n 2).2)
 refine ⟨_,rfl,d,w,n,2,rfl,d2,by decide,by decide,sm rfl,fun t ht=>?_⟩
 have s4:=jr ht (.tup [V.str (Str.ofString "least"),v1,v2,.int (jl w n 2).1])
 have hl:Held (upd (upd H2 d (dlO w (jl w n 2).2)) t (.tup [V.str (Str.ofString "least"),v1,v2,.int (jl w n 2).1])) (noC (jl w n 2).1).toD (.ref t):=jQ jg (jh jj (jh (((k3.tk d2).held (h1.mono s2)).mono s4) (jh (((k3.tk d2).held h2).mono s4) (jh kP jt))))
 have k4:Keep d H _:=(Keep.same s12).trans (k3.trans (Keep.same s4))
 have d4:=s4 _ _ (show upd H2 d (dlO w (jl w n 2).2) d=some (dlO w (jl w n 2).2) from jg)
 have hv4:=((k3.tk d2).held (hv.mono s12)).mono s4
 generalize upd (upd H2 d (dlO w (jl w n 2).2)) t (.tup [V.str (Str.ofString "least"),v1,v2,.int (jl w n 2).1])=H4 at *
 generalize (jl w n 2).1=c at *
 generalize (jl w n 2).2=n1 at *
 clear s1 s2 h1 h2 s12 d2 k3 s4 ht
 refine gQ ?_
 have lo:=jR w n1 (m:=4) (by decide)
 have hi:=jL w n1 (m:=4) (by decide)
 have k5:=Keep.upd d H4 (dlO w (jl w n1 4).2)
 refine ⟨_,rfl,d,w,n1,4,rfl,d4,by decide,by decide,_,rfl,by omega,by omega,?_⟩
 let Pv:Nat→St→Hp→Prop:=fun i σ G=>∃ u3 u4 v n' fs,σ=[some (.ref d),some v,some (.ref t),u3,u4]∧Keep d H G∧G d=some (dlO w n')∧fs.length=i∧Held G (noC c).toD (.ref t)∧Held G (yi c fs e) v
 refine yT Pv ⟨none,none,v,_,[],rfl,k4.trans k5,jg,rfl,(k5.tk d4).held hl,(k5.tk d4).held hv4⟩ ?_ ?_
 ·rintro i σ G hi' ⟨u3,u4,v,n',fs,rfl,kG,dG,hfs,hlG,hvG⟩
  have k6:=Keep.upd d G (dlO w (jl w n' 3).2)
  have hl6:=(k6.tk dG).held hlG
  have hv6:=(k6.tk dG).held hvG
  refine gQ ?_
  refine ⟨_,rfl,d,w,n',3,rfl,dG,by decide,by decide,?_⟩
  have d6:upd G d (dlO w (jl w n' 3).2) d=some (dlO w (jl w n' 3).2):=jg
  generalize upd G d (dlO w (jl w n' 3).2)=G6 at *
  generalize jl w n' 3=y at *
  obtain ⟨y,n2⟩:=y
  dsimp only at d6
  refine gQ ?_
  have fin:∀ {u:V} {G7:Hp},Same G6 G7→Held G7 (Kk c y (yi c fs e)) u→Pv (i+1) [some (.ref d),some u,some (.ref t),some (.int (0+(i:Nat))),some (.int y)] G7:=fun {u G7} s h=>⟨_,_,u,n2,y :: fs,rfl,kG.trans (k6.trans (Keep.same s)),s _ _ d6,by rw [List.length_cons,hfs],hl6.mono s,h⟩
  refine ⟨_,rfl,rfl,_,rfl,jU (fun z=>?_) (fun z=>?_)⟩
  ·have z':y=0:=by have:=of_decide_eq_true z;injection this
   refine ⟨Kk c 0 (yi c fs e),⟨_,rfl,Nat.le_of_ble_eq_true rfl,_,_,rfl,rfl,_,_,rfl,⟨_,rfl,hl6⟩,_,_,rfl,⟨_,rfl,Nat.le_of_ble_eq_true rfl,rfl⟩,_,_,rfl,⟨_,rfl,Nat.le_of_ble_eq_true rfl,_,_,rfl,⟨_,rfl,hv6⟩,rfl⟩,rfl⟩,fun u G7 s7 h7=>?_⟩
   refine gQ ?_
   exact fin s7 (by rw [z'];exact h7)
  ·have z0:¬ y=0:=fun h=>z (decide_eq_true (congrArg V.int h))
   refine ⟨_,rfl,rfl,_,rfl,jU (fun z=>?_) (fun z=>?_)⟩
   ·have z':y=1:=by have:=of_decide_eq_true z;injection this
    refine ⟨Kk c 1 (yi c fs e),⟨_,rfl,Nat.le_of_ble_eq_true rfl,_,_,rfl,rfl,_,_,rfl,⟨_,rfl,hl6⟩,_,_,rfl,⟨_,rfl,Nat.le_of_ble_eq_true rfl,_,_,rfl,⟨_,rfl,hv6⟩,rfl⟩,_,_,rfl,⟨_,rfl,Nat.le_of_ble_eq_true rfl,rfl⟩,rfl⟩,fun u G7 s7 h7=>?_⟩
    refine gQ ?_
    exact fin s7 (by rw [z'];exact h7)
   ·have z1:¬ y=1:=fun h=>z (decide_eq_true (congrArg V.int h))
    refine ⟨Kk c 2 (yi c fs e),⟨_,rfl,Nat.le_of_ble_eq_true rfl,_,_,rfl,rfl,_,_,rfl,⟨_,rfl,hl6⟩,_,_,rfl,⟨_,rfl,Nat.le_of_ble_eq_true rfl,rfl⟩,_,_,rfl,⟨_,rfl,Nat.le_of_ble_eq_true rfl,_,_,rfl,⟨_,rfl,hv6⟩,rfl⟩,rfl⟩,fun u G7 s7 h7=>?_⟩
    refine gQ ?_
    refine fin s7 ?_
    unfold Kk at h7 ⊢
    rw [if_neg z0,if_neg z1]
    rw [if_neg (by decide),if_neg (by decide)] at h7
    exact h7
 rintro σ G ⟨u3,u4,v,n',fs,rfl,kG,dG,hfs,hlG,hvG⟩
 exact ⟨_,rfl,q v G n' c fs kG dG (by omega) hvG⟩
end
abbrev jaO:Stmt:=top 46
def pcW (f:Str) (ps rs:List Str) (nd gv:List Cl):Pc:=⟨f,ps,rs,nd,gv,4,[]⟩
def hdW (a b r s:Str):List (List Str×List Str):=[([a,a],[r,s]),([a,b],[r,r]),([a,r],[r,s]),(["out",a],[r,s]),([a,b],["out",r])]
def clW (a r x:Str):List Cl:=[.least (.is x) (.is a) 5,.least (.is "out") (.is a) 5,.least (.at_ r x 1) (.is a) 0,.each "" 0 x 2 r ">=" (.is a) 0,.rise "" 0 a 1 x]
def clG (a r x:Str):List Cl:=[.least (.is x) (.is "out") 5,.least (.at_ r x 1) (.is a) 0,.each "" 0 x 2 r ">=" (.is a) 0,.rise "" 0 a 1 x]
def jdy (f a b r s x:Str) (p:Pc):Prop:=(∃ c∈hdW a b r s,p=pcW f c.1 c.2 [] [])∨(∃ C∈clW a r x,p=pcW f [a,b] [r,s] [C] [])∨∃ C∈clG a r x,p=pcW f [a,b] [r,s] [] [C]
def jaH:Sp:=fun vs H Q _=>∃ (way:Int) (v:V) (f a b r s x st:Str),vs=[.int way,v,.str x,.str st]∧0≤way∧way≤13∧Held H (pcW f [a,b] [r,s] [] []).toD v∧∀ u H' p,jdy f a b r s x p→Same H H'→Held H' p.toD u→Q u H'
theorem jd5 {H:Hp} {f a b r s:Str} {v:V} (h:Held H (pcW f [a,b] [r,s] [] []).toD v):∃ p ap ar an ag ab,v=.ref p∧H p=some (.tup [.str "proc",.str f,.ref ap,.ref ar,.ref an,.ref ag,.ref ab])∧H ap=some (.tup [.str a,.str b])∧H ar=some (.tup [.str r,.str s]):=by
 obtain ⟨p,ap,ar,an,ag,ab,vn,vg,vb,rfl,ha,hap,har,-⟩:=y7 h
 exact ⟨p,ap,ar,an,ag,ab,rfl,ha,hap,har⟩
section
variable {P:Program} {w:World} {K:W.Frag} {mg:Str→Option Value} {base:Heap}
theorem jcL {f:Addr} {fd:FuncData} (F:Fun K "_law_head" "_law_head" jaO f fd):FnOk P w K mg base CX0 1 f fd ["_law_way_of","_law_proc_here","_law_x","_law_strange"] jaH:=by
 have sc:FnScope ["_law_way_of","_law_proc_here","_law_x","_law_strange","_law_word","_law_f","_law_params","_law_rows","_law_needs","_law_gives","_law_body_here","_law_a","_law_b","_law_r","_law_s","_law_heads","_law_wrong_here","_law_claims_here"] ["_law_way_of","_law_proc_here","_law_x","_law_strange"] (jw jaO):=fQ
 refine F.okZ sc (fun vs H Q E h=>?_) (fun cdv A outer s H vs Q E hr h=>?_)
 ·obtain ⟨way,v,f,a,b,r,s,x,st,rfl,_⟩:=h
  rfl
 obtain ⟨way,v,g,a,b,r,s,x,st,rfl,h0,h13,hv,q⟩:=h
 refine ⟨_,(je (ql (zpv 1) (qR rfl (jJ (jy (i:=4) sc.nd rfl oQ) (jJ (jy (i:=5) sc.nd rfl oQ) (jJ (jy (i:=6) sc.nd rfl oQ) (jJ (jy (i:=7) sc.nd rfl oQ) (jJ (jy (i:=8) sc.nd rfl oQ) (jJ (jy (i:=9) sc.nd rfl oQ) (jJ (jy (i:=10) sc.nd rfl oQ) kX)))))))))
   (je (ql (zpv 6) (qR rfl (jJ (jy (i:=11) sc.nd rfl oQ) (jJ (jy (i:=12) sc.nd rfl oQ) kX))))
   (je (ql (zpv 7) (qR rfl (jJ (jy (i:=13) sc.nd rfl oQ) (jJ (jy (i:=14) sc.nd rfl oQ) kX))))
   (je (js (i:=15) sc.nd rfl oQ (jM (jb (zpd (jp (ja (jp (ja (jo 11) (ja (jo 11) jm))) (ja (jo 7) jm)))) (jb (zpd (jp (ja (jo 6) (ja (jp (ja (jo 13) (ja (jo 13) jm))) jm)))) (jb (zpd (jp (ja (jp (ja (jo 11) (ja (jo 13) jm))) (ja (jo 7) jm)))) (jb (zpd (jp (ja (jp (ja jF (ja (jo 11) jm))) (ja (jo 7) jm)))) (jb (zpd (jp (ja (jo 6) (ja (jp (ja jF (ja (jo 13) jm))) jm)))) jd)))))))
   (je (jT (jv yw (zpv 0) ji (jP _)) (jn (jB (jX (jb (zpv 4) (jb (zpv 5) (jb (jz jS (jz jW (zpv 15) (zpv 0) (fun _ _=>rfl)) ji (fun _ _=>rfl)) (jb (jz jS (jz jW (zpv 15) (zpv 0) (fun _ _=>rfl)) ji (fun _ _=>rfl)) (jb (zpd (jp jm)) (jb (zpd (jp jm)) (jb (zpd (jp jm)) jd)))))))))) jA)
   (je (js (i:=16) sc.nd rfl oQ (zpd (jp (ja jF (ja (jp (ja jF (ja (je2 (jz jW (jM (jb (zpv 2) (jb jq jd))) (jD zx (zpv 0) ji) (fun _ _=>rfl))) jm))) (ja (jp (ja jF (ja (jo 11) jm))) (ja kg jm)))))))
   (je (jT (jv yw (zpv 0) ji (jP _)) (jn (jB (zpd (jp (ja (jo 4) (ja (jo 5) (ja (jo 6) (ja (jo 7) (ja (jp (ja (jo 16) jm)) (ja (jp jm) (ja (jp jm) jm))))))))))) jA)
   (je (jT (jv kq (zpv 0) ji (jP _)) (jn (jB (zpd (jp (ja (jo 4) (ja (jo 5) (ja (jo 6) (ja (jo 7) (ja (jp jm) (ja (jp (ja (jp (ja jF (ja (jp (ja jF (ja (jo 2) jm))) (ja (jp (ja jF (ja jF jm))) (ja kg jm))))) jm)) (ja (jp jm) jm))))))))))) jA)
   (je (jT (jv Jp (zpv 0) ji (jP _)) (je (js (i:=16) sc.nd rfl oQ (zpd (jp (ja jF (ja (jp (ja jF (ja (jo 13) (ja (jp (ja (jo 2) (ja kg jm))) jm)))) (ja (jp (ja jF (ja (jo 11) jm))) (ja kg jm)))))))
   (je (jT (jv kq (jD zx (zpv 0) ji) ji (jP _)) (jn (js (i:=16) sc.nd rfl oQ (zpd (jp (ja jF (ja (jp (ja jF (ja kg jm))) (ja (jp (ja (jo 2) (ja kg jm))) (ja (jo 13) (ja jF (ja (jp (ja jF (ja (jo 11) jm))) (ja kg jm))))))))))) jA)
   (je (js (i:=17) sc.nd rfl oQ (jz jW (jM (jb (zpd (jp (ja (jp (ja (jo 16) jm)) (ja (jp jm) jm)))) (jb (zpd (jp (ja (jp jm) (ja (jp (ja (jo 16) jm)) jm)))) jd))) (jD yx (zpv 0) ji) (fun _ _=>rfl)))
   (jn (jB (jD qD (jD qD (zpd (jp (ja (jo 4) (ja (jo 5) (ja (jo 6) (ja (jo 7) jm)))))) (zpv 17)) (zpd (jp (ja (jp jm) jm))))))))) jA)
   (je (js (i:=16) sc.nd rfl oQ (zpd (jp (ja jF (ja (jp (ja jF (ja kg jm))) (ja (jp (ja (jo 11) (ja kg jm))) (ja (jo 2) jm)))))))
   (je (jT (jv kq (zpv 0) ji (jP _)) (jn (jB (zpd (jp (ja (jo 4) (ja (jo 5) (ja (jo 6) (ja (jo 7) (ja (jp (ja (jo 16) jm)) (ja (jp jm) (ja (jp jm) jm))))))))))) jA)
   (jn (jB (zpd (jp (ja (jo 4) (ja (jo 5) (ja (jo 6) (ja (jo 7) (ja (jp jm) (ja (jp (ja (jo 16) jm)) (ja (jp jm) jm)))))))))))))))))))))),?_⟩
 try dsimp only [q0]
 obtain ⟨p,ap,ar,an,ag,ab,rfl,hp,hap,har⟩:=jd5 hv
 refine kb (σ':=[some (.int way),some (.ref p),some (.str x),some (.str st),none,none,none,none,none,none,none,none,none,none,none,none,none,none]) rfl ?_
 refine ⟨_,rfl,p,_,rfl,SqT.of hp,rfl,_,_,rfl,_,_,rfl,_,_,rfl,_,_,rfl,_,_,rfl,_,_,rfl,_,_,rfl,rfl,?_⟩
 refine kb (σ':=[some (.int way),some (.ref p),some (.str x),some (.str st),some (.str "proc"),some (.str g),some (.ref ap),some (.ref ar),some (.ref an),some (.ref ag),some (.ref ab),none,none,none,none,none,none,none]) rfl ?_
 refine ⟨_,rfl,ap,_,rfl,SqT.of hap,rfl,_,_,rfl,_,_,rfl,rfl,?_⟩
 refine kb (σ':=[some (.int way),some (.ref p),some (.str x),some (.str st),some (.str "proc"),some (.str g),some (.ref ap),some (.ref ar),some (.ref an),some (.ref ag),some (.ref ab),some (.str a),some (.str b),none,none,none,none,none]) rfl ?_
 refine ⟨_,rfl,ar,_,rfl,SqT.of har,rfl,_,_,rfl,_,_,rfl,rfl,?_⟩
 refine kb (σ':=[some (.int way),some (.ref p),some (.str x),some (.str st),some (.str "proc"),some (.str g),some (.ref ap),some (.ref ar),some (.ref an),some (.ref ag),some (.ref ab),some (.str a),some (.str b),some (.str r),some (.str s),none,none,none]) rfl ?_
 have hP:Held H (.tup ([a,b].map D.str)) (.ref ap):=jQ hap (qy _)
 have hR:Held H (.tup ([r,s].map D.str)) (.ref ar):=jQ har (qy _)
 refine ⟨cnD ([a,a],[r,s]),⟨_,rfl,Nat.le_of_ble_eq_true rfl,_,_,rfl,⟨_,rfl,Nat.le_of_ble_eq_true rfl,_,_,rfl,⟨_,rfl,jj⟩,_,_,rfl,⟨_,rfl,jj⟩,rfl⟩,_,_,rfl,⟨_,rfl,hR⟩,rfl⟩,fun v1 G1 s1 h1=>⟨cnD ([a,b],[r,r]),⟨_,rfl,Nat.le_of_ble_eq_true rfl,_,_,rfl,⟨_,rfl,(hP.mono s1)⟩,_,_,rfl,⟨_,rfl,Nat.le_of_ble_eq_true rfl,_,_,rfl,⟨_,rfl,jj⟩,_,_,rfl,⟨_,rfl,jj⟩,rfl⟩,rfl⟩,fun v2 G2 s2 h2=>⟨cnD ([a,r],[r,s]),⟨_,rfl,Nat.le_of_ble_eq_true rfl,_,_,rfl,⟨_,rfl,Nat.le_of_ble_eq_true rfl,_,_,rfl,⟨_,rfl,jj⟩,_,_,rfl,⟨_,rfl,jj⟩,rfl⟩,_,_,rfl,⟨_,rfl,(hR.mono (s1.trans s2))⟩,rfl⟩,fun v3 G3 s3 h3=>⟨cnD (["out",a],[r,s]),⟨_,rfl,Nat.le_of_ble_eq_true rfl,_,_,rfl,⟨_,rfl,Nat.le_of_ble_eq_true rfl,_,_,rfl,rfl,_,_,rfl,⟨_,rfl,jj⟩,rfl⟩,_,_,rfl,⟨_,rfl,(hR.mono (s1.trans (s2.trans s3)))⟩,rfl⟩,fun v4 G4 s4 h4=>⟨cnD ([a,b],["out",r]),⟨_,rfl,Nat.le_of_ble_eq_true rfl,_,_,rfl,⟨_,rfl,(hP.mono (s1.trans (s2.trans (s3.trans s4))))⟩,_,_,rfl,⟨_,rfl,Nat.le_of_ble_eq_true rfl,_,_,rfl,rfl,_,_,rfl,⟨_,rfl,jj⟩,rfl⟩,rfl⟩,fun v5 G5 s5 h5=>⟨sm rfl,fun l hl=>?_⟩⟩⟩⟩⟩⟩
 have sp:=jr hl (.lst [v1,v2,v3,v4,v5])
 have el:upd G5 l (.lst [v1,v2,v3,v4,v5]) l=some (.lst [v1,v2,v3,v4,v5]):=jg
 have hC:HeldL _ ((hdW a b r s).map cnD) _:=jh (h1.mono (s2.trans (s3.trans (s4.trans (s5.trans sp))))) (jh (h2.mono (s3.trans (s4.trans (s5.trans sp)))) (jh (h3.mono (s4.trans (s5.trans sp))) (jh (h4.mono (s5.trans sp)) (jh (h5.mono sp) jt))))
 have sH:=s1.trans (s2.trans (s3.trans (s4.trans (s5.trans sp))))
 generalize upd G5 l (.lst [v1,v2,v3,v4,v5])=H1 at *
 generalize [v1,v2,v3,v4,v5]=cv at *
 replace hP:=hP.mono sH
 replace hR:=hR.mono sH
 clear s1 s2 s3 s4 s5 sp h1 h2 h3 h4 h5
 refine gQ ?_
 refine ⟨_,rfl,_,_,rfl,rfl,_,rfl,jU (fun c=>?_) (fun c=>?_)⟩
 ·have c':way < 5:=of_decide_eq_true c
  have hj:way.toNat < (hdW a b r s).length:=by show way.toNat < 5;omega
  obtain ⟨v,ev,hv⟩:=hC.get (j:=way.toNat) (d:=cnD (hdW a b r s)[way.toNat]) (by rw [List.getElem?_map,List.getElem?_eq_getElem hj];rfl)
  have hmem:=List.getElem_mem hj
  generalize (hdW a b r s)[way.toNat]=cc at *
  obtain ⟨t,ys,rfl,ht,k5⟩:=jC hv
  obtain ⟨y1,r1,rfl,g1,k6⟩:=jk k5
  obtain ⟨y2,r2,rfl,g2,k7⟩:=jk k6
  cases jK k7
  have hat:atI cv way=some (.ref t):=by
   have ek:way=((way.toNat:Nat):Int):=by omega
   rw [ek];exact ko ev
  refine ⟨_,rfl,_,rfl,_,rfl,_,rfl,l,_,_,_,rfl,rfl,SqL.of el,hat,t,_,_,_,rfl,rfl,SqT.of ht,ko (j:=0) rfl,_,rfl,_,rfl,l,_,_,_,rfl,rfl,SqL.of el,hat,t,_,_,_,rfl,rfl,SqT.of ht,ko (j:=1) rfl,.tup [],⟨_,rfl,Nat.le_of_ble_eq_true rfl,rfl⟩,fun w1 K1 k1 j1=>⟨.tup [],⟨_,rfl,Nat.le_of_ble_eq_true rfl,rfl⟩,fun w2 K2 k2 j2=>⟨.tup [],⟨_,rfl,Nat.le_of_ble_eq_true rfl,rfl⟩,fun w3 K3 k3 j3=>⟨sm rfl,fun z hz=>?_⟩⟩⟩⟩
  have k4:=jr hz (.tup [V.str (Str.ofString "proc"),V.str g,y1,y2,w1,w2,w3])
  have k14:=k1.trans (k2.trans (k3.trans k4))
  refine q _ _ (pcW g cc.1 cc.2 [] []) (.inl ⟨cc,hmem,rfl⟩) (sH.trans k14) ?_
  exact jQ jg (jh jj (jh jj (jh (g1.mono k14) (jh (g2.mono k14) (jh (j1.mono (k2.trans (k3.trans k4))) (jh (j2.mono (k3.trans k4)) (jh (j3.mono k4) jt)))))))
 have c5:¬ way < 5:=fun h=>c (decide_eq_true h)
 have hxo:atI [V.str x,V.str (Str.ofString "out")] (way % 2)=some (.str (if way % 2=0 then x else Str.ofString "out")):=by
  have:way % 2=0∨way % 2=1:=by omega
  rcases this with h | h <;> rw [h] <;> rfl
 refine ⟨(Cl.least (.is (if way % 2=0 then x else Str.ofString "out")) (.is a) 5).toD,⟨_,rfl,Nat.le_of_ble_eq_true rfl,_,_,rfl,rfl,_,_,rfl,⟨_,rfl,Nat.le_of_ble_eq_true rfl,_,_,rfl,rfl,_,_,rfl,(fun G sG Q q=>⟨_,rfl,sm rfl,fun p2 hp2=>⟨_,rfl,_,_,rfl,rfl,(by show (0:Int) < 2;decide),p2,_,_,_,rfl,rfl,SqL.of jg,hxo,q _ _ (jr hp2 _) jj⟩⟩),rfl⟩,_,_,rfl,⟨_,rfl,Nat.le_of_ble_eq_true rfl,_,_,rfl,rfl,_,_,rfl,⟨_,rfl,jj⟩,rfl⟩,_,_,rfl,rfl,rfl⟩,fun vw H2 s2 hw=>?_⟩
 refine gQ ?_
 refine ⟨_,rfl,_,_,rfl,rfl,_,rfl,jU (fun c=>?_) (fun c=>?_)⟩
 ·refine ⟨(pcW g [a,b] [r,s] [.least (.is (if way % 2=0 then x else Str.ofString "out")) (.is a) 5] []).toD,⟨_,rfl,Nat.le_of_ble_eq_true rfl,_,_,rfl,⟨_,rfl,jj⟩,_,_,rfl,⟨_,rfl,jj⟩,_,_,rfl,⟨_,rfl,(hP.mono s2)⟩,_,_,rfl,⟨_,rfl,(hR.mono s2)⟩,_,_,rfl,⟨_,rfl,Nat.le_of_ble_eq_true rfl,_,_,rfl,⟨_,rfl,hw⟩,rfl⟩,_,_,rfl,⟨_,rfl,Nat.le_of_ble_eq_true rfl,rfl⟩,_,_,rfl,⟨_,rfl,Nat.le_of_ble_eq_true rfl,rfl⟩,rfl⟩,fun u G s3 h3=>?_⟩
  refine q u G _ (.inr (.inl ⟨_,?_,rfl⟩)) (sH.trans (s2.trans s3)) h3
  split
  ·exact List.mem_cons_self ..
  ·exact List.mem_cons_of_mem _ (List.mem_cons_self ..)
 have c7:¬ way < 7:=fun h=>c (decide_eq_true h)
 refine ⟨_,rfl,rfl,_,rfl,jU (fun c=>?_) (fun c=>?_)⟩
 ·refine ⟨(pcW g [a,b] [r,s] [] [.least (.is x) (.is "out") 5]).toD,⟨_,rfl,Nat.le_of_ble_eq_true rfl,_,_,rfl,⟨_,rfl,jj⟩,_,_,rfl,⟨_,rfl,jj⟩,_,_,rfl,⟨_,rfl,(hP.mono s2)⟩,_,_,rfl,⟨_,rfl,(hR.mono s2)⟩,_,_,rfl,⟨_,rfl,Nat.le_of_ble_eq_true rfl,rfl⟩,_,_,rfl,⟨_,rfl,Nat.le_of_ble_eq_true rfl,_,_,rfl,⟨_,rfl,Nat.le_of_ble_eq_true rfl,_,_,rfl,rfl,_,_,rfl,⟨_,rfl,Nat.le_of_ble_eq_true rfl,_,_,rfl,rfl,_,_,rfl,⟨_,rfl,jj⟩,rfl⟩,_,_,rfl,⟨_,rfl,Nat.le_of_ble_eq_true rfl,_,_,rfl,rfl,_,_,rfl,rfl,rfl⟩,_,_,rfl,rfl,rfl⟩,rfl⟩,_,_,rfl,⟨_,rfl,Nat.le_of_ble_eq_true rfl,rfl⟩,rfl⟩,fun u G s3 h3=>?_⟩
  exact q u G _ (.inr (.inr ⟨_,List.mem_cons_self ..,rfl⟩)) (sH.trans (s2.trans s3)) h3
 have c7':¬ way=7:=fun h=>c (decide_eq_true (congrArg V.int h))
 replace sH:=sH.trans s2
 replace hP:=hP.mono s2
 replace hR:=hR.mono s2
 clear hw s2 hC el c
 refine ⟨_,rfl,_,_,rfl,rfl,_,rfl,jU (fun c=>?_) (fun c=>?_)⟩
 ·have c9:=of_decide_eq_true c
  refine ⟨(Cl.least (.at_ r x 1) (.is a) 0).toD,⟨_,rfl,Nat.le_of_ble_eq_true rfl,_,_,rfl,rfl,_,_,rfl,⟨_,rfl,Nat.le_of_ble_eq_true rfl,_,_,rfl,rfl,_,_,rfl,⟨_,rfl,jj⟩,_,_,rfl,⟨_,rfl,Nat.le_of_ble_eq_true rfl,_,_,rfl,⟨_,rfl,jj⟩,_,_,rfl,rfl,rfl⟩,rfl⟩,_,_,rfl,⟨_,rfl,Nat.le_of_ble_eq_true rfl,_,_,rfl,rfl,_,_,rfl,⟨_,rfl,jj⟩,rfl⟩,_,_,rfl,rfl,rfl⟩,fun v3 H3 s3 h3=>?_⟩
  refine gQ ?_
  dsimp only
  refine jbe (fun σ G=>∃ C v,σ=[some (.int way),some (.ref p),some (.str x),some (.str st),some (.str "proc"),some (.str g),some (.ref ap),some (.ref ar),some (.ref an),some (.ref ag),some (.ref ab),some (.str a),some (.str b),some (.str r),some (.str s),some (.ref l),some v,none]∧Same H3 G∧C∈clW a r x∧C∈clG a r x∧Held G C.toD v) ?_ (fun kk=>?_)
  rotate_left
  ·refine ⟨_,rfl,_,_,rfl,rfl,(by show (0:Int) < 2;decide),rfl,_,rfl,jU (fun z=>?_) (fun z=>?_)⟩
   ·refine ⟨(Cl.each "" 0 x 2 r ">=" (.is a) 0).toD,⟨_,rfl,Nat.le_of_ble_eq_true rfl,_,_,rfl,rfl,_,_,rfl,⟨_,rfl,Nat.le_of_ble_eq_true rfl,_,_,rfl,rfl,_,_,rfl,rfl,rfl⟩,_,_,rfl,⟨_,rfl,Nat.le_of_ble_eq_true rfl,_,_,rfl,⟨_,rfl,jj⟩,_,_,rfl,rfl,rfl⟩,_,_,rfl,⟨_,rfl,jj⟩,_,_,rfl,rfl,_,_,rfl,⟨_,rfl,Nat.le_of_ble_eq_true rfl,_,_,rfl,rfl,_,_,rfl,⟨_,rfl,jj⟩,rfl⟩,_,_,rfl,rfl,rfl⟩,fun v4 H4 s4 h4=>?_⟩
    refine gQ ?_
    exact kk _ _ ⟨_,v4,rfl,s4,List.mem_cons_of_mem _ (List.mem_cons_of_mem _ (List.mem_cons_of_mem _ (List.mem_cons_self ..))),List.mem_cons_of_mem _ (List.mem_cons_of_mem _ (List.mem_cons_self ..)),h4⟩
   ·exact kk _ _ ⟨_,v3,rfl,fun _ _ e=>e,List.mem_cons_of_mem _ (List.mem_cons_of_mem _ (List.mem_cons_self ..)),List.mem_cons_of_mem _ (List.mem_cons_self ..),h3⟩
  rintro σ G ⟨C,v,rfl,sG,hC1,hC2,hCv⟩
  replace sH:=sH.trans (s3.trans sG)
  replace hP:=hP.mono (s3.trans sG)
  replace hR:=hR.mono (s3.trans sG)
  refine ⟨.tup [.tup [C.toD],.tup []],⟨_,rfl,Nat.le_of_ble_eq_true rfl,_,_,rfl,⟨_,rfl,Nat.le_of_ble_eq_true rfl,_,_,rfl,⟨_,rfl,hCv⟩,rfl⟩,_,_,rfl,⟨_,rfl,Nat.le_of_ble_eq_true rfl,rfl⟩,rfl⟩,fun w1 K1 k1 j1=>⟨.tup [.tup [],.tup [C.toD]],⟨_,rfl,Nat.le_of_ble_eq_true rfl,_,_,rfl,⟨_,rfl,Nat.le_of_ble_eq_true rfl,rfl⟩,_,_,rfl,⟨_,rfl,Nat.le_of_ble_eq_true rfl,_,_,rfl,⟨_,rfl,(hCv.mono k1)⟩,rfl⟩,rfl⟩,fun w2 K2 k2 j2=>⟨sm rfl,fun l2 hl2=>?_⟩⟩⟩
  have k3:=jr hl2 (.lst [w1,w2])
  have el2:upd K2 l2 (.lst [w1,w2]) l2=some (.lst [w1,w2]):=jg
  have j1':=j1.mono (k2.trans k3)
  have j2':=j2.mono k3
  generalize upd K2 l2 (.lst [w1,w2])=K3 at *
  have k13:=k1.trans (k2.trans k3)
  obtain ⟨nd,gv,wz,hat,hnd,hz,hmem⟩:∃ (nd gv:List Cl) (wz:V),atI [w1,w2] (way / 12)=some wz∧((nd=[C]∧gv=[])∨(nd=[]∧gv=[C]))∧Held K3 (.tup [.tup (nd.map Cl.toD),.tup (gv.map Cl.toD)]) wz∧jdy g a b r s x (pcW g [a,b] [r,s] nd gv):=by
   have:way / 12=0∨way / 12=1:=by omega
   rcases this with h | h <;> rw [h]
   ·exact ⟨[C],[],w1,rfl,.inl ⟨rfl,rfl⟩,j1',.inr (.inl ⟨C,hC1,rfl⟩)⟩
   ·exact ⟨[],[C],w2,rfl,.inr ⟨rfl,rfl⟩,j2',.inr (.inr ⟨C,hC2,rfl⟩)⟩
  refine ⟨_,rfl,_,_,rfl,rfl,⟨by decide,by decide⟩,l2,_,_,wz,rfl,rfl,SqL.of el2,hat,?_⟩
  refine gQ ?_
  obtain ⟨z,zs,rfl,hzt,m1⟩:=jC hz
  obtain ⟨y1,r1,rfl,g1,m2⟩:=jk m1
  obtain ⟨y2,r2,rfl,g2,m3⟩:=jk m2
  cases jK m3
  have hP3:=hP.mono k13
  have hR3:=hR.mono k13
  refine ⟨.tup [.str "proc",.str g,.tup ([a,b].map D.str),.tup ([r,s].map D.str)],⟨_,rfl,Nat.le_of_ble_eq_true rfl,_,_,rfl,⟨_,rfl,jj⟩,_,_,rfl,⟨_,rfl,jj⟩,_,_,rfl,⟨_,rfl,hP3⟩,_,_,rfl,⟨_,rfl,hR3⟩,rfl⟩,fun u5 K5 k5 j5=>?_⟩
  obtain ⟨t5,zs5,rfl,ht5,m5⟩:=jC j5
  have l5:=m5.length
  refine ⟨_,rfl,t5,z,_,_,rfl,rfl,ht5,k5 _ _ hzt,kc (by rw [← l5];exact Nat.le_of_ble_eq_true rfl),fun t6 K6 k6 e6=>?_⟩
  have m6:=qi (m5.mono k6) (jh (g1.mono (k5.trans k6)) (jh (g2.mono (k5.trans k6)) jt))
  refine ⟨.tup [.tup []],⟨_,rfl,Nat.le_of_ble_eq_true rfl,_,_,rfl,⟨_,rfl,Nat.le_of_ble_eq_true rfl,rfl⟩,rfl⟩,fun u7 K7 k7 j7=>?_⟩
  obtain ⟨t7,zs7,rfl,ht7,m7⟩:=jC j7
  refine ⟨t6,t7,_,_,rfl,rfl,k7 _ _ e6,ht7,kc (by rw [← m6.length,← m7.length];exact Nat.le_of_ble_eq_true rfl),fun t8 K8 k8 e8=>?_⟩
  refine q _ K8 _ hmem (sH.trans (k13.trans (k5.trans (k6.trans (k7.trans k8))))) (jQ e8 ?_)
  exact qi (m6.mono (k7.trans k8)) (m7.mono k8)
 refine ⟨(Cl.rise "" 0 a 1 x).toD,⟨_,rfl,Nat.le_of_ble_eq_true rfl,_,_,rfl,rfl,_,_,rfl,⟨_,rfl,Nat.le_of_ble_eq_true rfl,_,_,rfl,rfl,_,_,rfl,rfl,rfl⟩,_,_,rfl,⟨_,rfl,Nat.le_of_ble_eq_true rfl,_,_,rfl,⟨_,rfl,jj⟩,_,_,rfl,rfl,rfl⟩,_,_,rfl,⟨_,rfl,jj⟩,rfl⟩,fun v3 H3 s3 h3=>?_⟩
 refine gQ ?_
 refine ⟨_,rfl,rfl,_,rfl,jU (fun z=>?_) (fun z=>?_)⟩
 ·refine ⟨(pcW g [a,b] [r,s] [.rise "" 0 a 1 x] []).toD,⟨_,rfl,Nat.le_of_ble_eq_true rfl,_,_,rfl,⟨_,rfl,jj⟩,_,_,rfl,⟨_,rfl,jj⟩,_,_,rfl,⟨_,rfl,(hP.mono s3)⟩,_,_,rfl,⟨_,rfl,(hR.mono s3)⟩,_,_,rfl,⟨_,rfl,Nat.le_of_ble_eq_true rfl,_,_,rfl,⟨_,rfl,h3⟩,rfl⟩,_,_,rfl,⟨_,rfl,Nat.le_of_ble_eq_true rfl,rfl⟩,_,_,rfl,⟨_,rfl,Nat.le_of_ble_eq_true rfl,rfl⟩,rfl⟩,fun u G s4 h4=>?_⟩
  exact q u G _ (.inr (.inl ⟨_,List.mem_cons_of_mem _ (List.mem_cons_of_mem _ (List.mem_cons_of_mem _ (List.mem_cons_of_mem _ (List.mem_cons_self ..)))),rfl⟩)) (sH.trans (s3.trans s4)) h4
 ·refine ⟨(pcW g [a,b] [r,s] [] [.rise "" 0 a 1 x]).toD,⟨_,rfl,Nat.le_of_ble_eq_true rfl,_,_,rfl,⟨_,rfl,jj⟩,_,_,rfl,⟨_,rfl,jj⟩,_,_,rfl,⟨_,rfl,(hP.mono s3)⟩,_,_,rfl,⟨_,rfl,(hR.mono s3)⟩,_,_,rfl,⟨_,rfl,Nat.le_of_ble_eq_true rfl,rfl⟩,_,_,rfl,⟨_,rfl,Nat.le_of_ble_eq_true rfl,_,_,rfl,⟨_,rfl,h3⟩,rfl⟩,_,_,rfl,⟨_,rfl,Nat.le_of_ble_eq_true rfl,rfl⟩,rfl⟩,fun u G s4 h4=>?_⟩
  exact q u G _ (.inr (.inr ⟨_,List.mem_cons_of_mem _ (List.mem_cons_of_mem _ (List.mem_cons_of_mem _ (List.mem_cons_self ..))),rfl⟩)) (sH.trans (s3.trans s4)) h4
end
def Nd.plain:Nd→Prop
 | .leaf _=>True
 | .ite _ _ _ x y=>x=[]∧y=[]
 | .whl _ _ _ _ x=>x=[]
def jcU (n:Nat):Nd→StN (n+1)
 | .leaf S=>(Fo.leaf S:Fo (StN n))
 | .ite a b c _ _=>(Fo.ite a b c [] []:Fo (StN n))
 | .whl a b c ks _=>(Fo.whl a b c ks []:Fo (StN n))
theorem jek {n:Nat}:∀ {N:Nd},N.plain→JC (jcU n N)=N
 | .leaf _,_=>rfl
 | .ite _ _ _ _ _,h=>by obtain ⟨rfl,rfl⟩:=h;rfl
 | .whl _ _ _ _ _,h=>by cases (show _=[] from h);rfl
theorem jfw {n:Nat} {N:Nd} (h:N.plain):stD (n+1) (jcU n N)=N.toD:=by rw [je8,jek h]
theorem jcT {n:Nat}:∀ {N:Nd},N.plain→KW (jcU n N)=[N]
 | .leaf _,_=>rfl
 | .ite _ _ _ _ _,h=>by
  obtain ⟨rfl,rfl⟩:=h
  cases n <;> rfl
 | .whl _ _ _ _ _,h=>by
  cases (show _=[] from h)
  cases n <;> rfl
def qq (c:Int):List Int→Nd→(n:Nat)→StN (n+1)
 | [],N,n=>jcU n N
 | _ :: _,N,0=>jcU 0 N
 | f :: fs,N,n+1=>if f=0 then (Fo.whl (.is "") (.is "") c [] [qq c fs N n]:Fo (StN (n+1))) else if f=1 then (Fo.ite (.is "") (.is "") c [qq c fs N n] []:Fo (StN (n+1))) else (Fo.ite (.is "") (.is "") c [] [qq c fs N n]:Fo (StN (n+1)))
theorem jav {c f:Int} {fs:List Int} {N:Nd} {n:Nat} (h:f=0):qq c (f :: fs) N (n+1)=(Fo.whl (.is "") (.is "") c [] [qq c fs N n]:Fo (StN (n+1))):=if_pos h
theorem jau {c f:Int} {fs:List Int} {N:Nd} {n:Nat} (h:¬ f=0) (h1:f=1):qq c (f :: fs) N (n+1)=(Fo.ite (.is "") (.is "") c [qq c fs N n] []:Fo (StN (n+1))):=(if_neg h).trans (if_pos h1)
theorem jat {c f:Int} {fs:List Int} {N:Nd} {n:Nat} (h:¬ f=0) (h1:¬ f=1):qq c (f :: fs) N (n+1)=(Fo.ite (.is "") (.is "") c [] [qq c fs N n]:Fo (StN (n+1))):=(if_neg h).trans (if_neg h1)
theorem jas {c:Int} {N:Nd} (h:N.plain):∀ (fs:List Int) (n:Nat),fs.length≤n→stD (n+1) (qq c fs N n)=yi c fs N.toD
 | [],n,_=>jfw h
 | f :: fs,0,hn=>absurd hn (by simp)
 | f :: fs,n+1,hn=>by
  have ih:=jas (c:=c) h fs n (by simpa using hn)
  unfold yi Kk
  by_cases h0:f=0
  ·rw [jav h0,if_pos h0]
   show D.tup [_,_,_,D.tup [stD (n+1) (qq c fs N n)]]=_
   rw [ih];rfl
  by_cases h1:f=1
  ·rw [jau h0 h1,if_neg h0,if_pos h1]
   show D.tup [_,_,D.tup [stD (n+1) (qq c fs N n)],_]=_
   rw [ih];rfl
  ·rw [jat h0 h1,if_neg h0,if_neg h1]
   show D.tup [_,_,_,D.tup [stD (n+1) (qq c fs N n)]]=_
   rw [ih];rfl
def jeC (c:Int) (M:Nd):Prop:=(∃ y,M=.whl (.is "") (.is "") c [] y)∨∃ x y,M=.ite (.is "") (.is "") c x y
theorem Kh {n:Nat} (S:StN (n+1)):ku (n+1) [S]=KW S:=by rw [zX];exact List.append_nil _
theorem Yc {c:Int} {N:Nd} (h:N.plain):∀ (fs:List Int) (n:Nat),fs.length≤n→∃ pre,KW (qq c fs N n)=pre++[N]∧pre.length=fs.length∧∀ M∈pre,jeC c M
 | [],n,_=>⟨[],jcT h,rfl,fun _ h=>(nomatch h)⟩
 | f :: fs,0,hn=>absurd hn (by simp)
 | f :: fs,n+1,hn=>by
  obtain ⟨pre,e1,e2,e3⟩:=Yc (c:=c) h fs n (by simpa using hn)
  have go:∀ (S:StN (n+2)) (M:Nd),jeC c M→JC S=M→(kQ S).flatMap (ku (n+1))=KW (qq c fs N n)→∃ pre,KW S=pre++[N]∧pre.length=(f :: fs).length∧∀ M∈pre,jeC c M:=fun S M hM h1 h2=>by
   refine ⟨M :: pre,?_,by rw [List.length_cons,List.length_cons,e2],fun M' hM'=>?_⟩
   ·unfold KW
    rw [h1,h2,e1]
    rfl
   ·rcases List.mem_cons.mp hM' with rfl | hM'
    ·exact hM
    ·exact e3 M' hM'
  by_cases h0:f=0
  ·rw [jav h0]
   exact go _ _ (.inl ⟨_,rfl⟩) rfl (by show ku (n+1) [_]++[]=_;rw [List.append_nil,Kh])
  by_cases h1:f=1
  ·rw [jau h0 h1]
   exact go _ _ (.inr ⟨_,_,rfl⟩) rfl (by show ku (n+1) [_]++(ku (n+1) []++[])=_;rw [Kh];exact List.append_nil _)
  ·rw [jat h0 h1]
   exact go _ _ (.inr ⟨_,_,rfl⟩) rfl (by show ku (n+1) []++(ku (n+1) [_]++[])=_;rw [List.append_nil,Kh];rfl)
theorem JW {F:Nd→Option Rf} {N:Nd}:∀ {pre:List Nd},(∀ M∈pre,F M=none)→yd F (pre++[N])=F N
 | [],_=>by
  show (match F N with | some r=>some r | none=>none)=_
  cases F N <;> rfl
 | M :: pre,h=>by
  show yd F (M :: (pre++[N]))=_
  rw [yG,h M (List.mem_cons_self ..)]
  exact JW (fun M' h'=>h M' (List.mem_cons_of_mem _ h'))
structure Nms (x a b r s f st:Str):Prop where
 sx:NmW x
 sa:NmW a
 sb:NmW b
 sr:NmW r
 ss:NmW s
 sf:NmW f
 sst:NmW st
 nd:[a,b,x,r,s].Nodup
 o:Str.ofString "out" ∉ [a,b,x,r,s]
structure WrN (a b r s f st:Str) (N:Nd) (rf:Rf):Prop where
 pl:N.plain
 few:N.few
 sr:kJ N.rws
 sn:kJ N.ns
 t:∀ x,N.tgt=some x→x.length≤100
 c:∀ x g as q,N=.leaf (.call x g as q)→g.length≤100
 R:∀ (p:Pc) (T:Tks),p.ps=[a,b]→p.rs=[r,s]→T.find? (fun t=>t.1 == f)=some (f,2,2)→T.find? (fun t=>t.1 == st)=none→stR N p T=some rf
theorem jby {x a b r s f st:Str} (h:Nms x a b r s f st):∀ N∈JH x a b r s f st,WrN a b r s f st N .name:=by
 have lx:=j6 h.sx
 have la:=j6 h.sa
 have lb:=j6 h.sb
 have lr:=j6 h.sr
 have ls:=j6 h.ss
 have lf:=j6 h.sf
 have lst:=j6 h.sst
 have le:(Str.ofString "").length≤100:=by decide +kernel
 have er:¬ Str.ofString "" = r:=fun z=>JS h.sr z.symm
 have es:¬ Str.ofString "" = s:=fun z=>JS h.ss z.symm
 have nd:=h.nd
 simp only [List.nodup_cons,List.mem_cons,List.not_mem_nil,or_false,not_or,List.nodup_nil,and_true] at nd
 obtain ⟨⟨ab,ax,ar,as_⟩,⟨bx,br,bs⟩,⟨xr,xs⟩,rs⟩:=nd
 have xa:¬ x=a:=fun z=>ax z.symm
 have xb:¬ x=b:=fun z=>bx z.symm
 have ra:¬ r=a:=fun z=>ar z.symm
 have rb:¬ r=b:=fun z=>br z.symm
 intro N hN
 simp only [JH,List.mem_cons,List.not_mem_nil,or_false] at hN
 rcases hN with rfl | rfl | rfl | rfl | rfl | rfl | rfl | rfl | rfl | rfl | rfl | rfl | rfl | rfl | rfl | rfl | rfl | rfl | rfl | rfl | rfl | rfl
 all_goals
  refine ⟨by simp [Nd.plain],by simp [Nd.few,Sm.few],by simp [kJ,Nd.rws,Sm.rws,Tm.rws,Cl.rws,Bd.rws, *],by simp [kJ,Nd.ns,Sm.ns,Tm.ns,Cl.ns, *],by simp [Nd.tgt, *],fun _ _ _ _ e=>(by first | (cases e;assumption) | cases e),fun p T hp hr h1 h2=>?_⟩
  simp [stR,Yp,KR,Nd.rws,Sm.rws,Tm.rws,Cl.rws,Bd.rws,Nd.ns,Sm.ns,Tm.ns,Cl.ns,Nd.tgt,hp,hr,h1,h2, *]
theorem Z8 {x a b r s f st:Str} (h:Nms x a b r s f st):∀ N∈yO x a b r s f,WrN a b r s f st N.1 N.2:=by
 have lx:=j6 h.sx
 have la:=j6 h.sa
 have lb:=j6 h.sb
 have lr:=j6 h.sr
 have ls:=j6 h.ss
 have lf:=j6 h.sf
 have lst:=j6 h.sst
 have le:(Str.ofString "").length≤100:=by decide +kernel
 have er:¬ Str.ofString "" = r:=fun z=>JS h.sr z.symm
 have es:¬ Str.ofString "" = s:=fun z=>JS h.ss z.symm
 have nd:=h.nd
 simp only [List.nodup_cons,List.mem_cons,List.not_mem_nil,or_false,not_or,List.nodup_nil,and_true] at nd
 obtain ⟨⟨ab,ax,ar,as_⟩,⟨bx,br,bs⟩,⟨xr,xs⟩,rs⟩:=nd
 have xa:¬ x=a:=fun z=>ax z.symm
 have xb:¬ x=b:=fun z=>bx z.symm
 have ra:¬ r=a:=fun z=>ar z.symm
 have rb:¬ r=b:=fun z=>br z.symm
 intro N hN
 simp only [yO,cnL,cnW,List.map_cons,List.map_nil,List.cons_append,List.nil_append,List.mem_cons,List.not_mem_nil,or_false] at hN
 rcases hN with rfl | rfl | rfl | rfl | rfl | rfl | rfl
 all_goals
  refine ⟨by simp [Nd.plain],by simp [Nd.few,Sm.few],by simp [kJ,Nd.rws,Sm.rws,Tm.rws,Cl.rws,Bd.rws, *],by simp [kJ,Nd.ns,Sm.ns,Tm.ns,Cl.ns, *],by simp [Nd.tgt, *],fun _ _ _ _ e=>(by first | (cases e;assumption) | cases e),fun p T hp hr h1 h2=>?_⟩
  simp [stR,Yp,KR,Nd.rws,Sm.rws,Tm.rws,Cl.rws,Bd.rws,Nd.ns,Sm.ns,Tm.ns,Cl.ns,Nd.tgt,hp,hr,h1,h2, *]
structure PBad (f st:Str) (p:Pc) (rf:Rf):Prop where
 sh:PcSh 4 p
 tk:p.tk=(f,2,2)
 R:∀ T:Tks,T.find? (fun t=>t.1 == f)=some (f,2,2)→T.find? (fun t=>t.1 == st)=none→Jo T p=some rf
theorem jb8 {x a b r s f st:Str} (h:Nms x a b r s f st) {N:Nd} {rf:Rf} (W:WrN a b r s f st N rf) (c:Int) {fs:List Int} (hf:fs.length≤3):PBad f st ⟨f,[a,b],[r,s],[],[],4,[qq c fs N 3]⟩ rf:=by
 obtain ⟨pre,e1,e2,e3⟩:=Yc (c:=c) W.pl fs 3 hf
 have ea:ku 4 [qq c fs N 3]=pre++[N]:=by rw [Kh,e1]
 have lf:=j6 h.sf
 have le:(Str.ofString "").length≤100:=by decide +kernel
 have er:¬ Str.ofString "" = r:=fun z=>JS h.sr z.symm
 have es:¬ Str.ofString "" = s:=fun z=>JS h.ss z.symm
 have nd:=h.nd
 have ho:=h.o
 simp only [List.nodup_cons,List.mem_cons,List.not_mem_nil,or_false,not_or,List.nodup_nil,and_true] at nd ho
 obtain ⟨⟨ab,ax,ar,as_⟩,⟨bx,br,bs⟩,⟨xr,xs⟩,rs⟩:=nd
 obtain ⟨oa,ob,-,or1,os⟩:=ho
 have hhd:yD ⟨f,[a,b],[r,s],[],[],4,[qq c fs N 3]⟩=none:=if_pos ⟨by simp [*],by simp [*]⟩
 have hpr:zB ⟨f,[a,b],[r,s],[],[],4,[qq c fs N 3]⟩:=⟨fun C hC=>(nomatch hC),fun x hx=>(nomatch hx),fun x hx=>(nomatch hx)⟩
 have wrN:∀ M,jeC c M→M.few∧kJ M.rws∧kJ M.ns∧M.tgt=none∧(∀ x g as q,M≠.leaf (.call x g as q))∧∀ T,stR M ⟨f,[a,b],[r,s],[],[],4,[qq c fs N 3]⟩ T=none:=fun M hM=>by
  rcases hM with ⟨y,rfl⟩ | ⟨x,y,rfl⟩
  ·exact ⟨by simp [Nd.few],by simp [kJ,Nd.rws,Cl.rws,Tm.rws],by simp [kJ,Nd.ns,Cl.ns,Tm.ns,le],rfl,fun _ _ _ _ e=>(nomatch e),fun T=>by simp [stR,Yp,Nd.rws,Cl.rws,Tm.rws,Nd.ns,Cl.ns,Tm.ns,Nd.tgt,er,es]⟩
  ·exact ⟨by simp [Nd.few],by simp [kJ,Nd.rws,Cl.rws,Tm.rws],by simp [kJ,Nd.ns,Cl.ns,Tm.ns,le],rfl,fun _ _ _ _ e=>(nomatch e),fun T=>by simp [stR,Yp,Nd.rws,Cl.rws,Tm.rws,Nd.ns,Cl.ns,Tm.ns,Nd.tgt,er,es]⟩
 refine ⟨⟨rfl,⟨by show 0≤20;decide,by show 0≤20;decide,lf,fun C hC=>(nomatch hC)⟩,by show 4≤100;decide,?_,fun M hM=>?_⟩,rfl,fun T h1 h2=>?_⟩
 ·show (ku 4 [qq c fs N 3]).length≤100
  rw [ea,List.length_append,e2]
  show fs.length+1≤100
  omega
 ·have hM:M∈ku 4 [qq c fs N 3]:=hM
  rw [ea] at hM
  rcases List.mem_append.mp hM with hM | hM
  ·obtain ⟨w1,w2,w3,w4,w5,-⟩:=wrN M (e3 M hM)
   exact ⟨w1,w2,w3,fun x hx=>(by rw [w4] at hx;cases hx),lf,fun x g as q e=>absurd e (w5 x g as q)⟩
  ·rw [List.mem_singleton.mp hM]
   exact ⟨W.few,W.sr,W.sn,W.t,lf,W.c⟩
 ·unfold Jo
  rw [hhd]
  dsimp only
  rw [if_pos hpr,ea,JW (fun M hM=>(wrN M (e3 M hM)).2.2.2.2.2 T)]
  exact W.R _ T rfl rfl h1 h2
theorem YT {f st:Str} {ps rs:List Str} {nd gv:List Cl} (lf:f.length≤100) (lp:ps.length=2) (lr:rs.length=2) (ln:nd.length≤1) (lg:gv.length≤1) (sh:∀ C∈nd++gv,kJ C.rws∧kJ C.ns) (R:yD (pcW f ps rs nd gv)=some .name∨¬ zB (pcW f ps rs nd gv)):PBad f st (pcW f ps rs nd gv) .name:=by
 refine ⟨⟨rfl,⟨Nat.le_trans ln (by decide),Nat.le_trans lg (by decide),lf,sh⟩,by show (ps++rs).length≤100;rw [List.length_append];omega,by show 0≤100;decide,fun N hN=>(nomatch hN)⟩,by show (f,ps.length,rs.length)=_;rw [lp,lr],fun T _ _=>?_⟩
 unfold Jo
 rcases R with h | h
 ·rw [h]
 ·cases e:yD (pcW f ps rs nd gv) with
  | some r=>
   unfold yD at e
   split at e
   ·cases e
   ·exact e.symm ▸ rfl
  | none=>
   dsimp only
   rw [if_neg h]
theorem jc5 {x a b r s f st:Str} (h:Nms x a b r s f st) {p:Pc} (W:jdy f a b r s x p):PBad f st p .name:=by
 have lx:=j6 h.sx
 have la:=j6 h.sa
 have lr:=j6 h.sr
 have lf:=j6 h.sf
 have le:(Str.ofString "").length≤100:=by decide +kernel
 have lo:(Str.ofString "out").length≤100:=by decide +kernel
 have ex:¬ x=Str.ofString "":=fun z=>JS h.sx z
 have nd:=h.nd
 have ho:=h.o
 simp only [List.nodup_cons,List.mem_cons,List.not_mem_nil,or_false,not_or,List.nodup_nil,and_true] at nd ho
 obtain ⟨⟨ab,ax,ar,as_⟩,⟨bx,br,bs⟩,⟨xr,xs⟩,rs⟩:=nd
 obtain ⟨oa,ob,ox,or1,os⟩:=ho
 have xa:¬ x=a:=fun z=>ax z.symm
 have xb:¬ x=b:=fun z=>bx z.symm
 have xo:¬ x=Str.ofString "out":=fun z=>ox z.symm
 have oe:¬ Str.ofString "out" = Str.ofString "":=by decide
 rcases W with ⟨c,hc,rfl⟩ | ⟨C,hC,rfl⟩ | ⟨C,hC,rfl⟩
 ·simp only [hdW,List.mem_cons,List.not_mem_nil,or_false] at hc
  rcases hc with rfl | rfl | rfl | rfl | rfl
  all_goals exact YT lf rfl rfl (by simp) (by simp) (fun C hC=>(nomatch hC)) (.inl (by simp [yD,pcW]))
 ·simp only [clW,List.mem_cons,List.not_mem_nil,or_false] at hC
  rcases hC with rfl | rfl | rfl | rfl | rfl
  all_goals exact YT lf rfl rfl (by simp) (by simp) (fun C hC=>by rw [List.mem_singleton.mp hC];exact ⟨by simp [kJ,Cl.rws,Tm.rws,Bd.rws, *],by simp [kJ,Cl.ns,Tm.ns, *]⟩) (.inr (by simp [zB,pcW,Cl.rws,Tm.rws,Bd.rws,Cl.ns,Tm.ns, *]))
 ·simp only [clG,List.mem_cons,List.not_mem_nil,or_false] at hC
  rcases hC with rfl | rfl | rfl | rfl
  all_goals exact YT lf rfl rfl (by simp) (by simp) (fun C hC=>by rw [List.mem_singleton.mp hC];exact ⟨by simp [kJ,Cl.rws,Tm.rws,Bd.rws, *],by simp [kJ,Cl.ns,Tm.ns, *]⟩) (.inr (by simp [zB,pcW,Cl.rws,Tm.rws,Bd.rws,Cl.ns,Tm.ns, *]))
abbrev Kt:Stmt:=top 47
theorem jgA {nm:List Str} (h:nm.length=5):∃ a b x r s,nm=[a,b,x,r,s]:=by
 match nm,h with
 | [a,b,x,r,s],_=>exact ⟨a,b,x,r,s,rfl⟩
def jaD:Sp:=fun vs H Q _=>∃ (d:Addr) (w:Int) (n:Dl) (f st:Str),vs=[.ref d,.str f,.str st]∧H d=some (dlO w n)∧NmW f∧NmW st∧∀ u H' n' p rf,Keep d H H'→H' d=some (dlO w n')→PBad f st p rf→Held H' (.tup [p.toD,.str (rfT rf)]) u→Q u H'
section
variable {P:Program} {w:World} {K:W.Frag} {mg:Str→Option Value} {base:Heap}
theorem jcD {f:Addr} {fd:FuncData} (F:Fun K "_law_wrong" "_law_wrong" Kt f fd) (B:Free0 mg) (F_draw:Fn P w K mg base 1 "_law_draw" ["_law_deal_here","_law_many_here"] qI) (F_taken:Fn P w K mg base 1 "_law_taken" [] J3) (F_name:Fn P w K mg base 2 "_law_name" ["_law_deal_here","_law_taken_here"] Ko) (F_names_wrong:Fn P w K mg base 1 "_law_names_wrong" ["_law_x","_law_a","_law_b","_law_r","_law_s","_law_f","_law_strange"] Zh) (F_others_wrong:Fn P w K mg base 1 "_law_others_wrong" ["_law_x","_law_a","_law_b","_law_r","_law_s","_law_f"] Yl) (F_within:Fn P w K mg base 2 "_law_within" ["_law_deal_here","_law_statement_here"] Zg) (F_head:Fn P w K mg base 1 "_law_head" ["_law_way_of","_law_proc_here","_law_x","_law_strange"] jaH):FnOk P w K mg base CX0 3 f fd ["_law_deal_here","_law_f","_law_strange"] jaD:=by
 have sc:FnScope ["_law_deal_here","_law_f","_law_strange","_law_taken_here","_law_a","_law_b","_law_x","_law_r","_law_s","_law_proc_here","_law_names","_law_others","_law_way_of","_law_statement_here","_law_due"] ["_law_deal_here","_law_f","_law_strange"] (jw Kt):=fQ
 refine F.okZ sc (fun vs H Q E h=>?_) (fun cdv A outer s H vs Q E hr h=>?_)
 ·obtain ⟨d,w,n,f,st,rfl,_⟩:=h
  rfl
 obtain ⟨d,w,n,g,st,rfl,hd,ng,nst,q⟩:=h
 refine ⟨_,(je (js (i:=3) sc.nd rfl oQ (YI F_taken hr))
   (je (ql (ze ["_law_k"] [0,3] rfl (qH (sc:=jw Kt) (N:=["_law_deal_here","_law_f","_law_strange","_law_taken_here","_law_a","_law_b","_law_x","_law_r","_law_s","_law_proc_here","_law_names","_law_others","_law_way_of","_law_statement_here","_law_due"]) rfl rfl (by decide +kernel)) (kx (by rfl) B.range_ (jb ji jd)) (fun s H ex=>⟨(jy (i:=0) (show List.Nodup (["_law_k","_law_deal_here","_law_taken_here"]:List Str) by decide +kernel) rfl oQ),qm,(jH F_name hr (jb (zpv 1) (jb (zpv 2) jd)))⟩)) (jdz rfl (jJ (jy (i:=4) sc.nd rfl oQ) (jJ (jy (i:=5) sc.nd rfl oQ) (jJ (jy (i:=6) sc.nd rfl oQ) (jJ (jy (i:=7) sc.nd rfl oQ) (jJ (jy (i:=8) sc.nd rfl oQ) kX)))))))
   (je (js (i:=9) sc.nd rfl oQ (zpd (jp (ja jF (ja (jo 1) (ja (jp (ja (jo 4) (ja (jo 5) jm))) (ja (jp (ja (jo 7) (ja (jo 8) jm))) (ja (jp jm) (ja (jp jm) (ja (jp jm) jm))))))))))
   (je (js (i:=10) sc.nd rfl oQ (jH F_names_wrong hr (jb (zpv 6) (jb (zpv 4) (jb (zpv 5) (jb (zpv 7) (jb (zpv 8) (jb (zpv 1) (jb (zpv 2) jd)))))))))
   (je (js (i:=11) sc.nd rfl oQ (jH F_others_wrong hr (jb (zpv 6) (jb (zpv 4) (jb (zpv 5) (jb (zpv 7) (jb (zpv 8) (jb (zpv 1) jd))))))))
   (je (js (i:=12) sc.nd rfl oQ (jH F_draw hr (jb (zpv 0) (jb ji jd))))
   (je (jT (jv yw (zpv 12) ji (jP _)) (jn (jB (jX (jb (jD qD (kA zt (zpv 9) qA (kj ji)) (jX (jb (jX (jb (jH F_within hr (jb (zpv 0) (jb (jz jW (zpv 10) (zpv 12) (fun _ _=>rfl)) jd))) jd)) jd))) (jb jq jd))))) jA)
   (je (jT (jv yw (zpv 12) ji (jP _)) (je (ql (jz jW (zpv 11) (jD JG (zpv 12) ji) (fun _ _=>rfl)) (qR rfl (jJ (jy (i:=13) sc.nd rfl oQ) (jJ (jy (i:=14) sc.nd rfl oQ) kX))))
   (jn (jB (jX (jb (jD qD (kA zt (zpv 9) qA (kj ji)) (jX (jb (jX (jb (jH F_within hr (jb (zpv 0) (jb (zpv 13) jd))) jd)) jd))) (jb (zpv 14) jd)))))) jA)
   (jn (jB (jX (jb (jH F_head hr (jb (jD JG (zpv 12) ji) (jb (zpv 9) (jb (zpv 6) (jb (zpv 2) jd))))) (jb jq jd))))))))))))),?_⟩
 try dsimp only [q0]
 refine kb (σ':=[some (.ref d),some (.str g),some (.str st),none,none,none,none,none,none,none,none,none,none,none,none]) rfl ?_
 refine jgg ?_
 intro _ _ _ _ _ _ _ _
 refine ⟨rfl,fun tl htl=>?_⟩
 have s1:=jr htl (.lst (jE.map V.str))
 have e1:upd H tl (.lst (jE.map V.str)) tl=some (.lst (jE.map V.str)):=jg
 generalize upd H tl (.lst (jE.map V.str))=H1 at *
 have d1:=s1 _ _ hd
 refine gQ ?_
 refine ⟨_,rfl,(by decide),(by decide),fun p hp=>?_⟩
 have npd:p≠d:=(ju d1 hp).symm
 have npt:p≠tl:=(ju e1 hp).symm
 have t16:jE.length=16:=rfl
 refine kR (fun i σ' G=>∃ u,σ'=[u,some (.ref d),some (.ref tl)]∧NmAt d tl p w n jE H1 i G) ⟨none,rfl,NmAt.zero d1 e1 hp⟩ ?_ ?_
 ·rintro i σ' G hi ⟨u,rfl,N⟩
  have hi:i < 5:=hi
  obtain ⟨o1,o2,o3⟩:=N.ok yo kM (by omega)
  have nl:=(kI w n yo kM i (by omega)).1
  unfold qN JB
  refine yl ?_
  refine ⟨_,rfl,_,rfl,d,tl,w,_,_,rfl,N.hd,N.hl,o1,o2,o3,fun G' q1 q2 q3=>?_⟩
  obtain ⟨r1,r2⟩:=N.step hp npd npt q1 q2 q3
  exact ⟨_,r1,j8 (by rw [List.length_map];omega),_,rfl,r2⟩
 rintro σ' G ⟨u,rfl,N⟩
 have N:NmAt d tl p w n jE H1 5 G:=N
 obtain ⟨n1,n2,n3,n4⟩:=kI w n yo kM 5 (by omega)
 have kG:Keep d H G:=fun b o hb e=>N.k _ _ hb (fun z=>by rw [z,htl] at e;cases e) (s1 _ _ e)
 have dG:=N.hd
 have pG:=N.hp
 clear N s1 e1 d1 hp
 generalize j9 w n jE 5=nm at *
 obtain ⟨nm,n5⟩:=nm
 dsimp only at n1 n2 n3 n4 dG pG
 obtain ⟨a,b,x,r,s,rfl⟩:∃ a b x r s,nm=[a,b,x,r,s]:=jgA n1
 have M:Nms x a b r s g st:=⟨n2 x (by simp),n2 a (by simp),n2 b (by simp),n2 r (by simp),n2 s (by simp),ng,nst,n4,fun z=>n3 _ z JF⟩
 refine ⟨p,_,rfl,SqL.of pG,rfl,_,_,rfl,_,_,rfl,_,_,rfl,_,_,rfl,_,_,rfl,rfl,?_⟩
 refine kb (σ':=[some (.ref d),some (.str g),some (.str st),some (.ref tl),some (.str a),some (.str b),some (.str x),some (.str r),some (.str s),none,none,none,none,none,none]) rfl ?_
 refine ⟨(pcW g [a,b] [r,s] [] []).toD,⟨_,rfl,Nat.le_of_ble_eq_true rfl,_,_,rfl,rfl,_,_,rfl,⟨_,rfl,jj⟩,_,_,rfl,⟨_,rfl,Nat.le_of_ble_eq_true rfl,_,_,rfl,⟨_,rfl,jj⟩,_,_,rfl,⟨_,rfl,jj⟩,rfl⟩,_,_,rfl,⟨_,rfl,Nat.le_of_ble_eq_true rfl,_,_,rfl,⟨_,rfl,jj⟩,_,_,rfl,⟨_,rfl,jj⟩,rfl⟩,_,_,rfl,⟨_,rfl,Nat.le_of_ble_eq_true rfl,rfl⟩,_,_,rfl,⟨_,rfl,Nat.le_of_ble_eq_true rfl,rfl⟩,_,_,rfl,⟨_,rfl,Nat.le_of_ble_eq_true rfl,rfl⟩,rfl⟩,fun vp H2 s2 hvp=>?_⟩
 refine gQ ?_
 refine ⟨_,rfl,_,rfl,_,rfl,_,rfl,_,rfl,_,rfl,_,rfl,x,a,b,r,s,g,st,rfl,fun ln un H3 s3 e3 hn=>?_⟩
 refine gQ ?_
 refine ⟨_,rfl,_,rfl,_,rfl,_,rfl,_,rfl,_,rfl,x,a,b,r,s,g,rfl,fun lo uo H4 s4 e4 ho=>?_⟩
 refine gQ ?_
 have s24:=s2.trans (s3.trans s4)
 have d4:=s24 _ _ dG
 have k5:=Keep.upd d H4 (dlO w (jl w n5 43).2)
 have lo1:=jR w n5 (m:=43) (by decide)
 have hi1:=jL w n5 (m:=43) (by decide)
 refine ⟨_,rfl,d,w,n5,43,rfl,d4,by decide,by decide,?_⟩
 have d5:upd H4 d (dlO w (jl w n5 43).2) d=some (dlO w (jl w n5 43).2):=jg
 have hvp5:=(k5.tk d4).held (hvp.mono (s3.trans s4))
 have hn5:=(k5.tk d4).heldL (hn.mono s4)
 have ho5:=(k5.tk d4).heldL ho
 have nln:ln≠d:=fun z=>by
  have:=s4 _ _ e3
  rw [z,d4] at this
  injection this with this
  have hl:=hn.length
  injection this with this
  rw [← this] at hl
  exact absurd hl (by show ¬ 22=2;decide)
 have nlo:lo≠d:=fun z=>by
  have:=e4
  rw [z,d4] at this
  injection this with this
  have hl:=ho.length
  injection this with this
  rw [← this] at hl
  exact absurd hl (by show ¬ 7=2;decide)
 have e35:=k5 _ _ nln (s4 _ _ e3)
 have e45:=k5 _ _ nlo e4
 have kH:=kG.trans ((Keep.same s24).trans k5)
 generalize upd H4 d (dlO w (jl w n5 43).2)=H5 at *
 generalize jl w n5 43=way at *
 obtain ⟨way,n6⟩:=way
 dsimp only at lo1 hi1 d5 ⊢
 clear s2 s3 s4 hn ho hvp e3 e4 k5 d4 s24 kG dG pG
 refine gQ ?_
 obtain ⟨pp,ap,ar,an,ag,ab,vn,vg,vb,rfl,hpp,hap,har,han,hn0,hag,hg0,hab,hb0⟩:=y7 hvp5
 have hpp:H5 pp=some (.tup [.str "proc",.str g,.ref ap,.ref ar,.ref an,.ref ag,.ref ab]):=hpp
 have six:HeldL H5 [.str "proc",.str g,.tup ([a,b].map D.str),.tup ([r,s].map D.str),.tup [],.tup []] [.str "proc",.str g,.ref ap,.ref ar,.ref an,.ref ag]:=jh jj (jh jj (jh (jQ hap (qy _)) (jh (jQ har (qy _)) (jh (jQ han hn0) (jh (jQ hag hg0) jt)))))
 have cut6:qh [.str "proc",.str g,.ref ap,.ref ar,.ref an,.ref ag,.ref ab] none (some 6)=[V.str "proc",.str g,.ref ap,.ref ar,.ref an,.ref ag]:=rfl
 have fin:∀ {t3:Addr} {H8:Hp} {n':Dl} {u:V} {c:Int} {fs:List Int} {N:Nd} {rf:Rf} {t1:Addr},Keep d H H8→H8 d=some (dlO w n')→fs.length≤3→WrN a b r s g st N rf→H8 t3=some (.tup ([.str "proc",.str g,.ref ap,.ref ar,.ref an,.ref ag]++[.ref t1]))→HeldL H8 [.str "proc",.str g,.tup ([a,b].map D.str),.tup ([r,s].map D.str),.tup [],.tup []] [.str "proc",.str g,.ref ap,.ref ar,.ref an,.ref ag]→Held H8 (.tup [yi c fs N.toD]) (.ref t1)→∀ t4,H8 t4=none→Q (.ref t4) (upd H8 t4 (.tup [.ref t3,.str (rfT rf)])):=fun {t3 H8 n' u c fs N rf t1} k e hf W h3 h6 h1 t4 ht4=>by
  have s9:=jr ht4 (.tup [.ref t3,.str (rfT rf)])
  refine q _ _ n' _ rf (k.trans (Keep.same s9)) (s9 _ _ e) (jb8 M W c hf) (jQ jg (jh (Held.mono s9 (jQ h3 (qi h6 (jh ?_ jt)))) (jh jj jt)))
  show Held H8 (.tup [stD 4 (qq c fs N 3)]) (.ref t1)
  rw [jas W.pl fs 3 hf]
  exact h1
 refine ⟨_,rfl,_,_,rfl,rfl,_,rfl,jU (fun c=>?_) (fun c=>?_)⟩
 ·have c':way < 22:=of_decide_eq_true c
  have hj:way.toNat < (JH x a b r s g st).length:=by show way.toNat < 22;omega
  obtain ⟨v,ev,hv⟩:=hn5.get (j:=way.toNat) (d:=(JH x a b r s g st)[way.toNat].toD) (by rw [List.getElem?_map,List.getElem?_eq_getElem hj];rfl)
  have W:=jby M _ (List.getElem_mem hj)
  generalize (JH x a b r s g st)[way.toNat]=N at *
  have hat:atI un way=some v:=by
   have ek:way=((way.toNat:Nat):Int):=by omega
   rw [ek];exact ko ev
  refine ⟨_,rfl,_,rfl,pp,_,rfl,SqT.of hpp,(fun h=>absurd h.2 (by show ¬ (HT.sIx 7 7 (some 6)=7);decide)),fun t ht=>?_⟩
  have s6:=jr ht (.tup (qh [.str "proc",.str g,.ref ap,.ref ar,.ref an,.ref ag,.ref ab] none (some 6)))
  have e6:upd H5 t (.tup (qh [.str "proc",.str g,.ref ap,.ref ar,.ref an,.ref ag,.ref ab] none (some 6))) t=some (.tup [V.str "proc",.str g,.ref ap,.ref ar,.ref an,.ref ag]):=jg
  generalize upd H5 t (.tup (qh [.str "proc",.str g,.ref ap,.ref ar,.ref an,.ref ag,.ref ab] none (some 6)))=H6 at *
  refine ⟨_,rfl,_,rfl,_,rfl,ln,_,_,v,rfl,rfl,SqL.of (s6 _ _ e35),hat,d,w,n6,v,N.toD,rfl,s6 _ _ d5,hv.mono s6,fun u H7 n' c fs k7 d7 hfs hu=>⟨sm rfl,fun t1 ht1=>⟨sm rfl,fun t2 ht2=>?_⟩⟩⟩
  have sa:=jr ht1 (.tup [u])
  have sb:=jr ht2 (.tup [.ref t1])
  have sab:=sa.trans sb
  have hu7:Held (upd (upd H7 t1 (.tup [u])) t2 (.tup [.ref t1])) (.tup [yi c fs N.toD]) (.ref t1):=jQ (sb _ _ jg) (jh (hu.mono sab) jt)
  have six7:=((k7.tk (s6 _ _ d5)).heldL (six.mono s6)).mono sab
  refine ⟨t,t2,_,_,rfl,rfl,sab _ _ (k7.tk (s6 _ _ d5) _ _ e6),jg,kc (Nat.le_of_ble_eq_true rfl),fun t3 H8 s8 e8=>?_⟩
  refine ⟨sm rfl,fun t4 ht4=>fin (u:=u) (kH.trans ((Keep.same s6).trans (k7.trans (Keep.same (sab.trans s8))))) ((sab.trans s8) _ _ d7) hfs W e8 (six7.mono s8) (hu7.mono s8) t4 ht4⟩
 have c22:¬ way < 22:=fun h=>c (decide_eq_true h)
 refine ⟨_,rfl,_,_,rfl,rfl,_,rfl,jU (fun c=>?_) (fun c=>?_)⟩
 ·have c':way < 29:=of_decide_eq_true c
  have hj:(way - 22).toNat < (yO x a b r s g).length:=by show (way - 22).toNat < 7;omega
  obtain ⟨v,ev,hv⟩:=ho5.get (j:=(way - 22).toNat) (d:=prD (yO x a b r s g)[(way - 22).toNat]) (by rw [List.getElem?_map,List.getElem?_eq_getElem hj];rfl)
  have W:=Z8 M _ (List.getElem_mem hj)
  generalize (yO x a b r s g)[(way - 22).toNat]=N at *
  obtain ⟨N,rf⟩:=N
  have hat:atI uo (way - 22)=some v:=by
   have ek:way - 22=(((way - 22).toNat:Nat):Int):=by omega
   rw [ek];exact ko ev
  obtain ⟨z,zs,rfl,hz,m1⟩:=jC hv
  obtain ⟨y1,r1,rfl,g1,m2⟩:=jk m1
  obtain ⟨y2,r2,rfl,g2,m3⟩:=jk m2
  cases jK m3
  cases jN g2
  refine ⟨_,rfl,_,rfl,_,_,rfl,rfl,lo,_,_,_,rfl,rfl,SqL.of e45,hat,z,_,rfl,SqT.of hz,rfl,_,_,rfl,_,_,rfl,rfl,?_⟩
  refine kb (σ':=[some (.ref d),some (.str g),some (.str st),some (.ref tl),some (.str a),some (.str b),some (.str x),some (.str r),some (.str s),some (.ref pp),some (.ref ln),some (.ref lo),some (.int way),some y1,some (.str (rfT rf))]) rfl ?_
  refine ⟨_,rfl,_,rfl,pp,_,rfl,SqT.of hpp,(fun h=>absurd h.2 (by show ¬ (HT.sIx 7 7 (some 6)=7);decide)),fun t ht=>?_⟩
  have s6:=jr ht (.tup (qh [.str "proc",.str g,.ref ap,.ref ar,.ref an,.ref ag,.ref ab] none (some 6)))
  have e6:upd H5 t (.tup (qh [.str "proc",.str g,.ref ap,.ref ar,.ref an,.ref ag,.ref ab] none (some 6))) t=some (.tup [V.str "proc",.str g,.ref ap,.ref ar,.ref an,.ref ag]):=jg
  generalize upd H5 t (.tup (qh [.str "proc",.str g,.ref ap,.ref ar,.ref an,.ref ag,.ref ab] none (some 6)))=H6 at *
  refine ⟨_,rfl,_,rfl,d,w,n6,y1,N.toD,rfl,s6 _ _ d5,g1.mono s6,fun u H7 n' c fs k7 d7 hfs hu=>⟨sm rfl,fun t1 ht1=>⟨sm rfl,fun t2 ht2=>?_⟩⟩⟩
  have sa:=jr ht1 (.tup [u])
  have sb:=jr ht2 (.tup [.ref t1])
  have sab:=sa.trans sb
  have hu7:Held (upd (upd H7 t1 (.tup [u])) t2 (.tup [.ref t1])) (.tup [yi c fs N.toD]) (.ref t1):=jQ (sb _ _ jg) (jh (hu.mono sab) jt)
  have six7:=((k7.tk (s6 _ _ d5)).heldL (six.mono s6)).mono sab
  refine ⟨t,t2,_,_,rfl,rfl,sab _ _ (k7.tk (s6 _ _ d5) _ _ e6),jg,kc (Nat.le_of_ble_eq_true rfl),fun t3 H8 s8 e8=>?_⟩
  refine ⟨_,rfl,sm rfl,fun t4 ht4=>fin (u:=u) (kH.trans ((Keep.same s6).trans (k7.trans (Keep.same (sab.trans s8))))) ((sab.trans s8) _ _ d7) hfs W e8 (six7.mono s8) (hu7.mono s8) t4 ht4⟩
 have c29:¬ way < 29:=fun h=>c (decide_eq_true h)
 refine ⟨_,rfl,_,_,rfl,rfl,_,rfl,_,rfl,_,rfl,way - 29,.ref pp,g,a,b,r,s,x,st,rfl,by omega,by omega,hvp5,fun u H7 p7 hp7 s7 h7=>⟨sm rfl,fun t4 ht4=>?_⟩⟩
 have s9:=jr ht4 (.tup [u,V.str (Str.ofString "name")])
 exact q _ _ n6 p7 .name (kH.trans (Keep.same (s7.trans s9))) ((s7.trans s9) _ _ d5) (jc5 M hp7) (jQ jg (jh (h7.mono s9) (jh jj jt)))
end
end LW
namespace L2
open PySem PySem.Spec PyProof.Rows
theorem KJ {M:Model} {A:Around} {E:Value→Shared→Prop} {nm q:Str} {C N:Addr} {bs bm:List Value} {hdct:Bool} {sn:List Str} {sub:List Value} {ab:Bool} {col:Option Bool} {dd:Option Addr} {k0 k1 k2 k3 k5:Option Value} {newId:String}
  {nm' q':Str} {C' N':Addr} {bs' bm':List Value} {hdct':Bool} {sn':List Str} {sub':List Value} {ab':Bool} {col':Option Bool} {dd':Option Addr} {k0' k1' k2' k3' k5':Option Value} {newId':String} {h:Heap} {g:Array GenState} {d:Drawn} {t:Nat} {os:OsState} {e:Addr} {oe:Obj} {Q:Bool→Shared→Prop}
  (hC:h.get? C=some (excClassObj nm q C N bs bm hdct sn sub ab col dd k0 k1 k2 k3 k5 newId)) (hD:h.get? C'=some (excClassObj nm' q' C' N' bs' bm' hdct' sn' sub' ab' col' dd' k0' k1' k2' k3' k5' newId')) (he:h.get? e=some oe) (hc:oe.cls=.ref C') (hb:bm.contains (.type "BaseException")=true) (hin:(Value.ref C' :: bm').contains (.ref C)=true)
  (q:Q true { heap:=h,gens:=g,drawn:=d,toks:=t,os:=os }):wpAny M A (excMatches (.ref e) (.ref C)) Q E { heap:=h,gens:=g,drawn:=d,toks:=t,os:=os }:=by
 unfold excMatches
 refine wpAny_bind ?_
 unfold isInstance
 refine wpAny_bind (wpAny_typeOf_ref hC ?_)
 have e1:isSubtype (.type "type") (.type "tuple")=pure false:=by rw [isSubtype_type];rfl
 show wpAny M A (isSubtype (.type "type") (.type "tuple")) _ E _
 rw [e1]
 refine wpAny_pure ?_
 show wpAny M A (pure [Value.ref C] >>= _) Q E _
 refine wpAny_bind (wpAny_pure ?_)
 refine wpAny_bind ?_
 rw [List.forIn_cons]
 refine wpAny_bind (wpAny_bind ?_)
 unfold isExcClass
 refine wpAny_bind (ks_wpAny_isType_cls hC rfl ?_)
 refine wpAny_isSubtype_exc hC ?_
 rw [show (Value.ref C :: bm).contains (.type "BaseException")=true by rw [List.contains_cons,hb,Bool.or_true]]
 refine wpAny_pure ?_
 dsimp only
 rw [List.forIn_nil]
 refine wpAny_pure ?_
 refine wpAny_bind (wpAny_typeOf_ref he ?_)
 refine wpAny_bind ?_
 rw [List.forIn_cons]
 refine wpAny_bind (wpAny_bind ?_)
 rw [hc]
 refine wpAny_isSubtype_exc hD ?_
 rw [hin]
 refine wpAny_pure ?_
 refine wpAny_pure ?_
 exact wpAny_pure q
theorem jem {K:W.Frag} {h:Heap} {nm q:Str} {C N:Addr} {bs bm:List Value} {hdct:Bool} {sn:List Str} {sub:List Value} {ab:Bool} {col:Option Bool} {dd:Option Addr} {k0 k1 k2 k3 k5:Option Value} {newId:String} {base:Value} (X:K.In h) (hC:h.get? C=some (excClassObj nm q C N bs bm hdct sn sub ab col dd k0 k1 k2 k3 k5 newId)) (m:W.mroIn K C base=some true):(Value.ref C :: bm).contains base=true:=by
 unfold W.mroIn at m
 obtain ⟨cd,e1,e2⟩:=Option.bind_eq_some_iff.mp m
 unfold W.clsIn at e1
 cases hl:List.lookup C K with
 | none=>rw [hl] at e1;cases e1
 | some o=>
  rw [hl] at e1
  have:=X _ _ hl
  rw [hC] at this
  cases this
  cases e1
  split at e2
  ·cases e2
  ·injection e2
def jb5 (K:W.Frag) (sp:Sp) (C:Addr) (i:Nat) (t:TA) (ts:TS):TS:=fun D σ H=>t σ H fun vs H1=>sp (vs++[]) H1 (fun v H2=>D.nx σ H2) fun cls _ H2=>∃ C',cls=.ref C'∧W.excIn K C' valB "ValueError.__new__" = true∧W.mroIn K C' (.ref C)=some true∧∀ e,H2 e=none→ts (D.gone i) (σ.set i (some (.ref e))) (upd H2 e (JM (.ref C') e))
theorem jcl {X:Cx} {k k':Nat} {x c n:Str} {ps:List Str} {sp:Sp} {C:Addr} {e:Expr} {es:List Expr} {t:TA} {ts:TS} {i:Nat} {p cp np ap hp pos:Pos} {b0:Stmt} {suite:List Stmt}
  (F:FnX X.prog X.w X.K X.mg X.base k x ps sp) (hst:X.stack=X.env :: X.outer) (hfr:X.env.frame=some X.env.locals) (hr:Room k' X.A) (ha:PA X.nox (e :: es) t) (hs:∀ e,PSs (X.hush e) (b0 :: suite) ts)
  (hN:X.N.Nodup) (hi:X.N[i]?=some n) (hn:X.env.scope.names.lookup n=some .local)
  (hgc:Gl X c) (hmc:X.mg c=some (.ref C)) (hx:W.excIn X.K C valB "ValueError.__new__" = true)
  (hk:k≤k':=by decide) (hg:Gl X x:=by rfl)
  (hd:(x == ("__debug__" : Str))=false:=by decide) (hdc:(c == ("__debug__" : Str))=false:=by decide) (hpp:(e :: es).all qk=true:=by rfl) (hsw:swapsWith (.Call (.Name x p) (e :: es) [] cp) none ap.line X.env=pure false:=by rfl) :
  PS X (.Try [.Expr (.Call (.Name x p) (e :: es) [] cp) ap] [.ExceptHandler (some (.Name c np)) (some n) (b0 :: suite) hp] [] [] pos) (jb5 X.K sp C i t ts):=by
 obtain ⟨f,fd,G,b,kp,m⟩:=F.ex
 rw [List.all_cons,Bool.and_eq_true] at hpp
 have he:=zg hpp.1 es X.env
 have hpl:=y6 cp X.env es hpp.2
 intro pins s σ H D I h
 refine wpAny_Try_except (wpAny_execs_cons ?_)
 refine wpAny_Expr_any (wpAny_Call_Name_kw (yR I hg m ?_ hd)) I.quiet hsw
 refine W.callWith_K (h₀:=X.base) I.ok.mod.kin kp (wpAny_mono (ha cp pins s σ H _ (I.wish _) h) (fun us s1 ⟨vs,H1,I1,r,q⟩=>⟨I1.unwish.kIn,?_⟩) fun _ _ z=>z.elim) he hpl
 replace I1:=I1.unwish
 refine wpAny_mono (jdL G (hr.mono hk) b .nil I1 r q) (fun u s2 ⟨v,H2,I2,rv,q2⟩=>?_) fun ev s2 hx2=>?_
 ·exact wpAny_execs_nil (wpAny_execs_nil ⟨_,H2,I2,q2⟩)
 ·obtain ⟨ea,cls,H',rfl,os,bare,un,hok,fly,C',rfl,hx',hm',hE⟩:=hx2
  have I2:Inv X pins σ H' s2:=I1.call' os un hok bare (fun b z=>absurd z (by simp))
  have stk:=I2.stkFree
  rw [hst] at stk un
  have hbs:∀ b o,X.base.get? b=some o→b ∉ frs (X.env :: X.outer)∧∃ u,s1.heap.get? b=some u:=fun b o hb=>by
   refine ⟨fun hm=>?_,⟨o,I1.bk b o hb⟩⟩
   have hs:=I1.stack
   rw [hst] at hs
   have:∀ {l:List Env},s1.heap.FunFrames X.base l→b∈frs l→False:=by
    intro l
    induction l with
    | nil=>intro _ h;cases h
    | cons env l ih=>
     intro hf hm
     obtain ⟨_,⟨L,o',e1,e2,_,_⟩,hr⟩:=hf
     unfold frs at hm
     rw [List.filterMap_cons,e1] at hm
     rcases List.mem_cons.mp hm with rfl | hm
     ·rw [e2] at hb;cases hb
     ·exact ih hr hm
   exact this hs hm
  have hH:∀ {h2:Heap},Un (frs (X.env :: X.outer)) [] H1 H' s1.heap h2→HOk X.prog X.w H' h2→∀ b,h2.get? b=none→H' b=none∧s1.heap.get? b=none:=fun {h2} u k b hb=>by
   refine ⟨?_,?_⟩
   ·rcases hh:H' b with _ | o
    ·rfl
    ·obtain ⟨u,hu⟩:=(k b o hh).ex
     rw [hu] at hb;cases hb
   ·rcases hh:s1.heap.get? b with _ | o
    ·rfl
    ·obtain ⟨o',h5⟩:=u.there b o hh (by simp)
     rw [h5] at hb;cases hb
  have fs2:=I2.stack
  rw [hst] at fs2
  refine jbE (by rw [I2.ok.frames,hst]) fs2 hfr fly stk (hH un hok) (fun h3 l3 fly3 fs3=>?_) hbs
  have un3:=un.left (P:=X.prog) (w:=X.w) l3
  have hok3:=hok.left stk l3
  have I3:Inv X pins σ H' { s2 with heap:=h3 }:=I1.call' os (by rw [hst];exact un3) hok3 bare (fun b z=>absurd z (by simp))
  refine wpAny_handleBy_cons (codeAny_handlers_test (yR (I3.hush ea) hgc hmc ?_ hdc)) (by intro q;cases q)
  obtain ⟨bm,N,nm,qn,bs,hdct,sn,sub,ab,col,dd,k0,k1,k2,k3,k5,mN,o1,o2,o3,o4⟩:=ye I3.mod.kin hx
  have hbm:bm.contains (.type "BaseException")=true:=OwnTail.hasType o4 PySem.F.excBase_ValueError.hasBase
  obtain ⟨oe,ves,T,oT,tts,a0,t1,t2,t3,_⟩:=fly3.tr
  obtain ⟨bm',N',nm',qn',bs',hdct',sn',sub',ab',col',dd',k0',k1',k2',k3',k5',mN',p1,p2,p3,p4⟩:=ye I3.mod.kin hx'
  refine KJ (I3.bk _ _ o1) (I3.bk _ _ p1) t1 t2 hbm (jem I3.mod.kin p1 hm') (codeAny_handlers_suite_as ?_)
  refine jai fs3 fly3 stk (hH un3 hok3) (fun h4 l4 fly4 fs4=>?_) hbs
  have un4:=(un3.left (P:=X.prog) (w:=X.w) l4).track (o:=JM (.ref C') ea) fly4.he fly4.ne
  have hok4:=(hok3.left stk l4).track fly4.he (jeu fly4)
  have I4:Inv X pins σ (upd H' ea (JM (.ref C') ea)) { s2 with heap:=h4 }:=I1.call' os (by rw [hst];exact un4) hok4 bare (fun b z=>absurd z (by simp))
  refine Jf (v:=.ref ea) I4 hN hi (.inl hn) rfl (fun s5 I5=>?_) (.inr hn)
  refine wpAny_mono (hs ea pins s5 _ _ (D.gone i) (I5.hush ea) (hE ea fly4.he)) (fun fl s6 h6=>?_) fun _ _ z=>z.elim
  cases fl with
  | next=>
   obtain ⟨σ',H6,I6,q6⟩:=h6
   exact Kd (v:=.non) (I6.unhush I5.ok) hN hi hn fun s7 I7=>⟨_,H6,I7,q6⟩
  | brk=>
   obtain ⟨σ',H6,I6,q6⟩:=h6
   exact Kd (v:=.non) (I6.unhush I5.ok) hN hi hn fun s7 I7=>⟨_,H6,I7,q6⟩
  | cont=>
   obtain ⟨σ',H6,I6,q6⟩:=h6
   exact Kd (v:=.non) (I6.unhush I5.ok) hN hi hn fun s7 I7=>⟨_,H6,I7,q6⟩
  | ret u=>
   obtain ⟨v,σ',H6,I6,r6,q6⟩:=h6
   exact Kd (v:=.non) (I6.unhush I5.ok) hN hi hn fun s7 I7=>⟨v,_,H6,I7,r6,q6⟩
theorem ja9 {X:Cx} {k k':Nat} {x c n:Str} {ps:List Str} {sp:Sp} {C:Addr} {e:Expr} {es:List Expr} {t:TA} {ts:TS} {i:Nat} {p cp np ap hp pos:Pos} {b0:Stmt} {suite:List Stmt}
  (F:FnX X.prog X.w X.K X.mg X.base k x ps sp) (hst:X.stack=X.env :: X.outer) (hfr:X.env.frame=some X.env.locals) (hr:Room k' X.A) (ha:QA X.nox (e :: es) t) (hs:∀ e,QSs (X.hush e) (b0 :: suite) ts)
  (hN:X.N.Nodup) (hi:X.N[i]?=some n) (hn:X.env.scope.names.lookup n=some .local)
  (hgc:Gl X c) (hmc:X.mg c=some (.ref C)) (hx:W.excIn X.K C valB "ValueError.__new__" = true)
  (hk:k≤k':=by decide) (hg:Gl X x:=by rfl)
  (hd:(x == ("__debug__" : Str))=false:=by decide) (hdc:(c == ("__debug__" : Str))=false:=by decide) (hpp:(e :: es).all qk=true:=by rfl) (hsw:swapsWith (.Call (.Name x p) (e :: es) [] cp) none ap.line X.env=pure false:=by rfl) :
  QS X (.Try [.Expr (.Call (.Name x p) (e :: es) [] cp) ap] [.ExceptHandler (some (.Name c np)) (some n) (b0 :: suite) hp] [] [] pos) (jb5 X.K sp C i t ts):=
 ⟨jcl F hst hfr hr ha.h (fun e=>(hs e).h) hN hi hn hgc hmc hx hk hg hd hdc hpp hsw⟩
section
variable {X:Cx}
def isTrue:Value→Bool
 | .bool b=>b
 | _=>false
theorem KS {A:Around} {s:Shared}:∀ {bs:List Bool} {us:List Value},Vals (bs.map V.bl) us→∀ y∈us,SeqAt.EqAt A s y (.bool true) (isTrue y)
 | [],_,r,y,hy=>by cases r;cases hy
 | b :: bs,_,r,y,hy=>by
  rw [List.map_cons] at r
  cases r with
  | cons a t=>
   cases a
   rcases List.mem_cons.mp hy with rfl | hy
   ·have:=SeqAt.EqAt.bool_bool (A:=A) (s:=s) b true
    cases b <;> exact this
   ·exact KS t y hy
theorem Yy:∀ {bs:List Bool} {us:List Value},Vals (bs.map V.bl) us→us.countP isTrue=bs.count true
 | [],_,r=>by cases r;rfl
 | b :: bs,_,r=>by
  rw [List.map_cons] at r
  cases r with
  | cons a t=>
   cases a
   rw [List.countP_cons,List.count_cons,Yy t]
   cases b <;> rfl
theorem JK:∀ {bs:List Bool} {us:List Value},Vals (bs.map V.bl) us→∀ (j:Nat) (h:j < us.length),bs[j]?=some (isTrue us[j])
 | [],_,r,j,h=>by cases r;exact absurd h (Nat.not_lt_zero _)
 | b :: bs,_,r,j,h=>by
  rw [List.map_cons] at r
  cases r with
  | cons a t=>
   cases a
   cases j with
   | zero=>rfl
   | succ j=>exact JK t j (Nat.lt_of_succ_lt_succ h)
theorem jbB:MtR X "list.count" (fun x vs H Q=>∃ (l:Addr) (bs:List Bool),x=.ref l∧vs=[.bl true]∧H l=some (.lst (bs.map V.bl))∧Q (.int (bs.count true:Nat)) H):=by
 intro pins s σ H x xs v us Q I rx rs h
 obtain ⟨l,bs,rfl,rfl,hH,q⟩:=h
 cases rx
 obtain ⟨u,rfl,ru⟩:=rs.one
 cases ru
 obtain ⟨z,its,n,r,hl,e⟩:=I.lstM hH
 refine call_meets F.slot_list_count ⟨_,e,rfl⟩ F.entry_list_count (F.args_list_count_2 _ _) (SeqAt.list_countAt l its.toArray n _ _ (.bool true) isTrue) ⟨e,fun y hy=>KS r y (by simpa using hy),?_⟩
 rw [List.toList_toArray,Yy r]
 exact ⟨.int (bs.count true:Nat),H,I.tok _,⟨_,rfl⟩,q⟩
theorem jbA:MtR X "list.index" (fun x vs H Q=>∃ (l:Addr) (bs:List Bool) (j:Nat),x=.ref l∧vs=[.bl true]∧H l=some (.lst (bs.map V.bl))∧bs[j]?=some true∧(∀ m < j,bs[m]?=some false)∧j < 1000∧Q (.int (j:Nat)) H):=by
 intro pins s σ H x xs v us Q I rx rs h
 obtain ⟨l,bs,j,rfl,rfl,hH,h1,h2,h3,q⟩:=h
 cases rx
 obtain ⟨u,rfl,ru⟩:=rs.one
 cases ru
 obtain ⟨z,its,n,r,hl,e⟩:=I.lstM hH
 have hlen:its.length=bs.length:=by rw [← r.length,List.length_map]
 have hj:j < its.length:=by rw [hlen];exact (List.getElem?_eq_some_iff.mp h1).1
 have hj63:(j:Int) < 2 ^ 63 - 1:=Int.lt_trans (show (j:Int) < 1000 by omega) (by decide)
 refine call_meets F.slot_list_index ⟨_,e,rfl⟩ F.entry_list_index (F.args_list_index_2 _ _) (SeqAt.list_indexAt l its.toArray n _ _ (.bool true) isTrue j (by simpa using hj) hj63 ?_ fun m hm hmj=>?_) ⟨e,fun y hy=>KS r y (by simpa using hy),?_⟩
 ·have:=JK r j hj
  rw [h1] at this
  injection this with this
  simpa using this.symm
 ·have hm':m < its.length:=by simpa using hm
  have:=JK r m hm'
  rw [h2 m hmj] at this
  injection this with this
  simpa using this.symm
 ·exact ⟨.int (j:Nat),H,I.tok _,⟨_,rfl⟩,q⟩
end
end L2
namespace LW
open PySem L2
abbrev Jl:Stmt:=top 48
def rsT:Option Rf→Str
 | none=>""
 | some r=>rfT r
structure Kls (K:W.Frag) (mg:Str→Option Value) (C:Cs) (CO CT CW CM:Addr):Prop where
 go:mg "OutlineError" = some (.ref CO)
 gt:mg "NoText" = some (.ref CT)
 gw:mg "TooWide" = some (.ref CW)
 gm:mg "TooMany" = some (.ref CM)
 xo:W.excIn K CO valB "ValueError.__new__" = true
 xx:∀ r,W.excIn K (C.at r) valB "ValueError.__new__" = true
 xc:∀ r,PySem.W.XCls K (C.at r)
 mr:∀ r,W.mroIn K (C.at r) (.ref CO)=some true
 k:∀ r q:Rf,W.kitOne K (.ref (C.at r)) (.ref (C.at q))=some (decide (r=q))
 kt:∀ r,W.kitOne K (.ref (C.at r)) (.ref CT)=some false
 kw:∀ r,W.kitOne K (.ref (C.at r)) (.ref CW)=some false
 km:∀ r,W.kitOne K (.ref (C.at r)) (.ref CM)=some false
 nn:∀ q,W.kitOne K (.type "NoneType") (.ref (C.at q))=some false
theorem qz {X:Cx} {K:W.Frag} (hK:X.K=K:=by rfl):q4 X (.builtin "isinstance") (fun xs H Q=>∃ x D b,xs=[x,.ref D]∧((x=.non∧W.kitOne K (.type "NoneType") (.ref D)=some b)∨∃ a C,x=.ref a∧H a=some (JM (.ref C) a)∧PySem.W.XCls K C∧W.kitOne K (.ref C) (.ref D)=some b)∧Q (.bl b) H):=by
 subst hK
 intro pins s σ H xs us Q I r h
 obtain ⟨x,D,b,rfl,h,q⟩:=h
 rcases h with ⟨rfl,e⟩ | ⟨a,C,rfl,ha,z,e⟩
 ·obtain ⟨u,v,rfl,ru,rv⟩:=jax r
  cases rv
  exact jbH I ru .non e fun tk=>⟨.bl b,H,I.tok _,rfl,q⟩
 ·exact Y4 pins s σ H _ us Q I r ⟨a,C,D,b,rfl,ha,z,e,q⟩
def Yk:Sp:=fun vs H Q _=>∃ (a:Addr) (us:List V) (ps:List Pc),vs=[.ref a]∧H a=some (.tup us)∧HeldL H (ps.map Pc.toD) us∧ps.length≤20∧(∀ p∈ps,PcSh 4 p)∧∀ H',Same H H'→Q (.str (rsT (qv (ps.map Pc.tk) [] ps))) H'
section
variable {P:Program} {w:World} {K:W.Frag} {mg:Str→Option Value} {base:Heap} {C:Cs} {CO CT CW CM:Addr}
theorem Z9 {f:Addr} {fd:FuncData} (F:Fun K "_law_refused" "_law_refused" Jl f fd) (B:Free0 mg) (Z:Exs K mg C) (k:Kls K mg C CO CT CW CM) (F_check:FnX P w K mg base 10 "check" ["program"] (jaI C 4)):FnOk P w K mg base CX0 11 f fd ["_law_program_here"] Yk:=by
 have sc:FnScope ["_law_program_here","_law_found","_law_kinds","e"] ["_law_program_here"] (jw Jl):=fQ
 refine F.ok sc (fun vs H Q E h=>?_) (fun cdv A outer s H vs Q E hr h=>?_)
 ·obtain ⟨a,us,ps,rfl,_⟩:=h
  rfl
 obtain ⟨a,us,ps,rfl,ha,hL,hz,hok,q⟩:=h
 refine ⟨_,QSs.h (je (js (i:=1) sc.nd rfl oQ jar)
   (je (ja9 (i:=3) F_check rfl rfl hr (jb (zpv 0) jd) (fun e=>jn (js (i:=1) sc.nd rfl oQ (zpv 3))) sc.nd rfl rfl (by rfl) k.go k.xo (by omega))
   (je (js (i:=2) sc.nd rfl oQ (jM (jb (j0 (qz (K:=K)) (by rfl) B.isinstance_ qj (jb (zpv 1) (jb (zP (v:=.ref C.n) (by rfl) Z.gn rfl) jd))) (jb (j0 (qz (K:=K)) (by rfl) B.isinstance_ qj (jb (zpv 1) (jb (zP (v:=.ref C.c) (by rfl) Z.gc rfl) jd))) (jb (j0 (qz (K:=K)) (by rfl) B.isinstance_ qj (jb (zpv 1) (jb (zP (v:=.ref C.s) (by rfl) Z.gs rfl) jd))) jd)))))
   (je (jT (jv jfs (zpv 1) jar (jP _)) (jn (jB jq)) jA)
   (je (jT (Ki (YG (j0 (qz (K:=K)) (by rfl) B.isinstance_ qj (jb (zpv 1) (jb (zP (v:=.ref CT) (by rfl) k.gt rfl) jd)))) (Ki (YG (j0 (qz (K:=K)) (by rfl) B.isinstance_ qj (jb (zpv 1) (jb (zP (v:=.ref CW) (by rfl) k.gw rfl) jd)))) (Ki (YG (j0 (qz (K:=K)) (by rfl) B.isinstance_ qj (jb (zpv 1) (jb (zP (v:=.ref CM) (by rfl) k.gm rfl) jd)))) (YF (jv jaV (qS PySem.F.plainAttrs_list PySem.F.slot_list_count PySem.F.type_list_count jbB (zpv 2) (jb Kj jd)) ji (jP _)))))).pt (jn (jB jq)) jA)
   (jn (jB (jz jW (jM (jb jq (jb jq (jb jq jd)))) (qS PySem.F.plainAttrs_list PySem.F.slot_list_index PySem.F.type_list_index jbA (zpv 2) (jb Kj jd)) (fun _ _=>rfl))))))))),?_⟩
 refine kb (σ':=[some (.ref a),none,none,none]) rfl ?_
 refine jgi ?_
 intro _ _ _ _ _
 refine gQ ?_
 refine ⟨_,rfl,a,us,ps,rfl,ha,hL,hz,hok,fun H1 s1=>?_⟩
 cases hh:qv (ps.map Pc.tk) [] ps with
 | none=>
  rw [hh] at q
  show _
  refine ⟨_,rfl,.non,C.n,false,rfl,.inl ⟨rfl,k.nn .name⟩,_,rfl,.non,C.c,false,rfl,.inl ⟨rfl,k.nn .count⟩,_,rfl,.non,C.s,false,rfl,.inl ⟨rfl,k.nn .set⟩,sm rfl,fun l hl=>?_⟩
  refine gQ ?_
  refine ⟨_,rfl,rfl,_,rfl,yl ?_⟩
  exact q _ (s1.trans (jr hl _))
 | some r=>
  rw [hh] at q
  refine ⟨C.at r,rfl,k.xx r,k.mr r,fun e he=>?_⟩
  have s2:=jr he (JM (.ref (C.at r)) e)
  have e2:upd H1 e (JM (.ref (C.at r)) e) e=some (JM (.ref (C.at r)) e):=jg
  generalize upd H1 e (JM (.ref (C.at r)) e)=H2 at *
  refine kb (σ':=[some (.ref a),some V.non,none,some (.ref e)]) rfl ?_
  refine ⟨_,rfl,?_⟩
  refine gQ ?_
  unfold Ends.gone
  dsimp only
  refine kb (σ':=[some (.ref a),some (.ref e),none,none]) rfl ?_
  refine ⟨_,rfl,.ref e,C.n,decide (r=.name),rfl,.inr ⟨e,C.at r,rfl,e2,k.xc r,k.k r .name⟩,_,rfl,.ref e,C.c,decide (r=.count),rfl,.inr ⟨e,C.at r,rfl,e2,k.xc r,k.k r .count⟩,_,rfl,.ref e,C.s,decide (r=.set),rfl,.inr ⟨e,C.at r,rfl,e2,k.xc r,k.k r .set⟩,sm rfl,fun l hl=>?_⟩
  have s3:=jr hl (.lst [V.bl (decide (r=.name)),V.bl (decide (r=.count)),V.bl (decide (r=.set))])
  have e3:upd H2 l (.lst [V.bl (decide (r=.name)),V.bl (decide (r=.count)),V.bl (decide (r=.set))]) l=some (.lst ([decide (r=.name),decide (r=.count),decide (r=.set)].map V.bl)):=jg
  generalize upd H2 l (.lst [V.bl (decide (r=.name)),V.bl (decide (r=.count)),V.bl (decide (r=.set))])=H3 at *
  have s13:=s1.trans (s2.trans s3)
  have e23:=s3 _ _ e2
  refine gQ ?_
  refine ⟨_,rfl,rfl,_,rfl,Ja ?_⟩
  unfold Zc
  dsimp only
  refine zu (fun b G=>b=false∧G=H3) (fun b G hb=>?_) (fun kk=>?_)
  rotate_left
  ·refine ⟨_,rfl,.ref e,CT,false,rfl,.inr ⟨e,C.at r,rfl,e23,k.xc r,k.kt r⟩,_,rfl,Ja ⟨_,rfl,.ref e,CW,false,rfl,.inr ⟨e,C.at r,rfl,e23,k.xc r,k.kw r⟩,_,rfl,Ja ⟨_,rfl,.ref e,CM,false,rfl,.inr ⟨e,C.at r,rfl,e23,k.xc r,k.km r⟩,_,rfl,Ja ?_⟩⟩⟩
   refine ⟨_,rfl,.inl ⟨rfl,_,SqL.of e3⟩,l,_,rfl,rfl,e3,rfl,_,rfl,kk _ _ ⟨?_,rfl⟩⟩
   cases r <;> rfl
  obtain ⟨rfl,rfl⟩:=hb
  refine Ja ?_
  refine ⟨sm rfl,fun l2 hl2=>?_⟩
  have s4:=jr hl2 (.lst [V.str (Str.ofString "name"),V.str (Str.ofString "count"),V.str (Str.ofString "set")])
  have e4:upd G l2 (.lst [V.str (Str.ofString "name"),V.str (Str.ofString "count"),V.str (Str.ofString "set")]) l2=some (.lst [V.str (Str.ofString "name"),V.str (Str.ofString "count"),V.str (Str.ofString "set")]):=jg
  have e34:=s4 _ _ e3
  generalize upd G l2 (.lst [V.str (Str.ofString "name"),V.str (Str.ofString "count"),V.str (Str.ofString "set")])=H4 at *
  obtain ⟨j,h1,h2,h3,h4⟩:∃ j:Nat,[decide (r=.name),decide (r=.count),decide (r=.set)][j]?=some true∧(∀ m < j,[decide (r=.name),decide (r=.count),decide (r=.set)][m]?=some false)∧j < 3∧atI [V.str (Str.ofString "name"),V.str (Str.ofString "count"),V.str (Str.ofString "set")] (j:Nat)=some (.str (rfT r)):=by
   cases r
   ·exact ⟨0,rfl,fun m hm=>absurd hm (Nat.not_lt_zero _),by decide,rfl⟩
   ·exact ⟨1,rfl,fun m hm=>by
     have h0:m=0:=by omega
     subst h0
     rfl,by decide,rfl⟩
   ·exact ⟨2,rfl,fun m hm=>by
     have:m=0∨m=1:=by omega
     rcases this with rfl | rfl <;> rfl,by decide,rfl⟩
  refine ⟨_,rfl,.inl ⟨rfl,_,SqL.of e34⟩,l,_,j,rfl,rfl,e34,h1,h2,by omega,l2,_,_,_,rfl,rfl,SqL.of e4,h4,?_⟩
  exact q _ (s13.trans s4)
end
theorem Ke:∀ {T:Tks} {h:Str×Nat×Nat},h∈T→(∀ t∈T,t.1=h.1→t=h)→T.find? (fun t=>t.1 == h.1)=some h
 | [],_,hm,_=>(nomatch hm)
 | x :: T,h,hm,hu=>by
  by_cases e:x.1=h.1
  ·rw [List.find?_cons_of_pos (by simpa using e),hu x (List.mem_cons_self ..) e]
  ·rw [List.find?_cons_of_neg (by simpa using e)]
   rcases List.mem_cons.mp hm with rfl | hm
   ·exact absurd rfl e
   ·exact Ke hm (fun t ht=>hu t (List.mem_cons_of_mem _ ht))
theorem jet {T:Tks} {f:Str} (h:∀ t∈T,t.1≠f):T.find? (fun t=>t.1 == f)=none:=List.find?_eq_none.mpr fun t ht=>by simpa using h t ht
theorem yg {T:Tks}:∀ {ps:List Pc} {A:List Str} {qQ:List Pc},(∀ p∈ps,Jo T p=none)→(∀ p∈ps,p.f ∉ A)→(ps.map Pc.f).Nodup→qv T A (ps++qQ)=qv T (A++ps.map Pc.f) qQ
 | [],A,qQ,_,_,_=>by rw [List.map_nil,List.append_nil];rfl
 | p :: ps,A,qQ,h1,h2,h3=>by
  obtain ⟨n1,n2⟩:=List.nodup_cons.mp h3
  show qv T A (p :: (ps++qQ))=_
  rw [qP,if_neg (h2 p (List.mem_cons_self ..)),h1 p (List.mem_cons_self ..)]
  dsimp only
  rw [yg (fun q hq=>h1 q (List.mem_cons_of_mem _ hq)) (fun q hq z=>?_) n2,List.append_assoc]
  ·rfl
  ·rcases List.mem_append.mp z with z | z
   ·exact h2 q (List.mem_cons_of_mem _ hq) z
   ·exact n1 (by rw [← List.mem_singleton.mp z];exact List.mem_map.mpr ⟨q,hq,rfl⟩)
structure Prog (hds:List Hd) (ps:List Pc):Prop where
 tk:ps.map Pc.tk=hds
 nd:(hds.map (·.1)).Nodup
 ok:∀ p∈ps,PGood hds p
 l4:hds.length≤4
 l0:0 < hds.length
theorem Prog.nm {hds:List Hd} {ps:List Pc} (P:Prog hds ps):ps.map Pc.f=hds.map (·.1):=by rw [← P.tk,List.map_map];rfl
theorem Prog.uniq {hds:List Hd} {ps:List Pc} (P:Prog hds ps) {t h:Hd} (ht:t∈hds) (hh:h∈hds) (e:t.1=h.1):t=h:=by
 have h1:=yU P.nd ht
 have h2:=yU P.nd hh
 rw [e,h2] at h1
 injection h1 with h1
 exact h1.symm
theorem Prog.good {hds:List Hd} {ps:List Pc} (P:Prog hds ps):qv (ps.map Pc.tk) [] ps=none:=by
 have h:=yg (T:=ps.map Pc.tk) (ps:=ps) (A:=[]) (qQ:=[]) (fun p hp=>(P.ok p hp).proc (by rw [P.tk];exact fun h hh=>yU P.nd hh)) (fun _ _=>List.not_mem_nil) (by rw [P.nm];exact P.nd)
 rw [List.append_nil] at h
 exact h
theorem Prog.bad {hds:List Hd} {ps ex:List Pc} {q:Pc} {f st:Str} {rf:Rf} (P:Prog hds ps) (B:PBad f st q rf) (i:Nat) (hf:f ∉ hds.map (·.1)) (hst:st ∉ hds.map (·.1)) (hfs:st≠f) (hex:∀ e∈ex,e.f ∉ hds.map (·.1)∧e.f≠f∧e.f≠st):qv ((ps.take i++q :: (ps.drop i++ex)).map Pc.tk) [] (ps.take i++q :: (ps.drop i++ex))=some rf:=by
 have qf:q.f=f:=congrArg Prod.fst B.tk
 have hT:∀ t,t∈(ps.take i++q :: (ps.drop i++ex)).map Pc.tk↔t∈hds∨t=(f,2,2)∨t∈ex.map Pc.tk:=fun t=>by
  rw [List.map_append,List.map_cons,List.map_append,B.tk,List.mem_append,List.mem_cons,List.mem_append,← P.tk]
  constructor
  ·rintro (h | h | h | h)
   ·obtain ⟨p,hp,rfl⟩:=List.mem_map.mp h
    exact .inl (List.mem_map.mpr ⟨p,List.mem_of_mem_take hp,rfl⟩)
   ·exact .inr (.inl h)
   ·obtain ⟨p,hp,rfl⟩:=List.mem_map.mp h
    exact .inl (List.mem_map.mpr ⟨p,List.mem_of_mem_drop hp,rfl⟩)
   ·exact .inr (.inr h)
  ·rintro (h | h | h)
   ·obtain ⟨p,hp,rfl⟩:=List.mem_map.mp h
    rw [← List.take_append_drop i ps] at hp
    rcases List.mem_append.mp hp with hp | hp
    ·exact .inl (List.mem_map.mpr ⟨p,hp,rfl⟩)
    ·exact .inr (.inr (.inl (List.mem_map.mpr ⟨p,hp,rfl⟩)))
   ·exact .inr (.inl h)
   ·exact .inr (.inr (.inr h))
 have exn:∀ t∈ex.map Pc.tk,t.1 ∉ hds.map (·.1)∧t.1≠f∧t.1≠st:=fun t ht=>by
  obtain ⟨e,he,rfl⟩:=List.mem_map.mp ht
  exact hex e he
 have hh:∀ h∈hds,((ps.take i++q :: (ps.drop i++ex)).map Pc.tk).find? (fun t=>t.1 == h.1)=some h:=fun h hm=>Ke ((hT h).mpr (.inl hm)) fun t ht e=>by
  have hm1:h.1∈hds.map (·.1):=List.mem_map.mpr ⟨h,hm,rfl⟩
  rcases (hT t).mp ht with ht | rfl | ht
  ·exact P.uniq ht hm e
  ·exact absurd (show f∈hds.map (·.1) by rw [show f=h.1 from e];exact hm1) hf
  ·exact absurd (by rw [e];exact hm1) (exn t ht).1
 have hq:((ps.take i++q :: (ps.drop i++ex)).map Pc.tk).find? (fun t=>t.1 == f)=some (f,2,2):=Ke (h:=(f,2,2)) ((hT _).mpr (.inr (.inl rfl))) fun t ht e=>by
  rcases (hT t).mp ht with ht | rfl | ht
  ·exact absurd (List.mem_map.mpr ⟨t,ht,e⟩) hf
  ·rfl
  ·exact absurd e (exn t ht).2.1
 have hs:((ps.take i++q :: (ps.drop i++ex)).map Pc.tk).find? (fun t=>t.1 == st)=none:=jet fun t ht e=>by
  rcases (hT t).mp ht with ht | rfl | ht
  ·exact hst (List.mem_map.mpr ⟨t,ht,e⟩)
  ·exact hfs e.symm
  ·exact (exn t ht).2.2 e
 generalize (ps.take i++q :: (ps.drop i++ex)).map Pc.tk=T at *
 have nd2:((ps.take i).map Pc.f).Nodup:=by
  have:(ps.map Pc.f).Nodup:=by rw [P.nm];exact P.nd
  rw [← List.take_append_drop i ps,List.map_append] at this
  exact (List.nodup_append.mp this).1
 rw [yg (fun p hp=>(P.ok p (List.mem_of_mem_take hp)).proc hh) (fun _ _=>List.not_mem_nil) nd2,List.nil_append,qP,if_neg (fun z=>?_),B.R T hq hs]
 rw [qf] at z
 obtain ⟨p,hp,e⟩:=List.mem_map.mp z
 exact hf (by rw [← P.nm];exact List.mem_map.mpr ⟨p,List.mem_of_mem_take hp,e⟩)
theorem Prog.twice {hds:List Hd} {ps ex:List Pc} {q:Pc} (P:Prog hds ps) (hq:ps[0]?=some q) (i:Nat) (hex:∀ e∈ex,e.f ∉ hds.map (·.1)):qv ((ps.take i++q :: (ps.drop i++ex)).map Pc.tk) [] (ps.take i++q :: (ps.drop i++ex))=some .name:=by
 have hT:∀ t,t∈(ps.take i++q :: (ps.drop i++ex)).map Pc.tk↔t∈hds∨t∈ex.map Pc.tk:=fun t=>by
  rw [List.map_append,List.map_cons,List.map_append,List.mem_append,List.mem_cons,List.mem_append,← P.tk]
  constructor
  ·rintro (h | h | h | h)
   ·obtain ⟨p,hp,rfl⟩:=List.mem_map.mp h
    exact .inl (List.mem_map.mpr ⟨p,List.mem_of_mem_take hp,rfl⟩)
   ·exact .inl (List.mem_map.mpr ⟨q,List.mem_of_getElem? hq,h.symm⟩)
   ·obtain ⟨p,hp,rfl⟩:=List.mem_map.mp h
    exact .inl (List.mem_map.mpr ⟨p,List.mem_of_mem_drop hp,rfl⟩)
   ·exact .inr h
  ·rintro (h | h)
   ·obtain ⟨p,hp,rfl⟩:=List.mem_map.mp h
    rw [← List.take_append_drop i ps] at hp
    rcases List.mem_append.mp hp with hp | hp
    ·exact .inl (List.mem_map.mpr ⟨p,hp,rfl⟩)
    ·exact .inr (.inr (.inl (List.mem_map.mpr ⟨p,hp,rfl⟩)))
   ·exact .inr (.inr (.inr h))
 have hh:∀ h∈hds,((ps.take i++q :: (ps.drop i++ex)).map Pc.tk).find? (fun t=>t.1 == h.1)=some h:=fun h hm=>Ke ((hT h).mpr (.inl hm)) fun t ht e=>by
  rcases (hT t).mp ht with ht | ht
  ·exact P.uniq ht hm e
  ·obtain ⟨e',he,rfl⟩:=List.mem_map.mp ht
   exact absurd (by rw [show e'.f=h.1 from e];exact List.mem_map.mpr ⟨h,hm,rfl⟩) (hex e' he)
 generalize (ps.take i++q :: (ps.drop i++ex)).map Pc.tk=T at *
 have nd1:(ps.map Pc.f).Nodup:=by rw [P.nm];exact P.nd
 cases ps with
 | nil=>cases hq
 | cons p0 ps=>
  obtain rfl:p0=q:=Option.some.inj (show some p0=some q from hq)
  cases i with
  | zero=>
   show qv T [] (p0 :: (p0 :: ps++ex))=_
   rw [qP,if_neg List.not_mem_nil,(P.ok p0 (List.mem_cons_self ..)).proc hh]
   show qv T [p0.f] (p0 :: (ps++ex))=_
   rw [qP,if_pos (List.mem_cons_self ..)]
  | succ i=>
   have nd2:(((p0 :: ps).take (i+1)).map Pc.f).Nodup:=by
    rw [← List.take_append_drop (i+1) (p0 :: ps),List.map_append] at nd1
    exact (List.nodup_append.mp nd1).1
   rw [yg (fun p hp=>(P.ok p (List.mem_of_mem_take hp)).proc hh) (fun _ _=>List.not_mem_nil) nd2,List.nil_append,qP,if_pos]
   exact List.mem_map.mpr ⟨p0,List.mem_cons_self ..,rfl⟩
abbrev Z4:Stmt:=top 49
def jaG (K:W.Frag):Sp:=fun vs H Q _=>∃ (a:Addr) (ns:List Int),vs=[.ref a]∧SqL K H a (ns.map V.int)∧ns.length≤63∧∀ H',Q (.bl true) H'
theorem jaK {X:Cx}:SlR X (fun x lo hi H Q=>∃ a xs,x=.ref a∧H a=some (.tup xs)∧∀ a' H',Same H H'→H' a'=some (.tup (qh xs lo hi))→Q (.ref a') H'):=by
 intro pins s σ H x v vl vu lo hi sl Q I rx hs pl pu h
 obtain ⟨a,xs,e,hx,q⟩:=h
 exact jdI pins s σ H x v vl vu lo hi sl Q I rx hs pl pu ⟨a,xs,e,SqT.of hx,fun hw=>q a H (fun _ _ e=>e) (by rw [jak hw];exact hx),fun _ p hp=>q p _ (jG hp _) jg⟩
theorem jdf (xs:List V) (i:Nat):qh xs none (some (i:Int))=xs.take i:=by
 unfold qh
 rw [HT.sIx_none,HT.sIx_nat,List.drop_zero,Nat.sub_zero]
 rcases Nat.le_total i xs.length with h | h
 ·rw [Nat.min_eq_left h]
 ·rw [Nat.min_eq_right h,List.take_of_length_le (Nat.le_refl _),List.take_of_length_le h]
theorem jdg (xs:List V) (i:Nat):qh xs (some (i:Int)) none=xs.drop i:=by
 unfold qh
 rw [HT.sIx_none,HT.sIx_nat]
 rcases Nat.le_total i xs.length with h | h
 ·rw [Nat.min_eq_left h]
  exact List.take_of_length_le (by rw [List.length_drop];omega)
 ·rw [Nat.min_eq_right h,List.drop_of_length_le (Nat.le_refl _),List.drop_of_length_le h]
  exact List.take_nil
theorem KG {H:Hp}:∀ {ds:List D} {xs:List V} (i:Nat),HeldL H ds xs→HeldL H (ds.take i) (xs.take i)
 | [],_,i,h=>by cases jK h;rw [List.take_nil,List.take_nil];exact jt
 | d :: ds,_,0,h=>jt
 | d :: ds,_,i+1,h=>by
  obtain ⟨v,r,rfl,e,h2⟩:=jk h
  exact jh e (KG i h2)
theorem KH {H:Hp}:∀ {ds:List D} {xs:List V} (i:Nat),HeldL H ds xs→HeldL H (ds.drop i) (xs.drop i)
 | [],_,i,h=>by cases jK h;rw [List.drop_nil,List.drop_nil];exact jt
 | d :: ds,_,0,h=>h
 | d :: ds,_,i+1,h=>by
  obtain ⟨v,r,rfl,e,h2⟩:=jk h
  exact KH i h2
section
variable {P:Program} {w:World} {K:W.Frag} {mg:Str→Option Value} {base:Heap}
theorem jfu {f:Addr} {fd:FuncData} (F:Fun K "law" "law" Z4 f fd) (B:Free0 mg) (F_many:Fn P w K mg base 1 "_law_many" ["_law_script"] (jcc K)) (F_taken:Fn P w K mg base 1 "_law_taken" [] J3) (F_program:Fn P w K mg base 18 "_law_program" ["_law_script","_law_many_here","_law_taken_here"] (Kn K)) (F_deal:Fn P w K mg base 1 "_law_deal" ["_law_script","_law_k"] (Z2 K)) (F_name:Fn P w K mg base 2 "_law_name" ["_law_deal_here","_law_taken_here"] Ko) (F_draw:Fn P w K mg base 1 "_law_draw" ["_law_deal_here","_law_many_here"] qI) (F_wrong:Fn P w K mg base 3 "_law_wrong" ["_law_deal_here","_law_f","_law_strange"] jaD) (F_refused:Fn P w K mg base 11 "_law_refused" ["_law_program_here"] Yk):FnOk P w K mg base CX0 19 f fd ["_law_script"] (jaG K):=by
 have sc:FnScope ["_law_script","_law_many_here","_law_taken_here","_law_program_here","_law_deal_here","_law_strange","_law_wrong_here","_law_due","_law_at","_law_bad","_law_k"] ["_law_script"] (jw Z4):=fQ
 refine F.okZ sc (fun vs H Q E h=>?_) (fun cdv A outer s H vs Q E hr h=>?_)
 ·obtain ⟨a,ns,rfl,_⟩:=h
  rfl
 obtain ⟨a,ns,rfl,hS,hn,q⟩:=h
 refine ⟨_,(je (js (i:=1) sc.nd rfl oQ (jH F_many hr (jb (zpv 0) jd)))
   (je (js (i:=2) sc.nd rfl oQ (YI F_taken hr))
   (je (js (i:=3) sc.nd rfl oQ (jH F_program hr (jb (zpv 0) (jb (j0 (Yw rfl) (by rfl) B.max_ jdp (jb ji (jb (jD JG (zpv 1) ji) jd))) (jb (zpv 2) jd)))))
   (je (js (i:=4) sc.nd rfl oQ (jH F_deal hr (jb (zpv 0) (jb (jD JG (zpv 1) ji) jd))))
   (je (js (i:=5) sc.nd rfl oQ (jH F_name hr (jb (zpv 4) (jb (zpv 2) jd))))
   (je (ql (jH F_wrong hr (jb (zpv 4) (jb (jH F_name hr (jb (zpv 4) (jb (zpv 2) jd))) (jb (zpv 5) jd)))) (qR rfl (jJ (jy (i:=6) sc.nd rfl oQ) (jJ (jy (i:=7) sc.nd rfl oQ) kX))))
   (je (jT (jv kq (jH F_draw hr (jb (zpv 4) (jb ji jd))) ji (jP _)) (je (js (i:=6) sc.nd rfl oQ (jz jS (zpv 3) ji (fun _ _=>rfl)))
   (jn (js (i:=7) sc.nd rfl oQ jq))) jA)
   (je (js (i:=8) sc.nd rfl oQ (jH F_draw hr (jb (zpv 4) (jb (jD qX (j0 jO (by rfl) B.len_ ke (jb (zpv 3) jd)) ji) jd))))
   (je (js (i:=9) sc.nd rfl oQ (jD qD (jD qD (kA jaK (zpv 3) qA (kj (zpv 8))) (jX (jb (zpv 6) jd))) (kA jaK (zpv 3) (kj (zpv 8)) qA)))
   (je (jT (jv kq (jH F_draw hr (jb (zpv 4) (jb ji jd))) ji (jP _)) (jn (js (i:=9) sc.nd rfl oQ (jD qD (zpv 9) (jX (jb (jz jS (jH F_wrong hr (jb (zpv 4) (jb (jH F_name hr (jb (zpv 4) (jb (zpv 2) jd))) (jb (zpv 5) jd)))) ji (fun _ _=>rfl)) jd))))) jA)
   (je (kK PassesOwn.never rfl (kx (by rfl) B.range_ (jb ji jd)) (jy (i:=10) sc.nd rfl oQ) (jn (jT (Ki (jv jaV (jH F_refused hr (jb (zpv 9) jd)) (zpv 7) (jP _)) (YF (jv jaV (jH F_refused hr (jb (zpv 3) jd)) jq (jP _)))).pt (jn (jB Kj)) jA)))
   (jn (jB Kj))))))))))))),?_⟩
 try dsimp only [q0]
 refine kb (σ':=[some (.ref a),none,none,none,none,none,none,none,none,none,none]) rfl ?_
 refine jc3 ?_
 intro _ _ _ _ _ _ _ _ _ _ _
 refine ⟨_,rfl,a,ns,rfl,hS,hn,?_⟩
 rw [show (if ns.length=0 then 1 else ((ns.length:Nat):Int))=(((if ns.length=0 then 1 else ns.length:Nat):Nat):Int) by split <;> rfl]
 have hM:1≤(if ns.length=0 then 1 else ns.length)∧(if ns.length=0 then 1 else ns.length)≤63:=by split <;> omega
 generalize (if ns.length=0 then 1 else ns.length)=M at *
 refine gQ ?_
 refine ⟨rfl,fun tl htl=>?_⟩
 have s1:=jr htl (.lst (jE.map V.str))
 have e1:upd H tl (.lst (jE.map V.str)) tl=some (.lst (jE.map V.str)):=jg
 generalize upd H tl (.lst (jE.map V.str))=H1 at *
 refine gQ ?_
 refine ⟨_,rfl,_,rfl,_,_,rfl,rfl,_,_,rfl,_,rfl,?_⟩
 have hm2:∃ m2:Nat,(if ((M:Int) - 1) > 1 then ((M:Int) - 1) else 1)=(m2:Nat)∧m2≤63:=by
  split
  ·exact ⟨M - 1,by omega,by omega⟩
  ·exact ⟨1,rfl,by decide⟩
 obtain ⟨m2,em,hm⟩:=hm2
 refine ⟨a,tl,ns,m2,by rw [em];rfl,s1.seq hS,hn,hm,e1,fun u H2 k2 t2 h2=>?_⟩
 have s2:Same H H2:=fun b o e=>k2 _ _ (ju e htl) (s1 _ _ e)
 obtain ⟨hh0,hh4,hnd,hsz,hnm,hnt⟩:=ZE ns m2
 obtain ⟨ptk,pok⟩:=jcn ns m2
 generalize qd ns m2=hds at *
 generalize Zs ns m2=ps at *
 have PP:Prog hds ps:=⟨ptk,hnd,pok,hh4,hh0⟩
 obtain ⟨pa,us,rfl,hpa,hL⟩:=jC h2
 clear h2 k2 s1 e1 em
 refine gQ ?_
 refine ⟨_,rfl,_,rfl,_,_,rfl,rfl,a,ns,(M:Int) - 1,rfl,s2.seq hS,hn,by omega,by omega,fun d H3 hd0 s3 e3=>?_⟩
 have t3:=s3 _ _ t2
 have hpa3:=s3 _ _ hpa
 have hL3:=hL.mono s3
 generalize (KM ns ((M:Int) - 1)).2=n0 at *
 generalize (KM ns ((M:Int) - 1)).1=w at *
 clear t2 hpa hL s3 s2 htl hd0 hS
 have tl4:(jE++hds.map (·.1)).length≤20:=by rw [List.length_append,List.length_map];show 16+_≤20;omega
 have tN:∀ z∈jE++hds.map (·.1),NmW z:=fun z hz=>(List.mem_append.mp hz).elim (kM z) (hnm z)
 have tE:jE++hds.map (·.1)≠[]:=fun z=>by cases z
 refine gQ ?_
 have tkk:∀ {X Y:Hp} {zs:List Str} {m:Dl},X d=some (dlO w m)→X tl=some (.lst (zs.map V.str))→(∀ b o,b≠d→b≠tl→X b=some o→Y b=some o)→TK X Y:=fun h1 h2 k b ys e=>k _ _ (fun z=>by rw [z,h1] at e;cases e) (fun z=>by rw [z,h2] at e;cases e) e
 obtain ⟨st1,st2⟩:=yy w n0 tE (by omega) tN
 refine ⟨_,rfl,_,rfl,d,tl,w,n0,_,rfl,e3,t3,tE,by omega,tN,fun H4 q1 d4 t4=>?_⟩
 have tk4:=tkk e3 t3 q1
 have hpa4:=tk4 _ _ hpa3
 have hL4:=tk4.heldL hL3
 clear e3 t3 q1 tk4 hpa3 hL3
 generalize kY w n0 (jE++hds.map (·.1))=sn at *
 obtain ⟨st,n1⟩:=sn
 dsimp only at st1 st2 d4 t4
 have hst:st ∉ hds.map (·.1):=fun z=>st2 (List.mem_append.mpr (.inr z))
 generalize htk:jE++hds.map (·.1)=tk0 at *
 have tN1:∀ z∈tk0++[st],NmW z:=fun z hz=>(List.mem_append.mp hz).elim (tN z) (fun h=>by rw [List.mem_singleton.mp h];exact st1)
 have tE1:tk0++[st]≠[]:=fun z=>by have:=congrArg List.length z;rw [List.length_append] at this;cases this
 have tl1:(tk0++[st]).length≤21:=by rw [List.length_append];exact Nat.succ_le_succ tl4
 refine gQ ?_
 obtain ⟨g1,g2⟩:=yy w n1 tE1 (by omega) tN1
 refine ⟨_,rfl,_,rfl,_,rfl,d,tl,w,n1,_,rfl,d4,t4,tE1,by omega,tN1,fun H5 q1 d5 t5=>?_⟩
 have tk5:=tkk d4 t4 q1
 have hpa5:=tk5 _ _ hpa4
 have hL5:=tk5.heldL hL4
 clear d4 t4 q1 tk5 hpa4 hL4
 generalize kY w n1 (tk0++[st])=gn at *
 obtain ⟨g,n2⟩:=gn
 dsimp only at g1 g2 d5 t5
 have hg:g ∉ hds.map (·.1):=fun z=>g2 (List.mem_append.mpr (.inl (by rw [← htk];exact List.mem_append.mpr (.inr z))))
 have hgs:st≠g:=fun z=>g2 (List.mem_append.mpr (.inr (by rw [z];exact List.mem_cons_self ..)))
 have tN2:∀ z∈tk0++[st]++[g],NmW z:=fun z hz=>(List.mem_append.mp hz).elim (tN1 z) (fun h=>by rw [List.mem_singleton.mp h];exact g1)
 have tE2:tk0++[st]++[g]≠[]:=fun z=>by have:=congrArg List.length z;rw [List.length_append] at this;cases this
 have tl2:(tk0++[st]++[g]).length≤22:=by rw [List.length_append];exact Nat.succ_le_succ tl1
 refine ⟨_,rfl,d,w,n2,g,st,rfl,d5,g1,st1,fun u6 H6 n3 qp rf k6 d6 B6 h6=>?_⟩
 obtain ⟨t,ts,rfl,ht,m1⟩:=jC h6
 obtain ⟨vw,r1,rfl,hvw,m2'⟩:=jk m1
 obtain ⟨vd,r2,rfl,hvd,m3⟩:=jk m2'
 cases jK m3
 cases jN hvd
 have hpa6:=k6.tk d5 _ _ hpa5
 have hL6:=(k6.tk d5).heldL hL5
 have t6:=k6.strs d5 t5
 clear d5 t5 k6 hpa5 hL5 m1 m2' m3 hvd
 refine ⟨t,_,rfl,SqT.of ht,rfl,_,_,rfl,_,_,rfl,rfl,?_⟩
 refine kb (σ':=[some (.ref a),some (.int (M:Nat)),some (.ref tl),some (.ref pa),some (.ref d),some (.str st),some vw,some (.str (rfT rf)),none,none,none]) rfl ?_
 have hlen:=hL6.length
 rw [List.length_map] at hlen
 have pl:ps.length=hds.length:=by rw [← PP.tk,List.length_map]
 let WB:Pc→Rf→Prop:=fun q rf=>PBad g st q rf∨(ps[0]?=some q∧rf=.name)
 dsimp only
 refine jbe (fun σ G=>∃ vw q rf n',σ=[some (.ref a),some (.int (M:Nat)),some (.ref tl),some (.ref pa),some (.ref d),some (.str st),some vw,some (.str (rfT rf)),none,none,none]∧WB q rf∧Held G q.toD vw∧G d=some (dlO w n')∧G tl=some (.lst ((tk0++[st]++[g]).map V.str))∧G pa=some (.tup us)∧HeldL G (ps.map Pc.toD) us) ?_ (fun kk=>?_)
 rotate_left
 ·have k7:=Keep.upd d H6 (dlO w (jl w n3 20).2)
  have tk7:=k7.tk d6
  refine ⟨_,rfl,d,w,n3,20,rfl,d6,by decide,by decide,rfl,_,rfl,jU (fun c=>?_) (fun c=>?_)⟩
  ·have h0:0 < ps.length:=by omega
   obtain ⟨v0,ev0,hv0⟩:=hL6.get (j:=0) (d:=ps[0].toD) (by rw [List.getElem?_map,List.getElem?_eq_getElem h0];rfl)
   refine ⟨_,rfl,pa,_,_,v0,rfl,rfl,SqT.of (tk7 _ _ hpa6),ko ev0,?_⟩
   refine gQ ?_
   refine kk _ _ ⟨v0,ps[0],.name,_,rfl,.inr ⟨List.getElem?_eq_getElem h0,rfl⟩,tk7.held hv0,jg,k7.strs d6 t6,tk7 _ _ hpa6,tk7.heldL hL6⟩
  ·exact kk _ _ ⟨vw,qp,rf,_,rfl,.inl B6,tk7.held hvw,jg,k7.strs d6 t6,tk7 _ _ hpa6,tk7.heldL hL6⟩
 clear hvw hpa6 hL6 d6 t6 ht h6 B6 rf qp vw n3
 rintro σ G ⟨vw,qp,rf,n3,rfl,WQ,hvw,d7,t7,hpa7,hL7⟩
 have hlo:=jR w n3 (m:=(us.length:Int)+1) (by omega)
 have hhi:=jL w n3 (m:=(us.length:Int)+1) (by omega)
 have k8:=Keep.upd d G (dlO w (jl w n3 ((us.length:Int)+1)).2)
 have tk8:=k8.tk d7
 have t8:=k8.strs d7 t7
 have hpa8:=tk8 _ _ hpa7
 have hL8:=tk8.heldL hL7
 have hvw8:=tk8.held hvw
 refine ⟨_,rfl,_,rfl,pa,_,rfl,.inr (SqT.of hpa7),_,_,rfl,rfl,d,w,n3,(us.length:Int)+1,rfl,d7,by omega,by omega,?_⟩
 have d8:upd G d (dlO w (jl w n3 ((us.length:Int)+1)).2) d=some (dlO w (jl w n3 ((us.length:Int)+1)).2):=jg
 generalize upd G d (dlO w (jl w n3 ((us.length:Int)+1)).2)=G8 at *
 generalize jl w n3 ((us.length:Int)+1)=y at *
 obtain ⟨y,n4⟩:=y
 dsimp only at hlo hhi d8 ⊢
 obtain ⟨i,rfl⟩:∃ i:Nat,y=(i:Nat):=⟨y.toNat,by omega⟩
 clear k8 tk8 d7 t7 hpa7 hL7 hvw
 refine gQ ?_
 refine ⟨_,rfl,_,rfl,_,rfl,pa,us,rfl,hpa8,fun pb G9 s9 e9=>?_⟩
 rw [jdf] at e9
 refine ⟨_,rfl,sm rfl,fun pc hpc=>?_⟩
 have s10:=jr hpc (.tup [vw])
 refine ⟨pb,pc,_,_,rfl,rfl,s10 _ _ e9,jg,kc (by rw [List.length_take];show _+1≤_;omega),fun pd G11 s11 e11=>?_⟩
 have s911:=s9.trans (s10.trans s11)
 refine ⟨_,rfl,_,rfl,_,rfl,pa,us,rfl,s911 _ _ hpa8,fun pe G12 s12 e12=>?_⟩
 rw [jdg] at e12
 refine ⟨pd,pe,_,_,rfl,rfl,s12 _ _ e11,e12,kc (by rw [List.length_append,List.length_take,List.length_drop];show _+1+_≤_;omega),fun pf G13 s13 e13=>?_⟩
 have sG:=s911.trans (s12.trans s13)
 have d13:=sG _ _ d8
 have t13:=sG _ _ t8
 have hpa13:=sG _ _ hpa8
 have hL13:=hL8.mono sG
 have hB:HeldL G13 ((ps.take i++qp :: (ps.drop i++[])).map Pc.toD) (us.take i++[vw]++us.drop i):=by
  rw [List.append_nil,List.map_append,List.map_cons,List.append_assoc,List.map_take,List.map_drop]
  exact qi (KG i hL13) (jh (hvw8.mono sG) (KH i hL13))
 clear d8 t8 hpa8 hL8 hvw8 s9 s10 s11 s12 s13 e9 e11 e12 s911 sG
 generalize us.take i++[vw]++us.drop i=bs at *
 refine gQ ?_
 dsimp only
 refine jbe (fun σ X=>∃ pg ws ex,σ=[some (.ref a),some (.int (M:Nat)),some (.ref tl),some (.ref pa),some (.ref d),some (.str st),some vw,some (.str (rfT rf)),some (.int (i:Nat)),some (.ref pg),none]∧X pg=some (.tup ws)∧HeldL X ((ps.take i++qp :: (ps.drop i++ex)).map Pc.toD) ws∧X pa=some (.tup us)∧HeldL X (ps.map Pc.toD) us∧ex.length≤1∧∀ e∈ex,PcSh 4 e∧e.f ∉ hds.map (·.1)∧e.f≠g∧e.f≠st) ?_ (fun kk=>?_)
 rotate_left
 ·have k14:=Keep.upd d G13 (dlO w (jl w n4 2).2)
  have tk14:=k14.tk d13
  have t14:=k14.strs d13 t13
  refine ⟨_,rfl,d,w,n4,2,rfl,d13,by decide,by decide,rfl,_,rfl,jU (fun c=>?_) (fun c=>?_)⟩
  ·have d14:upd G13 d (dlO w (jl w n4 2).2) d=some (dlO w (jl w n4 2).2):=jg
   have e14:=tk14 _ _ e13
   have hB14:=tk14.heldL hB
   have hpa14:=tk14 _ _ hpa13
   have hL14:=tk14.heldL hL13
   generalize upd G13 d (dlO w (jl w n4 2).2)=G14 at *
   generalize (jl w n4 2).2=n5 at *
   obtain ⟨z1,z2⟩:=yy w n5 tE2 (by omega) tN2
   refine ⟨_,rfl,_,rfl,_,rfl,_,rfl,d,tl,w,n5,_,rfl,d14,t14,tE2,by omega,tN2,fun G15 q1 d15 t15=>?_⟩
   have tk15:=tkk d14 t14 q1
   generalize kY w n5 (tk0++[st]++[g])=zn at *
   obtain ⟨g',n6⟩:=zn
   dsimp only at z1 z2 d15 t15
   refine ⟨_,rfl,d,w,n6,g',st,rfl,d15,z1,st1,fun u16 G16 n7 q2 rf2 k16 d16 B16 h16=>?_⟩
   have tk16:=k16.tk d15
   obtain ⟨t',ts',rfl,ht',m1⟩:=jC h16
   obtain ⟨v2,r1',rfl,hv2,m2'⟩:=jk m1
   refine ⟨t',_,_,v2,rfl,rfl,SqT.of ht',ko (j:=0) rfl,sm rfl,fun pz hpz=>?_⟩
   have s17:=jr hpz (.tup [v2])
   have hB16:=tk16.heldL (tk15.heldL hB14)
   have lb:=hB16.length
   refine ⟨pf,pz,_,_,rfl,rfl,s17 _ _ (tk16 _ _ (tk15 _ _ e14)),jg,kc ?_,fun ph G18 s18 e18=>?_⟩
   ·rw [← lb,List.length_map,List.length_append,List.length_cons,List.length_append,List.length_take,List.length_drop]
    show _+(_+0+1)+1≤_
    omega
   have sA:=s17.trans s18
   refine gQ ?_
   refine kk _ _ ⟨ph,_,[q2],rfl,e18,?_,sA _ _ (tk16 _ _ (tk15 _ _ hpa14)),(tk16.heldL (tk15.heldL hL14)).mono sA,Nat.le_refl _,fun e he=>?_⟩
   ·rw [show (ps.take i++qp :: (ps.drop i++[q2])).map Pc.toD=(ps.take i++qp :: (ps.drop i++[])).map Pc.toD++[q2.toD] by simp]
    exact qi (hB16.mono sA) (jh (hv2.mono sA) jt)
   ·rw [List.mem_singleton.mp he]
    have qf:q2.f=g':=congrArg Prod.fst B16.tk
    rw [qf]
    refine ⟨B16.sh,fun z=>z2 ?_,fun z=>z2 ?_,fun z=>z2 ?_⟩
    ·exact List.mem_append.mpr (.inl (List.mem_append.mpr (.inl (by rw [← htk];exact List.mem_append.mpr (.inr z)))))
    ·exact List.mem_append.mpr (.inr (by rw [z];exact List.mem_cons_self ..))
    ·exact List.mem_append.mpr (.inl (List.mem_append.mpr (.inr (by rw [z];exact List.mem_cons_self ..))))
  ·exact kk _ _ ⟨pf,bs,[],rfl,tk14 _ _ e13,tk14.heldL hB,tk14 _ _ hpa13,tk14.heldL hL13,Nat.zero_le _,fun e he=>(nomatch he)⟩
 rintro σ X ⟨pg,ws,ex,rfl,ew,hW,epa,hLX,hexl,hex⟩
 have hshB:∀ p∈ps.take i++qp :: (ps.drop i++ex),PcSh 4 p:=fun p hp=>by
  rcases List.mem_append.mp hp with hp | hp
  ·exact (PP.ok p (List.mem_of_mem_take hp)).sh
  rcases List.mem_cons.mp hp with rfl | hp
  ·rcases WQ with B | ⟨h,-⟩
   ·exact B.sh
   ·exact (PP.ok _ (List.mem_of_getElem? h)).sh
  rcases List.mem_append.mp hp with hp | hp
  ·exact (PP.ok p (List.mem_of_mem_drop hp)).sh
  ·exact (hex p hp).1
 have hR:qv ((ps.take i++qp :: (ps.drop i++ex)).map Pc.tk) [] (ps.take i++qp :: (ps.drop i++ex))=some rf:=by
  rcases WQ with B | ⟨h,rfl⟩
  ·exact PP.bad B i hg hst hgs (fun e he=>(hex e he).2)
  ·exact PP.twice h i (fun e he=>(hex e he).2.1)
 have hBl:(ps.take i++qp :: (ps.drop i++ex)).length≤20:=by
  rw [List.length_append,List.length_cons,List.length_append,List.length_take,List.length_drop]
  omega
 refine ⟨_,rfl,(by decide),(by decide),?_⟩
 refine yT (fun j σ Y=>∃ u,σ=[some (.ref a),some (.int (M:Nat)),some (.ref tl),some (.ref pa),some (.ref d),some (.str st),some vw,some (.str (rfT rf)),some (.int (i:Nat)),some (.ref pg),u]∧Same X Y) ⟨none,rfl,fun _ _ e=>e⟩ ?_ ?_
 ·rintro j σ Y hj ⟨u,rfl,sY⟩
  refine gQ ?_
  refine ⟨_,rfl,pg,ws,_,rfl,sY _ _ ew,hW.mono sY,hBl,hshB,fun Y1 s1=>?_⟩
  rw [hR]
  refine ⟨_,rfl,rfl,_,rfl,jU (fun z=>absurd z (by simp [rsT])) (fun _=>?_)⟩
  have sY1:=sY.trans s1
  refine ⟨_,rfl,pa,us,ps,rfl,sY1 _ _ epa,hLX.mono sY1,by omega,fun p hp=>(PP.ok p hp).sh,fun Y2 s2=>?_⟩
  rw [PP.good]
  exact ⟨rfl,_,rfl,jU (fun z=>absurd z (by simp [rsT])) (fun _=>⟨_,rfl,sY1.trans s2⟩)⟩
 ·rintro σ Y ⟨u,rfl,sY⟩
  exact q _
end
theorem el0 {P:List Value→Prop} (h:P []):∀ us:List Value,us.length=0→P us
 | [],_=>h
theorem el1 {P:List Value→Prop} (h:∀ a0,P [a0]):∀ us:List Value,us.length=1→P us
 | a :: v,e=>el0 (P:=fun v=>P (a :: v)) (h a) v (Nat.succ.inj e)
theorem el2 {P:List Value→Prop} (h:∀ a0 a1,P [a0,a1]):∀ us:List Value,us.length=2→P us
 | a :: v,e=>el1 (P:=fun v=>P (a :: v)) (h a) v (Nat.succ.inj e)
theorem el3 {P:List Value→Prop} (h:∀ a0 a1 a2,P [a0,a1,a2]):∀ us:List Value,us.length=3→P us
 | a :: v,e=>el2 (P:=fun v=>P (a :: v)) (h a) v (Nat.succ.inj e)
theorem el4 {P:List Value→Prop} (h:∀ a0 a1 a2 a3,P [a0,a1,a2,a3]):∀ us:List Value,us.length=4→P us
 | a :: v,e=>el3 (P:=fun v=>P (a :: v)) (h a) v (Nat.succ.inj e)
theorem el5 {P:List Value→Prop} (h:∀ a0 a1 a2 a3 a4,P [a0,a1,a2,a3,a4]):∀ us:List Value,us.length=5→P us
 | a :: v,e=>el4 (P:=fun v=>P (a :: v)) (h a) v (Nat.succ.inj e)
theorem el6 {P:List Value→Prop} (h:∀ a0 a1 a2 a3 a4 a5,P [a0,a1,a2,a3,a4,a5]):∀ us:List Value,us.length=6→P us
 | a :: v,e=>el5 (P:=fun v=>P (a :: v)) (h a) v (Nat.succ.inj e)
theorem el7 {P:List Value→Prop} (h:∀ a0 a1 a2 a3 a4 a5 a6,P [a0,a1,a2,a3,a4,a5,a6]):∀ us:List Value,us.length=7→P us
 | a :: v,e=>el6 (P:=fun v=>P (a :: v)) (h a) v (Nat.succ.inj e)
abbrev LkF (K:W.Frag) (f:Addr) (x n:Str) (st:Stmt) (oc:Value) (od:Option Addr) (kV dc pm:Value) (an:Option Addr) (cd ct:Value) (sl:Array (Option Value)):Prop:=K.lookup f=some ⟨oc,od,.func (W.fnOf x n (yV st) (zo st) (jw st) .none kV dc pm an cd ct),sl⟩
set_option autoImplicit true in
theorem all_mk {l:PySem.W.OpenLaw} {w:World} {K:W.Frag} {h:Heap} {mg:Str→Option Value} {fa:Addr} (X:K.In h) (G:h.Ns mainGlobals mg) (hfa:mg "law" = some (.ref fa))
  (a0:W.nsIn K mainGlobals "term_numbers" = some (some (.ref f0)))
  (l0:LkF K f0 "term_numbers" "term_numbers" zc oc0 od0 kV0 dc0 pm0 an0 cd0 ct0 sl0) (c0:W.codeIn K cd0 "term_numbers" = true) (k0:W.keepIn K (.ref f0)=true)
  (a1:W.nsIn K mainGlobals "claim_numbers" = some (some (.ref f1)))
  (l1:LkF K f1 "claim_numbers" "claim_numbers" qV oc1 od1 kV1 dc1 pm1 an1 cd1 ct1 sl1) (c1:W.codeIn K cd1 "claim_numbers" = true) (k1:W.keepIn K (.ref f1)=true)
  (a2:W.nsIn K mainGlobals "claims_numbers" = some (some (.ref f2)))
  (l2:LkF K f2 "claims_numbers" "claims_numbers" qF oc2 od2 kV2 dc2 pm2 an2 cd2 ct2 sl2) (c2:W.codeIn K cd2 "claims_numbers" = true) (k2:W.keepIn K (.ref f2)=true)
  (a3:W.nsIn K mainGlobals "own_claims" = some (some (.ref f3)))
  (l3:LkF K f3 "own_claims" "own_claims" zF oc3 od3 kV3 dc3 pm3 an3 cd3 ct3 sl3) (c3:W.codeIn K cd3 "own_claims" = true) (k3:W.keepIn K (.ref f3)=true)
  (a4:W.nsIn K mainGlobals "numbers_named" = some (some (.ref f4)))
  (l4:LkF K f4 "numbers_named" "numbers_named" qU oc4 od4 kV4 dc4 pm4 an4 cd4 ct4 sl4) (c4:W.codeIn K cd4 "numbers_named" = true) (k4:W.keepIn K (.ref f4)=true)
  (a5:W.nsIn K mainGlobals "bodies_of" = some (some (.ref f5)))
  (l5:LkF K f5 "bodies_of" "bodies_of" ya oc5 od5 kV5 dc5 pm5 an5 cd5 ct5 sl5) (c5:W.codeIn K cd5 "bodies_of" = true) (k5:W.keepIn K (.ref f5)=true)
  (a6:W.nsIn K mainGlobals "all_statements" = some (some (.ref f6)))
  (l6:LkF K f6 "all_statements" "all_statements" kD oc6 od6 kV6 dc6 pm6 an6 cd6 ct6 sl6) (c6:W.codeIn K cd6 "all_statements" = true) (k6:W.keepIn K (.ref f6)=true)
  (a7:W.nsIn K mainGlobals "term_rows" = some (some (.ref f7)))
  (l7:LkF K f7 "term_rows" "term_rows" zZ oc7 od7 kV7 dc7 pm7 an7 cd7 ct7 sl7) (c7:W.codeIn K cd7 "term_rows" = true) (k7:W.keepIn K (.ref f7)=true)
  (a8:W.nsIn K mainGlobals "claim_rows" = some (some (.ref f8)))
  (l8:LkF K f8 "claim_rows" "claim_rows" zG oc8 od8 kV8 dc8 pm8 an8 cd8 ct8 sl8) (c8:W.codeIn K cd8 "claim_rows" = true) (k8:W.keepIn K (.ref f8)=true)
  (a9:W.nsIn K mainGlobals "rows_named" = some (some (.ref f9)))
  (l9:LkF K f9 "rows_named" "rows_named" zE oc9 od9 kV9 dc9 pm9 an9 cd9 ct9 sl9) (c9:W.codeIn K cd9 "rows_named" = true) (k9:W.keepIn K (.ref f9)=true)
  (a10:W.nsIn K mainGlobals "check_rows" = some (some (.ref f10)))
  (l10:LkF K f10 "check_rows" "check_rows" zH oc10 od10 kV10 dc10 pm10 an10 cd10 ct10 sl10) (c10:W.codeIn K cd10 "check_rows" = true) (k10:W.keepIn K (.ref f10)=true)
  (a11:W.nsIn K mainGlobals "check_call" = some (some (.ref f11)))
  (l11:LkF K f11 "check_call" "check_call" qL oc11 od11 kV11 dc11 pm11 an11 cd11 ct11 sl11) (c11:W.codeIn K cd11 "check_call" = true) (k11:W.keepIn K (.ref f11)=true)
  (a12:W.nsIn K mainGlobals "check_head" = some (some (.ref f12)))
  (l12:LkF K f12 "check_head" "check_head" zI oc12 od12 kV12 dc12 pm12 an12 cd12 ct12 sl12) (c12:W.codeIn K cd12 "check_head" = true) (k12:W.keepIn K (.ref f12)=true)
  (a13:W.nsIn K mainGlobals "check_promises" = some (some (.ref f13)))
  (l13:LkF K f13 "check_promises" "check_promises" qG oc13 od13 kV13 dc13 pm13 an13 cd13 ct13 sl13) (c13:W.codeIn K cd13 "check_promises" = true) (k13:W.keepIn K (.ref f13)=true)
  (a14:W.nsIn K mainGlobals "check_statement" = some (some (.ref f14)))
  (l14:LkF K f14 "check_statement" "check_statement" qx oc14 od14 kV14 dc14 pm14 an14 cd14 ct14 sl14) (c14:W.codeIn K cd14 "check_statement" = true) (k14:W.keepIn K (.ref f14)=true)
  (a15:W.nsIn K mainGlobals "check" = some (some (.ref f15)))
  (l15:LkF K f15 "check" "check" Kv oc15 od15 kV15 dc15 pm15 an15 cd15 ct15 sl15) (c15:W.codeIn K cd15 "check" = true) (k15:W.keepIn K (.ref f15)=true)
  (a16:W.nsIn K mainGlobals "_law_deal" = some (some (.ref f16)))
  (l16:LkF K f16 "_law_deal" "_law_deal" jaQ oc16 od16 kV16 dc16 pm16 an16 cd16 ct16 sl16) (c16:W.codeIn K cd16 "_law_deal" = true) (k16:W.keepIn K (.ref f16)=true)
  (a17:W.nsIn K mainGlobals "_law_draw" = some (some (.ref f17)))
  (l17:LkF K f17 "_law_draw" "_law_draw" jaP oc17 od17 kV17 dc17 pm17 an17 cd17 ct17 sl17) (c17:W.codeIn K cd17 "_law_draw" = true) (k17:W.keepIn K (.ref f17)=true)
  (a18:W.nsIn K mainGlobals "_law_many" = some (some (.ref f18)))
  (l18:LkF K f18 "_law_many" "_law_many" jaN oc18 od18 kV18 dc18 pm18 an18 cd18 ct18 sl18) (c18:W.codeIn K cd18 "_law_many" = true) (k18:W.keepIn K (.ref f18)=true)
  (a19:W.nsIn K mainGlobals "_law_next" = some (some (.ref f19)))
  (l19:LkF K f19 "_law_next" "_law_next" jaM oc19 od19 kV19 dc19 pm19 an19 cd19 ct19 sl19) (c19:W.codeIn K cd19 "_law_next" = true) (k19:W.keepIn K (.ref f19)=true)
  (a20:W.nsIn K mainGlobals "_law_taken" = some (some (.ref f20)))
  (l20:LkF K f20 "_law_taken" "_law_taken" YR oc20 od20 kV20 dc20 pm20 an20 cd20 ct20 sl20) (c20:W.codeIn K cd20 "_law_taken" = true) (k20:W.keepIn K (.ref f20)=true)
  (a21:W.nsIn K mainGlobals "_law_name" = some (some (.ref f21)))
  (l21:LkF K f21 "_law_name" "_law_name" Zp oc21 od21 kV21 dc21 pm21 an21 cd21 ct21 sl21) (c21:W.codeIn K cd21 "_law_name" = true) (k21:W.keepIn K (.ref f21)=true)
  (a22:W.nsIn K mainGlobals "_law_number" = some (some (.ref f22)))
  (l22:LkF K f22 "_law_number" "_law_number" J7 oc22 od22 kV22 dc22 pm22 an22 cd22 ct22 sl22) (c22:W.codeIn K cd22 "_law_number" = true) (k22:W.keepIn K (.ref f22)=true)
  (a23:W.nsIn K mainGlobals "_law_place" = some (some (.ref f23)))
  (l23:LkF K f23 "_law_place" "_law_place" J6 oc23 od23 kV23 dc23 pm23 an23 cd23 ct23 sl23) (c23:W.codeIn K cd23 "_law_place" = true) (k23:W.keepIn K (.ref f23)=true)
  (a24:W.nsIn K mainGlobals "_law_term" = some (some (.ref f24)))
  (l24:LkF K f24 "_law_term" "_law_term" YQ oc24 od24 kV24 dc24 pm24 an24 cd24 ct24 sl24) (c24:W.codeIn K cd24 "_law_term" = true) (k24:W.keepIn K (.ref f24)=true)
  (a25:W.nsIn K mainGlobals "_law_least" = some (some (.ref f25)))
  (l25:LkF K f25 "_law_least" "_law_least" J8 oc25 od25 kV25 dc25 pm25 an25 cd25 ct25 sl25) (c25:W.codeIn K cd25 "_law_least" = true) (k25:W.keepIn K (.ref f25)=true)
  (a26:W.nsIn K mainGlobals "_law_claim" = some (some (.ref f26)))
  (l26:LkF K f26 "_law_claim" "_law_claim" J9 oc26 od26 kV26 dc26 pm26 an26 cd26 ct26 sl26) (c26:W.codeIn K cd26 "_law_claim" = true) (k26:W.keepIn K (.ref f26)=true)
  (a27:W.nsIn K mainGlobals "_law_claims" = some (some (.ref f27)))
  (l27:LkF K f27 "_law_claims" "_law_claims" Jm oc27 od27 kV27 dc27 pm27 an27 cd27 ct27 sl27) (c27:W.codeIn K cd27 "_law_claims" = true) (k27:W.keepIn K (.ref f27)=true)
  (a28:W.nsIn K mainGlobals "_law_call" = some (some (.ref f28)))
  (l28:LkF K f28 "_law_call" "_law_call" JO oc28 od28 kV28 dc28 pm28 an28 cd28 ct28 sl28) (c28:W.codeIn K cd28 "_law_call" = true) (k28:W.keepIn K (.ref f28)=true)
  (a29:W.nsIn K mainGlobals "_law_statement" = some (some (.ref f29)))
  (l29:LkF K f29 "_law_statement" "_law_statement" q8 oc29 od29 kV29 dc29 pm29 an29 cd29 ct29 sl29) (c29:W.codeIn K cd29 "_law_statement" = true) (k29:W.keepIn K (.ref f29)=true)
  (a30:W.nsIn K mainGlobals "_law_body" = some (some (.ref f30)))
  (l30:LkF K f30 "_law_body" "_law_body" JP oc30 od30 kV30 dc30 pm30 an30 cd30 ct30 sl30) (c30:W.codeIn K cd30 "_law_body" = true) (k30:W.keepIn K (.ref f30)=true)
  (a31:W.nsIn K mainGlobals "_law_proc" = some (some (.ref f31)))
  (l31:LkF K f31 "_law_proc" "_law_proc" Ku oc31 od31 kV31 dc31 pm31 an31 cd31 ct31 sl31) (c31:W.codeIn K cd31 "_law_proc" = true) (k31:W.keepIn K (.ref f31)=true)
  (a32:W.nsIn K mainGlobals "_law_program" = some (some (.ref f32)))
  (l32:LkF K f32 "_law_program" "_law_program" zT oc32 od32 kV32 dc32 pm32 an32 cd32 ct32 sl32) (c32:W.codeIn K cd32 "_law_program" = true) (k32:W.keepIn K (.ref f32)=true)
  (a33:W.nsIn K mainGlobals "_law_names_wrong" = some (some (.ref f33)))
  (l33:LkF K f33 "_law_names_wrong" "_law_names_wrong" zm oc33 od33 kV33 dc33 pm33 an33 cd33 ct33 sl33) (c33:W.codeIn K cd33 "_law_names_wrong" = true) (k33:W.keepIn K (.ref f33)=true)
  (a34:W.nsIn K mainGlobals "_law_others_wrong" = some (some (.ref f34)))
  (l34:LkF K f34 "_law_others_wrong" "_law_others_wrong" qC oc34 od34 kV34 dc34 pm34 an34 cd34 ct34 sl34) (c34:W.codeIn K cd34 "_law_others_wrong" = true) (k34:W.keepIn K (.ref f34)=true)
  (a35:W.nsIn K mainGlobals "_law_within" = some (some (.ref f35)))
  (l35:LkF K f35 "_law_within" "_law_within" J5 oc35 od35 kV35 dc35 pm35 an35 cd35 ct35 sl35) (c35:W.codeIn K cd35 "_law_within" = true) (k35:W.keepIn K (.ref f35)=true)
  (a36:W.nsIn K mainGlobals "_law_head" = some (some (.ref f36)))
  (l36:LkF K f36 "_law_head" "_law_head" jaO oc36 od36 kV36 dc36 pm36 an36 cd36 ct36 sl36) (c36:W.codeIn K cd36 "_law_head" = true) (k36:W.keepIn K (.ref f36)=true)
  (a37:W.nsIn K mainGlobals "_law_wrong" = some (some (.ref f37)))
  (l37:LkF K f37 "_law_wrong" "_law_wrong" Kt oc37 od37 kV37 dc37 pm37 an37 cd37 ct37 sl37) (c37:W.codeIn K cd37 "_law_wrong" = true) (k37:W.keepIn K (.ref f37)=true)
  (a38:W.nsIn K mainGlobals "_law_refused" = some (some (.ref f38)))
  (l38:LkF K f38 "_law_refused" "_law_refused" Jl oc38 od38 kV38 dc38 pm38 an38 cd38 ct38 sl38) (c38:W.codeIn K cd38 "_law_refused" = true) (k38:W.keepIn K (.ref f38)=true)
  (a39:W.nsIn K mainGlobals "law" = some (some (.ref f39)))
  (l39:LkF K f39 "law" "law" Z4 oc39 od39 kV39 dc39 pm39 an39 cd39 ct39 sl39) (c39:W.codeIn K cd39 "law" = true) (k39:W.keepIn K (.ref f39)=true)
  {CN CC CS CO CT CW CM:Addr} (dN:W.nsIn K mainGlobals "NoName" = some (some (.ref CN))) (dC:W.nsIn K mainGlobals "NoCount" = some (some (.ref CC))) (dS:W.nsIn K mainGlobals "NoSet" = some (some (.ref CS))) (dO:W.nsIn K mainGlobals "OutlineError" = some (some (.ref CO))) (dT:W.nsIn K mainGlobals "NoText" = some (some (.ref CT))) (dW:W.nsIn K mainGlobals "TooWide" = some (some (.ref CW))) (dM:W.nsIn K mainGlobals "TooMany" = some (some (.ref CM))) (xN:W.excIn K CN valB "ValueError.__new__" = true) (xC:W.excIn K CC valB "ValueError.__new__" = true) (xS:W.excIn K CS valB "ValueError.__new__" = true) (xO:W.excIn K CO valB "ValueError.__new__" = true) (yN1:W.isClsIn K CN=true) (yN2:W.findIn K (.ref CN) "__getattribute__" = some (some (.builtin "BaseException.__getattribute__"))) (yN3:W.findIn K (.ref CN) "__getattr__" = some none) (yN4:W.findIn K (.ref CN) "__class__" = some (some (.builtin "object.__class__"))) (yN5:W.mroIn K CN (.type "object")=some true) (yN6:W.mroIn K CN (.type "BaseException")=some true) (mN:W.mroIn K CN (.ref CO)=some true) (kNN:W.kitOne K (.ref CN) (.ref CN)=some true) (kNC:W.kitOne K (.ref CN) (.ref CC)=some false) (kNS:W.kitOne K (.ref CN) (.ref CS)=some false) (kNT:W.kitOne K (.ref CN) (.ref CT)=some false) (kNW:W.kitOne K (.ref CN) (.ref CW)=some false) (kNM:W.kitOne K (.ref CN) (.ref CM)=some false) (nN:W.kitOne K (.type "NoneType") (.ref CN)=some false) (yC1:W.isClsIn K CC=true) (yC2:W.findIn K (.ref CC) "__getattribute__" = some (some (.builtin "BaseException.__getattribute__"))) (yC3:W.findIn K (.ref CC) "__getattr__" = some none) (yC4:W.findIn K (.ref CC) "__class__" = some (some (.builtin "object.__class__"))) (yC5:W.mroIn K CC (.type "object")=some true) (yC6:W.mroIn K CC (.type "BaseException")=some true) (mC:W.mroIn K CC (.ref CO)=some true) (kCN:W.kitOne K (.ref CC) (.ref CN)=some false) (kCC:W.kitOne K (.ref CC) (.ref CC)=some true) (kCS:W.kitOne K (.ref CC) (.ref CS)=some false) (kCT:W.kitOne K (.ref CC) (.ref CT)=some false) (kCW:W.kitOne K (.ref CC) (.ref CW)=some false) (kCM:W.kitOne K (.ref CC) (.ref CM)=some false) (nC:W.kitOne K (.type "NoneType") (.ref CC)=some false) (yS1:W.isClsIn K CS=true) (yS2:W.findIn K (.ref CS) "__getattribute__" = some (some (.builtin "BaseException.__getattribute__"))) (yS3:W.findIn K (.ref CS) "__getattr__" = some none) (yS4:W.findIn K (.ref CS) "__class__" = some (some (.builtin "object.__class__"))) (yS5:W.mroIn K CS (.type "object")=some true) (yS6:W.mroIn K CS (.type "BaseException")=some true) (mS:W.mroIn K CS (.ref CO)=some true) (kSN:W.kitOne K (.ref CS) (.ref CN)=some false) (kSC:W.kitOne K (.ref CS) (.ref CC)=some false) (kSS:W.kitOne K (.ref CS) (.ref CS)=some true) (kST:W.kitOne K (.ref CS) (.ref CT)=some false) (kSW:W.kitOne K (.ref CS) (.ref CW)=some false) (kSM:W.kitOne K (.ref CS) (.ref CM)=some false) (nS:W.kitOne K (.type "NoneType") (.ref CS)=some false)
  (z0:W.nsIn K mainGlobals "len" = some none) (z1:W.nsIn K mainGlobals "max" = some none) (z2:W.nsIn K mainGlobals "min" = some none) (z3:W.nsIn K mainGlobals "all" = some none) (z4:W.nsIn K mainGlobals "isinstance" = some none) (z5:W.nsIn K mainGlobals "abs" = some none) (z6:W.nsIn K mainGlobals "sorted" = some none) (z7:W.nsIn K mainGlobals "int" = some none) (z8:W.nsIn K mainGlobals "str" = some none) (z9:W.nsIn K mainGlobals "bool" = some none) (z10:W.nsIn K mainGlobals "tuple" = some none) (z11:W.nsIn K mainGlobals "list" = some none) (z12:W.nsIn K mainGlobals "dict" = some none) (z13:W.nsIn K mainGlobals "range" = some none) (z14:W.nsIn K mainGlobals "set" = some none) :
  ∃ fd:FuncData,(∀ (s:Shared) (v:Value),BindsTo s fd ⟨[v],[]⟩ [("_law_script",v)])∧∀ base:Heap,K.In base→base.Ns mainGlobals mg→FnOk l.prog w K mg base CX0 19 fa fd ["_law_script"] (jaG K):=by
 have e:=hfa.symm.trans (W.mg_of X G a39)
 cases e
 have B:Free0 mg:=⟨W.mg_none_of X G z0,W.mg_none_of X G z1,W.mg_none_of X G z2,W.mg_none_of X G z3,W.mg_none_of X G z4,W.mg_none_of X G z5,W.mg_none_of X G z6,W.mg_none_of X G z7,W.mg_none_of X G z8,W.mg_none_of X G z9,W.mg_none_of X G z10,W.mg_none_of X G z11,W.mg_none_of X G z12,W.mg_none_of X G z13,W.mg_none_of X G z14⟩
 have Z:Exs K mg ⟨CN,CC,CS⟩:=⟨W.mg_of X G dN,W.mg_of X G dC,W.mg_of X G dS,xN,xC,xS⟩
 have k:Kls K mg ⟨CN,CC,CS⟩ CO CT CW CM:=⟨W.mg_of X G dO,W.mg_of X G dT,W.mg_of X G dW,W.mg_of X G dM,xO,(fun r=>match r with | .name=>xN | .count=>xC | .set=>xS),(fun r=>match r with | .name=>⟨yN1,yN2,yN3,yN4,yN5,yN6⟩ | .count=>⟨yC1,yC2,yC3,yC4,yC5,yC6⟩ | .set=>⟨yS1,yS2,yS3,yS4,yS5,yS6⟩),(fun r=>match r with | .name=>mN | .count=>mC | .set=>mS),(fun r q=>match r,q with | .name,.name=>kNN | .name,.count=>kNC | .name,.set=>kNS | .count,.name=>kCN | .count,.count=>kCC | .count,.set=>kCS | .set,.name=>kSN | .set,.count=>kSC | .set,.set=>kSS),(fun r=>match r with | .name=>kNT | .count=>kCT | .set=>kST),(fun r=>match r with | .name=>kNW | .count=>kCW | .set=>kSW),(fun r=>match r with | .name=>kNM | .count=>kCM | .set=>kSM),(fun r=>match r with | .name=>nN | .count=>nC | .set=>nS)⟩
 have U0:=j4 (st:=zc) l0 c0 k0
 have b0:=U0.binds (ps:=["term"]) fun _ _ _ _ _ _=>el1 (fun _=>rfl)
 have U1:=j4 (st:=qV) l1 c1 k1
 have b1:=U1.binds (ps:=["claim"]) fun _ _ _ _ _ _=>el1 (fun _=>rfl)
 have U2:=j4 (st:=qF) l2 c2 k2
 have b2:=U2.binds (ps:=["claims"]) fun _ _ _ _ _ _=>el1 (fun _=>rfl)
 have U3:=j4 (st:=zF) l3 c3 k3
 have b3:=U3.binds (ps:=["statement"]) fun _ _ _ _ _ _=>el1 (fun _=>rfl)
 have U4:=j4 (st:=qU) l4 c4 k4
 have b4:=U4.binds (ps:=["statement"]) fun _ _ _ _ _ _=>el1 (fun _=>rfl)
 have U5:=j4 (st:=ya) l5 c5 k5
 have b5:=U5.binds (ps:=["statement"]) fun _ _ _ _ _ _=>el1 (fun _=>rfl)
 have U6:=j4 (st:=kD) l6 c6 k6
 have b6:=U6.binds (ps:=["body"]) fun _ _ _ _ _ _=>el1 (fun _=>rfl)
 have U7:=j4 (st:=zZ) l7 c7 k7
 have b7:=U7.binds (ps:=["term"]) fun _ _ _ _ _ _=>el1 (fun _=>rfl)
 have U8:=j4 (st:=zG) l8 c8 k8
 have b8:=U8.binds (ps:=["claim"]) fun _ _ _ _ _ _=>el1 (fun _=>rfl)
 have U9:=j4 (st:=zE) l9 c9 k9
 have b9:=U9.binds (ps:=["statement"]) fun _ _ _ _ _ _=>el1 (fun _=>rfl)
 have U10:=j4 (st:=zH) l10 c10 k10
 have b10:=U10.binds (ps:=["names","rows","f"]) fun _ _ _ _ _ _=>el3 (fun _ _ _=>rfl)
 have U11:=j4 (st:=qL) l11 c11 k11
 have b11:=U11.binds (ps:=["statement","takes"]) fun _ _ _ _ _ _=>el2 (fun _ _=>rfl)
 have U12:=j4 (st:=zI) l12 c12 k12
 have b12:=U12.binds (ps:=["proc"]) fun _ _ _ _ _ _=>el1 (fun _=>rfl)
 have U13:=j4 (st:=qG) l13 c13 k13
 have b13:=U13.binds (ps:=["proc"]) fun _ _ _ _ _ _=>el1 (fun _=>rfl)
 have U14:=j4 (st:=qx) l14 c14 k14
 have b14:=U14.binds (ps:=["statement","proc","takes"]) fun _ _ _ _ _ _=>el3 (fun _ _ _=>rfl)
 have U15:=j4 (st:=Kv) l15 c15 k15
 have b15:=U15.binds (ps:=["program"]) fun _ _ _ _ _ _=>el1 (fun _=>rfl)
 have U16:=j4 (st:=jaQ) l16 c16 k16
 have b16:=U16.binds (ps:=["_law_script","_law_k"]) fun _ _ _ _ _ _=>el2 (fun _ _=>rfl)
 have U17:=j4 (st:=jaP) l17 c17 k17
 have b17:=U17.binds (ps:=["_law_deal_here","_law_many_here"]) fun _ _ _ _ _ _=>el2 (fun _ _=>rfl)
 have U18:=j4 (st:=jaN) l18 c18 k18
 have b18:=U18.binds (ps:=["_law_script"]) fun _ _ _ _ _ _=>el1 (fun _=>rfl)
 have U19:=j4 (st:=jaM) l19 c19 k19
 have b19:=U19.binds (ps:=["_law_deals"]) fun _ _ _ _ _ _=>el1 (fun _=>rfl)
 have U20:=j4 (st:=YR) l20 c20 k20
 have b20:=U20.binds (ps:=[]) fun _ _ _ _ _ _=>el0 rfl
 have U21:=j4 (st:=Zp) l21 c21 k21
 have b21:=U21.binds (ps:=["_law_deal_here","_law_taken_here"]) fun _ _ _ _ _ _=>el2 (fun _ _=>rfl)
 have U22:=j4 (st:=J7) l22 c22 k22
 have b22:=U22.binds (ps:=["_law_deal_here"]) fun _ _ _ _ _ _=>el1 (fun _=>rfl)
 have U23:=j4 (st:=J6) l23 c23 k23
 have b23:=U23.binds (ps:=["_law_deal_here","_law_numbers"]) fun _ _ _ _ _ _=>el2 (fun _ _=>rfl)
 have U24:=j4 (st:=YQ) l24 c24 k24
 have b24:=U24.binds (ps:=["_law_deal_here","_law_numbers","_law_rows"]) fun _ _ _ _ _ _=>el3 (fun _ _ _=>rfl)
 have U25:=j4 (st:=J8) l25 c25 k25
 have b25:=U25.binds (ps:=["_law_deal_here","_law_numbers","_law_rows"]) fun _ _ _ _ _ _=>el3 (fun _ _ _=>rfl)
 have U26:=j4 (st:=J9) l26 c26 k26
 have b26:=U26.binds (ps:=["_law_deal_here","_law_numbers","_law_rows"]) fun _ _ _ _ _ _=>el3 (fun _ _ _=>rfl)
 have U27:=j4 (st:=Jm) l27 c27 k27
 have b27:=U27.binds (ps:=["_law_deals","_law_many_here","_law_numbers","_law_rows"]) fun _ _ _ _ _ _=>el4 (fun _ _ _ _=>rfl)
 have U28:=j4 (st:=JO) l28 c28 k28
 have b28:=U28.binds (ps:=["_law_deal_here","_law_x","_law_world"]) fun _ _ _ _ _ _=>el3 (fun _ _ _=>rfl)
 have U29:=j4 (st:=q8) l29 c29 k29
 have b29:=U29.binds (ps:=["_law_deals","_law_world","_law_deep"]) fun _ _ _ _ _ _=>el3 (fun _ _ _=>rfl)
 have U30:=j4 (st:=JP) l30 c30 k30
 have b30:=U30.binds (ps:=["_law_deals","_law_world","_law_deep"]) fun _ _ _ _ _ _=>el3 (fun _ _ _=>rfl)
 have U31:=j4 (st:=Ku) l31 c31 k31
 have b31:=U31.binds (ps:=["_law_deals","_law_heads","_law_k"]) fun _ _ _ _ _ _=>el3 (fun _ _ _=>rfl)
 have U32:=j4 (st:=zT) l32 c32 k32
 have b32:=U32.binds (ps:=["_law_script","_law_many_here","_law_taken_here"]) fun _ _ _ _ _ _=>el3 (fun _ _ _=>rfl)
 have U33:=j4 (st:=zm) l33 c33 k33
 have b33:=U33.binds (ps:=["_law_x","_law_a","_law_b","_law_r","_law_s","_law_f","_law_strange"]) fun _ _ _ _ _ _=>el7 (fun _ _ _ _ _ _ _=>rfl)
 have U34:=j4 (st:=qC) l34 c34 k34
 have b34:=U34.binds (ps:=["_law_x","_law_a","_law_b","_law_r","_law_s","_law_f"]) fun _ _ _ _ _ _=>el6 (fun _ _ _ _ _ _=>rfl)
 have U35:=j4 (st:=J5) l35 c35 k35
 have b35:=U35.binds (ps:=["_law_deal_here","_law_statement_here"]) fun _ _ _ _ _ _=>el2 (fun _ _=>rfl)
 have U36:=j4 (st:=jaO) l36 c36 k36
 have b36:=U36.binds (ps:=["_law_way_of","_law_proc_here","_law_x","_law_strange"]) fun _ _ _ _ _ _=>el4 (fun _ _ _ _=>rfl)
 have U37:=j4 (st:=Kt) l37 c37 k37
 have b37:=U37.binds (ps:=["_law_deal_here","_law_f","_law_strange"]) fun _ _ _ _ _ _=>el3 (fun _ _ _=>rfl)
 have U38:=j4 (st:=Jl) l38 c38 k38
 have b38:=U38.binds (ps:=["_law_program_here"]) fun _ _ _ _ _ _=>el1 (fun _=>rfl)
 have U39:=j4 (st:=Z4) l39 c39 k39
 refine ⟨W.fnOf "law" "law" (yV Z4) (zo Z4) (jw Z4) .none kV39 dc39 pm39 an39 cd39 ct39,fun s v=>.of_eq rfl,fun base _ _=>?_⟩
 have F_term_numbers:=Fn.mk' U0 b0 (W.mg_of X G a0) (jcF (P:=l.prog) (w:=w) (base:=base) U0)
 have F_claim_numbers:=Fn.mk' U1 b1 (W.mg_of X G a1) (jbt (P:=l.prog) (w:=w) (base:=base) U1 F_term_numbers)
 have F_claims_numbers:=Fn.mk' U2 b2 (W.mg_of X G a2) (jab (P:=l.prog) (w:=w) (base:=base) U2 F_claim_numbers)
 have F_own_claims:=Fn.mk' U3 b3 (W.mg_of X G a3) (jft (P:=l.prog) (w:=w) (base:=base) U3)
 have F_numbers_named:=Fn.mk' U4 b4 (W.mg_of X G a4) (jcK (P:=l.prog) (w:=w) (base:=base) U4 B F_term_numbers F_claims_numbers F_own_claims)
 have F_bodies_of:=Fn.mk' U5 b5 (W.mg_of X G a5) (jbw (P:=l.prog) (w:=w) (base:=base) U5)
 have F_all_statements:=YD (P:=l.prog) (w:=w) (base:=base) U6 b6 (W.mg_of X G a6) F_bodies_of 4
 have F_term_rows:=Fn.mk' U7 b7 (W.mg_of X G a7) (jcE (P:=l.prog) (w:=w) (base:=base) U7)
 have F_claim_rows:=Fn.mk' U8 b8 (W.mg_of X G a8) (jbs (P:=l.prog) (w:=w) (base:=base) U8 F_term_rows)
 have F_rows_named:=Fn.mk' U9 b9 (W.mg_of X G a9) (jbq (P:=l.prog) (w:=w) (base:=base) U9 B F_term_rows F_own_claims F_claim_rows)
 have F_check_rows:=FnX.mk' U10 b10 (W.mg_of X G a10) (jea (P:=l.prog) (w:=w) (base:=base) U10 Z)
 have F_check_call:=FnX.mk' U11 b11 (W.mg_of X G a11) (jcN (P:=l.prog) (w:=w) (base:=base) U11 B Z)
 have F_check_head:=FnX.mk' U12 b12 (W.mg_of X G a12) (jee (P:=l.prog) (w:=w) (base:=base) U12 B Z)
 have F_check_promises:=FnX.mk' U13 b13 (W.mg_of X G a13) (Zv (P:=l.prog) (w:=w) (base:=base) U13 Z F_check_rows F_claim_rows F_claims_numbers)
 have F_check_statement:=FnX.mk' U14 b14 (W.mg_of X G a14) (YV (P:=l.prog) (w:=w) (base:=base) U14 Z F_check_rows F_rows_named F_numbers_named F_check_call)
 have F_check:=FnX.mk' U15 b15 (W.mg_of X G a15) (jcM (P:=l.prog) (w:=w) (base:=base) (n:=4) U15 B Z F_check_head F_check_promises F_all_statements F_check_statement)
 have F_deal:=Fn.mk' U16 b16 (W.mg_of X G a16) (jeg (P:=l.prog) (w:=w) (base:=base) U16 B)
 have F_draw:=Fn.mk' U17 b17 (W.mg_of X G a17) (jef (P:=l.prog) (w:=w) (base:=base) U17)
 have F_many:=Fn.mk' U18 b18 (W.mg_of X G a18) (jed (P:=l.prog) (w:=w) (base:=base) U18 B)
 have F_next:=Fn.mk' U19 b19 (W.mg_of X G a19) (jeb (P:=l.prog) (w:=w) (base:=base) U19 B)
 have F_taken:=Fn.mk' U20 b20 (W.mg_of X G a20) (jcH (P:=l.prog) (w:=w) (base:=base) U20)
 have F_name:=Fn.mk' U21 b21 (W.mg_of X G a21) (jec (P:=l.prog) (w:=w) (base:=base) U21 B F_draw)
 have F_number:=Fn.mk' U22 b22 (W.mg_of X G a22) (jbo (P:=l.prog) (w:=w) (base:=base) U22 F_draw)
 have F_place:=Fn.mk' U23 b23 (W.mg_of X G a23) (jbn (P:=l.prog) (w:=w) (base:=base) U23 B F_draw F_number)
 have F_term:=Fn.mk' U24 b24 (W.mg_of X G a24) (jcG (P:=l.prog) (w:=w) (base:=base) U24 B F_draw F_place)
 have F_least:=Fn.mk' U25 b25 (W.mg_of X G a25) (jbr (P:=l.prog) (w:=w) (base:=base) U25 F_term F_number)
 have F_claim:=Fn.mk' U26 b26 (W.mg_of X G a26) (jbu (P:=l.prog) (w:=w) (base:=base) U26 B F_draw F_number F_place F_term F_least)
 have F_claims:=Fn.mk' U27 b27 (W.mg_of X G a27) (jac (P:=l.prog) (w:=w) (base:=base) U27 B F_next F_claim)
 have F_call:=Fn.mk' U28 b28 (W.mg_of X G a28) (jcO (P:=l.prog) (w:=w) (base:=base) U28 B F_draw)
 have F_body:=ZH (P:=l.prog) (w:=w) (base:=base) U30 b30 (W.mg_of X G a30) U29 b29 (W.mg_of X G a29) B F_next F_draw F_number F_place F_term F_least F_claim F_claims F_call 4
 have F_proc:=Fn.mk' U31 b31 (W.mg_of X G a31) (jcJ (P:=l.prog) (w:=w) (base:=base) U31 B F_next F_draw F_taken F_name F_claims F_body)
 have F_program:=Fn.mk' U32 b32 (W.mg_of X G a32) (Zw (P:=l.prog) (w:=w) (base:=base) U32 B F_deal F_next F_draw F_name F_proc)
 have F_names_wrong:=Fn.mk' U33 b33 (W.mg_of X G a33) (jbp (P:=l.prog) (w:=w) (base:=base) U33)
 have F_others_wrong:=Fn.mk' U34 b34 (W.mg_of X G a34) (jaa (P:=l.prog) (w:=w) (base:=base) U34)
 have F_within:=Fn.mk' U35 b35 (W.mg_of X G a35) (jbm (P:=l.prog) (w:=w) (base:=base) U35 B F_draw)
 have F_head:=Fn.mk' U36 b36 (W.mg_of X G a36) (jcL (P:=l.prog) (w:=w) (base:=base) U36)
 have F_wrong:=Fn.mk' U37 b37 (W.mg_of X G a37) (jcD (P:=l.prog) (w:=w) (base:=base) U37 B F_draw F_taken F_name F_names_wrong F_others_wrong F_within F_head)
 have F_refused:=Fn.mk' U38 b38 (W.mg_of X G a38) (Z9 (P:=l.prog) (w:=w) (base:=base) U38 B Z k F_check)
 exact jfu U39 B F_many F_taken F_program F_deal F_name F_draw F_wrong F_refused
theorem walk {l:PySem.W.OpenLaw} {q:Program} {loose:List Str} {XP:(Str→Option Value)→Heap→Prop} {YP:World→Heap→Prop} {d:DefRec} {K:Params→W.Frag} (hn:l.most=some 63) (hdf:d.params.defaults=[])
  (hY:∀ (w:World) (h:Heap),YP w h→(K w.params).In h)
  (F:∀ (w:World) (mg:Str→Option Value) (fa:Addr) (h:Heap),(K w.params).In h→h.Ns mainGlobals mg→mg d.name=some (.ref fa)→
   ∃ fd:FuncData,(∀ (s:Shared) (u:Value),BindsTo s fd ⟨[u],[]⟩ [("_law_script",u)])∧∀ base:Heap,(K w.params).In base→base.Ns mainGlobals mg→FnOk l.prog w (K w.params) mg base CX0 19 fa fd ["_law_script"] (jaG (K w.params))) :
  PySem.W.WalkO q loose XP YP l.row.toRowW d [] (fun f vs=>PySem.call f vs):=
 L2.walk_of (n:=63) (k:=19) (x:="_law_script") (CX:=fun _=>CX0) (sp:=fun w=>jaG (K w.params)) hn (by decide) hdf ⟨rfl,by decide,by decide,rfl⟩ hY F (fun _ _ a ns hl _ hS=>⟨a,ns,rfl,hS,hl,fun _=>rfl⟩) fun _ _ _ _ _ z=>z
end LW
namespace PySem.W.Fast
def tw10099712853290940564:=()
def tw10108467256116457241:=()
def tw10147613380229124340:=()
def tw10206655632706093068:=()
def tw10211863780784929196:=()
def tw10306297542913105420:=()
def tw10428052021961765990:=()
def tw10781394876708882519:=()
def tw10995281479519464888:=()
def tw11015707082892332889:=()
def tw11210377809620858824:=()
def tw11298215524211005200:=()
def tw11318460125877023992:=()
def tw11420059357323109405:=()
def tw11433846394796098425:=()
def tw11582639719174927138:=()
def tw11610902169635718209:=()
def tw11635515296018472859:=()
def tw1164366400978764232:=()
def tw11883329938679759560:=()
def tw11895373862112502898:=()
def tw12018410572913103057:=()
def tw12082429700808639947:=()
def tw12124727646694174986:=()
def tw12327641431508933693:=()
def tw12394847046609441005:=()
def tw12409018863341197161:=()
def tw12463805557180176778:=()
def tw12474715785974790109:=()
def tw12799087407197979139:=()
def tw12811037568844908933:=()
def tw13233726455916785981:=()
def tw13404319765713034346:=()
def tw13435175427464656562:=()
def tw13558687146138769840:=()
def tw1361098466485994854:=()
def tw13769106873863202164:=()
def tw13873769358328056861:=()
def tw13875131597730933910:=()
def tw14063813787541194512:=()
def tw14218863781201121663:=()
def tw14738013650371350182:=()
def tw14762273694376628594:=()
def tw14805745528446819805:=()
def tw14908109790479569806:=()
def tw14923324480795710213:=()
def tw15023058989636914488:=()
def tw15313102769716812768:=()
def tw15321835639207593226:=()
def tw15407867292820186726:=()
def tw1548996998067870063:=()
def tw1550611965852224632:=()
def tw15690150713247112828:=()
def tw15767853867042007471:=()
def tw1581745219157544287:=()
def tw16228750893137545569:=()
def tw16264380704824535905:=()
def tw16264536729268400785:=()
def tw16551873223140997117:=()
def tw16602770690672295014:=()
def tw16618329933513073697:=()
def tw16618692444439340068:=()
def tw16623329344199833688:=()
def tw16658791447586375217:=()
def tw1685211937517169623:=()
def tw16891174660988913033:=()
def tw17038469007391444087:=()
def tw17063422286965189430:=()
def tw17101185738956036577:=()
def tw17486602715150349915:=()
def tw17976166393301243736:=()
def tw18024347024413742273:=()
def tw18044136961735807308:=()
def tw18091442362668028818:=()
def tw18099064589539325883:=()
def tw18197482382960610019:=()
def tw18214903627575056103:=()
def tw18394780778273984331:=()
def tw1911565048396866785:=()
def tw1955751745537547994:=()
def tw1963748497097489752:=()
def tw2003736678913161912:=()
def tw2018404909596712070:=()
def tw2246433463258903783:=()
def tw231438132876851593:=()
def tw2490710763556306968:=()
def tw2535313578500144672:=()
def tw2696452134122555943:=()
def tw2820919996053115536:=()
def tw2831693328357098723:=()
def tw2884414031520311665:=()
def tw2971731929493827112:=()
def tw299238621601229523:=()
def tw3256718467687994614:=()
def tw3327763714089048567:=()
def tw3364102145930177189:=()
def tw3480798649471638182:=()
def tw3524863376425480999:=()
def tw3589585706133366156:=()
def tw3822630721315834257:=()
def tw3888258128779059986:=()
def tw4132459149988142703:=()
def tw4324295963699937592:=()
def tw4532943635746142125:=()
def tw4569068362659995917:=()
def tw4669570352882801675:=()
def tw4672645620648261376:=()
def tw4806463121438742380:=()
def tw4970893449841603834:=()
def tw5059978497290963155:=()
def tw5097159268785393149:=()
def tw5266781271729050981:=()
def tw5317126195861162731:=()
def tw5443715645259077014:=()
def tw548596910645650808:=()
def tw5504024348246296008:=()
def tw5687207942593267235:=()
def tw5820006877283789215:=()
def tw5839899299597621023:=()
def tw5846178699896138124:=()
def tw5942375036548436215:=()
def tw5991190488234777745:=()
def tw6291324452318574606:=()
def tw6343695777800765194:=()
def tw6410889736205625217:=()
def tw6438859819338183304:=()
def tw6583398952789881134:=()
def tw6740233918167967074:=()
def tw6950626303990631156:=()
def tw6963727781055528128:=()
def tw6999352507825428771:=()
def tw7083672629699118380:=()
def tw7364426053251876749:=()
def tw7565638941676963066:=()
def tw7630347403315851518:=()
def tw7724165650649122298:=()
def tw8160000397966317936:=()
def tw8288359301060713610:=()
def tw8740226444587129668:=()
def tw8853012358427344013:=()
def tw930404101607687230:=()
def tw9377852196669988743:=()
def tw9522369215061346958:=()
def tw9669140719610458926:=()
def tw9675163970093871087:=()
def tw9676016672207738364:=()
def tw9685336484599436921:=()
end PySem.W.Fast
open PySem PySem.W PyProof.Rows
set_option maxRecDepth 100000 in
set_option maxHeartbeats 0 in
theorem PySem.Challenge.cw_outlineward_k22_programs_refused_holds : PySem.Challenge.rw_outlineward_k22_programs_refused.Holds := by
 w_on;o_law;k_head;(case hw=>w_witness2)
 k_fill
 refine LW.walk (l:=PySem.Challenge.rw_outlineward_k22_programs_refused) rfl rfl (fun w h Y=>W.kIn_of Y) ?F
 case F=>
  intro w mg fa h KX G hmg
  refine' LW.all_mk KX G hmg ?_ ?_ ?_ ?_ ?_ ?_ ?_ ?_ ?_ ?_ ?_ ?_ ?_ ?_ ?_ ?_ ?_ ?_ ?_ ?_ ?_ ?_ ?_ ?_ ?_ ?_ ?_ ?_ ?_ ?_ ?_ ?_ ?_ ?_ ?_ ?_ ?_ ?_ ?_ ?_ ?_ ?_ ?_ ?_ ?_ ?_ ?_ ?_ ?_ ?_ ?_ ?_ ?_ ?_ ?_ ?_ ?_ ?_ ?_ ?_ ?_ ?_ ?_ ?_ ?_ ?_ ?_ ?_ ?_ ?_ ?_ ?_ ?_ ?_ ?_ ?_ ?_ ?_ ?_ ?_ ?_ ?_ ?_ ?_ ?_ ?_ ?_ ?_ ?_ ?_ ?_ ?_ ?_ ?_ ?_ ?_ ?_ ?_ ?_ ?_ ?_ ?_ ?_ ?_ ?_ ?_ ?_ ?_ ?_ ?_ ?_ ?_ ?_ ?_ ?_ ?_ ?_ ?_ ?_ ?_ ?_ ?_ ?_ ?_ ?_ ?_ ?_ ?_ ?_ ?_ ?_ ?_ ?_ ?_ ?_ ?_ ?_ ?_ ?_ ?_ ?_ ?_ ?_ ?_ ?_ ?_ ?_ ?_ ?_ ?_ ?_ ?_ ?_ ?_ ?_ ?_ ?_ ?_ ?_ ?_ ?_ ?_ ?_ ?_ ?_ ?_ ?_ ?_ ?_ ?_ ?_ ?_ ?_ ?_ ?_ ?_ ?_ ?_ ?_ ?_ ?_ ?_ ?_ ?_ ?_ ?_ ?_ ?_ ?_ ?_ ?_ ?_ ?_ ?_ ?_ ?_ ?_ ?_ ?_ ?_ ?_ ?_ ?_ ?_ ?_ ?_ ?_ ?_ ?_ ?_ ?_ ?_ ?_ ?_ ?_ ?_ ?_ ?_ ?_ ?_ ?_ ?_ ?_ ?_ ?_ ?_ ?_ ?_
  all_goals try ((try unfold LW.LkF);first | k_is | kit_is | (unfold L2.valB;k_exc) | rfl | decide +kernel)
