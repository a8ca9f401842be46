import PyProof.Rows.All
import Wide.All
import OpenK.AllK
import Wide.FinOn
import Lean
import PyProof.EqAt
import PyProof.EqKinds
import PyProof.TupleCall
import PyProof.NeKinds
import KE.KEqDict
import KE.KDictSum
import PyProof.Rows.StrMul
import PyProof.Rows.SortStr
import PyProof.Rows.SortWalk
import KE.KSortTup
import PyProof.IsiH_list
import KE.KDictOf
import KE.KItemsList
import PyProof.SetKind
import PyProof.Rows.SetFrom
import PyProof.IsRules
import PyProof.EnumStmt
import PyProof.EnumFor
import PyProof.EnumMake
import PyProof.Rows.StrJoin2
import KE.KDictList
import PyProof.ZipIter
import PyProof.DictCompW
import PyProof.DictUpdate
import PyProof.FactsAll.set_2
import KE.KSetDisp
import PyProof.Rows.StrNews2
import PyProof.StrCalls
import KE.KIntText
import PyProof.StrLawsLast
import PyProof.Rows.StrCut
import PyProof.TupleKey
import PyProof.ExcInit
import PyProof.Rows.SortShellK
import PySem.Challenge.RW_outlineward_k23_claims_written_and_read
set_option Elab.async false
set_option linter.all false
set_option maxRecDepth 100000
set_option maxHeartbeats 4000000
namespace L2
open PySem PySem.Spec PyProof.Rows
abbrev Key:=Sum Int Str
def jfo:Key→Value→Bool
 | .inl k,v=>Value.isInt k v
 | .inr x,v=>Value.isStrOf x v
def jg5 (w:World):Key→Int
 | .inl k=>hashInt k
 | .inr x=>hashStr w x
theorem kd:∀ {k:Key} {v:Value},jfo k v=true→(∃ i t,k=Sum.inl i∧v=Value.int i t)∨(∃ x t,k=Sum.inr x∧v=Value.str x t)
 | .inl i,v,h=>by
  obtain ⟨t,e⟩:=Value.isInt_shape (k:=i) (v:=v) h
  exact .inl ⟨i,t,rfl,e⟩
 | .inr x,v,h=>by
  obtain ⟨t,e⟩:=Value.isStrOf_shape (x:=x) (v:=v) h
  exact .inr ⟨x,t,rfl,e⟩
theorem jga (a b:Int):decide ((Sum.inl a:Key)=Sum.inl b)=(a == b):=by
 by_cases e:a=b
 ·subst e;simp
 ·have h:¬ (Sum.inl a:Key)=Sum.inl b:=fun q=>e (Sum.inl.inj q)
  rw [decide_eq_false h]
  exact (beq_eq_false_iff_ne.mpr e).symm
theorem jf7 (a b:Str):decide ((Sum.inr a:Key)=Sum.inr b)=decide (a=b):=by
 by_cases e:a=b
 ·subst e;simp
 ·have h:¬ (Sum.inr a:Key)=Sum.inr b:=fun q=>e (Sum.inr.inj q)
  rw [decide_eq_false h,decide_eq_false e]
theorem jf9 (a:Int) (b:Str):decide ((Sum.inl a:Key)=Sum.inr b)=false:=decide_eq_false (fun q=>nomatch q)
theorem jf8 (a:Str) (b:Int):decide ((Sum.inr a:Key)=Sum.inl b)=false:=decide_eq_false (fun q=>nomatch q)
def ja4 (prog:Program) (w:World):PySem.KeyKind prog w Key where
 is:=jfo
 hash:=jg5 w
 inj:=fun v a b ha hb=>by
  rcases kd ha with ⟨i,t,rfl,rfl⟩ | ⟨x,t,rfl,rfl⟩
  ·rcases kd hb with ⟨j,u,rfl,e⟩ | ⟨y,u,rfl,e⟩
   ·injection e with e1 _;rw [e1]
   ·exact nomatch e
  ·rcases kd hb with ⟨j,u,rfl,e⟩ | ⟨y,u,rfl,e⟩
   ·exact nomatch e
   ·injection e with e1 _;rw [e1]
 byValue:=fun k v h=>by
  rcases kd h with ⟨i,t,rfl,rfl⟩ | ⟨x,t,rfl,rfl⟩ <;> rfl
 pyHash:=fun hv h=>by
  rcases kd hv with ⟨i,t,rfl,rfl⟩ | ⟨x,t,rfl,rfl⟩
  ·exact wpAny_pyHash_int h
  ·exact wpAny_pyHash_str h
 eqBool:=fun hu hv h=>by
  rcases kd hu with ⟨i,t,rfl,rfl⟩ | ⟨x,t,rfl,rfl⟩
  ·rcases kd hv with ⟨j,u,rfl,rfl⟩ | ⟨y,u,rfl,rfl⟩
   ·rw [jga] at h;exact wpAny_eqBool_int h
   ·rw [jf9] at h;exact SeqAt.EqAt.int_str i t y u _ _ _ _ h
  ·rcases kd hv with ⟨j,u,rfl,rfl⟩ | ⟨y,u,rfl,rfl⟩
   ·rw [jf8] at h;exact SeqAt.EqAt.str_int x t j u _ _ _ _ h
   ·rw [jf7] at h;exact wpAny_eqBool_str h
 «strs»:=fun k x t v h=>by
  rcases kd h with ⟨i,u,rfl,e⟩ | ⟨y,u,rfl,e⟩
  ·exact nomatch e
  ·injection e with e1 _
   subst e1
   cases v <;> rfl
inductive V where
 | non | bl (b:Bool) | int (i:Int) | str (x:Str) | byt (b:Array UInt8) | flt (b:UInt64) | ref (a:Addr) | ty (n:String)
 deriving DecidableEq
def RelV:V→Value→Prop
 | .non,u=>u=Value.none
 | .bl b,u=>u=Value.bool b
 | .int i,u=>∃ t,u=Value.int i t
 | .str x,u=>∃ t,u=Value.str x t
 | .byt b,u=>∃ t,u=Value.bytes b t
 | .flt b,u=>∃ t,u=Value.float b t
 | .ref a,u=>u=Value.ref a
 | .ty n,u=>u=Value.type n
abbrev Vals:List V→List Value→Prop:=Paired RelV
theorem Vals.length {xs:List V} {us:List Value} (r:Vals xs us):xs.length=us.length:=Paired.length r
theorem Vals.get:∀ {xs:List V} {us:List Value} {i:Nat} {x:V},Vals xs us→xs[i]?=some x→∃ u,us[i]?=some u∧RelV x u
 | _,_,_,_,.nil,e=>by simp at e
 | _,_,0,_,.cons r _,e=>by simp at e;subst e;exact ⟨_,rfl,r⟩
 | _,_,i+1,x,.cons _ t,e=>by
  obtain ⟨u,h1,h2⟩:=Vals.get (i:=i) (x:=x) t (by simpa using e)
  exact ⟨u,by simpa using h1,h2⟩
theorem Vals.set {x:V} {u:Value} (r:RelV x u):∀ {xs:List V} {us:List Value} (i:Nat),Vals xs us→Vals (xs.set i x) (us.set i u)
 | _,_,_,.nil=>.nil
 | _,_,0,.cons _ t=>.cons r t
 | _,_,i+1,.cons q t=>.cons q (Vals.set r i t)
theorem Vals.append:∀ {xs ys:List V} {us ws:List Value},Vals xs us→Vals ys ws→Vals (xs++ys) (us++ws)
 | _,_,_,_,.nil,s=>s
 | _,_,_,_,.cons r t,s=>.cons r (Vals.append t s)
theorem Vals.take:∀ {xs:List V} {us:List Value} (n:Nat),Vals xs us→Vals (xs.take n) (us.take n)
 | _,_,0,_=>.nil
 | _,_,_+1,.nil=>.nil
 | _,_,n+1,.cons r t=>.cons r (Vals.take n t)
theorem Vals.drop:∀ {xs:List V} {us:List Value} (n:Nat),Vals xs us→Vals (xs.drop n) (us.drop n)
 | _,_,0,r=>r
 | _,_,_+1,.nil=>.nil
 | _,_,n+1,.cons _ t=>Vals.drop n t
def RelO:Option V→Option Value→Prop
 | some v,some u=>RelV v u
 | none,none=>True
 | _,_=>False
def KV {κ:Type}:List (κ×V)→List (κ×Value)→Prop:=Paired fun (p:κ×V) (q:κ×Value)=>p.1=q.1∧RelV p.2 q.2
def kV:Key→V
 | .inl i=>.int i
 | .inr x=>.str x
inductive HO where
 | lst (xs:List V)
 | tup (xs:List V)
 | dK (kvs:List (Key×V)) | dT (kvs:List (List Key×V))
 | set (S:Int→Bool) (n:Nat)
 | ins (C dx:Addr) (fs:List (Str×V))
 | own (x:Addr)
 | xd (fs:List (Str×V))
 | met (f x:Addr)
 | rng (lo hi:Int)
 | frz (o:Obj) (u:HO)
 | tbl (ps:Array Value)
 | ext (φ:Heap→Prop)
abbrev Hp:=Addr→Option HO
def upd (H:Hp) (a:Addr) (o:HO):Hp:=fun b=>if b=a then some o else H b
theorem jf {H:Hp} {a:Addr} {o:HO}:upd H a o a=some o:=by unfold upd;rw [if_pos rfl]
theorem jx {H:Hp} {a b:Addr} {o:HO} (h:b≠a):upd H a o b=H b:=by unfold upd;rw [if_neg h]
theorem jdZ {H:Hp} {a:Addr} {o u:HO}:upd (upd H a o) a u=upd H a u:=by
 funext b;unfold upd;split <;> rfl
theorem jF {H:Hp} {a b:Addr} {o:HO} (h:H a=some o) (h':H b=none):a≠b:=by
 intro e;subst e;rw [h] at h';cases h'
section
variable (P:Program) (w:World)
def ObjOk (H:Hp) (h:Heap) (a:Addr):HO→Prop
 | .lst xs=>xs.length≤sizeLine∧∃ (its:List Value) (n:Nat),Vals xs its∧h.get? a=some { cls:=.type "list",data:=.seq its.toArray n }
 | .tup xs=>xs.length≤sizeLine∧∃ its:List Value,Vals xs its∧IsTup h a its.toArray
 | .dK kvs=>kvs.length≤sizeLine∧(a == sysModules)=false∧∃ vs,KV kvs vs∧h.DictOf (ja4 P w) a vs
 | .dT kvs=>kvs.length≤sizeLine∧(a == sysModules)=false∧∃ xs:List (List Key×Addr×Value),
   Paired (fun (p:List Key×V) (q:List Key×Addr×Value)=>p.1=q.1∧H q.2.1=some (.tup (p.1.map kV))∧RelV p.2 q.2.2) kvs xs∧
   ∃ o es ep,h.get? a=some o∧o.ExactDict∧o.data=.dict es ep∧es.toList=xs.map (entryOfKey (tupleKind (ja4 P w)))∧(xs.map (·.1)).Nodup
 | .set S n=>h.SetOf (intKind P w) a S n
 | .ins C dx fs=>H dx=some (.own a)∧fs.length≤1000∧dx≠a∧h.get? a=some (PySem.W.instObj C dx)∧
   ∃ mA,h.Ns1 dx mA∧(∀ f,RelO (fs.lookup f) (mA f))∧PySem.Within mA (fs.map (·.1))
 | .own _=>∃ o,h.get? a=some o
 | .xd fs=>∃ mA,h.Ns1 a mA∧∀ f,RelO (fs.lookup f) (mA f)
 | .rng lo hi=>∃ t u v,h.get? a=some { cls:=.type "range",data:=.fields #[.int lo t,.int hi u,.int 1 v] }
 | .frz o u=>h.get? a=some o∧ObjOk H h a u
 | .tbl ps=>h.get? a=some { cls:=.none,data:=.fields ps }
 | .met f x=>h.get? a=some (PySem.W.methodObj (.ref f) (.ref x))
 | .ext φ=>φ h∧(∃ o,h.get? a=some o)∧∀ h1 h2:Heap,φ h1→(∀ o,h1.get? a=some o→h2.get? a=some o)→φ h2
def HOk (H:Hp) (h:Heap):Prop:=∀ a o,H a=some o→ObjOk P w H h a o
end
section
variable {P:Program} {w:World} {H H':Hp} {h h':Heap} {a:Addr} {o:HO}
theorem ObjOk.lt (x:ObjOk P w H h a o):a < h.objs.size:=by
 cases o with
 | lst xs=>obtain ⟨_,_,_,_,e⟩:=x;exact Heap.lt_size e
 | tup xs=>obtain ⟨_,_,_,p⟩:=x;exact p.lt
 | dK kvs=>obtain ⟨_,_,_,_,o,_,_,e,_⟩:=x;exact Heap.lt_size e
 | dT kvs=>obtain ⟨_,_,_,_,o,_,_,e,_⟩:=x;exact Heap.lt_size e
 | set S n=>obtain ⟨o,_,_,_,e,_⟩:=x;exact Heap.lt_size e
 | ins C dx fs=>obtain ⟨_,_,_,e,_⟩:=x;exact Heap.lt_size e
 | own y=>obtain ⟨_,e⟩:=x;exact Heap.lt_size e
 | xd fs=>obtain ⟨_,⟨_,_,_,e,_⟩,_⟩:=x;exact Heap.lt_size e
 | rng lo hi=>obtain ⟨_,_,_,e⟩:=x;exact Heap.lt_size e
 | frz ob u=>obtain ⟨e,_⟩:=x;exact Heap.lt_size e
 | tbl ps=>exact Heap.lt_size (show h.get? a=some _ from x)
 | met f y=>exact Heap.lt_size (show h.get? a=some _ from x)
 | ext φ=>obtain ⟨_,⟨_,e⟩,_⟩:=x;exact Heap.lt_size e
theorem Paired.mapP {α β:Type} {F G:α→β→Prop}:∀ {l₁:List α} {l₂:List β},Paired F l₁ l₂→(∀ a b,F a b→G a b)→Paired G l₁ l₂
 | _,_,.nil,_=>.nil
 | _,_,.cons r t,f=>.cons (f _ _ r) (Paired.mapP t f)
theorem ObjOk.stay (x:ObjOk P w H h a o) (k:∀ b u,(b=a∨H b=some (.own a))→h.get? b=some u→h'.get? b=some u)
  (ho:∀ b,H b=some (.own a)→H' b=some (.own a)) (ht:∀ b xs,H b=some (.tup xs)→H' b=some (.tup xs)):ObjOk P w H' h' a o:=by
 induction o with
 | lst xs=>obtain ⟨z,its,n,r,e⟩:=x;exact ⟨z,its,n,r,k _ _ (.inl rfl) e⟩
 | tup xs=>obtain ⟨z,its,r,ob,e,c⟩:=x;exact ⟨z,its,r,ob,k _ _ (.inl rfl) e,c⟩
 | dK kvs=>obtain ⟨z,y,vs,r,ob,es,ep,e,c⟩:=x;exact ⟨z,y,vs,r,ob,es,ep,k _ _ (.inl rfl) e,c⟩
 | dT kvs=>
  obtain ⟨z,y,xs,r,ob,es,ep,e,c⟩:=x
  exact ⟨z,y,xs,Paired.mapP r fun p q z=>⟨z.1,ht _ _ z.2.1,z.2.2⟩,ob,es,ep,k _ _ (.inl rfl) e,c⟩
 | set S n=>obtain ⟨ob,es,ep,t,e,c⟩:=x;exact ⟨ob,es,ep,t,k _ _ (.inl rfl) e,c⟩
 | ins C dx fs=>
  obtain ⟨d,z,ne,e,mA,⟨od,es,ep,e2,c⟩,r⟩:=x
  exact ⟨ho _ d,z,ne,k _ _ (.inl rfl) e,mA,⟨od,es,ep,k _ _ (.inr d) e2,c⟩,r⟩
 | own y=>obtain ⟨ob,e⟩:=x;exact ⟨ob,k _ _ (.inl rfl) e⟩
 | xd fs=>obtain ⟨mA,⟨od,es,ep,e,c⟩,r⟩:=x;exact ⟨mA,⟨od,es,ep,k _ _ (.inl rfl) e,c⟩,r⟩
 | rng lo hi=>obtain ⟨t,u,v,e⟩:=x;exact ⟨t,u,v,k _ _ (.inl rfl) e⟩
 | frz ob u ih=>obtain ⟨e,q⟩:=x;exact ⟨k _ _ (.inl rfl) e,ih q⟩
 | tbl ps=>
  have e:h.get? a=some { cls:=.none,data:=.fields ps }:=x
  show h'.get? a=some { cls:=.none,data:=.fields ps }
  exact k a _ (.inl rfl) e
 | met f y=>
  have e:h.get? a=some (PySem.W.methodObj (.ref f) (.ref y)):=x
  show h'.get? a=some (PySem.W.methodObj (.ref f) (.ref y))
  exact k a _ (.inl rfl) e
 | ext φ=>obtain ⟨p,⟨o,e⟩,st⟩:=x;exact ⟨st _ _ p fun o q=>k _ _ (.inl rfl) q,⟨o,k _ _ (.inl rfl) e⟩,st⟩
theorem HOk.lt (x:HOk P w H h) (e:H a=some o):a < h.objs.size:=(x a o e).lt
theorem HOk.fresh (x:HOk P w H h) (e:h.objs.size≤a):H a=none:=by
 cases q:H a with
 | none=>rfl
 | some u=>exact absurd (Nat.lt_of_lt_of_le (x.lt q) e) (Nat.lt_irrefl _)
theorem HOk.kept (x:HOk P w H h) (k:∀ b u,h.get? b=some u→h'.get? b=some u):HOk P w H h':=fun a o e=>
 (x a o e).stay (fun b u _ q=>k b u q) (fun _ q=>q) fun _ _ q=>q
theorem HOk.laid (x:HOk P w H h) (k:∀ b u,h.get? b=some u→h'.get? b=some u) (hp:h.objs.size≤a) (new:ObjOk P w (upd H a o) h' a o):HOk P w (upd H a o) h':=fun b u e=>by
 have hn:=x.fresh hp
 by_cases hb:b=a
 ·subst hb;rw [jf] at e;cases e;exact new
 ·rw [jx hb] at e
  exact (x b u e).stay (fun c v _ q=>k c v q) (fun c q=>by rw [jx (jF q hn)];exact q) fun c xs q=>by rw [jx (jF q hn)];exact q
end
def Rd (H:Hp) (a:Addr) (u:HO):Prop:=H a=some u∨∃ o,H a=some (.frz o u)
theorem Rd.ok {P:Program} {w:World} {H:Hp} {h:Heap} {a:Addr} {u:HO} (r:Rd H a u) (x:HOk P w H h):ObjOk P w H h a u:=by
 rcases r with r | ⟨o,r⟩
 ·exact x a u r
 ·obtain ⟨_,q⟩:=x a _ r
  exact q
def Mut:Option HO→Prop
 | some (.lst _)=>True
 | some (.dK _)=>True
 | some (.dT _)=>True
 | some (.set _ _)=>True
 | some (.ins _ _ _)=>True
 | some (.ext _)=>True
 | _=>False
section
variable {P:Program} {w:World} {H:Hp} {h h':Heap} {x e:Addr} {o':HO}
theorem HOk.write (ok:HOk P w H h) (mu:Mut (H x)) (he:e=x∨H e=some (.own x)) (k:∀ b u,b≠e→h.get? b=some u→h'.get? b=some u) (heo:∃ u,h'.get? e=some u)
  (new:ObjOk P w (upd H x o') h' x o'):HOk P w (upd H x o') h':=fun b u q=>by
 have nown:∀ c y,H c=some (.own y)→c≠x:=fun c y r z=>by subst z;rw [r] at mu;exact mu
 have ntup:∀ c xs,H c=some (.tup xs)→c≠x:=fun c xs r z=>by subst z;rw [r] at mu;exact mu
 by_cases hb:b=x
 ·subst hb;rw [jf] at q;cases q;exact new
 ·rw [jx hb] at q
  by_cases hbe:b=e
  ·have q':H b=some (.own x):=by
    rcases he with z | z
    ·exact absurd (hbe.trans z) hb
    ·rw [hbe];exact z
   rw [q] at q';cases q'
   obtain ⟨v,hv⟩:=heo
   exact ⟨v,by rw [hbe];exact hv⟩
  ·refine (ok b u q).stay (fun c v hc r=>k c v ?_ r) (fun c r=>by rw [jx (nown c b r)];exact r) fun c xs r=>by rw [jx (ntup c xs r)];exact r
   rcases hc with rfl | hc
   ·exact hbe
   ·rintro rfl
    rcases he with z | z
    ·exact nown c b hc z
    ·rw [hc] at z;cases z;exact hb rfl
end
structure Un (fs ex:List Addr) (H H':Hp) (h h':Heap):Prop where
 keep:∀ b o,h.get? b=some o→H b=none→b ∉ fs→b ∉ ex→h'.get? b=some o
 slot:∀ b o,h.get? b=some o→H b=none→b∈fs→b ∉ ex→∃ sl,h'.get? b=some { o with slots:=sl }
 free:∀ b o,h.get? b=some o→H b=none→b ∉ ex→H' b=none
 there:∀ b o,h.get? b=some o→b ∉ ex→∃ o',h'.get? b=some o'
 tups:∀ b xs,H b=some (.tup xs)→H' b=some (.tup xs)
 frzs:∀ b o u,H b=some (.frz o u)→H' b=some (.frz o u)
 tbls:∀ b ps,H b=some (.tbl ps)→∃ more,H' b=some (.tbl (ps++more))
section
variable {fs fs' ex ex':List Addr} {H H1 H2:Hp} {h h1 h2 h':Heap} {a x e:Addr} {o:HO}
theorem Un.any (u:Un fs ex H H1 h h1) {b:Addr} {ob:Obj} (q:h.get? b=some ob) (n:H b=none) (hx:b ∉ ex):∃ sl,h1.get? b=some { ob with slots:=sl }:=by
 by_cases hb:b∈fs
 ·exact u.slot b ob q n hb hx
 ·exact ⟨ob.slots,u.keep b ob q n hb hx⟩
theorem Un.kept (k:∀ b u,h.get? b=some u→h'.get? b=some u):Un fs ex H H h h':=
 ⟨fun b ob q _ _ _=>k b ob q,fun b ob q _ _ _=>⟨ob.slots,k b ob q⟩,fun _ _ _ n _=>n,fun b ob q _=>⟨ob,k b ob q⟩,fun _ _ q=>q,fun _ _ _ q=>q,fun _ ps q=>⟨#[],by rw [q];simp⟩⟩
theorem Un.refl:Un fs ex H H h h:=Un.kept fun _ _ q=>q
theorem Un.laid (k:∀ b u,h.get? b=some u→h'.get? b=some u) (hp:h.objs.size≤a) (hn:H a=none):Un fs ex H (upd H a o) h h' where
 keep:=fun b u q _ _ _=>k b u q
 slot:=fun b u q _ _ _=>⟨u.slots,k b u q⟩
 free:=fun b u q n _=>by rw [jx (Nat.ne_of_lt (Nat.lt_of_lt_of_le (Heap.lt_size q) hp))];exact n
 there:=fun b u q _=>⟨u,k b u q⟩
 tups:=fun b xs q=>by rw [jx (jF q hn)];exact q
 frzs:=fun b u xs q=>by rw [jx (jF q hn)];exact q
 tbls:=fun b ps q=>⟨#[],by rw [jx (jF q hn),q];simp⟩
theorem Un.write (mu:Mut (H x)) (he:e=x∨H e=some (.own x)) (k:∀ b u,b≠e→h.get? b=some u→h'.get? b=some u) (heo:∃ u,h'.get? e=some u):Un fs ex H (upd H x o) h h':=by
 have hx:∀ b,H b=none→b≠x:=fun b n z=>by subst z;rw [n] at mu;exact mu
 have hb:∀ b,H b=none→b≠e:=fun b n z=>by
  subst z
  rcases he with r | r
  ·exact hx b n r
  ·rw [n] at r;cases r
 have hm:∀ b u,H b=some u→¬ Mut (some u)→b≠x:=fun b u q nm z=>by subst z;rw [q] at mu;exact nm mu
 refine ⟨fun b u q n _ _=>k b u (hb b n) q,fun b u q n _ _=>⟨u.slots,k b u (hb b n) q⟩,fun b u q n _=>by rw [jx (hx b n)];exact n,fun b u q _=>?_,
  fun b xs q=>by rw [jx (hm b _ q fun z=>z)];exact q,fun b u xs q=>by rw [jx (hm b _ q fun z=>z)];exact q,fun b ps q=>⟨#[],by rw [jx (hm b _ q fun z=>z),q];simp⟩⟩
 by_cases hbe:b=e
 ·subst hbe;exact heo
 ·exact ⟨u,k b u hbe q⟩
end
def trk (h:Heap) (H:Hp):List Addr:=(List.range h.objs.size).filter fun a=>(H a).isSome
def Ys (h:Heap) (H:Hp):Heap:=PySem.W.hideAll h (trk h H)
theorem jb7 (h:Heap) (H:Hp):(Ys h H).objs.size=h.objs.size:=PySem.W.hideAll_size _ _
theorem jdt {h:Heap} {H:Hp} {b:Addr} {o:Obj} (e:h.get? b=some o) (n:H b=none):(Ys h H).get? b=some o:=
 PySem.W.hideAll_get _ e fun hm=>by
  have q:(H b).isSome=true:=(List.mem_filter.mp hm).2
  rw [n] at q;simp at q
theorem jey {h:Heap} {H:Hp} {b:Addr} {o:Obj} (e:(Ys h H).get? b=some o):h.get? b=some o∧H b=none:=by
 have e':h.get? b=some o:=PySem.W.of_hideAll (trk h H) e
 refine ⟨e',?_⟩
 cases q:H b with
 | none=>rfl
 | some x=>
  have hm:b∈trk h H:=List.mem_filter.mpr ⟨List.mem_range.mpr (Heap.lt_size e'),by simp [q]⟩
  have z:(Ys h H).get? b=none:=PySem.W.hideAll_none (trk h H) hm
  rw [z] at e;cases e
def je0 (g h:Heap) (L:Addr):List (Addr×Obj):=(List.range h.objs.size).filterMap fun a=>if a=L∨(g.get? a).isSome=true then none else (h.get? a).map fun o=>(a,o)
def j3 (g h:Heap) (L d:Addr):List (Addr×Obj):=(je0 g h L).filter fun p=>decide (p.1≠d)
structure Mod (K:PySem.W.Frag) (mg:Str→Option Value) (base:Heap):Prop where
 kin:K.In base
 glob:base.Ns mainGlobals mg
 blt:∃ mb,base.Ns builtinsNs mb∧∀ x:Str,x≠"__name__"→mb x=bootBuiltins x
 nolimit:base.NoLimit
structure Cx where
 prog:Program
 w:World
 K:PySem.W.Frag
 mg:Str→Option Value
 base:Heap
 A:Around
 N:List Str
 s₀:Shared
 H₀:Hp
 env:Env
 outer:List Env
 stack:List Env
 ex:List Addr
 fn:Str→Bool
 calm:Bool
 pn:List (Addr×Obj)
 xe:Value→Shared→Prop
def frs (l:List Env):List Addr:=l.filterMap (·.frame)
abbrev Cx.fs (X:Cx):List Addr:=frs X.outer
def Vis (sc:Scope) (x:Str):Prop:=sc.names.lookup x=some .local∨sc.names.lookup x=some .cell∨sc.names.lookup x=some .free
def Loc (sc:Scope) (x:Str):Prop:=sc.names.lookup x=some .local∨sc.names.lookup x=some .cell
def jha (env:Env) (h:Heap) (m:Str→Option Value) (x:Str) (u:Value):Prop:=
 (env.kindOf x=some .local∧m x=some u)∨((env.kindOf x=some .cell∨env.kindOf x=some .free)∧∃ c,env.cells.lookup x=some c∧h.IsCell c (some u))
structure Cx.Ok (X:Cx):Prop where
 mod:Mod X.K X.mg X.base
 kind:X.env.scope.kind=.function
 glob:X.env.globals=mainGlobals
 blt:X.env.builtins=builtinsNs
 above:X.s₀.heap.objs.size≤X.env.locals
 inj:∀ x y c,X.env.cells.lookup x=some c→X.env.cells.lookup y=some c→x=y
 has:∀ x,(X.env.kindOf x=some .cell∨X.env.kindOf x=some .free)→∃ c,X.env.cells.lookup x=some c
 cab:∀ x c,X.fn x=true→X.env.cells.lookup x=some c→X.s₀.heap.objs.size≤c
 hd:X.calm=true→X.A.handled=none
 frames:X.A.frames=some X.stack
 stk:X.stack=X.outer∨(X.stack=X.env :: X.outer∧X.env.frame=some X.env.locals)
 exf:∀ b∈X.ex,b≠X.env.locals∧∀ x c,X.env.cells.lookup x=some c→c≠b
 bs:∀ b o,X.base.get? b=some o→X.s₀.heap.get? b=some o∧X.H₀ b=none
 bsz:X.base.objs.size≤X.s₀.heap.objs.size
 noex:∀ b o,X.base.get? b=some o→b ∉ X.ex
 exfs:∀ b∈X.ex,b ∉ X.fs
 funs:X.s₀.heap.FunFrames X.base X.outer
 frf:∀ b∈X.fs,X.H₀ b=none
structure Inv (X:Cx) (pins:List (Addr×Obj)) (σ:List (Option V)) (H:Hp) (s:Shared):Prop where
 ok:X.Ok
 os:s.os=X.s₀.os
 bare:AllBare s.gens
 base:Un X.fs X.ex X.H₀ H X.s₀.heap s.heap
 loc:∃ m,s.heap.Ns X.env.locals m∧∀ (i:Nat) (x:Str) (v:V),X.N[i]?=some x→σ[i]?=some (some v)→Vis X.env.scope x→∃ u,RelV v u∧jha X.env s.heap m x u
 cell:∀ x c,X.env.cells.lookup x=some c→∃ v,s.heap.IsCell c v
 free:H X.env.locals=none
 freeC:∀ x c,X.env.cells.lookup x=some c→H c=none
 pin:∀ p∈X.pn++pins,s.heap.get? p.1=some p.2∧H p.1=none∧p.1≠X.env.locals∧p.1 ∉ X.fs∧∀ v,p.2.data≠.cell v
 hok:HOk X.prog X.w H s.heap
 len:σ.length=X.N.length
section
variable {X:Cx} {pins:List (Addr×Obj)} {σ:List (Option V)} {H H':Hp} {s:Shared} {h':Heap}
theorem Cx.Ok.nofr (ok:X.Ok) {b:Addr} {o:Obj} (e:X.base.get? b=some o):b ∉ X.fs:=fun hb=>by
 have:=(ok.funs.mem hb).1
 rw [e] at this;cases this
theorem Inv.bs (I:Inv X pins σ H s):∀ b o,X.base.get? b=some o→s.heap.get? b=some o∧H b=none:=fun b o e=>
 ⟨I.base.keep b o (I.ok.bs b o e).1 (I.ok.bs b o e).2 (I.ok.nofr e) (I.ok.noex b o e),I.base.free b o (I.ok.bs b o e).1 (I.ok.bs b o e).2 (I.ok.noex b o e)⟩
theorem Inv.bk (I:Inv X pins σ H s):∀ b o,X.base.get? b=some o→s.heap.get? b=some o:=fun b o e=>(I.bs b o e).1
theorem Inv.mod (I:Inv X pins σ H s):Mod X.K X.mg X.base:=I.ok.mod
theorem Inv.kIn (I:Inv X pins σ H s):X.K.In s.heap:=I.ok.mod.kin.keeps I.bk
theorem Inv.nolimit (I:Inv X pins σ H s):s.heap.NoLimit:=I.ok.mod.nolimit.keeps I.bk
theorem Inv.fr (I:Inv X pins σ H s):∃ m,Fr X.base X.env.locals s.heap m:=
 let ⟨m,hn,_⟩:=I.loc
 ⟨m,hn,I.bk,Nat.le_trans I.ok.bsz I.ok.above⟩
theorem Inv.lt (I:Inv X pins σ H s):X.env.locals < s.heap.objs.size:=let ⟨_,hn,_⟩:=I.loc;hn.lt
theorem Inv.sz (I:Inv X pins σ H s):X.s₀.heap.objs.size≤s.heap.objs.size:=Nat.le_trans I.ok.above (Nat.le_of_lt I.lt)
theorem Inv.nofs (I:Inv X pins σ H s) {a:Addr} (h:s.heap.objs.size≤a):a ∉ X.fs:=fun hb=>by
 obtain ⟨_,o,ho,_⟩:=I.ok.funs.mem hb
 exact absurd (Nat.lt_of_lt_of_le (Heap.lt_size ho) (Nat.le_trans I.sz h)) (Nat.lt_irrefl _)
theorem Inv.cne (I:Inv X pins σ H s):∀ x c,X.env.cells.lookup x=some c→c≠X.env.locals:=fun x c e z=>by
 obtain ⟨v,o,ho,hd⟩:=I.cell x c e
 obtain ⟨m,⟨o',es,ep,ho',hd',_⟩,_⟩:=I.loc
 rw [z,ho'] at ho;cases ho;rw [hd'] at hd;cases hd
theorem Inv.funs (I:Inv X pins σ H s):s.heap.FunFrames X.base X.outer:=by
 have all:∀ (l:List Env),(∀ b∈frs l,b∈X.fs)→X.s₀.heap.FunFrames X.base l→s.heap.FunFrames X.base l:=by
  intro l
  induction l with
  | nil=>intro _ _;trivial
  | cons env r ih=>
   intro hs hl
   obtain ⟨hk,⟨L,o,hf,hn,ho,hd⟩,hr⟩:=hl
   have hL:L∈X.fs:=hs L (by unfold frs;rw [List.filterMap_cons,hf];exact List.mem_cons_self)
   obtain ⟨sl,e⟩:=I.base.slot L o ho (I.ok.frf L hL) hL fun z=>I.ok.exfs L z hL
   exact ⟨hk,⟨L,_,hf,hn,e,hd⟩,ih (fun b hb=>hs b (by unfold frs;rw [List.filterMap_cons,hf];exact List.mem_cons_of_mem _ hb)) hr⟩
 exact all X.outer (fun _ hb=>hb) I.ok.funs
theorem Inv.stack (I:Inv X pins σ H s):s.heap.FunFrames X.base X.stack:=by
 rcases I.ok.stk with e | ⟨e,hf⟩
 ·rw [e];exact I.funs
 ·rw [e]
  obtain ⟨m,hn,_⟩:=I.loc
  refine .cons (by rw [I.ok.kind];decide) hf hn ?_ I.funs
  exact Heap.get?_none_of_le (Nat.le_trans I.ok.bsz I.ok.above)
theorem Inv.stkSub (I:Inv X pins σ H s):∀ b∈frs X.stack,b∈X.env.locals :: X.fs:=fun b hb=>by
 rcases I.ok.stk with e | ⟨e,hf⟩
 ·rw [e] at hb;exact List.mem_cons_of_mem _ hb
 ·rw [e] at hb
  unfold frs at hb
  rw [List.filterMap_cons,hf] at hb
  exact hb
theorem Inv.stkFree (I:Inv X pins σ H s):∀ b∈frs X.stack,H b=none:=fun b hb=>by
 rcases List.mem_cons.mp (I.stkSub b hb) with e | hb
 ·rw [e];exact I.free
 ·obtain ⟨_,o,ho,_⟩:=I.ok.funs.mem hb
  exact I.base.free b o ho (I.ok.frf b hb) fun z=>I.ok.exfs b z hb
theorem Inv.step {g':Array GenState} {t':Nat} {d':Drawn} {ch:List Addr} (I:Inv X pins σ H s)
  (hch:∀ b∈ch,(b∈X.ex∨X.s₀.heap.objs.size≤b)∧b≠X.env.locals∧(∀ x c,X.env.cells.lookup x=some c→c≠b)∧∀ p∈X.pn++pins,p.1≠b)
  (keep:∀ b o,b≠X.env.locals→b ∉ X.fs→b ∉ ch→s.heap.get? b=some o→H b=none→h'.get? b=some o)
  (slot:∀ b o,b≠X.env.locals→b∈X.fs→b ∉ ch→s.heap.get? b=some o→H b=none→∃ sl,h'.get? b=some { o with slots:=sl }) (free:∀ b o,b ∉ ch→s.heap.get? b=some o→H b=none→H' b=none)
  (there:∀ b o,b ∉ ch→s.heap.get? b=some o→∃ o',h'.get? b=some o')
  (tups:∀ b xs,H b=some (.tup xs)→H' b=some (.tup xs)) (frzs:∀ b o u,H b=some (.frz o u)→H' b=some (.frz o u)) (tbls:∀ b ps,H b=some (.tbl ps)→∃ more,H' b=some (.tbl (ps++more)))
  (ns:∀ m,s.heap.Ns X.env.locals m→h'.Ns X.env.locals m) (hok:HOk X.prog X.w H' h') (hg:AllBare g') :
  Inv X pins σ H' { s with heap:=h',gens:=g',drawn:=d',toks:=t' }:=by
 have neL:∀ b o,X.s₀.heap.get? b=some o→b≠X.env.locals:=fun b o e=>Nat.ne_of_lt (Nat.lt_of_lt_of_le (Heap.lt_size e) I.ok.above)
 have neC:∀ b o,X.s₀.heap.get? b=some o→b ∉ X.ex→b ∉ ch:=fun b o e hx hb=>by
  rcases (hch b hb).1 with z | z
  ·exact hx z
  ·exact absurd (Nat.lt_of_lt_of_le (Heap.lt_size e) z) (Nat.lt_irrefl _)
 have cellK:∀ x c,X.env.cells.lookup x=some c→∀ v,s.heap.IsCell c v→h'.IsCell c v:=fun x c e v ⟨o,ho,hd⟩=>by
  have nch:c ∉ ch:=fun z=>(hch c z).2.2.1 x c e rfl
  by_cases hc:c∈X.fs
  ·obtain ⟨sl,q⟩:=slot c o (I.cne x c e) hc nch ho (I.freeC x c e)
   exact ⟨_,q,hd⟩
  ·exact ⟨o,keep c o (I.cne x c e) hc nch ho (I.freeC x c e),hd⟩
 refine ⟨I.ok,I.os,hg,⟨fun b o e n hb hx=>?_,fun b o e n hb hx=>?_,fun b o e n hx=>?_,fun b o e hx=>?_,fun b xs e=>tups b xs (I.base.tups b xs e),fun b o xs e=>frzs b o xs (I.base.frzs b o xs e),fun b ps e=>?_⟩,?_,fun x c e=>?_,?_,fun x c e=>?_,fun p hp=>?_,hok,I.len⟩
 ·exact keep b o (neL b o e) hb (neC b o e hx) (I.base.keep b o e n hb hx) (I.base.free b o e n hx)
 ·obtain ⟨sl,e1⟩:=I.base.slot b o e n hb hx
  obtain ⟨sl',e2⟩:=slot b _ (neL b o e) hb (neC b o e hx) e1 (I.base.free b o e n hx)
  exact ⟨sl',e2⟩
 ·obtain ⟨o',e1⟩:=I.base.there b o e hx
  exact free b o' (neC b o e hx) e1 (I.base.free b o e n hx)
 ·obtain ⟨o',e1⟩:=I.base.there b o e hx
  exact there b o' (neC b o e hx) e1
 ·obtain ⟨m1,e1⟩:=I.base.tbls b ps e
  obtain ⟨m2,e2⟩:=tbls b _ e1
  exact ⟨m1++m2,by rw [e2,Array.append_assoc]⟩
 ·obtain ⟨m,hn,hl⟩:=I.loc
  refine ⟨m,ns m hn,fun i x v e1 e2 e3=>?_⟩
  obtain ⟨u,r,l⟩:=hl i x v e1 e2 e3
  refine ⟨u,r,?_⟩
  rcases l with l | ⟨k,c,e,z⟩
  ·exact .inl l
  ·exact .inr ⟨k,c,e,cellK x c e _ z⟩
 ·obtain ⟨v,z⟩:=I.cell x c e
  exact ⟨v,cellK x c e v z⟩
 ·obtain ⟨m,⟨o,_,_,ho,_⟩,_⟩:=I.loc
  exact free _ o (fun z=>(hch _ z).2.1 rfl) ho I.free
 ·obtain ⟨v,o,ho,hd⟩:=I.cell x c e
  exact free c o (fun z=>(hch c z).2.2.1 x c e rfl) ho (I.freeC x c e)
 ·obtain ⟨e,n,ne,nf,d⟩:=I.pin p hp
  have nch:p.1 ∉ ch:=fun z=>(hch p.1 z).2.2.2 p hp rfl
  exact ⟨keep p.1 p.2 ne nf nch e n,free p.1 p.2 nch e n,ne,nf,d⟩
theorem Inv.un {t':Nat} (I:Inv X pins σ H s) (u:Un X.fs [] H H' s.heap h') (hok:HOk X.prog X.w H' h'):Inv X pins σ H' { s with heap:=h',toks:=t' }:=by
 obtain ⟨m,⟨o,es,ep,ho,r⟩,_⟩:=id I.loc
 obtain ⟨sl,hL⟩:=u.any ho I.free (by simp)
 exact I.step (g':=s.gens) (d':=s.drawn) (ch:=[]) (fun _ z=>nomatch z) (fun b o _ hb _ e n=>u.keep b o e n hb (by simp)) (fun b o _ hb _ e n=>u.slot b o e n hb (by simp)) (fun b o _ e n=>u.free b o e n (by simp)) (fun b o _ e=>u.there b o e (by simp)) u.tups u.frzs u.tbls (fun m' hm=>by
  obtain ⟨o',es',ep',ho',r'⟩:=hm
  rw [ho] at ho';cases ho'
  exact ⟨_,es',ep',hL,r'⟩) hok I.bare
theorem Inv.call {g':Array GenState} {t':Nat} {d':Drawn} {ch:List Addr} (I:Inv X pins σ H s) (u:Un (frs X.stack) ch H H' s.heap h') (hok:HOk X.prog X.w H' h') (hg:AllBare g')
  (hch:∀ b∈ch,(b∈X.ex∨X.s₀.heap.objs.size≤b)∧b≠X.env.locals∧(∀ x c,X.env.cells.lookup x=some c→c≠b)∧∀ p∈X.pn++pins,p.1≠b) :
  Inv X pins σ H' { s with heap:=h',gens:=g',drawn:=d',toks:=t' }:=by
 obtain ⟨m,⟨o,es,ep,ho,r⟩,_⟩:=id I.loc
 obtain ⟨sl,hL⟩:=u.any ho I.free fun z=>(hch _ z).2.1 rfl
 exact I.step (ch:=ch) hch (fun b o hL hb hc e n=>u.keep b o e n (fun z=>(List.mem_cons.mp (I.stkSub b z)).elim hL hb) hc) (fun b o _ _ hc e n=>u.any e n hc) (fun b o hc e n=>u.free b o e n hc) (fun b o hc e=>u.there b o e hc) u.tups u.frzs u.tbls (fun m' hm=>by
  obtain ⟨o',es',ep',ho',r'⟩:=hm
  rw [ho] at ho';cases ho'
  exact ⟨_,es',ep',hL,r'⟩) hok hg
theorem Inv.turned {t':Nat} {it:Addr} (I:Inv X pins σ H s) (k:∀ b o,b≠it→s.heap.get? b=some o→h'.get? b=some o) (hn:H it=none) (hL:it≠X.env.locals)
  (h1:it∈X.ex∨X.s₀.heap.objs.size≤it) (h2:∀ x c,X.env.cells.lookup x=some c→c≠it) (h3:∀ p∈X.pn++pins,p.1≠it):Inv X pins σ H { s with heap:=h',toks:=t' }:=by
 have nit:∀ b u,H b=some u→b≠it:=fun b u e z=>by rw [z,hn] at e;cases e
 refine I.step (g':=s.gens) (d':=s.drawn) (ch:=[it]) (fun b hb=>?_) (fun b o _ _ hc e _=>k b o (fun z=>hc (by simp [z])) e) (fun b o _ _ hc e _=>⟨o.slots,k b o (fun z=>hc (by simp [z])) e⟩) (fun _ _ _ _ n=>n)
  (fun b o hc e=>⟨o,k b o (fun z=>hc (by simp [z])) e⟩) (fun _ _ e=>e) (fun _ _ _ e=>e) (fun b ps e=>⟨#[],by rw [e];simp⟩) (fun m hm=>?_) (fun b u e=>?_) I.bare
 ·have e:b=it:=by simpa using hb
  subst e
  exact ⟨h1,hL,h2,h3⟩
 ·obtain ⟨o,es,ep,ho,r⟩:=hm
  exact ⟨o,es,ep,k _ o (Ne.symm hL) ho,r⟩
 ·refine (I.hok b u e).stay (fun c v hc q=>k c v ?_ q) (fun _ q=>q) fun _ _ q=>q
  rcases hc with z | z
  ·rw [z];exact nit b u e
  ·exact nit c _ z
theorem Inv.tok (I:Inv X pins σ H s) (t:Nat):Inv X pins σ H { s with toks:=t }:=I.un (h':=s.heap) (t':=t) Un.refl I.hok
theorem Inv.kept {t':Nat} (I:Inv X pins σ H s) (k:∀ b u,s.heap.get? b=some u→h'.get? b=some u):Inv X pins σ H { s with heap:=h',toks:=t' }:=I.un (Un.kept k) (I.hok.kept k)
theorem Inv.laid {a:Addr} {o:HO} {t':Nat} (I:Inv X pins σ H s) (k:∀ b u,s.heap.get? b=some u→h'.get? b=some u) (hp:s.heap.objs.size≤a) (new:ObjOk X.prog X.w (upd H a o) h' a o) :
  Inv X pins σ (upd H a o) { s with heap:=h',toks:=t' }:=I.un (Un.laid k hp (I.hok.fresh hp)) (I.hok.laid k hp new)
theorem Inv.write {x e:Addr} {o:HO} {t':Nat} (I:Inv X pins σ H s) (mu:Mut (H x)) (he:e=x∨H e=some (.own x)) (k:∀ b u,b≠e→s.heap.get? b=some u→h'.get? b=some u) (heo:∃ u,h'.get? e=some u)
  (new:ObjOk X.prog X.w (upd H x o) h' x o):Inv X pins σ (upd H x o) { s with heap:=h',toks:=t' }:=I.un (Un.write mu he k heo) (I.hok.write mu he k heo new)
theorem Inv.pins_of {pins':List (Addr×Obj)} (I:Inv X pins σ H s) (h:∀ p∈pins',s.heap.get? p.1=some p.2∧H p.1=none∧p.1≠X.env.locals∧p.1 ∉ X.fs∧∀ v,p.2.data≠.cell v):Inv X pins' σ H s:=
 ⟨I.ok,I.os,I.bare,I.base,I.loc,I.cell,I.free,I.freeC,fun p hp=>(List.mem_append.mp hp).elim (fun z=>I.pin p (List.mem_append_left _ z)) (h p),I.hok,I.len⟩
theorem Ka {N:List Str} (hN:N.Nodup) {i j:Nat} {x:Str} (a:N[i]?=some x) (b:N[j]?=some x):i=j:=by
 obtain ⟨h1,e1⟩:=List.getElem?_eq_some_iff.mp a
 obtain ⟨h2,e2⟩:=List.getElem?_eq_some_iff.mp b
 exact (List.getElem_inj hN).mp (e1.trans e2.symm)
theorem KD {M:Model} {A:Around} {E:Value→Shared→Prop} {i:Nat} {x:Str} {v:V} {u:Value} {Q:Unit→Shared→Prop} (I:Inv X pins σ H s) (hN:X.N.Nodup) (hi:X.N[i]?=some x) (hx:Loc X.env.scope x) (r:RelV v u)
  (h:∀ s',Inv X pins (σ.set i (some v)) H s'→(∃ a,Heap.SameBut a s.heap s'.heap∧(a=X.env.locals∨X.env.cells.lookup x=some a))→Q () s') (hf:X.fn x=true∨X.env.scope.names.lookup x=some .local:=by first | exact .inl rfl | exact .inr rfl | assumption):wpAny M A (storeName X.env x u) Q E s:=by
 obtain ⟨m,hn,hl⟩:=id I.loc
 have hcls:(X.env.scope.kind == .class || (X.env.scope.kind == .module && X.env.locals != X.env.globals))=false:=by rw [I.ok.kind];rfl
 have hiσ:i < σ.length:=by rw [I.len];exact (List.getElem?_eq_some_iff.mp hi).1
 have cne:=I.cne
 have tracked:∀ {a:Addr} {h':Heap},(∃ o,s.heap.get? a=some o∧H a=none)→Heap.SameBut a s.heap h'→HOk X.prog X.w H h':=fun {a h'} ha hs b ob e=>by
  obtain ⟨_,_,hfree⟩:=ha
  refine (I.hok b ob e).stay (fun c w' hc q=>(hs.2 c ?_).trans q) (fun _ q=>q) fun _ _ q=>q
  rintro rfl
  rcases hc with rfl | hc
  ·rw [hfree] at e;cases e
  ·rw [hfree] at hc;cases hc
 rcases hx with hk | hk
 ·refine wpAny_storeName_local hk hn (fun h' hn' hs=>?_) hcls
  obtain ⟨oL,_,_,hoL,_⟩:=id hn
  refine h _ ⟨I.ok,I.os,I.bare,⟨fun b o e n hb hx=>?_,fun b o e n hb hx=>?_,I.base.free,fun b o e hx=>?_,I.base.tups,I.base.frzs,I.base.tbls⟩,⟨_,hn',fun j y v' e1 e2 e3=>?_⟩,fun y c e=>?_,I.free,I.freeC,fun p hp=>?_,tracked ⟨oL,hoL,I.free⟩ hs,by simpa using I.len⟩ ⟨_,hs,.inl rfl⟩
  ·exact (hs.2 b (Nat.ne_of_lt (Nat.lt_of_lt_of_le (Heap.lt_size e) I.ok.above))).trans (I.base.keep b o e n hb hx)
  ·obtain ⟨sl,e1⟩:=I.base.slot b o e n hb hx
   exact ⟨sl,(hs.2 b (Nat.ne_of_lt (Nat.lt_of_lt_of_le (Heap.lt_size e) I.ok.above))).trans e1⟩
  ·obtain ⟨o',e1⟩:=I.base.there b o e hx
   exact ⟨o',(hs.2 b (Nat.ne_of_lt (Nat.lt_of_lt_of_le (Heap.lt_size e) I.ok.above))).trans e1⟩
  ·by_cases hj:j=i
   ·subst hj
    rw [hi] at e1;cases e1
    rw [List.getElem?_set_self hiσ] at e2
    cases e2
    exact ⟨u,r,.inl ⟨hk,by simp⟩⟩
   ·rw [List.getElem?_set_ne (Ne.symm hj)] at e2
    obtain ⟨u',r',q⟩:=hl j y v' e1 e2 e3
    refine ⟨u',r',?_⟩
    rcases q with ⟨k,e⟩ | ⟨k,c,e,z⟩
    ·refine .inl ⟨k,?_⟩
     have:y≠x:=fun e=>hj (Ka hN e1 (e ▸ hi))
     simp [this,e]
    ·exact .inr ⟨k,c,e,z.sameBut hs (cne y c e)⟩
  ·obtain ⟨w',z⟩:=I.cell y c e
   exact ⟨w',z.sameBut hs (cne y c e)⟩
  ·obtain ⟨e,n,ne,nf,d⟩:=I.pin p hp
   exact ⟨(hs.2 p.1 ne).trans e,n,ne,nf,d⟩
 ·have hfn:X.fn x=true:=by
   rcases hf with z | z
   ·exact z
   ·rw [z] at hk;cases hk
  obtain ⟨c,hc⟩:=I.ok.has x (.inl hk)
  obtain ⟨w',z⟩:=I.cell x c hc
  refine wpAny_storeName_cell I.ok.kind hk hc z (fun h' hc' hs=>?_)
  obtain ⟨oc,hoc,hocd⟩:=id z
  refine h { s with heap:=h' } ⟨I.ok,I.os,I.bare,⟨fun b o e n hb hx=>?_,fun b o e n hb hx=>?_,I.base.free,fun b o e hx=>?_,I.base.tups,I.base.frzs,I.base.tbls⟩,⟨m,hn.sameBut hs (Ne.symm (cne x c hc)),fun j y v' e1 e2 e3=>?_⟩,fun y c' e=>?_,I.free,I.freeC,fun p hp=>?_,tracked ⟨oc,hoc,I.freeC x c hc⟩ hs,by simpa using I.len⟩ ⟨c,hs,.inr hc⟩
  ·exact (hs.2 b (Nat.ne_of_lt (Nat.lt_of_lt_of_le (Heap.lt_size e) (I.ok.cab x c hfn hc)))).trans (I.base.keep b o e n hb hx)
  ·obtain ⟨sl,e1⟩:=I.base.slot b o e n hb hx
   exact ⟨sl,(hs.2 b (Nat.ne_of_lt (Nat.lt_of_lt_of_le (Heap.lt_size e) (I.ok.cab x c hfn hc)))).trans e1⟩
  ·obtain ⟨o',e1⟩:=I.base.there b o e hx
   exact ⟨o',(hs.2 b (Nat.ne_of_lt (Nat.lt_of_lt_of_le (Heap.lt_size e) (I.ok.cab x c hfn hc)))).trans e1⟩
  ·by_cases hj:j=i
   ·subst hj
    rw [hi] at e1;cases e1
    rw [List.getElem?_set_self hiσ] at e2
    cases e2
    exact ⟨u,r,.inr ⟨.inl hk,c,hc,hc'⟩⟩
   ·rw [List.getElem?_set_ne (Ne.symm hj)] at e2
    obtain ⟨u',r',q⟩:=hl j y v' e1 e2 e3
    refine ⟨u',r',?_⟩
    rcases q with q | ⟨k,c',e,z'⟩
    ·exact .inl q
    ·refine .inr ⟨k,c',e,z'.sameBut hs ?_⟩
     rintro rfl
     exact hj (Ka hN e1 (I.ok.inj _ _ _ e hc ▸ hi))
  ·by_cases hcc:c'=c
   ·subst hcc;exact ⟨_,hc'⟩
   ·obtain ⟨w2,z2⟩:=I.cell y c' e
    exact ⟨w2,z2.sameBut hs hcc⟩
  ·obtain ⟨e,n,ne,nf,d⟩:=I.pin p hp
   refine ⟨(hs.2 p.1 ?_).trans e,n,ne,nf,d⟩
   intro q
   rw [q,hoc] at e
   have q':oc=p.2:=Option.some.inj e
   exact d w' (by rw [← q'];exact hocd)
theorem yJ {M:Model} {A:Around} {E:Value→Shared→Prop} {i:Nat} {x:Str} {v:V} {u:Value} {Q:Unit→Shared→Prop} (I:Inv X pins σ H s) (hN:X.N.Nodup) (hi:X.N[i]?=some x) (hx:Loc X.env.scope x) (r:RelV v u)
  (h:∀ s',Inv X pins (σ.set i (some v)) H s'→Q () s') (hf:X.fn x=true∨X.env.scope.names.lookup x=some .local:=by first | exact .inl rfl | exact .inr rfl | assumption):wpAny M A (storeName X.env x u) Q E s:=
 KD I hN hi hx r (fun s' I' _=>h s' I') hf
theorem Inv.call' {s':Shared} {ch:List Addr} (I:Inv X pins σ H s) (ho:s'.os=s.os) (u:Un (frs X.stack) ch H H' s.heap s'.heap) (hok:HOk X.prog X.w H' s'.heap) (hg:AllBare s'.gens)
  (hch:∀ b∈ch,(b∈X.ex∨X.s₀.heap.objs.size≤b)∧b≠X.env.locals∧(∀ x c,X.env.cells.lookup x=some c→c≠b)∧∀ p∈X.pn++pins,p.1≠b):Inv X pins σ H' s':=by
 obtain ⟨h',g',d',t',o'⟩:=s'
 have e:o'=s.os:=ho
 subst e
 exact I.call (g':=g') (t':=t') (d':=d') u hok hg hch
end
abbrev XK:=Value→Option Addr→Hp→Prop
abbrev St:=List (Option V)
abbrev VK:=V→Hp→Prop
abbrev TE:=St→Hp→VK→Prop
abbrev TT:=St→Hp→(Bool→Hp→Prop)→Prop
abbrev TA:=St→Hp→(List V→Hp→Prop)→Prop
structure Ends where
 nx:St→Hp→Prop
 rt:VK
 bk:St→Hp→Prop:=fun _ _=>False
 ct:St→Hp→Prop:=fun _ _=>False
abbrev TS:=Ends→St→Hp→Prop
def EP (X:Cx) (pins:List (Addr×Obj)) (σ:St) (Q:VK) (u:Value) (s':Shared):Prop:=∃ v H',Inv X pins σ H' s'∧RelV v u∧Q v H'
def TP (X:Cx) (pins:List (Addr×Obj)) (σ:St) (Q:Bool→Hp→Prop) (b:Bool) (s':Shared):Prop:=∃ H',Inv X pins σ H' s'∧Q b H'
def AP (X:Cx) (pins:List (Addr×Obj)) (σ:St) (Q:List V→Hp→Prop) (us:List Value) (s':Shared):Prop:=∃ vs H',Inv X pins σ H' s'∧Vals vs us∧Q vs H'
def SP (X:Cx) (pins:List (Addr×Obj)) (D:Ends) (f:Flow) (s':Shared):Prop:=
 match f with
 | .next=>∃ σ' H',Inv X pins σ' H' s'∧D.nx σ' H'
 | .brk=>∃ σ' H',Inv X pins σ' H' s'∧D.bk σ' H'
 | .cont=>∃ σ' H',Inv X pins σ' H' s'∧D.ct σ' H'
 | .ret u=>∃ v σ' H',Inv X pins σ' H' s'∧RelV v u∧D.rt v H'
def PE (X:Cx) (e:Expr) (t:TE):Prop:=
 ∀ (pins:List (Addr×Obj)) (s:Shared) (σ:St) (H:Hp) (Q:VK),Inv X pins σ H s→t σ H Q→wpAny (model X.prog X.w) X.A (eval e X.env) (EP X pins σ Q) X.xe s
def PT (X:Cx) (e:Expr) (t:TT):Prop:=
 ∀ (pins:List (Addr×Obj)) (s:Shared) (σ:St) (H:Hp) (Q:Bool→Hp→Prop),Inv X pins σ H s→t σ H Q→wpAny (model X.prog X.w) X.A (isTrue e X.env (eval e X.env)) (TP X pins σ Q) X.xe s
def PW (X:Cx) (e:Expr) (t:TT):Prop:=
 ∀ (whole:Sem Value) (pins:List (Addr×Obj)) (s:Shared) (σ:St) (H:Hp) (Q:Bool→Hp→Prop),Inv X pins σ H s→t σ H Q→wpAny (model X.prog X.w) X.A (isTrue e X.env whole) (TP X pins σ Q) X.xe s
theorem PW.pt {X:Cx} {e:Expr} {t:TT} (h:PW X e t):PT X e t:=h _
def PA (X:Cx) (es:List Expr) (t:TA):Prop:=
 ∀ (pos:Pos) (pins:List (Addr×Obj)) (s:Shared) (σ:St) (H:Hp) (Q:List V→Hp→Prop),Inv X pins σ H s→t σ H Q→wpAny (model X.prog X.w) X.A (spliced (backTo pos (starEach es X.env))) (AP X pins σ Q) X.xe s
def PS (X:Cx) (st:Stmt) (t:TS):Prop:=
 ∀ (pins:List (Addr×Obj)) (s:Shared) (σ:St) (H:Hp) (D:Ends),Inv X pins σ H s→t D σ H→wpAny (model X.prog X.w) X.A (exec st X.env) (SP X pins D) X.xe s
def PSs (X:Cx) (st:List Stmt) (t:TS):Prop:=
 ∀ (pins:List (Addr×Obj)) (s:Shared) (σ:St) (H:Hp) (D:Ends),Inv X pins σ H s→t D σ H→wpAny (model X.prog X.w) X.A (execs st X.env) (SP X pins D) X.xe s
theorem thn {α:Type} {t:Sem α} {Q Q':α→Shared→Prop} {M:Model} {A:Around} {E:Value→Shared→Prop} {s:Shared} (h:wpAny M A t Q E s) (hQ:∀ a s,Q a s→Q' a s):wpAny M A t Q' E s:=wpAny_mono h hQ fun _ _ x=>x
section
variable {X:Cx}
theorem bin {a b:Expr} {ta tb:TE} (ha:PE X a ta) (hb:PE X b tb) {pins:List (Addr×Obj)} {s:Shared} {σ:St} {H:Hp} {R:V→V→Hp→Prop} (I:Inv X pins σ H s) (h:ta σ H fun x H1=>tb σ H1 fun y H2=>R x y H2)
  {α:Type} {Q:α→Shared→Prop} {f:Value→Value→Sem α}
  (hf:∀ v u s2 x y H2,Inv X pins σ H2 s2→RelV x v→RelV y u→R x y H2→wpAny (model X.prog X.w) X.A (f v u) Q X.xe s2) :
  wpAny (model X.prog X.w) X.A (eval a X.env) (fun v s₁=>wpAny (model X.prog X.w) X.A (eval b X.env) (fun u s₂=>wpAny (model X.prog X.w) X.A (f v u) Q X.xe s₂) X.xe s₁) X.xe s:=by
 refine thn (ha pins s σ H _ I h) fun v s1 ⟨x,H1,I1,r1,q1⟩=>?_
 refine thn (hb pins s1 σ H1 _ I1 q1) fun u s2 ⟨y,H2,I2,r2,q2⟩=>?_
 exact hf v u s2 x y H2 I2 r1 r2 q2
def jfA (i:Nat):TE:=fun σ H Q=>∃ v,σ[i]?=some (some v)∧Q v H
def tC (v:V):TE:=fun _ H Q=>Q v H
theorem jfQ {i:Nat} {x:Str} {pos:Pos} (hN:X.N[i]?=some x) (hv:Vis X.env.scope x) (hd:(x == ("__debug__" : Str))=false:=by decide) (hcd:(x == ("__classdict__" : Str))=false:=by decide):PE X (.Name x pos) (jfA i):=by
 intro pins s σ H Q I h
 obtain ⟨v,e,h⟩:=h
 obtain ⟨m,hn,hl⟩:=I.loc
 obtain ⟨u,r,l⟩:=hl i x v hN e hv
 have fin:EP X pins σ Q u s:=⟨v,H,I,r,h⟩
 rcases l with ⟨hk,hm⟩ | ⟨hk,c,hc,hcell⟩
 ·exact wpAny_Name (wpAny_loadName_local I.ok.kind hk hn hm fin) hd
 ·rcases hk with hk | hk
  ·exact wpAny_Name (wpAny_loadName_cell I.ok.kind hk hc hcell fin) hd
  ·exact wpAny_Name (wpAny_loadName_free I.ok.kind hk hc hcell fin hcd) hd
theorem ZP {i j pos}:PE X (.Constant (.int i) j pos) (tC (.int i)):=fun _ _ _ H _ I h=>wpAny_Constant_int ⟨.int i,H,I.tok _,⟨_,rfl⟩,h⟩
theorem jfk {b j pos}:PE X (.Constant (.bool b) j pos) (tC (.bl b)):=fun _ _ _ H _ I h=>Constant_bool ⟨.bl b,H,I,rfl,h⟩
theorem jfT {j pos}:PE X (.Constant .none j pos) (tC .non):=fun _ _ _ H _ I h=>Constant_none ⟨.non,H,I,rfl,h⟩
theorem jfS {x j pos}:PE X (.Constant (.str x) j pos) (tC (.str x)):=fun _ _ _ H _ I h=>Calls.Constant_str ⟨.str x,H,I.tok _,⟨_,rfl⟩,h⟩
def Gl (X:Cx) (x:Str):Prop:=X.env.kindOf x=some .globalImplicit
theorem zw {E:Value→Shared→Prop} {pins:List (Addr×Obj)} {s:Shared} {σ:St} {H:Hp} {x:Str} {u:Value} {pos:Pos} {Q:Value→Shared→Prop} (I:Inv X pins σ H s) (hg:Gl X x) (hm:X.mg x=some u) (h:Q u s)
  (hd:(x == ("__debug__" : Str))=false:=by decide):wpAny (model X.prog X.w) X.A (eval (.Name x pos) X.env) Q E s:=
 Calls.Name_function_global I.ok.kind hg (Calls.loadGlobal_global (by rw [I.ok.glob];exact I.mod.glob.keeps I.bk) hm h) hd
theorem Kh {E:Value→Shared→Prop} {pins:List (Addr×Obj)} {s:Shared} {σ:St} {H:Hp} {x:Str} {u:Value} {pos:Pos} {Q:Value→Shared→Prop} (I:Inv X pins σ H s) (hg:Gl X x) (hm:X.mg x=none) (hv:bootBuiltins x=some u) (h:Q u s)
  (hn:x≠"__name__":=by decide) (hd:(x == ("__debug__" : Str))=false:=by decide):wpAny (model X.prog X.w) X.A (eval (.Name x pos) X.env) Q E s:=by
 obtain ⟨mb,h1,h2⟩:=I.mod.blt
 exact Calls.Name_function_global I.ok.kind hg (Calls.loadGlobal_builtin (by rw [I.ok.glob];exact I.mod.glob.keeps I.bk) hm (by rw [I.ok.blt];exact h1.keeps I.bk) ((h2 x hn).trans hv) h) hd
theorem jen {x:Str} {v:V} {u:Value} {pos:Pos} (hg:Gl X x) (hm:X.mg x=some u) (r:RelV v u) (hd:(x == ("__debug__" : Str))=false:=by decide):PE X (.Name x pos) (tC v):=
 fun _ _ _ H _ I h=>zw I hg hm ⟨v,H,I,r,h⟩ hd
theorem ya {x:Str} {v:V} {u:Value} {pos:Pos} (hg:Gl X x) (hm:X.mg x=none) (hv:bootBuiltins x=some u) (r:RelV v u) (hn:x≠"__name__":=by decide) (hd:(x == ("__debug__" : Str))=false:=by decide):PE X (.Name x pos) (tC v):=
 fun _ _ _ H _ I h=>Kh I hg hm hv ⟨v,H,I,r,h⟩ hn hd
variable {a b:Expr} {ta tb:TE} {pos:Pos}
def PC (X:Cx) (op:CmpOp) (a b:Expr) (t:TE):Prop:=
 ∀ (pins:List (Addr×Obj)) (s:Shared) (σ:St) (H:Hp) (Q:VK),Inv X pins σ H s→t σ H Q→
  wpAny (model X.prog X.w) X.A (eval a X.env) (fun v s₁=>wpAny (model X.prog X.w) X.A (eval b X.env) (fun u s₂=>wpAny (model X.prog X.w) X.A (compareOp op v u) (EP X pins σ Q) X.xe s₂) X.xe s₁) X.xe s
theorem jdi (b:Expr) {op:CmpOp} (h:op≠.In) (h2:op≠.NotIn):behindInMarks op b=false:=by
 have e1:(op == CmpOp.In)=false:=by cases op <;> first | rfl | exact absurd rfl h
 have e2:(op == CmpOp.NotIn)=false:=by cases op <;> first | rfl | exact absurd rfl h2
 cases b <;> simp [behindInMarks,e1,e2]
def tB (t:TE):TT:=fun σ H Q=>t σ H fun x H1=>∃ c,x=.bl c∧Q c H1
theorem jg4 {op:CmpOp} {t:TE} (h:PC X op a b t) (h1:behindInMarks op b=false:=by first | exact jdi _ (by decide) (by decide) | rfl):PT X (.Compare a [op] [b] pos) (tB t):=by
 intro pins s σ H Q I hw
 refine wpAny_isTrue_Compare1 (thn (h pins s σ H _ I hw) fun v s1 h1=>thn h1 fun u s2 h2=>thn h2 fun c s3 ⟨x,H1,I1,r1,q1⟩=>?_) h1
 obtain ⟨d,rfl,q⟩:=q1
 cases r1
 exact wpAny_truthy_bool ⟨H1,I1,q⟩
theorem Ya {e:Expr} {t:TE} (h:PE X e t) (he:∀ whole,isTrue e X.env whole=(do let v ← whole;standAt e.pos;holding [v] (truthy v)):=by intro _;rfl):PT X e (tB t):=by
 intro pins s σ H Q I hw
 refine isTrue_plain (thn (h pins s σ H _ I hw) fun v s1 ⟨x,H1,I1,r1,q1⟩=>?_) (he _)
 obtain ⟨d,rfl,q⟩:=q1
 cases r1
 exact wpAny_truthy_bool ⟨H1,I1,q⟩
variable {tA tB':TT} {j3:List Expr}
def jgA (t u:TT):TT:=fun σ H Q=>t σ H fun c H1=>if c=true then u σ H1 Q else Q false H1
def tOr (t u:TT):TT:=fun σ H Q=>t σ H fun c H1=>if c=true then Q true H1 else u σ H1 Q
def jgu (t:TT):TT:=fun σ H Q=>t σ H fun c H1=>Q (!c) H1
theorem jed (ha:PT X a tA):PW X (.BoolOp .And [a] pos) tA:=by
 intro wh pins s σ H Q I h
 refine isTrue_and (thn (ha pins s σ H Q I h) fun c s1 e=>?_)
 cases c with
 | true=>exact isTrue_and_nil e
 | false=>exact e
theorem jcO (ha:PT X a tA):PW X (.BoolOp .Or [a] pos) tA:=by
 intro wh pins s σ H Q I h
 refine isTrue_or (thn (ha pins s σ H Q I h) fun c s1 e=>?_)
 cases c with
 | false=>exact isTrue_or_nil e
 | true=>exact e
theorem jfI (ha:PT X a tA) (hb:PW X (.BoolOp .And (b :: j3) pos) tB'):PW X (.BoolOp .And (a :: b :: j3) pos) (jgA tA tB'):=by
 intro wh pins s σ H Q I h
 refine isTrue_and (thn (ha pins s σ H _ I h) fun c s1 ⟨H1,I1,q1⟩=>?_)
 cases c with
 | true=>exact hb wh pins s1 σ H1 Q I1 q1
 | false=>exact ⟨H1,I1,q1⟩
theorem jfh (ha:PT X a tA) (hb:PW X (.BoolOp .Or (b :: j3) pos) tB'):PW X (.BoolOp .Or (a :: b :: j3) pos) (tOr tA tB'):=by
 intro wh pins s σ H Q I h
 refine isTrue_or (thn (ha pins s σ H _ I h) fun c s1 ⟨H1,I1,q1⟩=>?_)
 cases c with
 | true=>exact ⟨H1,I1,q1⟩
 | false=>exact hb wh pins s1 σ H1 Q I1 q1
theorem jcQ (ha:PT X a tA):PT X (.UnaryOp .Not a pos) (jgu tA):=by
 intro pins s σ H Q I h
 exact isTrue_not (ha pins s σ H (fun c H1=>Q (!c) H1) I h)
def jcz (ta tb:TE):TE:=fun σ H Q=>ta σ H fun x H1=>∃ c,x=.bl c∧if c=true then tb σ H1 Q else Q (.bl false) H1
def jgt (ta tb:TE):TE:=fun σ H Q=>ta σ H fun x H1=>∃ c,x=.bl c∧if c=true then Q (.bl true) H1 else tb σ H1 Q
def jfa (ta:TE):TE:=fun σ H Q=>ta σ H fun x H1=>∃ c,x=.bl c∧Q (.bl (!c)) H1
theorem ZO {op} {t:TE} (h:PE X a t):PE X (.BoolOp op [a] pos) t:=fun pins s σ H Q I hw=>BoolOp_one (h pins s σ H Q I hw)
theorem Yh (ha:PE X a ta) (hb:PE X (.BoolOp .And (b :: j3) pos) tb):PE X (.BoolOp .And (a :: b :: j3) pos) (jcz ta tb):=by
 intro pins s σ H Q I h
 refine BoolOp_and (thn (ha pins s σ H _ I h) fun v s1 ⟨x,H1,I1,r1,q1⟩=>?_)
 obtain ⟨c,rfl,q1⟩:=q1
 cases r1
 refine wpAny_truthy_bool ?_
 cases c with
 | true=>exact hb pins s1 σ H1 Q I1 q1
 | false=>exact ⟨.bl false,H1,I1,rfl,q1⟩
theorem jgH (ha:PE X a ta) (hb:PE X (.BoolOp .Or (b :: j3) pos) tb):PE X (.BoolOp .Or (a :: b :: j3) pos) (jgt ta tb):=by
 intro pins s σ H Q I h
 refine BoolOp_or (thn (ha pins s σ H _ I h) fun v s1 ⟨x,H1,I1,r1,q1⟩=>?_)
 obtain ⟨c,rfl,q1⟩:=q1
 cases r1
 refine wpAny_truthy_bool ?_
 cases c with
 | false=>exact hb pins s1 σ H1 Q I1 q1
 | true=>exact ⟨.bl true,H1,I1,rfl,q1⟩
theorem jcZ (ha:PE X a ta):PE X (.UnaryOp .Not a pos) (jfa ta):=by
 intro pins s σ H Q I h
 refine UnaryOp_ (thn (ha pins s σ H _ I h) fun v s1 ⟨x,H1,I1,r1,q1⟩=>?_)
 obtain ⟨c,rfl,q1⟩:=q1
 cases r1
 exact not_of (wpAny_truthy_bool ⟨.bl (!c),H1,I1,rfl,q1⟩)
end
def SqL (K:PySem.W.Frag) (H:Hp) (a:Addr) (xs:List V):Prop:=
 Rd H a (.lst xs)∨
  ∃ (o:Obj) (its:Array Value) (n:Nat),K.lookup a=some o∧o.cls=.type "list"∧o.dict=none∧o.data=.seq its n∧its.size≤sizeLine∧Vals xs its.toList
def SqT (K:PySem.W.Frag) (H:Hp) (a:Addr) (xs:List V):Prop:=
 Rd H a (.tup xs)∨
  ∃ (o:Obj) (its:Array Value) (n:Nat),K.lookup a=some o∧o.cls=.type "tuple"∧o.data=.seq its n∧its.size≤sizeLine∧Vals xs its.toList
def jg9:Value→Option V
 | .none=>some .non
 | .bool b=>some (.bl b)
 | .int i _=>some (.int i)
 | .str x _=>some (.str x)
 | .bytes b _=>some (.byt b)
 | .float b _=>some (.flt b)
 | .ref a=>some (.ref a)
 | .type n=>some (.ty n)
 | _=>none
theorem RelV.abs {x:V} {u:Value} (r:RelV x u):jg9 u=some x:=by
 cases x with
 | non=>cases r;rfl
 | bl _=>cases r;rfl
 | int _=>obtain ⟨t,rfl⟩:=r;rfl
 | str _=>obtain ⟨t,rfl⟩:=r;rfl
 | byt _=>obtain ⟨t,rfl⟩:=r;rfl
 | flt _=>obtain ⟨t,rfl⟩:=r;rfl
 | ref _=>cases r;rfl
 | ty _=>cases r;rfl
theorem RelV.inj {x y:V} {u:Value} (r:RelV x u) (q:RelV y u):x=y:=Option.some.inj (r.abs.symm.trans q.abs)
theorem Vals.inj:∀ {xs ys:List V} {us:List Value},Vals xs us→Vals ys us→xs=ys
 | _,_,_,.nil,.nil=>rfl
 | _,_,_,.cons r t,.cons r' t'=>by rw [r.inj r',Vals.inj t t']
section
variable {X:Cx} {pins:List (Addr×Obj)} {σ:St} {H:Hp} {s:Shared} {a:Addr} {xs ys:List V}
theorem SqL.of {K:PySem.W.Frag} (h:H a=some (.lst xs)):SqL K H a xs:=.inl (.inl h)
theorem SqT.of {K:PySem.W.Frag} (h:H a=some (.tup xs)):SqT K H a xs:=.inl (.inl h)
theorem Inv.list (I:Inv X pins σ H s) (h:SqL X.K H a xs):∃ its:List Value,Vals xs its∧PlainL s.heap a its.toArray∧xs.length≤sizeLine:=by
 rcases h with h | ⟨o,its,n,hk,hc,hd,hs,hz,r⟩
 ·obtain ⟨z,its,n,r,e⟩:=h.ok I.hok
  exact ⟨its,r,⟨_,n,e,rfl,rfl,rfl⟩,z⟩
 ·refine ⟨its.toList,r,⟨o,n,I.kIn a o hk,hc,hd,by simpa using hs⟩,?_⟩
  have e:=r.length
  simp only [Array.length_toList] at e
  omega
theorem Inv.tuple (I:Inv X pins σ H s) (h:SqT X.K H a xs):∃ its:List Value,Vals xs its∧IsTup s.heap a its.toArray∧xs.length≤sizeLine:=by
 rcases h with h | ⟨o,its,n,hk,hc,hs,hz,r⟩
 ·obtain ⟨z,its,r,p⟩:=h.ok I.hok
  exact ⟨its,r,p,z⟩
 ·refine ⟨its.toList,r,⟨o,I.kIn a o hk,hc,n,by simpa using hs⟩,?_⟩
  have e:=r.length
  simp only [Array.length_toList] at e
  omega
theorem Inv.list_inj (I:Inv X pins σ H s) (h:SqL X.K H a xs) (h':SqL X.K H a ys):xs=ys:=by
 obtain ⟨its,r,⟨o,n,e,_,_,d⟩,_⟩:=I.list h
 obtain ⟨its',r',⟨o',n',e',_,_,d'⟩,_⟩:=I.list h'
 rw [e] at e';cases e'
 rw [d] at d'
 injection d' with d1 _
 have:its=its':=by simpa using congrArg Array.toList d1
 subst this
 exact r.inj r'
theorem Inv.tuple_inj (I:Inv X pins σ H s) (h:SqT X.K H a xs) (h':SqT X.K H a ys):xs=ys:=by
 obtain ⟨its,r,⟨o,e,_,n,d⟩,_⟩:=I.tuple h
 obtain ⟨its',r',⟨o',e',_,n',d'⟩,_⟩:=I.tuple h'
 rw [e] at e';cases e'
 rw [d] at d'
 injection d' with d1 _
 have:its=its':=by simpa using congrArg Array.toList d1
 subst this
 exact r.inj r'
end
abbrev Cx.wish (X:Cx) (E:Value→Shared→Prop):Cx:={ X with xe:=E }
abbrev Cx.nox (X:Cx):Cx:=X.wish fun _ _=>False
theorem Cx.Ok.wish {X:Cx} (ok:X.Ok) (E:Value→Shared→Prop):(X.wish E).Ok:=
 ⟨ok.mod,ok.kind,ok.glob,ok.blt,ok.above,ok.inj,ok.has,ok.cab,ok.hd,ok.frames,ok.stk,ok.exf,ok.bs,ok.bsz,ok.noex,ok.exfs,ok.funs,ok.frf⟩
theorem Cx.Ok.unwish {X:Cx} {E:Value→Shared→Prop} (ok:(X.wish E).Ok):X.Ok:=
 ⟨ok.mod,ok.kind,ok.glob,ok.blt,ok.above,ok.inj,ok.has,ok.cab,ok.hd,ok.frames,ok.stk,ok.exf,ok.bs,ok.bsz,ok.noex,ok.exfs,ok.funs,ok.frf⟩
section
variable {X:Cx} {pins:List (Addr×Obj)} {σ:St} {H:Hp} {s:Shared} {E:Value→Shared→Prop}
theorem Inv.wish (I:Inv X pins σ H s) (E:Value→Shared→Prop):Inv (X.wish E) pins σ H s:=⟨I.ok.wish E,I.os,I.bare,I.base,I.loc,I.cell,I.free,I.freeC,I.pin,I.hok,I.len⟩
theorem Inv.unwish (I:Inv (X.wish E) pins σ H s):Inv X pins σ H s:=⟨I.ok.unwish,I.os,I.bare,I.base,I.loc,I.cell,I.free,I.freeC,I.pin,I.hok,I.len⟩
theorem SP.unwish {D:Ends} {f:Flow} {s':Shared} (h:SP (X.wish E) pins D f s'):SP X pins D f s':=by
 cases f with
 | next=>obtain ⟨σ',H',I,q⟩:=h;exact ⟨σ',H',I.unwish,q⟩
 | brk=>obtain ⟨σ',H',I,q⟩:=h;exact ⟨σ',H',I.unwish,q⟩
 | cont=>obtain ⟨σ',H',I,q⟩:=h;exact ⟨σ',H',I.unwish,q⟩
 | ret u=>obtain ⟨v,σ',H',I,r,q⟩:=h;exact ⟨v,σ',H',I.unwish,r,q⟩
theorem PSs.nox {st:List Stmt} {t:TS} (h:PSs X.nox st t):PSs X st t:=fun pins s σ H D I hw=>
 wpAny_mono (h pins s σ H D (I.wish _) hw) (fun _ _ q=>q.unwish) fun _ _ z=>False.elim z
end
section
variable {X:Cx} {st:Stmt} {j3:List Stmt} {t u:TS} {e:Expr} {te:TE} {pos:Pos}
def YH:TS:=fun D σ H=>D.nx σ H
def kX (t u:TS):TS:=fun D σ H=>t { D with nx:=u D } σ H
theorem JH:PSs X [] YH:=fun _ _ σ H _ I h=>wpAny_execs_nil ⟨σ,H,I,h⟩
theorem yR (h1:PS X st t) (h2:PSs X j3 u):PSs X (st :: j3) (kX t u):=by
 intro pins s σ H D I h
 refine wpAny_execs_cons (thn (h1 pins s σ H { D with nx:=u D } I h) fun f s1 q=>?_)
 cases f with
 | next=>
  obtain ⟨σ',H',I',q⟩:=q
  exact h2 pins s1 σ' H' D I' q
 | ret v=>exact q
 | brk=>exact q
 | cont=>exact q
theorem zY (h1:PS X st t):PSs X [st] t:=by
 intro pins s σ H D I h
 refine wpAny_execs_cons (thn (h1 pins s σ H D I h) fun f s1 q=>?_)
 cases f with
 | next=>exact wpAny_execs_nil q
 | ret v=>exact q
 | brk=>exact q
 | cont=>exact q
theorem Inv.quiet {pins:List (Addr×Obj)} {σ:St} {H:Hp} {s:Shared} (I:Inv X pins σ H s):interactive X.env=false:=by simp [interactive,I.ok.kind]
def jfd (te:TE):TS:=fun D σ H=>te σ H fun _ H1=>D.nx σ H1
theorem jeh (he:PE X e te) (hs:swapsWith e none pos.line X.env=pure false:=by rfl):PS X (.Expr e pos) (jfd te):=by
 intro pins s σ H D I h
 exact wpAny_Expr_any (thn (he pins s σ H _ I h) fun v s1 ⟨x,H1,I1,r1,q1⟩=>⟨σ,H1,I1,q1⟩) I.quiet hs
def jfB (te:TE):TS:=fun D σ H=>te σ H D.rt
theorem Jg (he:PE X e te):PS X (.Return (some e) pos) (jfB te):=by
 intro pins s σ H D I h
 exact wpAny_Return_some (thn (he pins s σ H _ I h) fun v s1 ⟨x,H1,I1,r1,q1⟩=>⟨x,σ,H1,I1,r1,q1⟩)
def Kw (c:TT) (t u:TS):TS:=fun D σ H=>c σ H fun b H1=>if b=true then t D σ H1 else u D σ H1
theorem jaR {c:Expr} {a b:List Stmt} {tc:TT} (hc:PT X c tc) (ha:PSs X a t) (hb:PSs X b u):PS X (.If c a b pos) (Kw tc t u):=by
 intro pins s σ H D I h
 refine wpAny_If (thn (hc pins s σ H _ I h) fun d s1 ⟨H1,I1,q1⟩=>?_)
 cases d with
 | true=>exact ha pins s1 σ H1 D I1 q1
 | false=>exact hb pins s1 σ H1 D I1 q1
end
abbrev TG:=V→St→Hp→(St→Hp→Prop)→Prop
abbrev TGs:=List V→St→Hp→(St→Hp→Prop)→Prop
def PG (X:Cx) (target:Expr) (t:TG):Prop:=
 ∀ (pins:List (Addr×Obj)) (s:Shared) (σ:St) (H:Hp) (v:V) (u:Value) (Q:St→Hp→Prop),Inv X pins σ H s→RelV v u→t v σ H Q→
  wpAny (model X.prog X.w) X.A (assign target X.env u) (fun _ s'=>∃ σ' H',Inv X pins σ' H' s'∧Q σ' H') X.xe s
def PGs (X:Cx) (ts:List Expr) (t:TGs):Prop:=
 ∀ (pins:List (Addr×Obj)) (s:Shared) (σ:St) (H:Hp) (vs:List V) (us:List Value) (Q:St→Hp→Prop),Inv X pins σ H s→Vals vs us→t vs σ H Q→
  wpAny (model X.prog X.w) X.A (assignInOrder ((assignEach ts X.env).map (·.2)) us) (fun _ s'=>∃ σ' H',Inv X pins σ' H' s'∧Q σ' H') X.xe s
abbrev je1:=V→V→V→Hp→(Hp→Prop)→Prop
def jgm (X:Cx) (t:je1):Prop:=
 ∀ (pins:List (Addr×Obj)) (s:Shared) (σ:St) (H:Hp) (o i v:V) (ov iv u:Value) (Q:Hp→Prop),Inv X pins σ H s→RelV o ov→RelV i iv→RelV v u→t o i v H Q→
  wpAny (model X.prog X.w) X.A (setItem ov iv u) (fun _ s'=>∃ H',Inv X pins σ H' s'∧Q H') X.xe s
section
variable {X:Cx} {pos:Pos}
def kW (i:Nat):TG:=fun v σ H Q=>Q (σ.set i (some v)) H
theorem jaW {i:Nat} {x:Str} (hN:X.N.Nodup) (hi:X.N[i]?=some x) (hx:Loc X.env.scope x) (hf:X.fn x=true∨X.env.scope.names.lookup x=some .local:=by first | exact .inl rfl | exact .inr rfl | assumption):PG X (.Name x pos) (kW i):=by
 intro pins s σ H v u Q I r h
 exact wpAny_assign_Name (yJ I hN hi hx r (fun s' I'=>⟨_,H,I',h⟩) hf)
def jgV:TGs:=fun vs σ H Q=>vs=[]∧Q σ H
def jfu (t:TG) (u:TGs):TGs:=fun vs σ H Q=>∃ v r,vs=v :: r∧t v σ H fun σ' H'=>u r σ' H' Q
theorem jel:PGs X [] jgV:=by
 intro pins s σ H vs us Q I r h
 obtain ⟨e,h⟩:=h
 subst e
 cases r
 exact assignInOrder_nil ⟨σ,H,I,h⟩
theorem jcX {e:Expr} {es:List Expr} {t:TG} {u:TGs} (h1:PG X e t) (h2:PGs X es u)
  (hs:(assignEach (e :: es) X.env).map (·.2)=assign e X.env :: (assignEach es X.env).map (·.2):=by rfl):PGs X (e :: es) (jfu t u):=by
 intro pins s σ H vs us Q I r h
 obtain ⟨v,vr,e1,h⟩:=h
 subst e1
 cases r with
 | cons r rr=>
  rw [hs]
  refine assignInOrder_cons (thn (h1 pins s σ H _ _ _ I r h) fun _ s1 ⟨σ1,H1,I1,q1⟩=>?_)
  exact h2 pins s1 σ1 H1 _ _ Q I1 rr q1
def jgT (K:PySem.W.Frag) (n:Nat) (t:TGs):TG:=fun v σ H Q=>∃ a xs,v=.ref a∧SqT K H a xs∧xs.length=n∧t xs σ H Q
theorem jfO {es:List Expr} {k:Nat} {t:TGs} {n:Nat} (hc:X.calm=true) (h:PGs X es t)
  (hn:(assignEach es X.env).length=n:=by rfl) (hst:(assignEach es X.env).findIdx? (·.1)=none:=by rfl):PG X (.Tuple es k pos) (jgT X.K n t):=by
 intro pins s σ H v u Q I r hw
 obtain ⟨a,xs,e1,hq,hl,hw⟩:=hw
 subst e1
 cases r
 obtain ⟨its,rv,ht,hz⟩:=I.tuple hq
 refine assign_Tuple_tuple (I.ok.hd hc) ht (by simp [hn,← hl,rv.length]) hst fun h' hx=>?_
 have I1:Inv X pins σ H { s with heap:=h' }:=I.kept (t':=s.toks) fun b o e=>hx b o (Nat.ne_of_lt (Heap.lt_size e)) e
 exact h pins _ σ H xs _ Q I1 (by simpa using rv) hw
def jgU (to ti:TE) (t:je1):TG:=fun v σ H Q=>to σ H fun o H1=>ti σ H1 fun i H2=>t o i v H2 fun H3=>Q σ H3
theorem jfP {o i:Expr} {to ti:TE} {t:je1} (ho:PE X o to) (hi:PE X i ti) (hs:jgm X t)
  (ha:∀ v,assign (.Subscript o i pos) X.env v=(do
   let ov ← holding [v] (eval o X.env)
   let iv ← holding [v,ov] (eval i X.env)
   standAt pos
   holding [v,ov,iv] (setItem ov iv v)
   release [v,ov,iv] []):=by intro _;rfl):PG X (.Subscript o i pos) (jgU to ti t):=by
 intro pins s σ H v u Q I r h
 rw [ha]
 refine wpAny_bind (wpAny_holding (thn (ho pins s σ H _ I h) fun ov s1 ⟨x,H1,I1,r1,q1⟩=>?_))
 refine wpAny_bind (wpAny_holding (thn (hi pins s1 σ H1 _ I1 q1) fun iv s2 ⟨y,H2,I2,r2,q2⟩=>?_))
 refine wpAny_bind (wpAny_standAt (wpAny_bind (wpAny_holding (thn (hs pins s2 σ H2 x y v ov iv u _ I2 r1 r2 r q2) fun _ s3 ⟨H3,I3,q3⟩=>?_))))
 exact wpAny_release ⟨σ,H3,I3,q3⟩
def jbB (te:TE) (g:TG):TS:=fun D σ H=>te σ H fun x H1=>g x σ H1 D.nx
theorem jfL {tg e:Expr} {te:TE} {g:TG} (he:PE X e te) (hg:PG X tg g) (hs:swapsWithSole [tg] e pos.line X.env=pure false:=by rfl) (hw:swappedStores [tg] e X.env=pure none:=by rfl)
  (h1:(assignEach [tg] X.env).map (·.2)=[assign tg X.env]:=by rfl):PS X (.Assign [tg] e pos) (jbB te g):=by
 intro pins s σ H D I h
 refine wpAny_Assign_stores (thn (he pins s σ H _ I h) fun v s1 ⟨x,H1,I1,r1,q1⟩=>?_) hs hw
 rw [h1]
 exact thn (hg pins s1 σ H1 x v _ I1 r1 q1) fun _ s2 q=>q
theorem jfJ {i:Nat} {x:Str} {e:Expr} {te:TE} {pos':Pos} (hN:X.N.Nodup) (hi:X.N[i]?=some x) (hx:Loc X.env.scope x) (he:PE X e te) (hs:swapsWith e (some (.Name x pos')) pos.line X.env=pure false:=by rfl) (hf:X.fn x=true∨X.env.scope.names.lookup x=some .local:=by first | exact .inl rfl | exact .inr rfl | assumption) :
  PS X (.Assign [.Name x pos'] e pos) (jbB te (kW i)):=by
 intro pins s σ H D I h
 refine wpAny_Assign_Name (thn (he pins s σ H _ I h) fun v s1 ⟨y,H1,I1,r1,q1⟩=>?_) hs
 exact yJ I1 hN hi hx r1 (fun s2 I2=>⟨_,H1,I2,q1⟩) hf
def ZD (c:TT) (tb:TS):TS:=fun D σ H=>∃ W:Nat→St→Hp→Prop,(∃ m,W m σ H)∧∀ m σ H,W m σ H→
 c σ H fun b H1=>if b=true then ∃ N:St→Hp→Prop,(∀ σ' H',N σ' H'→∃ m',m' < m∧W m' σ' H')∧tb { D with nx:=N,ct:=N,bk:=D.nx } σ H1 else D.nx σ H1
theorem jcR {c:Expr} {body:List Stmt} {tc:TT} {tb:TS} (hp:PassesOwn (model X.prog X.w) X.A X.env X.xe) (hc:PT X c tc) (hb:PSs X body tb):PS X (.While c body [] pos) (ZD tc tb):=by
 intro pins s σ H D I h
 obtain ⟨W,⟨m0,w0⟩,turn⟩:=h
 refine wpAny_While (codeAny_whileLoop (fun n s'=>∃ σ' H',Inv X pins σ' H' s'∧W n σ' H') ?_ m0 ⟨σ,H,I,w0⟩)
 rintro n s1 ⟨σ1,H1,I1,w1⟩
 refine wpAny_passesOwn hp (thn (hc pins s1 σ1 H1 _ I1 (turn n σ1 H1 w1)) fun b s2 ⟨H2,I2,q2⟩=>?_)
 cases b with
 | true=>
  obtain ⟨N,hN,q2⟩:=q2
  rw [if_pos rfl]
  refine wpAny_passesOwn hp (thn (hb pins s2 σ1 H2 _ I2 q2) fun f s3 q3=>?_)
  cases f with
  | next=>
   obtain ⟨σ3,H3,I3,n3⟩:=q3
   obtain ⟨m',hm,w3⟩:=hN σ3 H3 n3
   exact ⟨m',hm,σ3,H3,I3,w3⟩
  | cont=>
   obtain ⟨σ3,H3,I3,n3⟩:=q3
   obtain ⟨m',hm,w3⟩:=hN σ3 H3 n3
   exact ⟨m',hm,σ3,H3,I3,w3⟩
  | brk=>exact q3
  | ret v=>exact q3
 | false=>
  rw [if_neg Bool.false_ne_true]
  exact wpAny_execs_nil ⟨σ1,H2,I2,q2⟩
end
structure It where
 go:Nat→Hp→Prop
 yld:Nat→Hp→V→Hp→Prop
 stop:Nat→Hp→Prop
def Jx (X:Cx) (pins:List (Addr×Obj)) (H:Hp) (b:Addr):Prop:=
 H b=none∧b≠X.env.locals∧b ∉ X.fs∧(b∈X.ex∨X.s₀.heap.objs.size≤b)∧(∀ x c,X.env.cells.lookup x=some c→c≠b)∧∀ p∈X.pn++pins,p.1≠b
theorem Inv.fpOk {X:Cx} {pins:List (Addr×Obj)} {σ:St} {H H':Hp} {s:Shared} {b:Addr} (I:Inv X pins σ H s) (hb:s.heap.objs.size≤b) (hn:H' b=none):Jx X pins H' b:=by
 refine ⟨hn,Nat.ne_of_gt (Nat.lt_of_lt_of_le I.lt hb),I.nofs hb,.inr (Nat.le_trans I.sz hb),fun x c e z=>?_,fun p hp z=>?_⟩
 ·obtain ⟨v,q⟩:=I.cell x c e
  exact absurd (Nat.lt_of_lt_of_le q.lt (by rw [z];exact hb)) (Nat.lt_irrefl _)
 ·exact absurd (Nat.lt_of_lt_of_le (Heap.lt_size (I.pin p hp).1) (by rw [z];exact hb)) (Nat.lt_irrefl _)
structure Turn (P:Program) (w:World) (K:PySem.W.Frag) (tg:Expr) (J:It) (fp:List Addr) (it:Addr) (tn:Nat→Heap→Prop):Prop where
 mem:it∈fp
 obj:∀ i h,tn i h→∀ b∈fp,∃ o,h.get? b=some o∧∀ v,o.data≠.cell v
 keep:∀ i h h',tn i h→(∀ b∈fp,∀ o,h.get? b=some o→h'.get? b=some o)→tn i h'
 item:∀ (X:Cx),X.prog=P→X.w=w→X.K=K→X.calm=true→∀ (i:Nat) (pins:List (Addr×Obj)) (s:Shared) (σ:St) (H:Hp) (E:Value→Shared→Prop),Inv X pins σ H s→(∀ b∈fp,Jx X pins H b)→tn i s.heap→J.go i H→
  wpAny (model P w) X.A (pyNext (.ref it)) (fun r s1=>∃ u,r=some u∧
   wpAny (model P w) X.A (letOwnedTupleGo tg (.ref it) u) (fun _ s2=>∃ x H',Inv X pins σ H' s2∧RelV x u∧J.yld i H x H'∧tn (i+1) s2.heap∧∀ b∈fp,H' b=none) E s1) E s
 done:∀ (X:Cx),X.prog=P→X.w=w→X.K=K→X.calm=true→∀ (i:Nat) (pins:List (Addr×Obj)) (s:Shared) (σ:St) (H:Hp) (E:Value→Shared→Prop),Inv X pins σ H s→(∀ b∈fp,Jx X pins H b)→tn i s.heap→J.stop i H→
  wpAny (model P w) X.A (pyNext (.ref it)) (fun r s1=>r=none∧Inv X pins σ H s1) E s
 self:∀ (A:Around) (i:Nat) (s:Shared) (Q:Value→Shared→Prop) (E:Value→Shared→Prop),tn i s.heap→Q (.ref it) s→wpAny (model P w) A (pyIter (.ref it)) Q E s
abbrev TI:=St→Hp→(It→Hp→Prop)→Prop
def PIE (X:Cx) (pins:List (Addr×Obj)) (σ:St) (tg:Expr) (R:It→Hp→Prop) (itv:Value) (s2:Shared):Prop:=
 ∃ (it:Addr) (fp:List Addr) (tn:Nat→Heap→Prop) (J:It) (H':Hp),itv=.ref it∧Inv X pins σ H' s2∧Turn X.prog X.w X.K tg J fp it tn∧tn 0 s2.heap∧(∀ b∈fp,Jx X pins H' b)∧R J H'
def PI (X:Cx) (tg iter:Expr) (wi:TI):Prop:=
 ∀ (pins:List (Addr×Obj)) (s:Shared) (σ:St) (H:Hp) (R:It→Hp→Prop),Inv X pins σ H s→wi σ H R→
  wpAny (model X.prog X.w) X.A (eval iter X.env) (fun v s1=>wpAny (model X.prog X.w) X.A (pyIter v) (PIE X pins σ tg R) X.xe s1) X.xe s
theorem jdu {M:Model} {A:Around} {E:Value→Shared→Prop} {s:Shared} {tg:Expr} {it:Addr} {u:Value} {o:Obj} {n:String} {vs:Array Value} {Q:Unit→Shared→Prop} (ho:s.heap.get? it=some o) (hc:o.cls=.type n) (hd:o.data=.fields vs)
  (hn:["enumerate","zip","dict_itemiterator","dict_reverseitemiterator","odict_iterator","itertools.zip_longest","itertools.pairwise"].contains n=false) (hQ:Q () s):wpAny M A (letOwnedTupleGo tg (.ref it) u) Q E s:=by
 unfold letOwnedTupleGo
 cases tg <;> first
  | exact wpAny_pure hQ
  | (cases u <;> first
    | exact wpAny_pure hQ
    | (refine wpAny_bind (wpAny_load ho ?_)
       rw [hc,hd]
       show wpAny M A (if (["enumerate","zip","dict_itemiterator","dict_reverseitemiterator","odict_iterator","itertools.zip_longest","itertools.pairwise"].contains n && vs[0]? == some (rawInt _))=true then _ else _) Q E s
       rw [if_neg (by intro h;rw [hn,Bool.false_and] at h;cases h)]
       exact wpAny_pure hQ))
def Itl (K:PySem.W.Frag) (a:Addr):It:=
 ⟨fun i H=>∃ xs x,SqL K H a xs∧xs[i]?=some x,fun i H x H'=>H'=H∧∀ xs,SqL K H a xs→xs[i]?=some x,fun i H=>∃ xs,SqL K H a xs∧xs.length≤i⟩
def Itt (K:PySem.W.Frag) (a:Addr):It:=
 ⟨fun i H=>∃ xs x,SqT K H a xs∧xs[i]?=some x,fun i H x H'=>H'=H∧∀ xs,SqT K H a xs→xs[i]?=some x,fun i H=>∃ xs,SqT K H a xs∧xs.length≤i⟩
def Itr (lo:Int) (n:Nat):It:=⟨fun i _=>i < n,fun i H x H'=>H'=H∧x=.int (lo+i),fun i _=>n≤i⟩
theorem jgo {P:Program} {w:World} {K:PySem.W.Frag} {tg:Expr} (a it:Addr):Turn P w K tg (Itl K a) [it] it (fun i h=>h.IsListIter it a i) where
 mem:=by simp
 obj:=fun i h st b hb=>by
  have e:b=it:=by simpa using hb
  subst e
  obtain ⟨o,e,c,d⟩:=st
  exact ⟨o,e,fun v z=>by rw [d] at z;cases z⟩
 keep:=fun i h h' st k=>st.at fun o e=>k it (by simp) o e
 item:=by
  intro X hP hw hK hc i pins s σ H E I hf st hg
  subst hP hw hK
  obtain ⟨xs,x,hq,hx⟩:=hg
  obtain ⟨its,rv,p,hz⟩:=I.list hq
  obtain ⟨u,hu,ru⟩:=rv.get hx
  obtain ⟨f0,f1,f2,f3,f4,f5⟩:=hf it (by simp)
  refine wpAny_pyNext_list_item st p.isList (x:=u) (by simpa using hu) fun h' st' sb=>?_
  have I1:Inv X pins σ H { s with heap:=h' }:=I.turned (t':=s.toks) (fun b o hb e=>(sb.2 b hb).trans e) f0 f1 f3 f4 f5
  obtain ⟨o,e,c,d⟩:=id st'
  exact ⟨u,rfl,jdu (s:={ s with heap:=h' }) e c d (by decide) ⟨x,H,I1,ru,⟨rfl,fun ys hy=>by rw [I.list_inj hy hq];exact hx⟩,st',fun b hb=>(hf b hb).1⟩⟩
 done:=by
  intro X hP hw hK hc i pins s σ H E I hf st hg
  subst hP hw hK
  obtain ⟨xs,hq,hx⟩:=hg
  obtain ⟨its,rv,p,hz⟩:=I.list hq
  obtain ⟨f0,f1,f2,f3,f4,f5⟩:=hf it (by simp)
  have hl:=rv.length
  exact wpAny_pyNext_list_end (I.ok.hd hc) st p.isList (by simp;omega) fun h' eb=>⟨rfl,I.turned (t':=s.toks) (fun b o hb e=>eb b o hb e) f0 f1 f3 f4 f5⟩
 self:=fun _ _ _ _ _ st h=>wpAny_pyIter_listiter st h
theorem ZA {P:Program} {w:World} {K:PySem.W.Frag} {tg:Expr} (a it:Addr):Turn P w K tg (Itt K a) [it] it (fun i h=>h.IsTupleIter it a i) where
 mem:=by simp
 obj:=fun i h st b hb=>by
  have e:b=it:=by simpa using hb
  subst e
  obtain ⟨o,e,c,d⟩:=st
  exact ⟨o,e,fun v z=>by rw [d] at z;cases z⟩
 keep:=fun i h h' st k=>st.at fun o e=>k it (by simp) o e
 item:=by
  intro X hP hw hK hc i pins s σ H E I hf st hg
  subst hP hw hK
  obtain ⟨xs,x,hq,hx⟩:=hg
  obtain ⟨its,rv,p,hz⟩:=I.tuple hq
  obtain ⟨u,hu,ru⟩:=rv.get hx
  obtain ⟨f0,f1,f2,f3,f4,f5⟩:=hf it (by simp)
  refine wpAny_pyNext_tuple_item st (show s.heap.IsTuple a its.toArray from p) (x:=u) (by simpa using hu) fun h' st' sb=>?_
  have I1:Inv X pins σ H { s with heap:=h' }:=I.turned (t':=s.toks) (fun b o hb e=>(sb.2 b hb).trans e) f0 f1 f3 f4 f5
  obtain ⟨o,e,c,d⟩:=id st'
  exact ⟨u,rfl,jdu (s:={ s with heap:=h' }) e c d (by decide) ⟨x,H,I1,ru,⟨rfl,fun ys hy=>by rw [I.tuple_inj hy hq];exact hx⟩,st',fun b hb=>(hf b hb).1⟩⟩
 done:=by
  intro X hP hw hK hc i pins s σ H E I hf st hg
  subst hP hw hK
  obtain ⟨xs,hq,hx⟩:=hg
  obtain ⟨its,rv,p,hz⟩:=I.tuple hq
  obtain ⟨f0,f1,f2,f3,f4,f5⟩:=hf it (by simp)
  have hl:=rv.length
  exact wpAny_pyNext_tuple_end (I.ok.hd hc) st (show s.heap.IsTuple a its.toArray from p) (by simp;omega) fun h' eb=>⟨rfl,I.turned (t':=s.toks) (fun b o hb e=>eb b o hb e) f0 f1 f3 f4 f5⟩
 self:=fun _ _ _ _ _ st h=>wpAny_pyIter_tupleiter st h
theorem ZB {P:Program} {w:World} {K:PySem.W.Frag} {tg:Expr} (it:Addr) (lo:Int) (n:Nat):Turn P w K tg (Itr lo n) [it] it (fun i h=>IsRangeIter h it (lo+(i:Nat) * 1) ((n:Int) - (i:Nat)) 1) where
 mem:=by simp
 obj:=fun i h st b hb=>by
  have e:b=it:=by simpa using hb
  subst e
  exact ⟨_,st,fun v z=>by
   have z':Data.fields _=Data.cell v:=z
   cases z'⟩
 keep:=fun i h h' st k=>k it (by simp) _ st
 item:=by
  intro X hP hw hK hc i pins s σ H E I hf st hg
  subst hP hw hK
  obtain ⟨f0,f1,f2,f3,f4,f5⟩:=hf it (by simp)
  have W:=Walks.range (prog:=X.prog) (w:=X.w) (I.ok.hd hc) it lo 1 n
  refine W.item i s _ _ hg st fun v h' tk hv st' kk=>?_
  obtain ⟨t,rfl⟩:=hv
  have I1:Inv X pins σ H { s with heap:=h',toks:=tk }:=I.turned (fun b o hb e=>kk b o (by simpa using hb) e) f0 f1 f3 f4 f5
  refine ⟨_,rfl,jdu (s:={ s with heap:=h',toks:=tk }) (n:="range_iterator") st' rfl rfl (by decide) ⟨.int (lo+i),H,I1,⟨t,?_⟩,⟨rfl,rfl⟩,st',fun b hb=>(hf b hb).1⟩⟩
  rw [Int.mul_one]
 done:=by
  intro X hP hw hK hc i pins s σ H E I hf st hg
  subst hP hw hK
  obtain ⟨f0,f1,f2,f3,f4,f5⟩:=hf it (by simp)
  exact wpAny_pyNext_range_end (I.ok.hd hc) st (by have:n≤i:=hg;omega) fun h' eb=>⟨rfl,I.turned (t':=s.toks) (fun b o hb e=>eb b o hb e) f0 f1 f3 f4 f5⟩
 self:=fun _ _ _ _ _ st h=>wpAny_pyIter_rangeiter st h
section
variable {X:Cx} {tg:Expr}
def jgR (K:PySem.W.Frag) (tl:TE):TI:=fun σ H R=>tl σ H fun x H1=>∃ a,x=.ref a∧(∃ xs,SqT K H1 a xs)∧R (Itt K a) H1
theorem jfN {l:Expr} {tl:TE} (hl:PE X l tl):PI X tg l (jgR X.K tl):=by
 intro pins s σ H R I h
 refine thn (hl pins s σ H _ I h) fun v s1 ⟨x,H1,I1,r1,q1⟩=>?_
 obtain ⟨a,e,⟨xs,hq⟩,q⟩:=q1
 subst e
 cases r1
 obtain ⟨its,rv,p,hz⟩:=I1.tuple hq
 refine wpAny_pyIter_tuple (show s1.heap.IsTuple a its.toArray from p) ?_
 refine ⟨s1.heap.objs.size,[s1.heap.objs.size],_,_,H1,rfl,I1.kept (t':=s1.toks) fun b o e=>Heap.get?_push_of_some _ e,ZA a _,⟨_,Heap.get?_push_size _ rfl,rfl,rfl⟩,fun b hb=>?_,q⟩
 have e:b=s1.heap.objs.size:=by simpa using hb
 subst e
 exact I1.fpOk (Nat.le_refl _) (I1.hok.fresh (Nat.le_refl _))
theorem YY {pins:List (Addr×Obj)} {σ:St} {H:Hp} {s:Shared} {R:It→Hp→Prop} {E:Value→Shared→Prop} {lo hi:Int} {t u v:Tok} {tk:Nat} (I:Inv X pins σ H s) (h1:-(2 ^ 62)≤lo) (h2:lo < 2 ^ 62) (h3:-(2 ^ 62)≤hi) (h4:hi < 2 ^ 62)
  (q:R (Itr lo (hi - lo).toNat) H):wpAny (model X.prog X.w) X.A (pyIter (.ref s.heap.objs.size)) (PIE X pins σ tg R) E { s with heap:=s.heap.push { cls:=.type "range",data:=.fields #[.int lo t,.int hi u,.int 1 v] },toks:=tk }:=by
 refine wpAny_pyIter_range (IsRange.new ..) (small_one h1 h2 h3 h4) ?_
 have I1:Inv X pins σ H { s with heap:=s.heap.push { cls:=.type "range",data:=.fields #[.int lo t,.int hi u,.int 1 v] },toks:=tk }:=I.kept fun b o e=>Heap.get?_push_of_some _ e
 refine ⟨(s.heap.push { cls:=.type "range",data:=.fields #[.int lo t,.int hi u,.int 1 v] }).objs.size,[(s.heap.push { cls:=.type "range",data:=.fields #[.int lo t,.int hi u,.int 1 v] }).objs.size],_,_,H,rfl,
  I1.kept (t':=tk) fun b o e=>Heap.get?_push_of_some _ e,ZB _ lo (hi - lo).toNat,?_,fun b hb=>?_,q⟩
 ·have e1:lo+((0:Nat):Int) * 1=lo:=by simp
  have e2:(((hi - lo).toNat:Nat):Int) - ((0:Nat):Int)=Builtin.Range.rangeSize lo hi 1:=by rw [rangeSize_one];split <;> omega
  show IsRangeIter _ _ (lo+((0:Nat):Int) * 1) ((((hi - lo).toNat:Nat):Int) - ((0:Nat):Int)) 1
  rw [e1,e2]
  exact Heap.get?_push_size _ rfl
 ·have e:b=(s.heap.push { cls:=.type "range",data:=.fields #[.int lo t,.int hi u,.int 1 v] }).objs.size:=by simpa using hb
  subst e
  exact I1.fpOk (Nat.le_refl _) (I1.hok.fresh (Nat.le_refl _))
def jfq (ta:TA):TI:=fun σ H R=>ta σ H fun vs H1=>∃ j:Int,vs=[.int j]∧-(2 ^ 62)≤j∧j < 2 ^ 62∧R (Itr 0 j.toNat) H1
def jfp (ta:TA):TI:=fun σ H R=>ta σ H fun vs H1=>∃ i j:Int,vs=[.int i,.int j]∧(-(2 ^ 62)≤i∧i < 2 ^ 62∧-(2 ^ 62)≤j∧j < 2 ^ 62)∧R (Itr i (j - i).toNat) H1
theorem KI {a:Expr} {ta:TA} {p pos:Pos} (hg:Gl X "range") (hm:X.mg "range" = none) (ha:PA X [a] ta) (hs:starEach [a] X.env=[(false,eval a X.env)]:=by rfl):PI X tg (.Call (.Name "range" p) [a] [] pos) (jfq ta):=by
 intro pins s σ H R I h
 refine Call_ (Kh I hg hm boot_range (PyProof.Rows.callWith_type1 (thn (ha pos pins s σ H _ I h) fun us s1 ⟨vs,H1,I1,r1,q1⟩=>?_) hs rfl))
 obtain ⟨j,e,q1,q2,q⟩:=q1
 subst e
 cases r1 with
 | cons r rr=>
  cases rr
  obtain ⟨t,rfl⟩:=r
  exact call_range_1 (YY I1 (by omega) (by omega) q1 q2 (by simpa using q))
theorem jbG {a b:Expr} {ta:TA} {p pos:Pos} (hg:Gl X "range") (hm:X.mg "range" = none) (ha:PA X [a,b] ta) (hs:starEach [a,b] X.env=[(false,eval a X.env),(false,eval b X.env)]:=by rfl) (hs2:starEach [b] X.env=[(false,eval b X.env)]:=by rfl) :
  PI X tg (.Call (.Name "range" p) [a,b] [] pos) (jfp ta):=by
 intro pins s σ H R I h
 refine Call_ (Kh I hg hm boot_range (PyProof.Rows.callWith_type1 (thn (ha pos pins s σ H _ I h) fun us s1 ⟨vs,H1,I1,r1,q1⟩=>?_) (by rw [hs,hs2]) (by rw [hs2];rfl)))
 obtain ⟨i,j,e,⟨q1,q2,q3,q4⟩,q⟩:=q1
 subst e
 cases r1 with
 | cons r rr=>
  cases rr with
  | cons r' rr=>
   cases rr
   obtain ⟨t,rfl⟩:=r
   obtain ⟨t',rfl⟩:=r'
   exact call_range_2 (YY I1 q1 q2 q3 q4 q)
def jgx (wi:TI) (g:TG) (tb:TS):TS:=fun D σ H=>wi σ H fun J H1=>∃ W:Nat→Nat→St→Hp→Prop,(∃ m,W 0 m σ H1)∧∀ i m σ H,W i m σ H→
 (J.stop i H∧D.nx σ H)∨(J.go i H∧∃ N:St→Hp→Prop,(∀ σ' H',N σ' H'→∃ m',m' < m∧W (i+1) m' σ' H')∧∀ x H',J.yld i H x H'→g x σ H' fun σ2 H2=>tb { D with nx:=N,ct:=N,bk:=D.nx } σ2 H2)
def zK (fp:List Addr) (h:Heap):List (Addr×Obj):=fp.filterMap fun b=>(h.get? b).map fun o=>(b,o)
theorem kY {fp:List Addr} {h:Heap} {b:Addr} {o:Obj} (hb:b∈fp) (e:h.get? b=some o):(b,o)∈zK fp h:=List.mem_filterMap.mpr ⟨b,hb,by rw [e];rfl⟩
theorem jb1 {fp:List Addr} {h:Heap} {p:Addr×Obj} (hp:p∈zK fp h):p.1∈fp∧h.get? p.1=some p.2:=by
 obtain ⟨b,hb,e⟩:=List.mem_filterMap.mp hp
 cases q:h.get? b with
 | none=>rw [q] at e;cases e
 | some o=>
  rw [q] at e
  have e':(b,o)=p:=Option.some.inj e
  subst e'
  exact ⟨hb,q⟩
theorem Inv.pinned {pins:List (Addr×Obj)} {σ:St} {H:Hp} {s:Shared} {fp:List Addr} (I:Inv X pins σ H s) (hf:∀ b∈fp,Jx X pins H b) (ho:∀ b∈fp,∃ o,s.heap.get? b=some o∧∀ v,o.data≠.cell v):Inv X (pins++zK fp s.heap) σ H s:=
 I.pins_of fun p hp=>(List.mem_append.mp hp).elim (fun z=>I.pin p (List.mem_append_right _ z)) fun z=>by
  obtain ⟨hb,e⟩:=jb1 z
  obtain ⟨f0,f1,f2,_⟩:=hf p.1 hb
  obtain ⟨o,e',d⟩:=ho p.1 hb
  rw [e] at e';cases e'
  exact ⟨e,f0,f1,f2,d⟩
theorem Inv.unpinned {pins pl:List (Addr×Obj)} {σ:St} {H:Hp} {s:Shared} (I:Inv X (pins++pl) σ H s):Inv X pins σ H s:=I.pins_of fun p hp=>I.pin p (List.mem_append_right _ (List.mem_append_left _ hp))
theorem jfK {iter:Expr} {body:List Stmt} {wi:TI} {g:TG} {tb:TS} {pos:Pos} (hp:PassesOwn (model X.prog X.w) X.A X.env X.xe) (hc:X.calm=true) (hi:PI X tg iter wi) (hg:PG X tg g) (hb:PSs X body tb)
  (hs:∀ x,foldedSetIterable iter X.env x=pure x:=by intro _;rfl):PS X (.For tg iter body [] pos) (jgx wi g tb):=by
 intro pins s σ H D I h
 refine wpAny_For (thn (hi pins s σ H _ I h) fun v s1 h1=>thn h1 fun itv s2 h2=>?_) hs
 obtain ⟨it,fp,tn,J,H2,e,I2,T,st2,f2,W,⟨m0,w0⟩,turn⟩:=h2
 subst e
 have stat:∀ {H':Hp},(∀ b∈fp,H' b=none)→∀ b∈fp,Jx X pins H' b:=fun hn b hb=>⟨hn b hb,(f2 b hb).2⟩
 refine codeAny_forLoop_any (fun n s'=>∃ i σ' H',Inv X pins σ' H' s'∧tn i s'.heap∧(∀ b∈fp,H' b=none)∧W i n σ' H') ?_ m0 ⟨0,σ,H2,I2,st2,fun b hb=>(f2 b hb).1,w0⟩
 rintro n s3 ⟨i,σ3,H3,I3,st3,fr3,w3⟩
 rcases turn i n σ3 H3 w3 with ⟨stop,qn⟩ | ⟨go,N,hN,step⟩
 ·refine wpAny_passesOwn hp (thn (T.done X rfl rfl rfl hc i pins s3 σ3 H3 X.xe I3 (stat fr3) st3 stop) fun r s4 ⟨hr,I4⟩=>?_)
  subst hr
  exact wpAny_execs_nil ⟨σ3,H3,I4,qn⟩
 ·refine wpAny_passesOwn hp (thn (T.item X rfl rfl rfl hc i pins s3 σ3 H3 X.xe I3 (stat fr3) st3 go) fun r s4 ⟨u,hr,h4⟩=>?_)
  subst hr
  refine wpAny_passesOwn hp (thn h4 fun _ s5 ⟨x,H5,I5,r5,y5,st5,fr5⟩=>?_)
  have I5':=I5.pinned (stat fr5) (T.obj _ _ st5)
  refine wpAny_passesOwn hp (thn (hg _ s5 σ3 H5 x u _ I5' r5 (step x H5 y5)) fun _ s6 ⟨σ6,H6,I6,q6⟩=>?_)
  refine wpAny_passesOwn hp (thn (hb _ s6 σ6 H6 _ I6 q6) fun f s7 q7=>?_)
  have again:∀ {σ7:St} {H7:Hp},Inv X (pins++zK fp s5.heap) σ7 H7 s7→N σ7 H7→∃ m,m < n∧∃ i σ' H',Inv X pins σ' H' s7∧tn i s7.heap∧(∀ b∈fp,H' b=none)∧W i m σ' H':=fun {σ7 H7} I7 n7=>by
   obtain ⟨m',hm,w7⟩:=hN σ7 H7 n7
   refine ⟨m',hm,i+1,σ7,H7,I7.unpinned,T.keep _ _ _ st5 fun b hb o e=>(I7.pin (b,o) (List.mem_append_right _ (List.mem_append_right _ (kY hb e)))).1,fun b hb=>?_,w7⟩
   obtain ⟨o,e,d⟩:=T.obj _ _ st5 b hb
   exact (I7.pin (b,o) (List.mem_append_right _ (List.mem_append_right _ (kY hb e)))).2.1
  cases f with
  | next=>obtain ⟨σ7,H7,I7,n7⟩:=q7;exact again I7 n7
  | cont=>obtain ⟨σ7,H7,I7,n7⟩:=q7;exact again I7 n7
  | brk=>obtain ⟨σ7,H7,I7,q7⟩:=q7;exact ⟨σ7,H7,I7.unpinned,q7⟩
  | ret v=>obtain ⟨x7,σ7,H7,I7,r7,q7⟩:=q7;exact ⟨x7,σ7,H7,I7.unpinned,r7,q7⟩
end
theorem jgW {K:PySem.W.Frag} {a:Addr} {xs:List V} {g:TG} {tb:TS} {D:Ends} {σ:St} {H:Hp} (Pv:Nat→St→Hp→Prop) (h0:Pv 0 σ H) (hl:∀ i σ H,i≤xs.length→Pv i σ H→SqL K H a xs)
  (hs:∀ i x σ H,xs[i]?=some x→Pv i σ H→g x σ H fun σ2 H2=>tb { D with nx:=Pv (i+1),ct:=Pv (i+1),bk:=D.nx } σ2 H2) (hd:∀ σ H,Pv xs.length σ H→D.nx σ H) :
  ∃ W:Nat→Nat→St→Hp→Prop,(∃ m,W 0 m σ H)∧∀ i m σ H,W i m σ H→
   ((Itl K a).stop i H∧D.nx σ H)∨((Itl K a).go i H∧∃ N:St→Hp→Prop,(∀ σ' H',N σ' H'→∃ m',m' < m∧W (i+1) m' σ' H')∧∀ x H',(Itl K a).yld i H x H'→g x σ H' fun σ2 H2=>tb { D with nx:=N,ct:=N,bk:=D.nx } σ2 H2):=by
 refine ⟨fun i m σ H=>m=xs.length - i∧i≤xs.length∧Pv i σ H,⟨xs.length,by simp,Nat.zero_le _,h0⟩,?_⟩
 rintro i m σ H ⟨rfl,hi,p⟩
 have q:=hl i σ H hi p
 by_cases hlt:i < xs.length
 ·refine .inr ⟨⟨xs,xs[i],q,by simp [hlt]⟩,Pv (i+1),fun σ' H' p'=>⟨xs.length - (i+1),by omega,rfl,hlt,p'⟩,fun x H' y=>?_⟩
  obtain ⟨e,y⟩:=y
  subst e
  exact hs i x σ _ (y xs q) p
 ·have e:i=xs.length:=by omega
  subst e
  exact .inl ⟨⟨xs,q,Nat.le_refl _⟩,hd σ H p⟩
theorem jeL {K:PySem.W.Frag} {a:Addr} {xs:List V} {g:TG} {tb:TS} {D:Ends} {σ:St} {H:Hp} (Pv:Nat→St→Hp→Prop) (h0:Pv 0 σ H) (hl:∀ i σ H,i≤xs.length→Pv i σ H→SqT K H a xs)
  (hs:∀ i x σ H,xs[i]?=some x→Pv i σ H→g x σ H fun σ2 H2=>tb { D with nx:=Pv (i+1),ct:=Pv (i+1),bk:=D.nx } σ2 H2) (hd:∀ σ H,Pv xs.length σ H→D.nx σ H) :
  ∃ W:Nat→Nat→St→Hp→Prop,(∃ m,W 0 m σ H)∧∀ i m σ H,W i m σ H→
   ((Itt K a).stop i H∧D.nx σ H)∨((Itt K a).go i H∧∃ N:St→Hp→Prop,(∀ σ' H',N σ' H'→∃ m',m' < m∧W (i+1) m' σ' H')∧∀ x H',(Itt K a).yld i H x H'→g x σ H' fun σ2 H2=>tb { D with nx:=N,ct:=N,bk:=D.nx } σ2 H2):=by
 refine ⟨fun i m σ H=>m=xs.length - i∧i≤xs.length∧Pv i σ H,⟨xs.length,by simp,Nat.zero_le _,h0⟩,?_⟩
 rintro i m σ H ⟨rfl,hi,p⟩
 have q:=hl i σ H hi p
 by_cases hlt:i < xs.length
 ·refine .inr ⟨⟨xs,xs[i],q,by simp [hlt]⟩,Pv (i+1),fun σ' H' p'=>⟨xs.length - (i+1),by omega,rfl,hlt,p'⟩,fun x H' y=>?_⟩
  obtain ⟨e,y⟩:=y
  subst e
  exact hs i x σ _ (y xs q) p
 ·have e:i=xs.length:=by omega
  subst e
  exact .inl ⟨⟨xs,q,Nat.le_refl _⟩,hd σ H p⟩
theorem jca {lo:Int} {n:Nat} {g:TG} {tb:TS} {D:Ends} {σ:St} {H:Hp} (Pv:Nat→St→Hp→Prop) (h0:Pv 0 σ H)
  (hs:∀ i σ H,i < n→Pv i σ H→g (.int (lo+i)) σ H fun σ2 H2=>tb { D with nx:=Pv (i+1),ct:=Pv (i+1),bk:=D.nx } σ2 H2) (hd:∀ σ H,Pv n σ H→D.nx σ H) :
  ∃ W:Nat→Nat→St→Hp→Prop,(∃ m,W 0 m σ H)∧∀ i m σ H,W i m σ H→
   ((Itr lo n).stop i H∧D.nx σ H)∨((Itr lo n).go i H∧∃ N:St→Hp→Prop,(∀ σ' H',N σ' H'→∃ m',m' < m∧W (i+1) m' σ' H')∧∀ x H',(Itr lo n).yld i H x H'→g x σ H' fun σ2 H2=>tb { D with nx:=N,ct:=N,bk:=D.nx } σ2 H2):=by
 refine ⟨fun i m σ H=>m=n - i∧i≤n∧Pv i σ H,⟨n,by simp,Nat.zero_le _,h0⟩,?_⟩
 rintro i m σ H ⟨rfl,hi,p⟩
 by_cases hlt:i < n
 ·refine .inr ⟨hlt,Pv (i+1),fun σ' H' p'=>⟨n - (i+1),by omega,rfl,hlt,p'⟩,fun x H' y=>?_⟩
  obtain ⟨e,y⟩:=y
  subst e y
  exact hs i σ _ hlt p
 ·have e:i=n:=by omega
  subst e
  exact .inl ⟨Nat.le_refl _,hd σ H p⟩
abbrev R2:=V→V→Hp→VK→Prop
def OpR (X:Cx) (f:Value→Value→Sem Value) (r:R2):Prop:=
 ∀ (pins:List (Addr×Obj)) (s:Shared) (σ:St) (H:Hp) (x y:V) (v u:Value) (Q:VK),Inv X pins σ H s→RelV x v→RelV y u→r x y H Q→
  wpAny (model X.prog X.w) X.A (f v u) (EP X pins σ Q) X.xe s
def UnR (X:Cx) (f:Value→Sem Value) (r:V→Hp→VK→Prop):Prop:=
 ∀ (pins:List (Addr×Obj)) (s:Shared) (σ:St) (H:Hp) (x:V) (v:Value) (Q:VK),Inv X pins σ H s→RelV x v→r x H Q→
  wpAny (model X.prog X.w) X.A (f v) (EP X pins σ Q) X.xe s
def qt (X:Cx) (f:Value) (r:List V→Hp→VK→Prop):Prop:=
 ∀ (pins:List (Addr×Obj)) (s:Shared) (σ:St) (H:Hp) (xs:List V) (us:List Value) (Q:VK),Inv X pins σ H s→Vals xs us→r xs H Q→
  wpAny (model X.prog X.w) X.A (call f us) (EP X pins σ Q) X.xe s
def tOp (r:R2) (ta tb:TE):TE:=fun σ H Q=>ta σ H fun x H1=>tb σ H1 fun y H2=>r x y H2 Q
def tUn (r:V→Hp→VK→Prop) (ta:TE):TE:=fun σ H Q=>ta σ H fun x H1=>r x H1 Q
def rI (C:Int→Int→Prop) (g:Int→Int→V):R2:=fun x y H Q=>∃ i j,x=.int i∧y=.int j∧C i j∧Q (g i j) H
def rI0 (g:Int→Int→V):R2:=fun x y H Q=>∃ i j,x=.int i∧y=.int j∧Q (g i j) H
def rU (g:Int→V):V→Hp→VK→Prop:=fun x H Q=>∃ i,x=.int i∧Q (g i) H
section
variable {X:Cx} {a b c:Expr} {ta tb tc:TE} {pos:Pos}
theorem jgk (ha:PE X a ta) (hb:PE X b tb) {pins:List (Addr×Obj)} {s:Shared} {σ:St} {H:Hp} {R:V→V→Hp→Prop} (I:Inv X pins σ H s)
  (h:ta σ H fun x H1=>tb σ H1 fun y H2=>R x y H2) {Q:Value→Shared→Prop} {f:Value→Value→Sem Value}
  (hf:∀ v u s2 x y H2,Inv X pins σ H2 s2→RelV x v→RelV y u→R x y H2→wpAny (model X.prog X.w) X.A (f v u) Q X.xe s2) :
  wpAny (model X.prog X.w) X.A (eval a X.env) (fun v s₁=>wpAny (model X.prog X.w) X.A (eval b X.env) (fun u s₂=>wpAny (model X.prog X.w) X.A (f v u) Q X.xe s₂) X.xe s₁) X.xe s:=by
 refine thn (ha pins s σ H _ I h) fun v s1 ⟨x,H1,I1,r1,q1⟩=>?_
 refine thn (hb pins s1 σ H1 _ I1 q1) fun u s2 ⟨y,H2,I2,r2,q2⟩=>?_
 exact hf v u s2 x y H2 I2 r1 r2 q2
theorem jgI {op:Operator} {r:R2} (ho:OpR X (binaryOp op) r) (ha:PE X a ta) (hb:PE X b tb):PE X (.BinOp a op b pos) (tOp r ta tb):=by
 intro pins s σ H Q I h
 exact wpAny_BinOp (jgk ha hb I h fun v u s2 x y H2 I2 rx ry q=>ho pins s2 σ H2 x y v u Q I2 rx ry q)
theorem jgG {op:UnaryOp} {r:V→Hp→VK→Prop} (ho:UnR X (unaryOp op) r) (ha:PE X a ta):PE X (.UnaryOp op a pos) (tUn r ta):=by
 intro pins s σ H Q I h
 exact UnaryOp_ (thn (ha pins s σ H _ I h) fun v s1 ⟨x,H1,I1,r1,q1⟩=>ho pins s1 σ H1 x v Q I1 r1 q1)
theorem opI {f:Value→Value→Sem Value} {C:Int→Int→Prop} {g:Int→Int→Int}
  (rule:∀ (i j:Int) (t u:Tok) (s:Shared) (Q:Value→Shared→Prop) (E:Value→Shared→Prop),C i j→Q (.int (g i j) s.toks) { s with toks:=s.toks+1 }→wpAny (model X.prog X.w) X.A (f (.int i t) (.int j u)) Q E s) :
  OpR X f (rI C fun i j=>.int (g i j)):=by
 intro pins s σ H x y v u Q I rx ry h
 obtain ⟨i,j,rfl,rfl,hc,q⟩:=h
 obtain ⟨t,rfl⟩:=rx
 obtain ⟨t',rfl⟩:=ry
 exact rule i j t t' s _ _ hc ⟨.int (g i j),H,I.tok _,⟨_,rfl⟩,q⟩
theorem jgN {f:Value→Value→Sem Value} {g:Int→Int→Int}
  (rule:∀ (i j:Int) (t u:Tok) (s:Shared) (Q:Value→Shared→Prop) (E:Value→Shared→Prop),Q (.int (g i j) s.toks) { s with toks:=s.toks+1 }→wpAny (model X.prog X.w) X.A (f (.int i t) (.int j u)) Q E s) :
  OpR X f (rI0 fun i j=>.int (g i j)):=by
 intro pins s σ H x y v u Q I rx ry h
 obtain ⟨i,j,rfl,rfl,q⟩:=h
 obtain ⟨t,rfl⟩:=rx
 obtain ⟨t',rfl⟩:=ry
 exact rule i j t t' s _ _ ⟨.int (g i j),H,I.tok _,⟨_,rfl⟩,q⟩
theorem jep {f:Value→Value→Sem Value} {g:Int→Int→Bool}
  (rule:∀ (i j:Int) (t u:Tok) (s:Shared) (Q:Value→Shared→Prop) (E:Value→Shared→Prop),Q (.bool (g i j)) s→wpAny (model X.prog X.w) X.A (f (.int i t) (.int j u)) Q E s) :
  OpR X f (rI0 fun i j=>.bl (g i j)):=by
 intro pins s σ H x y v u Q I rx ry h
 obtain ⟨i,j,rfl,rfl,q⟩:=h
 obtain ⟨t,rfl⟩:=rx
 obtain ⟨t',rfl⟩:=ry
 exact rule i j t t' s _ _ ⟨.bl (g i j),H,I,rfl,q⟩
def jhb (i j:Int):Prop:=0≤j∧j≤1000000∧i.natAbs < 2 ^ 64
def CMul (i j:Int):Prop:=(-(2 ^ 64) < i∧i < 2 ^ 64)∨(-(2 ^ 64) < j∧j < 2 ^ 64)
theorem CMul.ok {i j:Int} (h:CMul i j):IntMulOk i j:=by
 rcases h with ⟨h1,h2⟩ | ⟨h1,h2⟩
 ·exact .of_left (intBits_le_64 h1 h2)
 ·exact .of_right (intBits_le_64 h1 h2)
theorem zu:OpR X (binaryOp .Add) (rI0 fun i j=>.int (i+j)):=jgN fun _ _ _ _ _ _ _ q=>add_int q
theorem jfX:OpR X (binaryOp .Sub) (rI0 fun i j=>.int (i - j)):=jgN fun _ _ _ _ _ _ _ q=>sub_int q
theorem qE:OpR X (binaryOp .Mult) (rI CMul fun i j=>.int (i * j)):=opI fun _ _ _ _ _ _ _ hc q=>mul_int q hc.ok
theorem q8:OpR X (binaryOp .Mod) (rI (fun _ j=>0 < j) fun i j=>.int (i % j)):=opI fun i j _ _ _ _ _ hc q=>by
 have h1:(0:Int) < j:=hc
 exact mod_int' (by omega) (by rw [Int.fmod_eq_emod_of_nonneg i (by omega)];exact q)
theorem jc3:OpR X (binaryOp .Pow) (rI jhb fun i j=>.int (i ^ j.toNat)):=opI fun _ _ _ _ _ _ _ hc q=>pow_int_small hc.1 hc.2.1 hc.2.2 q
theorem unI {f:Value→Sem Value} {g:Int→Int}
  (rule:∀ (i:Int) (t:Tok) (s:Shared) (Q:Value→Shared→Prop) (E:Value→Shared→Prop),Q (.int (g i) s.toks) { s with toks:=s.toks+1 }→wpAny (model X.prog X.w) X.A (f (.int i t)) Q E s) :
  UnR X f (rU fun i=>.int (g i)):=by
 intro pins s σ H x v Q I rx h
 obtain ⟨i,rfl,q⟩:=h
 obtain ⟨t,rfl⟩:=rx
 exact rule i t s _ _ ⟨.int (g i),H,I.tok _,⟨_,rfl⟩,q⟩
theorem yn:UnR X (unaryOp .USub) (rU fun i=>.int (-i)):=unI fun _ _ _ _ _ q=>neg_int q
end
def jgC:V→V→Bool
 | .non,.non=>true | .non,.int _=>true | .int _,.non=>true | .non,.bl _=>true | .bl _,.non=>true | .non,.str _=>true | .str _,.non=>true
 | .int _,.int _=>true | .bl _,.bl _=>true | .str _,.str _=>true | .byt _,.byt _=>true
 | .int _,.str _=>true | .str _,.int _=>true | .bl _,.str _=>true | .str _,.bl _=>true
 | _,_=>false
def rEq:R2:=fun x y H Q=>jgC x y=true∧Q (.bl (decide (x=y))) H
def rNe:R2:=fun x y H Q=>jgC x y=true∧Q (.bl (!decide (x=y))) H
theorem jbo {i j:Int}:decide (V.int i=V.int j)=(i == j):=by
 rw [Bool.eq_iff_iff]
 simp
theorem jdF {i j:Bool}:decide (V.bl i=V.bl j)=(i == j):=by
 rw [Bool.eq_iff_iff]
 simp
theorem jbn {i j:Str}:decide (V.str i=V.str j)=(i == j):=by
 rw [Bool.eq_iff_iff]
 simp
theorem jbp {i j:Array UInt8}:decide (V.byt i=V.byt j)=(i.toList == j.toList):=by
 rw [Bool.eq_iff_iff]
 cases i
 cases j
 simp
section
variable {X:Cx} {a b c:Expr} {ta tb tc:TE} {pos:Pos}
theorem jR {pins:List (Addr×Obj)} {σ:St} {H:Hp} {s:Shared} {Q:VK} {k k':Bool} (I:Inv X pins σ H s) (q:Q (.bl k) H) (e:k=k'):EP X pins σ Q (.bool k') s:=by
 subst e
 exact ⟨.bl k,H,I,rfl,q⟩
theorem kr:OpR X (compareOp .Eq) rEq:=by
 intro pins s σ H x y v u Q I rx ry h
 obtain ⟨hs,q⟩:=h
 cases x with
 | non=>
  cases rx
  cases y with
  | non=>cases ry;exact PySem.EqNone.eq_none_none (jR I q (by simp))
  | bl j=>cases ry;exact PySem.EqNone.eq_none_bool (jR I q (by simp))
  | int j=>obtain ⟨t',rfl⟩:=ry;exact PySem.EqNone.eq_none_int (jR I q (by simp))
  | str j=>obtain ⟨t',rfl⟩:=ry;exact PySem.EqNone.eq_none_str (jR I q (by simp))
  | _=>exact absurd (show false=true from hs) Bool.false_ne_true
 | bl i=>
  cases rx
  cases y with
  | non=>cases ry;exact PySem.EqNone.eq_bool_none (jR I q (by simp))
  | bl j=>cases ry;exact eq_bool (jR I q jdF)
  | str j=>obtain ⟨t',rfl⟩:=ry;exact PySem.EqMixed.eq_bool_str (jR I q (by simp))
  | _=>exact absurd (show false=true from hs) Bool.false_ne_true
 | int i=>
  obtain ⟨t,rfl⟩:=rx
  cases y with
  | non=>cases ry;exact PySem.EqNone.eq_int_none (jR I q (by simp))
  | int j=>obtain ⟨t',rfl⟩:=ry;exact eq_int (jR I q jbo)
  | str j=>obtain ⟨t',rfl⟩:=ry;exact PySem.EqMixed.eq_int_str (jR I q (by simp))
  | _=>exact absurd (show false=true from hs) Bool.false_ne_true
 | str i=>
  obtain ⟨t,rfl⟩:=rx
  cases y with
  | non=>cases ry;exact PySem.EqNone.eq_str_none (jR I q (by simp))
  | bl j=>cases ry;exact PySem.EqMixed.eq_str_bool (jR I q (by simp))
  | int j=>obtain ⟨t',rfl⟩:=ry;exact PySem.EqMixed.eq_str_int (jR I q (by simp))
  | str j=>obtain ⟨t',rfl⟩:=ry;exact eq_str (jR I q jbn)
  | _=>exact absurd (show false=true from hs) Bool.false_ne_true
 | byt i=>
  obtain ⟨t,rfl⟩:=rx
  cases y with
  | byt j=>obtain ⟨t',rfl⟩:=ry;exact PySem.W.eq_bytes (jR I q jbp)
  | _=>exact absurd (show false=true from hs) Bool.false_ne_true
 | _=>cases y <;> exact absurd (show false=true from hs) Bool.false_ne_true
theorem ja0:OpR X (compareOp .NotEq) rNe:=by
 intro pins s σ H x y v u Q I rx ry h
 obtain ⟨hs,q⟩:=h
 cases x with
 | non=>
  cases rx
  cases y with
  | non=>cases ry;exact PySem.EqNone.ne_none_none (jR I q (by simp))
  | bl j=>cases ry;exact PySem.EqNone.ne_none_bool (jR I q (by simp))
  | int j=>obtain ⟨t',rfl⟩:=ry;exact PySem.EqNone.ne_none_int (jR I q (by simp))
  | str j=>obtain ⟨t',rfl⟩:=ry;exact PySem.EqNone.ne_none_str (jR I q (by simp))
  | _=>exact absurd (show false=true from hs) Bool.false_ne_true
 | bl i=>
  cases rx
  cases y with
  | non=>cases ry;exact PySem.EqNone.ne_bool_none (jR I q (by simp))
  | bl j=>cases ry;exact ne_bool (jR I q (congrArg not jdF))
  | str j=>obtain ⟨t',rfl⟩:=ry;exact PySem.EqMixed.ne_bool_str (jR I q (by simp))
  | _=>exact absurd (show false=true from hs) Bool.false_ne_true
 | int i=>
  obtain ⟨t,rfl⟩:=rx
  cases y with
  | non=>cases ry;exact PySem.EqNone.ne_int_none (jR I q (by simp))
  | int j=>obtain ⟨t',rfl⟩:=ry;exact ne_int (jR I q (congrArg not jbo))
  | str j=>obtain ⟨t',rfl⟩:=ry;exact PySem.EqMixed.ne_int_str (jR I q (by simp))
  | _=>exact absurd (show false=true from hs) Bool.false_ne_true
 | str i=>
  obtain ⟨t,rfl⟩:=rx
  cases y with
  | non=>cases ry;exact PySem.EqNone.ne_str_none (jR I q (by simp))
  | bl j=>cases ry;exact PySem.EqMixed.ne_str_bool (jR I q (by simp))
  | int j=>obtain ⟨t',rfl⟩:=ry;exact PySem.EqMixed.ne_str_int (jR I q (by simp))
  | str j=>obtain ⟨t',rfl⟩:=ry;exact ne_str (jR I q (congrArg not jbn))
  | _=>exact absurd (show false=true from hs) Bool.false_ne_true
 | byt i=>
  obtain ⟨t,rfl⟩:=rx
  cases y with
  | byt j=>obtain ⟨t',rfl⟩:=ry;exact PySem.W.ne_bytes (jR I q (congrArg not jbp))
  | _=>exact absurd (show false=true from hs) Bool.false_ne_true
 | _=>cases y <;> exact absurd (show false=true from hs) Bool.false_ne_true
theorem Y3:OpR X (compareOp .Lt) (rI0 fun i j=>.bl (decide (i < j))):=jep fun _ _ _ _ _ _ _ q=>lt_int q
theorem jgL:OpR X (compareOp .LtE) (rI0 fun i j=>.bl (decide (i≤j))):=jep fun _ _ _ _ _ _ _ q=>le_int q
theorem KJ:OpR X (compareOp .Gt) (rI0 fun i j=>.bl (decide (j < i))):=jep fun _ _ _ _ _ _ _ q=>gt_int q
theorem jgM:OpR X (compareOp .GtE) (rI0 fun i j=>.bl (decide (j≤i))):=jep fun _ _ _ _ _ _ _ q=>ge_int q
theorem jbI:OpR X (compareOp .In) (fun x y H Q=>∃ i j,x=.str i∧y=.str j∧Q (.bl (!(Builtin.Str.occurrences j i 0 j.length 1).isEmpty)) H):=by
 intro pins s σ H x y v u Q I rx ry h
 obtain ⟨i,j,rfl,rfl,q⟩:=h
 obtain ⟨t,rfl⟩:=rx
 obtain ⟨t',rfl⟩:=ry
 exact in_str (jR I q rfl)
theorem jE (b:Expr) {op:CmpOp} (h:op≠.In:=by decide) (h2:op≠.NotIn:=by decide):behindInMarks op b=false:=by
 have e1:(op == CmpOp.In)=false:=by cases op <;> first | rfl | exact absurd rfl h
 have e2:(op == CmpOp.NotIn)=false:=by cases op <;> first | rfl | exact absurd rfl h2
 cases b <;> simp [behindInMarks,e1,e2]
theorem Yg {op:CmpOp} {r:R2} (ho:OpR X (compareOp op) r) (ha:PE X a ta) (hb:PE X b tb) (hm:behindInMarks op b=false):PE X (.Compare a [op] [b] pos) (tOp r ta tb):=by
 intro pins s σ H Q I h
 exact wpAny_Compare1 (jgk ha hb I h fun v u s2 x y H2 I2 rx ry q=>ho pins s2 σ H2 x y v u Q I2 rx ry q) hm
def je8 (t:TE):TT:=fun σ H Q=>t σ H fun x H'=>∃ k,x=.bl k∧Q k H'
theorem jaQ {op:CmpOp} {r:R2} (ho:OpR X (compareOp op) r) (ha:PE X a ta) (hb:PE X b tb) (hm:behindInMarks op b=false):PT X (.Compare a [op] [b] pos) (je8 (tOp r ta tb)):=by
 intro pins s σ H Q I h
 refine wpAny_isTrue_Compare1 (thn (ha pins s σ H _ I h) fun v s1 ⟨x,H1,I1,r1,q1⟩=>thn (hb pins s1 σ H1 _ I1 q1) fun u s2 ⟨y,H2,I2,r2,q2⟩=>
  thn (ho pins s2 σ H2 x y v u _ I2 r1 r2 q2) fun c s3 ⟨z,H3,I3,r3,k,e,q3⟩=>?_) hm
 subst e
 cases r3
 exact wpAny_truthy_bool ⟨H3,I3,q3⟩
theorem Ji:(sizeLine:Nat) < 2 ^ 63:=by rw [sizeLine_eq];decide
theorem jy:OpR X (binaryOp .Add) (fun x y H Q=>∃ i j,x=.str i∧y=.str j∧i.length+j.length≤sizeLine∧Q (.str (i++j)) H):=by
 intro pins s σ H x y v u Q I rx ry h
 obtain ⟨i,j,rfl,rfl,hz,q⟩:=h
 obtain ⟨t,rfl⟩:=rx
 obtain ⟨t',rfl⟩:=ry
 exact add_str (fun t' tk=>⟨.str (i++j),H,I.tok _,⟨_,rfl⟩,q⟩) hz
theorem qz {x:V} {us:List Value} (r:Vals [x] us):∃ u,us=[u]∧RelV x u:=by
 cases r with
 | cons r1 r2=>cases r2;exact ⟨_,rfl,r1⟩
theorem jat {x y:V} {us:List Value} (r:Vals [x,y] us):∃ u w',us=[u,w']∧RelV x u∧RelV y w':=by
 cases r with
 | cons r1 r2=>
  cases r2 with
  | cons r3 r4=>cases r4;exact ⟨_,_,rfl,r1,r3⟩
theorem Kq:qt X (.builtin "abs") (fun xs H Q=>∃ i,xs=[.int i]∧Q (.int (if i < 0 then -i else i)) H):=by
 intro pins s σ H xs us Q I r h
 obtain ⟨i,rfl,q⟩:=h
 obtain ⟨u,rfl,t,rfl⟩:=qz r
 exact call_abs_int fun u tk=>⟨.int (if i < 0 then -i else i),H,I.tok _,⟨_,rfl⟩,q⟩
theorem KR (hc:X.calm=true):qt X (.builtin "max") (fun xs H Q=>∃ i j,xs=[.int i,.int j]∧Q (.int (if j > i then j else i)) H):=by
 intro pins s σ H xs us Q I r h
 obtain ⟨i,j,rfl,q⟩:=h
 obtain ⟨u,w',rfl,⟨t,rfl⟩,⟨t',rfl⟩⟩:=jat r
 refine max_two_ints (I.ok.hd hc) fun h' tk k=>⟨_,H,I.kept k,?_,q⟩
 by_cases hj:j > i
 ·rw [if_pos hj,if_pos hj];exact ⟨_,rfl⟩
 ·rw [if_neg hj,if_neg hj];exact ⟨_,rfl⟩
theorem jch (hc:X.calm=true):qt X (.builtin "min") (fun xs H Q=>∃ i j,xs=[.int i,.int j]∧Q (.int (if j < i then j else i)) H):=by
 intro pins s σ H xs us Q I r h
 obtain ⟨i,j,rfl,q⟩:=h
 obtain ⟨u,w',rfl,⟨t,rfl⟩,⟨t',rfl⟩⟩:=jat r
 refine min_two_ints (I.ok.hd hc) fun h' tk k=>⟨_,H,I.kept k,?_,q⟩
 by_cases hj:j < i
 ·rw [if_pos hj,if_pos hj];exact ⟨_,rfl⟩
 ·rw [if_neg hj,if_neg hj];exact ⟨_,rfl⟩
theorem jci:qt X (.type "int") (fun xs H Q=>(∃ i,xs=[.int i]∧Q (.int i) H)∨∃ k,xs=[.bl k]∧Q (.int (if k then 1 else 0)) H):=by
 intro pins s σ H xs us Q I r h
 rcases h with ⟨i,rfl,q⟩ | ⟨k,rfl,q⟩
 ·obtain ⟨u,rfl,t,rfl⟩:=qz r
  exact call_int_int ⟨.int i,H,I,⟨_,rfl⟩,q⟩
 ·obtain ⟨u,rfl,r1⟩:=qz r
  cases r1
  exact call_int_bool ⟨.int (if k then 1 else 0),H,I.tok _,⟨_,rfl⟩,q⟩
theorem zz:qt X (.type "str") (fun xs H Q=>∃ i,xs=[.int i]∧i.natAbs.log2 < 1920∧Q (.str (toString i)) H):=by
 intro pins s σ H xs us Q I r h
 obtain ⟨i,rfl,hz,q⟩:=h
 obtain ⟨u,rfl,t,rfl⟩:=qz r
 exact PySem.P.str_of_int hz ⟨.str _,H,I.tok _,⟨_,rfl⟩,q⟩
end
structure ObjM (h:Heap) (x dx C:Addr) (mA:Str→Option Value):Prop where
 obj:h.get? x=some (PySem.W.instObj C dx)
 ns:h.Ns1 dx mA
 ne:dx≠x
theorem KM {h:Heap} {dx:Addr} {mA:Str→Option Value} (n:h.Ns1 dx mA):∃ od,h.get? dx=some od∧∀ name,PySem.W.lookIn name od=some (mA name):=by
 obtain ⟨o,es,ep,ho,hd,hk,_,hm⟩:=n
 refine ⟨o,ho,fun name=>?_⟩
 have e:=hm name
 unfold nsFind findBy at e
 rw [← Array.find?_toList] at e
 unfold PySem.W.lookIn
 rw [hd]
 dsimp only
 split
 ·rename_i y q
  rw [q] at e
  exact congrArg some e
 ·rename_i q
  rw [q] at e
  have a:es.toList.any (·.refKey)=false:=by
   rw [List.any_eq_false]
   intro y hy
   obtain ⟨z,t,hkey⟩:=hk y (Array.mem_toList_iff.mp hy)
   simp [DictEntry.refKey,hkey]
  have a':¬ es.toList.any (·.refKey)=true:=by rw [a];exact Bool.false_ne_true
  rw [if_neg a']
  exact congrArg some e
theorem ObjM.look {h:Heap} {x dx C:Addr} {mA:Str→Option Value} (I:ObjM h x dx C mA):∃ od,PySem.W.InstAt h x (PySem.W.instObj C dx) C (some od)∧∀ name,PySem.W.lookIn name od=some (mA name):=
 let ⟨od,ho,hl⟩:=KM I.ns
 ⟨od,⟨I.obj,rfl,rfl,ho⟩,hl⟩
theorem RelO.some_of {v:V} {o:Option Value} (r:RelO (some v) o):∃ u,o=some u∧RelV v u:=by
 cases o with
 | none=>exact (show False from r).elim
 | some u=>exact ⟨u,rfl,r⟩
theorem jb8 {v:V} {u:Value} (r:RelV v u):PySem.W.handedIn u=true:=by
 cases v with
 | non=>cases (show u=Value.none from r);rfl
 | bl b=>cases (show u=Value.bool b from r);rfl
 | int i=>obtain ⟨t,e⟩:=(show ∃ t,u=Value.int i t from r);cases e;rfl
 | str x=>obtain ⟨t,e⟩:=(show ∃ t,u=Value.str x t from r);cases e;rfl
 | byt b=>obtain ⟨t,e⟩:=(show ∃ t,u=Value.bytes b t from r);cases e;rfl
 | flt b=>obtain ⟨t,e⟩:=(show ∃ t,u=Value.float b t from r);cases e;rfl
 | ref a=>cases (show u=Value.ref a from r);rfl
 | ty n=>cases (show u=Value.type n from r);rfl
section
variable {P:Program} {w:World} {H H':Hp} {h h':Heap} {a C dx:Addr} {fs fs':List (Str×V)}
theorem jeI (hok:HOk P w H h) (e:H a=some (.ins C dx fs)):∃ mA,ObjM h a dx C mA∧(∀ f,RelO (fs.lookup f) (mA f))∧PySem.Within mA (fs.map (·.1))∧fs.length≤1000∧H dx=some (.own a):=by
 obtain ⟨d,z,ne,ob,mA,n,r,q⟩:=(show ObjOk P w H h a (.ins C dx fs) from hok a _ e)
 exact ⟨mA,⟨ob,n,ne⟩,r,q,z,d⟩
end
structure Cls (K:PySem.W.Frag) (C:Addr):Prop where
 pg:PySem.W.plainGet K C Str.empty=true
 hd:PySem.W.hasDictIn K C=true
 po:PySem.W.plainOver K C=true
 sa:PySem.W.findIn K (.ref C) "__setattr__" = some (some (.builtin "object.__setattr__"))
theorem Cls.get {K:PySem.W.Frag} {C:Addr} (c:Cls K C) (f:Str):PySem.W.plainGet K C f=true:=c.pg
section
variable {X:Cx} {pins:List (Addr×Obj)} {σ:St} {H:Hp} {s:Shared} {a C dx:Addr} {fs:List (Str×V)} {f:Str} {v:V} {A:Around} {E:Value→Shared→Prop}
theorem jeY {prog:Program} {w:World} {env:Env} {e:Expr} {f:Str} {pos:Pos} {s:Shared} {Q:Value→Shared→Prop} (hb:attributeBase e f env (eval e env)=eval e env)
  (h:wpAny (model prog w) A (eval e env) (fun o s₁=>wpAny (model prog w) A (getAttr o f true) Q E s₁) E s):wpAny (model prog w) A (eval (.Attribute e f pos) env) Q E s:=
 Attribute_any_ h (by rw [arm_eval_Attribute,hb])
end
section
variable {X:Cx} {pins:List (Addr×Obj)} {σ:St} {H:Hp} {s:Shared} {A:Around} {E:Value→Shared→Prop} {Q:Value→Shared→Prop} {c:Value} {b:Bool}
inductive TyOf (K:PySem.W.Frag) (H:Hp):V→Value→Prop where
 | non:TyOf K H .non (.type "NoneType")
 | bl (x:Bool):TyOf K H (.bl x) (.type "bool")
 | int (i:Int):TyOf K H (.int i) (.type "int")
 | str (x:Str):TyOf K H (.str x) (.type "str")
 | flt (x:UInt64):TyOf K H (.flt x) (.type "float")
 | lst {a:Addr} {xs:List V} (e:H a=some (.lst xs)):TyOf K H (.ref a) (.type "list")
 | frz {a:Addr} {o:Obj} {xs:List V} (e:H a=some (.frz o (.lst xs))):TyOf K H (.ref a) (.type "list")
 | tup {a:Addr} {xs:List V} (e:H a=some (.tup xs)):TyOf K H (.ref a) (.type "tuple")
 | dK {a:Addr} {kvs:List (Key×V)} (e:H a=some (.dK kvs)):TyOf K H (.ref a) (.type "dict")
 | dT {a:Addr} {kvs:List (List Key×V)} (e:H a=some (.dT kvs)):TyOf K H (.ref a) (.type "dict")
 | ins {a C dx:Addr} {fs:List (Str×V)} (e:H a=some (.ins C dx fs)) (cl:Cls K C) (ha:PySem.W.findIn K (.ref C) "__class__" = some (some (.builtin "object.__class__")))
   (hn:PySem.W.specialIn K (.builtin "object.__class__") "__get__" = some (some (.builtin "getset_descriptor.__get__"))) (htk:PySem.W.takesIn K (.builtin "object.__class__")=some true)
   (hm:PySem.W.mroIn K C (.type "object")=some true):TyOf K H (.ref a) (.ref C)
theorem jb5 {x:V} {u t:Value} (I:Inv X pins σ H s) (rx:RelV x u) (ty:TyOf X.K H x t) (e:PySem.W.kitOne X.K t c=some b) (h:∀ tk,Q (.bool b) { s with toks:=tk }) :
  wpAny (model X.prog X.w) A (call (.builtin "isinstance") [u,c]) Q E s:=by
 cases ty with
 | non=>cases (show u=Value.none from rx);exact PySem.W.kia_one PySem.W.kitx_none I.kIn True.intro e (fun z=>nomatch z) h
 | bl y=>cases (show u=Value.bool y from rx);exact PySem.W.kia_one PySem.W.kitx_bool I.kIn True.intro e (fun z=>nomatch z) h
 | int i=>obtain ⟨t,q⟩:=(show ∃ t,u=Value.int i t from rx);cases q;exact PySem.W.kia_one PySem.W.kitx_int I.kIn True.intro e (fun z=>nomatch z) h
 | str y=>obtain ⟨t,q⟩:=(show ∃ t,u=Value.str y t from rx);cases q;exact PySem.W.kia_one PySem.W.kitx_str I.kIn True.intro e (fun z=>nomatch z) h
 | flt y=>obtain ⟨t,q⟩:=(show ∃ t,u=Value.float y t from rx);cases q;exact PySem.W.kia_one PySem.W.kitx_float I.kIn True.intro e (fun z=>nomatch z) h
 | @lst a xs ea=>
  cases (show u=Value.ref a from rx)
  obtain ⟨_,_,n,_,h1⟩:=(show ObjOk X.prog X.w H s.heap a (.lst xs) from I.hok a _ ea)
  exact PySem.W.kia_one PySem.W.kitx_list I.kIn ⟨_,h1,rfl⟩ e (fun z=>nomatch z) h
 | @frz a ob xs ea=>
  cases (show u=Value.ref a from rx)
  obtain ⟨_,_,_,n,_,h1⟩:=(show ObjOk X.prog X.w H s.heap a (.frz ob (.lst xs)) from I.hok a _ ea)
  exact PySem.W.kia_one PySem.W.kitx_list I.kIn ⟨_,h1,rfl⟩ e (fun z=>nomatch z) h
 | @tup a xs ea=>
  cases (show u=Value.ref a from rx)
  obtain ⟨_,_,_,p⟩:=(show ObjOk X.prog X.w H s.heap a (.tup xs) from I.hok a _ ea)
  obtain ⟨o,h1,h2,_⟩:=p
  exact PySem.W.kia_one PySem.W.kitx_tuple I.kIn ⟨o,h1,h2⟩ e (fun z=>nomatch z) h
 | @dK a kvs ea=>
  cases (show u=Value.ref a from rx)
  obtain ⟨_,_,vs,_,p⟩:=(show ObjOk X.prog X.w H s.heap a (.dK kvs) from I.hok a _ ea)
  obtain ⟨o,es,ep,h1,h2,_⟩:=p
  exact PySem.W.kia_one PySem.W.kitx_dict I.kIn ⟨o,h1,h2.1⟩ e (fun z=>nomatch z) h
 | @dT a kvs ea=>
  cases (show u=Value.ref a from rx)
  obtain ⟨_,_,xs,_,o,es,ep,h1,h2,_⟩:=(show ObjOk X.prog X.w H s.heap a (.dT kvs) from I.hok a _ ea)
  exact PySem.W.kia_one PySem.W.kitx_dict I.kIn ⟨o,h1,h2.1⟩ e (fun z=>nomatch z) h
 | @ins a C dx fs ea cl ha hn htk hm=>
  cases (show u=Value.ref a from rx)
  obtain ⟨mA,O,_⟩:=jeI I.hok ea
  obtain ⟨od,J,_⟩:=O.look
  exact PySem.W.kia_one (PySem.W.kitx_own (cl.get _) cl.hd ha hn htk hm) I.kIn J e (fun z=>nomatch z) h
end
structure Room (k:Nat) (A:Around):Prop where
 hd:A.handled=none
 dp:A.depth+3 * k+5 < recursionLimit
 un:A.units+16 * k+200 < cLine
 gd:A.guards=some []
theorem Room.mono {j k:Nat} {A:Around} (r:Room k A) (h:j≤k):Room j A:=⟨r.hd,by have:=r.dp;omega,by have:=r.un;omega,r.gd⟩
theorem Room.deeper {k:Nat} {A:Around} (r:Room (k+1) A) (env:Env):Room k (A.deeper env):=
 ⟨r.hd,by have:=r.dp;show A.depth+1+3 * k+5 < _;omega,by have:=r.un;show A.units+3+16 * k+200 < _;omega,r.gd⟩
theorem Room.in1 {k:Nat} {A:Around} (r:Room (k+1) A):Room k A.in1:=
 ⟨r.hd,by have:=r.dp;show A.depth+3 * k+5 < _;omega,by have:=r.un;show A.units+1+16 * k+200 < _;omega,r.gd⟩
theorem Z1 {A:Around} {C:Addr} {us:List Value} {kw:List (Str×Value)}:(A.under (.builtin "type.__call__" ⟨.ref C :: us,kw⟩)).depth=A.depth+1:=by
 first | rfl | simp [Around.under,Code.weight,Code.isCreation,Code.isGuard,Code.isCaller,Code.frames,Code.isFrame,guardIds]
theorem Z0 {A:Around} {C:Addr} {us:List Value} {kw:List (Str×Value)}:(A.under (.builtin "type.__call__" ⟨.ref C :: us,kw⟩)).units=A.units+1:=by
 first | rfl | simp [Around.under,Code.cUnits,Code.frames,Code.isFrame]
theorem Y8 {A:Around} {C:Addr} {us:List Value} {kw:List (Str×Value)}:(A.under (.builtin "type.__call__" ⟨.ref C :: us,kw⟩)).guards=A.guards:=by
 first | rfl | (cases A with | mk a b c d e=>cases d <;> rfl)
theorem Room.make {k:Nat} {A:Around} (r:Room (k+1) A) (C:Addr) (us:List Value) (kw:List (Str×Value)):Room k (A.under (.builtin "type.__call__" ⟨.ref C :: us,kw⟩)):=
 ⟨r.hd,by have:=r.dp;rw [Z1];omega,by have:=r.un;rw [Z0];omega,by rw [Y8];exact r.gd⟩
theorem Room.depth {k:Nat} {A:Around} (r:Room k A):A.depth < recursionLimit:=by have:=r.dp;omega
theorem Room.units {k:Nat} {A:Around} (r:Room k A):A.units+64 < cLine:=by have:=r.un;omega
def jcx:TA:=fun _ H Q=>Q [] H
def jcy (ta:TE) (tr:TA):TA:=fun σ H Q=>ta σ H fun x H1=>tr σ H1 fun xs H2=>Q (x :: xs) H2
section
variable {X:Cx} {e:Expr} {es:List Expr} {te:TE} {t:TA} {pos:Pos}
theorem kB:PA X [] jcx:=fun _ _ _ _ H Q I h=>Calls.spliced_nil ⟨[],H,I,.nil,h⟩
theorem jeo (ha:PE X e te) (hr:PA X es t) (hs:starEach (e :: es) X.env=(false,eval e X.env) :: starEach es X.env:=by rfl):PA X (e :: es) (jcy te t):=by
 intro pos pins s σ H Q I h
 rw [hs]
 show wpAny _ _ (spliced ((false,eval e X.env) :: backTo pos (starEach es X.env))) _ _ s
 refine Calls.spliced_cons (thn (ha pins s σ H _ I h) fun u s1 ⟨x,H1,I1,r1,q1⟩=>?_)
 exact thn (hr pos pins s1 σ H1 _ I1 q1) fun us s2 ⟨xs,H2,I2,r2,q2⟩=>⟨x :: xs,H2,I2,.cons r1 r2,q2⟩
def jgs (t:TA):TE:=fun σ H Q=>t σ H fun xs H1=>xs.length≤sizeLine∧∀ p,H1 p=none→Q (.ref p) (upd H1 p (.tup xs))
def jgv (t:TA):TE:=fun σ H Q=>t σ H fun xs H1=>xs.length≤sizeLine∧∀ p,H1 p=none→Q (.ref p) (upd H1 p (.lst xs))
theorem jfR {x1} (h:PA X es t):PE X (.Tuple es x1 pos) (jgs t):=by
 intro pins s σ H Q I hq
 refine wpAny_Tuple_spliced (thn (h pos pins s σ H _ I hq) fun us s1 ⟨xs,H1,I1,r,z,q⟩=>⟨by rw [← r.length];exact z,?_⟩)
 have hf:H1 s1.heap.objs.size=none:=I1.hok.fresh (Nat.le_refl _)
 refine ⟨.ref s1.heap.objs.size,upd H1 s1.heap.objs.size (.tup xs),I1.laid (t':=s1.toks) (fun b u e=>Heap.get?_push_of_some _ e) (Nat.le_refl _) ?_,rfl,q _ hf⟩
 exact ⟨z,us,r,⟨_,Heap.get?_push_size _ rfl,rfl,_,rfl⟩⟩
theorem jfU (h:PA X es t):PE X (.List es pos) (jgv t):=by
 intro pins s σ H Q I hq
 refine wpAny_List_spliced (thn (h pos pins s σ H _ I hq) fun us s1 ⟨xs,H1,I1,r,z,q⟩=>⟨by rw [← r.length];exact z,?_⟩)
 have hf:H1 s1.heap.objs.size=none:=I1.hok.fresh (Nat.le_refl _)
 refine ⟨.ref s1.heap.objs.size,upd H1 s1.heap.objs.size (.lst xs),I1.laid (t':=s1.toks) (fun b u e=>Heap.get?_push_of_some _ e) (Nat.le_refl _) ?_,rfl,q _ hf⟩
 exact ⟨z,us,0,r,Heap.get?_push_size _ rfl⟩
end
abbrev Sp:=List V→Hp→VK→XK→Prop
abbrev CXT:=List Env→Hp→Shared→XK→Value→Shared→Prop
structure Env0 (P:Program) (w:World) (K:PySem.W.Frag) (mg:Str→Option Value) (base:Heap) (A:Around) (outer:List Env) (s:Shared) (H:Hp):Prop where
 frames:A.frames=some outer
 mod:Mod K mg base
 bs:∀ b o,base.get? b=some o→s.heap.get? b=some o∧H b=none
 bsz:base.objs.size≤s.heap.objs.size
 funs:s.heap.FunFrames base outer
 frf:∀ b∈frs outer,H b=none
 hok:HOk P w H s.heap
 bare:AllBare s.gens
def CE (outer:List Env) (P:Program) (w:World) (H:Hp) (s:Shared) (Q:VK) (u:Value) (s':Shared):Prop:=
 ∃ v H',s'.os=s.os∧AllBare s'.gens∧Un (frs outer) [] H H' s.heap s'.heap∧HOk P w H' s'.heap∧RelV v u∧Q v H'
def CR (CX:CXT) (outer:List Env) (P:Program) (w:World) (H:Hp) (s:Shared) (Q:VK) (E:XK) (r:Result) (s':Shared):Prop:=
 match r with
 | .ok (.ret u)=>CE outer P w H s Q u s'
 | .ok _=>False
 | .error e=>CX outer H s E e s'
structure FnOk (P:Program) (w:World) (K:PySem.W.Frag) (mg:Str→Option Value) (base:Heap) (CX:CXT) (k:Nat) (f:Addr) (fd:FuncData) (ps:List Str) (sp:Sp):Prop where
 len:∀ vs H Q E,sp vs H Q E→vs.length=ps.length
 run:∀ (A:Around) (outer:List Env) (s:Shared) (H:Hp) (args:Args) (us:List Value) (vs:List V) (Q:VK) (E:XK),Room k A→Env0 P w K mg base A outer s H→BindsTo s fd args (ps.zip us)→Vals vs us→sp vs H Q E→
  codeAny (model P w) A (.call (.ref f) args) (CR CX outer P w H s Q E) s
theorem Env0.make {P:Program} {w:World} {K:PySem.W.Frag} {mg:Str→Option Value} {base:Heap} {A:Around} {outer:List Env} {s:Shared} {H:Hp} (e:Env0 P w K mg base A outer s H) (C:Addr) (us:List Value) (kw:List (Str×Value)) :
  Env0 P w K mg base (A.under (.builtin "type.__call__" ⟨.ref C :: us,kw⟩)) outer s H:=⟨by first | exact e.frames | (simpa [Around.under,Code.envs,Code.isFrame,pushEnvs] using e.frames),e.mod,e.bs,e.bsz,e.funs,e.frf,e.hok,e.bare⟩
theorem Env0.in1 {P:Program} {w:World} {K:PySem.W.Frag} {mg:Str→Option Value} {base:Heap} {A:Around} {outer:List Env} {s:Shared} {H:Hp} (e:Env0 P w K mg base A outer s H) :
  Env0 P w K mg base A.in1 outer s H:=⟨e.frames,e.mod,e.bs,e.bsz,e.funs,e.frf,e.hok,e.bare⟩
section
variable {X:Cx} {pins:List (Addr×Obj)} {σ:St} {H:Hp} {s s':Shared}
theorem Inv.env0 (I:Inv X pins σ H s):Env0 X.prog X.w X.K X.mg X.base X.A X.stack s H:=
 ⟨I.ok.frames,I.ok.mod,I.bs,Nat.le_trans I.ok.bsz I.sz,I.stack,I.stkFree,I.hok,I.bare⟩
theorem Inv.after {Q:VK} {u:Value} (I:Inv X pins σ H s) (h:CE X.stack X.prog X.w H s Q u s'):EP X pins σ Q u s':=by
 obtain ⟨v,H',os,bare,un,hok,r,q⟩:=h
 obtain ⟨hh,g,d,t,os'⟩:=s'
 obtain rfl:os'=s.os:=os
 exact ⟨v,H',I.call (h':=hh) (g':=g) (d':=d) (t':=t) (ch:=[]) un hok bare (fun b z=>absurd z (by simp)),r,q⟩
end
def KB (sp:Sp) (dvs:List V) (E:XK) (t:TA):TE:=fun σ H Q=>t σ H fun vs H1=>sp (vs++dvs) H1 Q E
def Binds (K:PySem.W.Frag) (fd:FuncData) (ps:List Str) (ds:List Value):Prop:=
 ∀ (s:Shared) (us:List Value),K.In s.heap→(us++ds).length=ps.length→BindsTo s fd ⟨us,[]⟩ (ps.zip (us++ds))
theorem Binds.all {K:PySem.W.Frag} {fd:FuncData} {ps:List Str} (h:∀ us:List Value,us.length=ps.length→bindArgs fd ⟨us,[]⟩=pure (ps.zip us)):Binds K fd ps []:=fun s us _ hl=>by
 rw [List.append_nil] at hl ⊢
 exact .of_eq (h us hl)
def Ks (CX:CXT) (X:Cx) (E:XK):Prop:=∀ (pins:List (Addr×Obj)) (σ:St) (H:Hp) (s:Shared) (e:Value) (s':Shared),Inv X pins σ H s→CX X.stack H s E e s'→X.xe e s'
section
variable {X:Cx} {CX:CXT} {k:Nat} {f C:Addr} {fd:FuncData} {ps:List Str} {sp:Sp} {dvs:List V} {ds:List Value} {E:XK} {x m:Str} {p pos apos:Pos} {e o:Expr} {es:List Expr} {ta:TE} {t:TA}
theorem jcK {pins:List (Addr×Obj)} {σ:St} {H:Hp} {s:Shared} {Q:VK} {us:List Value} {vs:List V} (F:FnOk X.prog X.w X.K X.mg X.base CX k f fd ps sp) (hr:Room k X.A) (hb:Binds X.K fd ps ds) (hd:Vals dvs ds) (hx:Ks CX X E)
  (I:Inv X pins σ H s) (r:Vals vs us) (h:sp (vs++dvs) H Q E):wpAny (model X.prog X.w) X.A (call (.ref f) us) (EP X pins σ Q) X.xe s:=by
 have r2:Vals (vs++dvs) (us++ds):=r.append hd
 have hl:(us++ds).length=ps.length:=by rw [← r2.length];exact F.len _ _ _ _ h
 refine wpAny_call (codeAny_mono (F.run X.A X.stack s H ⟨us,[]⟩ (us++ds) (vs++dvs) Q E hr I.env0 (hb s us I.kIn hl) r2 h) fun r s' hq=>?_)
 cases r with
 | error e=>exact hx pins σ H s e s' I hq
 | ok fl=>
  cases fl with
  | ret u=>exact I.after hq
  | next=>exact False.elim hq
  | brk=>exact False.elim hq
  | cont=>exact False.elim hq
theorem jaY (F:FnOk X.prog X.w X.K X.mg X.base CX k f fd ps sp) (hr:Room k X.A) (hg:Gl X x) (hm:X.mg x=some (.ref f)) (hk:PySem.W.keepIn X.K (.ref f)=true) (hb:Binds X.K fd ps ds) (hd:Vals dvs ds) (hx:Ks CX X E)
  (ha:PA X (e :: es) t) (hdb:(x == ("__debug__" : Str))=false:=by decide) (he:starEach (e :: es) X.env=(false,eval e X.env) :: starEach es X.env:=by rfl) (hpl:(backTo pos (starEach es X.env)).any (·.1)=false:=by rfl) :
  PE X (.Call (.Name x p) (e :: es) [] pos) (KB sp dvs E t):=by
 intro pins s σ H Q I h
 refine wpAny_Call_Name_kw (zw I hg hm ?_ hdb)
 refine PySem.W.callWith_K (h₀:=X.base) I.ok.mod.kin hk (thn (ha pos pins s σ H _ I h) fun us s1 ⟨vs,H1,I1,r,q⟩=>⟨I1.kIn,?_⟩) he hpl
 exact jcK F hr hb hd hx I1 r q
theorem jc2 (F:FnOk X.prog X.w X.K X.mg X.base CX k f fd ps sp) (hr:Room k X.A) (hg:Gl X x) (hm:X.mg x=some (.ref f)) (hk:PySem.W.keepIn X.K (.ref f)=true) (hb:Binds X.K fd ps ds) (hd:Vals dvs ds) (hx:Ks CX X E)
  (hdb:(x == ("__debug__" : Str))=false:=by decide):PE X (.Call (.Name x p) [] [] pos) (KB sp dvs E jcx):=by
 intro pins s σ H Q I h
 refine wpAny_Call_Name_kw (zw I hg hm ?_ hdb)
 exact PySem.W.callWith_K0 I.kIn hk (jcK (us:=[]) F hr hb hd hx I .nil h)
end
structure FnScope (N P:List Str) (sc:Scope):Prop where
 kind:sc.kind=.function
 co:sc.isCoroutine=false
 gen:sc.isGenerator=false
 nd:N.Nodup
 pre:N.take P.length=P
 par:∀ x∈P,sc.names.lookup x=some .local∨sc.names.lookup x=some .cell
 nofree:∀ y∈sc.names,y.2≠.free
theorem KS {kindOf:Str→Option NameKind} {x:Str}:∀ {binds:List (Str×Value)} {m:Str→Option Value},(∀ v,(x,v) ∉ binds)→bindL kindOf binds m x=m x
 | [],_,_=>rfl
 | (n,v) :: r,m,h=>by
  unfold bindL
  rw [KS fun w hw=>h w (List.mem_cons_of_mem _ hw)]
  split
  ·have:x≠n:=by rintro rfl;exact h v List.mem_cons_self
   simp [this]
  ·rfl
theorem KW {kindOf:Str→Option NameKind} {x:Str}:∀ {binds:List (Str×Value)} {m:Str→Option Value},(∀ v,(x,v) ∉ binds)→bindC kindOf binds m x=m x
 | [],_,_=>rfl
 | (n,v) :: r,m,h=>by
  unfold bindC
  rw [KW fun w hw=>h w (List.mem_cons_of_mem _ hw)]
  split
  ·rfl
  ·have:x≠n:=by rintro rfl;exact h v List.mem_cons_self
   simp [this]
theorem KU {kindOf:Str→Option NameKind} {x:Str} {v:Value}:∀ {P:List Str} {vs:List Value} {i:Nat} {m:Str→Option Value},P.Nodup→P[i]?=some x→vs[i]?=some v→kindOf x=some .local→
  bindL kindOf (P.zip vs) m x=some v
 | [],_,_,_,_,h,_,_=>by simp at h
 | _ :: _,[],_,_,_,_,h,_=>by simp at h
 | p :: P,w :: vs,0,m,nd,h1,h2,hk=>by
  simp at h1 h2;subst h1;subst h2
  show bindL kindOf ((p,w) :: P.zip vs) m p=_
  unfold bindL
  rw [KS fun v hv=>(List.nodup_cons.mp nd).1 (List.of_mem_zip hv).1,if_pos hk]
  simp
 | p :: P,w :: vs,i+1,m,nd,h1,h2,hk=>by
  show bindL kindOf ((p,w) :: P.zip vs) m x=_
  unfold bindL
  exact KU (i:=i) (List.nodup_cons.mp nd).2 (by simpa using h1) (by simpa using h2) hk
theorem KY {kindOf:Str→Option NameKind} {x:Str} {v:Value}:∀ {P:List Str} {vs:List Value} {i:Nat} {m:Str→Option Value},P.Nodup→P[i]?=some x→vs[i]?=some v→kindOf x≠some .local→
  bindC kindOf (P.zip vs) m x=some v
 | [],_,_,_,_,h,_,_=>by simp at h
 | _ :: _,[],_,_,_,_,h,_=>by simp at h
 | p :: P,w :: vs,0,m,nd,h1,h2,hk=>by
  simp at h1 h2;subst h1;subst h2
  show bindC kindOf ((p,w) :: P.zip vs) m p=_
  unfold bindC
  rw [KW fun v hv=>(List.nodup_cons.mp nd).1 (List.of_mem_zip hv).1,if_neg hk]
  simp
 | p :: P,w :: vs,i+1,m,nd,h1,h2,hk=>by
  show bindC kindOf ((p,w) :: P.zip vs) m x=_
  unfold bindC
  exact KY (i:=i) (List.nodup_cons.mp nd).2 (by simpa using h1) (by simpa using h2) hk
def yh (N:List Str) (vs:List V):St:=vs.map some++List.replicate (N.length - vs.length) none
def Jw (CX:CXT) (P:Program) (w:World) (K:PySem.W.Frag) (mg:Str→Option Value) (base:Heap) (N:List Str) (qual:Str) (scope:Scope) (f:Addr) (cd:Value) (A:Around) (outer:List Env) (s:Shared) (H:Hp) (E:XK):Cx where
 prog:=P
 w:=w
 K:=K
 mg:=mg
 base:=base
 A:=A.deeper (envOfC qual scope s.heap.objs.size f cd)
 N:=N
 s₀:=s
 H₀:=H
 env:=envOfC qual scope s.heap.objs.size f cd
 outer:=outer
 stack:=envOfC qual scope s.heap.objs.size f cd :: outer
 ex:=[]
 calm:=true
 fn:=fun _=>true
 pn:=[]
 xe:=fun e s'=>wpAny (model P w) (A.deeper (envOfC qual scope s.heap.objs.size f cd)) (leaving (envOfC qual scope s.heap.objs.size f cd) e) (fun _ s''=>CX outer H s E e s'') (fun e' s''=>CX outer H s E e' s'') s'
theorem Zt {sc:Scope} {n:Nat} {x:Str} (h:sc.names.lookup x=some .cell):∃ c,(cellsFrom n sc.names []).lookup x=some c:=by
 have q:=PySem.W.cellsFrom_some sc.names n [] (.inl h)
 exact Option.isSome_iff_exists.mp q
theorem jb6 {CX:CXT} {P:Program} {w:World} {K:PySem.W.Frag} {mg:Str→Option Value} {base:Heap} {N ps:List Str} {qual:Str} {scope:Scope} {f:Addr} {cd:Value} {A:Around} {outer:List Env} {s s1:Shared} {H:Hp} {E:XK} {us:List Value} {vs:List V}
  (S:FnScope N ps scope) (hd:A.handled=none) (e0:Env0 P w K mg base A outer s H) (hl:vs.length=ps.length) (r:Vals vs us)
  (x:InCallC s s.heap.objs.size (bindL (envOfC qual scope s.heap.objs.size f cd).kindOf (ps.zip us) fun _=>none) (cellsFrom (s.heap.objs.size+1) scope.names []) (bindC (envOfC qual scope s.heap.objs.size f cd).kindOf (ps.zip us) fun _=>none) s1) :
  Inv (Jw CX P w K mg base N qual scope f cd A outer s H E) [] (yh N vs) H s1:=by
 have hpl:ps.length≤N.length:=by have:=congrArg List.length S.pre;rw [List.length_take] at this;omega
 obtain ⟨h1,tk,rfl,hk⟩:=x.done
 have noA:∀ b:Addr,b ∉ (Jw CX P w K mg base N qual scope f cd A outer s H E).ex:=fun b z=>absurd (show b∈([]:List Addr) from z) (by simp)
 refine ⟨⟨e0.mod,S.kind,rfl,rfl,Nat.le_refl _,fun y z c h1 h2=>?_,fun y hy=>?_,fun y c _ h=>?_,fun _=>hd,Around.frames_deeper e0.frames,.inr ⟨rfl,rfl⟩,fun b z=>absurd z (noA b),e0.bs,e0.bsz,fun b _ _=>noA b,fun b z=>absurd z (noA b),e0.funs,e0.frf⟩,
  rfl,e0.bare,Un.kept hk,⟨_,x.toInCall.ns,fun i y v h1 h2 h3=>?_⟩,fun y c h=>⟨_,x.cell y c h⟩,e0.hok.fresh (Nat.le_refl _),fun y c h=>?_,fun p hp=>absurd (show p∈([]:List (Addr×Obj)) from hp) (by simp),e0.hok.kept hk,?_⟩
 ·exact name_of_addr x.apart (PySem.mem_of_lookup h1) (PySem.mem_of_lookup h2)
 ·have hy:scope.names.lookup y=some .cell∨scope.names.lookup y=some .free:=hy
  rcases hy with hy | hy
  ·exact Zt hy
  ·exact absurd rfl (S.nofree _ (PySem.mem_of_lookup hy))
 ·exact Nat.le_of_lt (x.above y c (PySem.mem_of_lookup h))
 ·have hi:i < vs.length:=by
   unfold yh at h2
   by_cases hi:i < vs.length
   ·exact hi
   ·rw [List.getElem?_append_right (by simpa using hi)] at h2
    rw [List.getElem?_replicate] at h2
    split at h2 <;> cases h2
  have ha:vs[i]?=some v:=by
   unfold yh at h2
   rw [List.getElem?_append_left (by simpa using hi),List.getElem?_map] at h2
   cases e:vs[i]? with
   | none=>rw [e] at h2;cases h2
   | some a=>rw [e] at h2;cases h2;rfl
  obtain ⟨u,hu,rv⟩:=r.get ha
  have hp:ps[i]?=some y:=by
   rw [← S.pre,List.getElem?_take_of_lt (by omega)];exact h1
  have ndP:ps.Nodup:=by rw [← S.pre];exact S.nd.sublist (List.take_sublist _ _)
  refine ⟨u,rv,?_⟩
  rcases S.par y (List.mem_of_getElem? hp) with k | k
  ·exact .inl ⟨k,KU ndP hp hu k⟩
  ·obtain ⟨c,e⟩:=Zt (n:=s.heap.objs.size+1) k
   refine .inr ⟨.inl k,c,e,?_⟩
   have q:=x.cell y c e
   rw [KY ndP hp hu (by show scope.names.lookup y≠_;rw [k];decide)] at q
   exact q
 ·exact e0.hok.fresh (Nat.le_of_lt (x.above y c (PySem.mem_of_lookup h)))
 ·unfold yh
  show _=N.length
  rw [List.length_append,List.length_map,List.length_replicate]
  omega
theorem jfv {CX:CXT} {P:Program} {w:World} {K:PySem.W.Frag} {mg:Str→Option Value} {base:Heap} {k:Nat} {f:Addr} {name qual:Str} {params:Arguments} {body:List Stmt} {scope:Scope} {dV kV doc pm cdv ct oc:Value} {an od:Option Addr}
  {osl:Array (Option Value)} {N ps:List Str} {sp:Sp} (lk:K.lookup f=some ⟨oc,od,.func (PySem.W.fnOf name qual params body scope dV kV doc pm an cdv ct),osl⟩) (hcd:PySem.W.codeIn K cdv qual=true) (S:FnScope N ps scope)
  (len:∀ vs H Q E,sp vs H Q E→vs.length=ps.length)
  (hbody:∀ (A:Around) (outer:List Env) (s:Shared) (H:Hp) (vs:List V) (Q:VK) (E:XK),Room k (A.deeper (envOfC qual scope s.heap.objs.size f cdv))→sp vs H Q E→
   ∃ t,PSs (Jw CX P w K mg base N qual scope f cdv A outer s H E) body t∧t { nx:=fun _ H'=>Q .non H',rt:=Q } (yh N vs) H) :
  FnOk P w K mg base CX (k+1) f (PySem.W.fnOf name qual params body scope dV kV doc pm an cdv ct) ps sp:=by
 refine ⟨len,fun A outer s H args us vs Q E hr e0 hb r hsp=>?_⟩
 have hl:=len _ _ _ _ hsp
 have KX:K.In s.heap:=e0.mod.kin.keeps fun b o e=>(e0.bs b o e).1
 have lim:s.heap.NoLimit:=e0.mod.nolimit.keeps fun b o e=>(e0.bs b o e).1
 have hkind:∀ y∈ps.zip us,scope.names.lookup y.1=some .local∨(scope.names.lookup y.1=some .cell∧((cellsFrom (s.heap.objs.size+1) scope.names []).lookup y.1).isSome=true):=fun ⟨n,v⟩ hy=>by
  rcases S.par n (List.of_mem_zip hy).1 with q | q
  ·exact .inl q
  ·exact .inr ⟨q,PySem.W.cellsFrom_some _ _ _ (.inl q)⟩
 refine codeAny_call_function hr.depth (KX _ _ lk) rfl S.co S.gen rfl (PySem.W.codeRec_of KX hcd) (hb _ _ _ _ ?_)
 refine wpAny_newFunctionEnv_cells S.kind hkind fun env he s1 x=>?_
 subst he
 refine ⟨lim.keeps x.toInCall.keep,codeAny_func ?_⟩
 obtain ⟨t,ht,hq⟩:=hbody A outer s H vs Q E (hr.deeper _) hsp
 have I:Inv (Jw CX P w K mg base N qual scope f cdv A outer s H E) [] (yh N vs) H s1:=jb6 S hr.hd e0 hl r x
 refine wpAny_mono (ht [] s1 (yh N vs) H _ I hq) (fun fl s' hs=>?_) fun e s' hs=>hs
 have fin:∀ {σ':St} {H':Hp} {v:V} {u:Value},Inv (Jw CX P w K mg base N qual scope f cdv A outer s H E) [] σ' H' s'→RelV v u→Q v H'→CE outer P w H s Q u s':=
  fun {σ' H' v u} J rv q=>⟨v,H',J.os,J.bare,J.base,J.hok,rv,q⟩
 cases fl with
 | ret u=>
  obtain ⟨v,σ',H',J,rv,q⟩:=hs
  exact fin J rv q
 | next=>
  obtain ⟨σ',H',J,q⟩:=hs
  exact fin (v:=V.non) (u:=Value.none) J rfl q
 | brk=>
  obtain ⟨_,_,_,q⟩:=hs
  exact False.elim q
 | cont=>
  obtain ⟨_,_,_,q⟩:=hs
  exact False.elim q
section
variable {X:Cx} {x:Str} {p pos:Pos} {e:Expr} {es:List Expr} {t:TA} {id T:String} {r:List V→Hp→VK→Prop}
def tCB (r:List V→Hp→VK→Prop) (t:TA):TE:=fun σ H Q=>t σ H fun vs H1=>r vs H1 Q
theorem jc1 (hc:qt X (.builtin id) r) (hg:Gl X x) (hm:X.mg x=none) (hv:bootBuiltins x=some (.builtin id)) (ha:PA X (e :: es) t) (hn:x≠"__name__":=by decide) (hdb:(x == ("__debug__" : Str))=false:=by decide)
  (he:starEach (e :: es) X.env=(false,eval e X.env) :: starEach es X.env:=by rfl) (hpl:(backTo pos (starEach es X.env)).any (·.1)=false:=by rfl):PE X (.Call (.Name x p) (e :: es) [] pos) (tCB r t):=by
 intro pins s σ H Q I h
 refine wpAny_Call_Name_kw (Kh I hg hm hv ?_ hn hdb)
 exact PyProof.Rows.callWith_builtin1 (thn (ha pos pins s σ H _ I h) fun us s1 ⟨vs,H1,I1,r1,q1⟩=>hc pins s1 σ H1 vs us Q I1 r1 q1) he hpl
theorem jbH (hc:qt X (.type T) r) (hg:Gl X x) (hm:X.mg x=none) (hv:bootBuiltins x=some (.type T)) (ha:PA X (e :: es) t) (hn:x≠"__name__":=by decide) (hdb:(x == ("__debug__" : Str))=false:=by decide)
  (he:starEach (e :: es) X.env=(false,eval e X.env) :: starEach es X.env:=by rfl) (hpl:(backTo pos (starEach es X.env)).any (·.1)=false:=by rfl):PE X (.Call (.Name x p) (e :: es) [] pos) (tCB r t):=by
 intro pins s σ H Q I h
 refine wpAny_Call_Name_kw (Kh I hg hm hv ?_ hn hdb)
 exact PyProof.Rows.callWith_type1 (thn (ha pos pins s σ H _ I h) fun us s1 ⟨vs,H1,I1,r1,q1⟩=>hc pins s1 σ H1 vs us Q I1 r1 q1) he hpl
end
end L2
namespace HT
open PySem PyProof.Rows
section
variable {prog:Program} {w:World} {A:Around} {E:Value→Shared→Prop} {s:Shared}
def sIx (n d:Nat):Option Int→Nat
 | none=>d
 | some v=>if v < 0 then (v+(n:Int)).toNat else min v.toNat n
theorem sIx_none (n d:Nat):sIx n d none=d:=rfl
theorem sIx_nat (n d k:Nat):sIx n d (some (k:Int))=min k n:=by
 show (if (k:Int) < 0 then ((k:Int)+(n:Int)).toNat else min (k:Int).toNat n)=min k n
 rw [if_neg (by omega),Int.toNat_natCast]
theorem sIx_le (n d:Nat) (hd:d≤n) (o:Option Int):sIx n d o≤n:=by
 cases o with
 | none=>exact hd
 | some v=>
  show (if v < 0 then (v+(n:Int)).toNat else min v.toNat n)≤n
  by_cases hv:v < 0
  ·rw [if_pos hv];omega
  ·rw [if_neg hv];exact Nat.min_le_right _ _
theorem jbq (v:Int) (n d:Nat):(if v < 0 then max (v+(n:Int)) 0 else min v (n:Int))=((sIx n d (some v):Nat):Int):=by
 show (if v < 0 then max (v+(n:Int)) 0 else min v (n:Int))=(((if v < 0 then (v+(n:Int)).toNat else min v.toNat n):Nat):Int)
 by_cases hv:v < 0
 ·simp only [if_pos hv];omega
 ·simp only [if_neg hv];omega
theorem jam (lo hi:Option Int) (n:Nat):Builtin.Slice.sliceAdjust lo hi 1 (n:Int)=(((sIx n 0 lo:Nat):Int),((sIx n n hi:Nat):Int)):=by
 have h1:¬ ((1:Int) < 0):=by omega
 unfold Builtin.Slice.sliceAdjust
 simp only [h1,if_false]
 refine Prod.ext ?_ ?_
 ·cases lo with
  | none=>rfl
  | some v=>exact jbq v n 0
 ·cases hi with
  | none=>rfl
  | some v=>exact jbq v n n
theorem ZM (i j:Nat):Builtin.Slice.slicePlaces (i:Int) (j:Int) 1=j - i:=by
 unfold Builtin.Slice.slicePlaces
 have h1:(1:Int) > 0:=by omega
 simp only [h1,if_true,Int.ediv_one]
 split <;> omega
theorem J3 {v:Value} {o:Option Int} {Q:Option Int→Shared→Prop} (p:IsPart v o) (h:Q o s):wpAny (model prog w) A (Builtin.Slice.slicePartIndex v) Q E s:=by
 cases p with
 | none=>exact slicePart_none h
 | int i t=>exact slicePart_int h
theorem Jc {sl:Addr} {vl vu:Value} {lo hi:Option Int} {n:Nat} {Q:Int×Int×Nat→Shared→Prop} (hs:s.heap.IsSliceOf sl vl vu .none) (pl:IsPart vl lo) (pu:IsPart vu hi)
  (h:Q (((sIx n 0 lo:Nat):Int),1,sIx n n hi - sIx n 0 lo) s):wpAny (model prog w) A (Builtin.Slice.sliceApplied (.ref sl) (pure (n:Int))) Q E s:=by
 obtain ⟨os,hos,hcs,hds⟩:=id hs
 unfold Builtin.Slice.sliceApplied Builtin.Slice.sliceFields
 refine wpAny_bind (wpAny_bind (wpAny_field hos hds (x:=vl) rfl (wpAny_bind (wpAny_field hos hds (x:=vu) rfl (wpAny_bind (wpAny_field hos hds (x:=.none) rfl (wpAny_pure ?_)))))))
 refine wpAny_bind (slicePart_none ?_)
 show wpAny _ _ (if ((1:Int) == 0)=true then _ else _) _ _ s
 rw [if_neg (by decide)]
 refine wpAny_bind (J3 pl (wpAny_bind (J3 pu (wpAny_bind (wpAny_pure ?_)))))
 show wpAny _ _ (match Builtin.Slice.sliceAdjust lo hi 1 (n:Int) with | (lo,hi)=>pure (lo,(1:Int),Builtin.Slice.slicePlaces lo hi 1)) _ _ s
 rw [jam lo hi n]
 show wpAny _ _ (pure (((sIx n 0 lo:Nat):Int),(1:Int),Builtin.Slice.slicePlaces ((sIx n 0 lo:Nat):Int) ((sIx n n hi:Nat):Int) 1)) _ _ s
 rw [ZM]
 exact wpAny_pure h
theorem jcW (xs:Array Value) (i k:Nat):((List.range k).filterMap fun (m:Nat)=>xs[((i:Int)+(m:Int) * 1).toNat]?).toArray=((xs.toList.drop i).take k).toArray:=by
 have e:(fun (m:Nat)=>xs[((i:Int)+(m:Int) * 1).toNat]?)=fun m=>xs[i+m]?:=by
  funext m
  have:((i:Int)+(m:Int) * 1).toNat=i+m:=by omega
  rw [this]
 rw [e]
 have:=pick_run xs i k
 rw [List.filterMap_map] at this
 have e2:((fun x=>xs[x]?) ∘ fun x=>i+x)=fun m=>xs[i+m]?:=rfl
 rw [e2] at this
 rw [this]
theorem getItem_tuple_cut {t sl:Addr} {items:Array Value} {vl vu:Value} {lo hi:Option Int} {Q:Value→Shared→Prop} (ht:IsTup s.heap t items) (hs:s.heap.IsSliceOf sl vl vu .none) (pl:IsPart vl lo) (pu:IsPart vu hi)
  (hw:¬ (sIx items.size 0 lo=0∧sIx items.size items.size hi=items.size))
  (h:Q (.ref s.heap.objs.size) { s with heap:=s.heap.push { cls:=.type "tuple",data:=.seq ((items.toList.drop (sIx items.size 0 lo)).take (sIx items.size items.size hi - sIx items.size 0 lo)).toArray } })
  (hsz:items.size≤sizeLine):wpAny (model prog w) A (getItem (.ref t) (.ref sl)) Q E s:=by
 have htake:sizeOk (.seq ((items.toList.drop (sIx items.size 0 lo)).take (sIx items.size items.size hi - sIx items.size 0 lo)).toArray):=by
  show ((items.toList.drop (sIx items.size 0 lo)).take (sIx items.size items.size hi - sIx items.size 0 lo)).toArray.size≤sizeLine
  rw [List.size_toArray,List.length_take,List.length_drop,Array.length_toList]
  omega
 have hj:sIx items.size items.size hi≤items.size:=sIx_le _ _ (Nat.le_refl _) hi
 obtain ⟨os,hos,hcs,hds⟩:=id hs
 have hTs:s.TypeIs (.ref sl) "slice":=⟨os,hos,hcs⟩
 unfold getItem
 try with_reducible refine wpAny_holding ?_
 first | refine wpAny_bind (wpAny_pure ?_) | skip
 refine wpAny_bind (wpAny_sequenceKey ht.typeIs (by decide) ?_)
 refine wpAny_bind (wpAny_callSpecial?_slot (name:=Str.ofString "__getitem__") ht.typeIs PyProof.Rows.slot_tuple_getitem
  (wpAny_call_entry PyProof.Rows.slot_tuple_getitem ht.typeIs entry_tuple_getitem ?_ (args_tuple_getitem _ _)))
 show wpAny _ _ (Builtin.Tuple.tupleItemsOf (.ref t) >>= _) _ _ s
 refine wpAny_bind (tupleItemsOf_ ht ?_)
 refine wpAny_bind (wpAny_typeOf hTs ?_)
 rw [if_pos (by decide)]
 refine wpAny_bind (Jc hs pl pu ?_)
 have hno:¬ ((((sIx items.size 0 lo:Nat):Int) == 0 && (1:Int) == 1 && (sIx items.size items.size hi - sIx items.size 0 lo) == items.size)=true):=by
  intro q
  rw [Bool.and_eq_true,Bool.and_eq_true] at q
  have q1:((sIx items.size 0 lo:Nat):Int)=0:=eq_of_beq q.1.1
  have q2:sIx items.size items.size hi - sIx items.size 0 lo=items.size:=eq_of_beq q.2
  exact hw ⟨by omega,by omega⟩
 show wpAny _ _ (if (((sIx items.size 0 lo:Nat):Int) == 0 && (1:Int) == 1 && (sIx items.size items.size hi - sIx items.size 0 lo) == items.size)=true then _ else _) _ _ s
 rw [if_neg hno,jcW]
 first
  | exact wpAny_bind (m:=Builtin.Tuple.tupleExact _) (wpAny_newObj_type (wpAny_pure ⟨_,rfl,wpAny_pure h⟩) htake)
  | exact wpAny_bind (m:=Builtin.Tuple.tupleExact _) (wpAny_newObj_type (wpAny_bind (wpAny_pure (wpAny_pure ⟨_,rfl,wpAny_pure h⟩))) htake)
  | exact wpAny_bind (wpAny_bind (m:=Builtin.Tuple.tupleExact _) (wpAny_newObj_type (wpAny_pure (wpAny_pure ⟨_,rfl,wpAny_pure h⟩)) htake))
  | exact wpAny_bind (wpAny_bind (m:=Builtin.Tuple.tupleExact _) (wpAny_newObj_type (wpAny_pure ⟨_,rfl,wpAny_pure h⟩) htake))
end
end HT
namespace L2
open PySem PySem.Spec PyProof.Rows
abbrev TO:=St→Hp→(Option Int→Hp→Prop)→Prop
def PO (X:Cx) (e:Option Expr) (t:TO):Prop:=
 ∀ (pins:List (Addr×Obj)) (s:Shared) (σ:St) (H:Hp) (Q:Option Int→Hp→Prop),Inv X pins σ H s→t σ H Q→
  wpAny (model X.prog X.w) X.A (evalPart e X.env) (fun u s'=>∃ o H',Inv X pins σ H' s'∧IsPart u o∧Q o H') X.xe s
def jay:TO:=fun _ H Q=>Q none H
def je9 (t:TE):TO:=fun σ H Q=>t σ H fun x H1=>∃ i,x=.int i∧Q (some i) H1
section
variable {X:Cx} {e:Expr} {te:TE} {lo hi:Option Expr} {tl th:TO} {pos p2:Pos}
theorem jej:PO X none jay:=by
 intro pins s σ H Q I h
 rw [evalPart_none]
 exact wpAny_pure ⟨none,H,I,.none,h⟩
theorem jei (h:PE X e te):PO X (some e) (je9 te):=by
 intro pins s σ H Q I hw
 rw [evalPart_some]
 refine thn (h pins s σ H _ I hw) fun u s1 ⟨x,H1,I1,r1,q1⟩=>?_
 obtain ⟨i,rfl,q⟩:=q1
 obtain ⟨t,rfl⟩:=r1
 exact ⟨some i,H1,I1,.int i t,q⟩
def SlR (X:Cx) (r:V→Option Int→Option Int→Hp→VK→Prop):Prop:=
 ∀ (pins:List (Addr×Obj)) (s:Shared) (σ:St) (H:Hp) (x:V) (v vl vu:Value) (lo hi:Option Int) (sl:Addr) (Q:VK),Inv X pins σ H s→RelV x v→s.heap.IsSliceOf sl vl vu .none→IsPart vl lo→IsPart vu hi→r x lo hi H Q→
  ∃ T id,typeLookup (.type T) "__getitem__" = pure (some (.builtin id))∧s.TypeIs v T∧wpAny (model X.prog X.w) X.A (getItem v (.ref sl)) (EP X pins σ Q) X.xe s
def tSl (r:V→Option Int→Option Int→Hp→VK→Prop) (te:TE) (tl th:TO):TE:=fun σ H Q=>te σ H fun x H1=>tl σ H1 fun l H2=>th σ H2 fun u H3=>r x l u H3 Q
theorem jcY {r:V→Option Int→Option Int→Hp→VK→Prop} (hr:SlR X r) (he:PE X e te) (hl:PO X lo tl) (hu:PO X hi th):PE X (.Subscript e (.Slice lo hi none p2) pos) (tSl r te tl th):=by
 intro pins s σ H Q I h
 refine Subscript_ (thn (he pins s σ H _ I h) fun v s1 ⟨x,H1,I1,r1,q1⟩=>?_)
 refine wpAny_Slice (thn (hl pins s1 σ H1 _ I1 q1) fun vl s2 ⟨l,H2,I2,pl,q2⟩=>thn (hu pins s2 σ H2 _ I2 q2) fun vu s3 ⟨u,H3,I3,pu,q3⟩=>?_)
 rw [evalPart_none]
 refine wpAny_pure ?_
 have I4:Inv X pins σ H3 { s3 with heap:=s3.heap.push { cls:=.type "slice",data:=.fields #[vl,vu,.none] } }:=I3.kept (t':=s3.toks) fun b ob q=>Heap.get?_push_of_some _ q
 obtain ⟨T,id,hT,ht,hg⟩:=hr pins { s3 with heap:=s3.heap.push { cls:=.type "slice",data:=.fields #[vl,vu,.none] } } σ H3 x v vl vu l u s3.heap.objs.size Q I4 r1 (Heap.IsSliceOf.new ..) pl pu q3
 show wpAny (model X.prog X.w) X.A (subscriptTail e (.Slice lo hi none p2) v (.ref s3.heap.objs.size)) (EP X pins σ Q) X.xe { s3 with heap:=s3.heap.push { cls:=.type "slice",data:=.fields #[vl,vu,.none] } }
 exact tail_any (ops:=[.ref s3.heap.objs.size,v]) ht hT hg (by with_unfolding_all rfl)
def cutV (xs:List V) (lo hi:Option Int):List V:=(xs.drop (HT.sIx xs.length 0 lo)).take (HT.sIx xs.length xs.length hi - HT.sIx xs.length 0 lo)
theorem Zr (xs:List V) (lo hi:Option Int):(cutV xs lo hi).length≤xs.length:=by
 unfold cutV
 rw [List.length_take,List.length_drop]
 omega
def jg0 (K:PySem.W.Frag):V→Option Int→Option Int→Hp→VK→Prop:=fun x lo hi H Q=>∃ a xs,x=.ref a∧SqT K H a xs∧
 ¬ (HT.sIx xs.length 0 lo=0∧HT.sIx xs.length xs.length hi=xs.length)∧∀ p,H p=none→Q (.ref p) (upd H p (.tup (cutV xs lo hi)))
theorem ZH:SlR X (jg0 X.K):=by
 intro pins s σ H x v vl vu lo hi sl Q I rx hs pl pu h
 obtain ⟨a,xs,rfl,hx,hw,q⟩:=h
 cases rx
 obtain ⟨its,r,ht,hz⟩:=I.tuple hx
 have hlen:its.toArray.size=xs.length:=by rw [List.size_toArray];exact r.length.symm
 refine ⟨"tuple",_,PyProof.Rows.slot_tuple_getitem.lookup,ht.typeIs,?_⟩
 refine HT.getItem_tuple_cut ht hs pl pu (by rw [hlen];exact hw) ?_ (by rw [hlen];exact hz)
 rw [hlen]
 refine ⟨.ref s.heap.objs.size,_,I.laid (t':=s.toks) (o:=.tup (cutV xs lo hi)) (fun b ob q=>Heap.get?_push_of_some _ q) (Nat.le_refl _) ?_,rfl,q _ (I.hok.fresh (Nat.le_refl _))⟩
 exact ⟨Nat.le_trans (Zr xs lo hi) hz,_,(r.drop (HT.sIx xs.length 0 lo)).take (HT.sIx xs.length xs.length hi - HT.sIx xs.length 0 lo),IsTup.new _ _⟩
end
def ixN (n:Nat) (i:Int):Option Nat:=if 0≤i then (if i < n then some i.toNat else none) else if -(n:Int)≤i then some (i+n).toNat else none
def atI {α:Type} (xs:List α) (i:Int):Option α:=(ixN xs.length i).bind fun j=>xs[j]?
theorem ja8 {n:Nat} {i:Int} {j:Nat} (h:ixN n i=some j):seqIndex? i n=some j∧j < n∧-(n:Int)≤i∧i < n:=by
 unfold ixN at h
 by_cases h0:0≤i
 ·rw [if_pos h0] at h
  by_cases h1:i < n
  ·rw [if_pos h1] at h
   have e:i.toNat=j:=Option.some.inj h
   exact ⟨by rw [seqIndex_of h0 h1,e],by omega,by omega,h1⟩
  ·rw [if_neg h1] at h;cases h
 ·rw [if_neg h0] at h
  by_cases h1:-(n:Int)≤i
  ·rw [if_pos h1] at h
   have e:(i+n).toNat=j:=Option.some.inj h
   exact ⟨by rw [seqIndex_neg (by omega) h1,e],by omega,h1,by omega⟩
  ·rw [if_neg h1] at h;cases h
theorem YA {α:Type} {xs:List α} {i:Int} {v:α} (h:atI xs i=some v):∃ j,seqIndex? i xs.length=some j∧xs[j]?=some v∧j < xs.length∧-(xs.length:Int)≤i∧i < xs.length:=by
 unfold atI at h
 cases e:ixN xs.length i with
 | none=>rw [e] at h;cases h
 | some j=>
  rw [e] at h
  obtain ⟨h1,h2,h3,h4⟩:=ja8 e
  exact ⟨j,h1,h,h2,h3,h4⟩
theorem jv {α:Type} {xs:List α} {j:Nat} {v:α} (h:xs[j]?=some v):atI xs (j:Int)=some v:=by
 have hj:j < xs.length:=(List.getElem?_eq_some_iff.mp h).1
 have e:ixN xs.length (j:Int)=some j:=by
  unfold ixN
  rw [if_pos (by omega),if_pos (by omega)];simp
 unfold atI;rw [e];exact h
def jbt (b:Expr):Prop:=∀ o i,subscripted b false o i=operate [o,i] (getItem o i)
def IxR (X:Cx) (r:R2):Prop:=
 ∀ (value slice:Expr) (pins:List (Addr×Obj)) (s:Shared) (σ:St) (H:Hp) (x y:V) (v u:Value) (Q:VK),Inv X pins σ H s→RelV x v→RelV y u→r x y H Q→
  subscripted slice false v u=operate [v,u] (getItem v u)→wpAny (model X.prog X.w) X.A (subscriptTail value slice v u) (EP X pins σ Q) X.xe s
def MtR (X:Cx) (id:String) (r:V→List V→Hp→VK→Prop):Prop:=
 ∀ (pins:List (Addr×Obj)) (s:Shared) (σ:St) (H:Hp) (x:V) (xs:List V) (v:Value) (us:List Value) (Q:VK),Inv X pins σ H s→RelV x v→Vals xs us→r x xs H Q→
  wpAny (model X.prog X.w) X.A (call (.builtin id) (v :: us)) (EP X pins σ Q) X.xe s
section
variable {X:Cx} {a b:Expr} {ta tb:TE} {pos:Pos}
theorem jc0 {r:R2} (hr:IxR X r) (ha:PE X a ta) (hb:PE X b tb) (hs:jbt b):PE X (.Subscript a b pos) (tOp r ta tb):=by
 intro pins s σ H Q I h
 exact Subscript_ (jgk ha hb I h fun v u s2 x y H2 I2 rx ry q=>hr a b pins s2 σ H2 x y v u Q I2 rx ry q (hs _ _))
def jg2 (K:PySem.W.Frag):R2:=fun x y H Q=>∃ p xs i v,x=.ref p∧y=.int i∧SqL K H p xs∧atI xs i=some v∧Q v H
def jgE (K:PySem.W.Frag):R2:=fun x y H Q=>∃ p xs i v,x=.ref p∧y=.int i∧SqT K H p xs∧atI xs i=some v∧Q v H
def jg1:R2:=fun x y H Q=>∃ z i c,x=.str z∧y=.int i∧z.length≤sizeLine∧atI z.cps.toList i=some c∧Q (.str ⟨#[c]⟩) H
theorem jV:IxR X (jg2 X.K):=by
 intro value slice pins s σ H x y v u Q I rx ry h hs
 obtain ⟨p,xs,i,z,rfl,rfl,hq,he,q⟩:=h
 cases rx
 obtain ⟨t,rfl⟩:=ry
 obtain ⟨its,r,pl,hz⟩:=I.list hq
 obtain ⟨j,h1,h2,h3,h4,h5⟩:=YA he
 obtain ⟨w,ew,rw'⟩:=r.get h2
 have hl:=r.length
 have hn:=Ji
 have fin:EP X pins σ Q w s:=⟨z,H,I,rw',q⟩
 by_cases h0:0≤i
 ·have hj:i.toNat=j:=by
   rw [seqIndex_of h0 h5] at h1
   exact Option.some.inj h1
  exact item_listR pl.isList h0 (by omega) (by rw [hj];simpa using ew) fin hs
 ·have hj:(i+(its.toArray.size:Int)).toNat=j:=by
   rw [seqIndex_neg (by omega) h4] at h1
   rw [List.size_toArray,← hl]
   exact Option.some.inj h1
  exact subscriptTail_builtinR (x:=w) pl.isList.typeIs slot_list_getitem.lookup
   (wpAny_getItem_list_neg (Q:=fun r s'=>r=w∧EP X pins σ Q r s') pl.isList (by omega) (by rw [List.size_toArray] <;> omega) (by omega) (by rw [hj];simpa using ew) ⟨rfl,fin⟩) hs
theorem jY:IxR X (jgE X.K):=by
 intro value slice pins s σ H x y v u Q I rx ry h hs
 obtain ⟨p,xs,i,z,rfl,rfl,hq,he,q⟩:=h
 cases rx
 obtain ⟨t,rfl⟩:=ry
 obtain ⟨its,r,pl,hz⟩:=I.tuple hq
 obtain ⟨j,h1,h2,h3,h4,h5⟩:=YA he
 obtain ⟨w,ew,rw'⟩:=r.get h2
 have hl:=r.length
 have hn:=Ji
 have fin:EP X pins σ Q w s:=⟨z,H,I,rw',q⟩
 exact subscriptTail_builtinR (x:=w) pl.typeIs slot_tuple_getitem.lookup
  (getItem_tuple (j:=j) (Q:=fun r s'=>r=w∧EP X pins σ Q r s') pl (by omega) (by omega) (by rw [List.size_toArray,← hl];exact h1) (by simpa using ew) ⟨rfl,fin⟩) hs
theorem Yo:IxR X jg1:=by
 intro value slice pins s σ H x y v u Q I rx ry h hs
 obtain ⟨z,i,c,rfl,rfl,hz,he,q⟩:=h
 obtain ⟨t,rfl⟩:=rx
 obtain ⟨t',rfl⟩:=ry
 obtain ⟨j,h1,h2,h3,h4,h5⟩:=YA he
 have hl:z.cps.toList.length=z.length:=by simp [Str.length]
 rw [hl] at h1 h4 h5
 have hn:=Ji
 exact tail_any (typeIs_str s z t) slot_str_getitem.lookup (getItem_str (c:=c) (by
  have e1:decide (i < -(2 ^ 63:Int))=false:=decide_eq_false (by omega)
  have e2:decide (i ≥ 2 ^ 63)=false:=decide_eq_false (by omega)
  rw [e1,e2,Bool.or_false]) (by rw [h1];simpa using h2) ⟨.str ⟨#[c]⟩,H,I.tok _,⟨_,rfl⟩,q⟩) hs
theorem ZZ (its:List Value) (n j:Nat) (u:Value):Obj.mapSeq (·.setIfInBounds j u) { cls:=.type "list",data:=.seq its.toArray n }={ cls:=.type "list",data:=.seq (its.set j u).toArray n }:=by
 simp [Obj.mapSeq]
theorem Inv.lst {pins:List (Addr×Obj)} {σ:St} {H:Hp} {s:Shared} {p:Addr} {xs:List V} (I:Inv X pins σ H s) (h:H p=some (.lst xs)) :
  ∃ (its:List Value) (n:Nat),Vals xs its∧s.heap.get? p=some { cls:=.type "list",data:=.seq its.toArray n }∧xs.length≤sizeLine:=by
 obtain ⟨z,its,n,r,e⟩:=I.hok p _ h
 exact ⟨its,n,r,e,z⟩
theorem Inv.lstUpd {pins:List (Addr×Obj)} {σ:St} {H:Hp} {s:Shared} {p:Addr} {xs ys:List V} {its its':List Value} {n n':Nat} {f:Obj→Obj} (I:Inv X pins σ H s) (h:H p=some (.lst xs))
  (ho:s.heap.get? p=some { cls:=.type "list",data:=.seq its.toArray n }) (hf:f { cls:=.type "list",data:=.seq its.toArray n }={ cls:=.type "list",data:=.seq its'.toArray n' }) (r:Vals ys its') (hz:ys.length≤sizeLine) (t:Nat) :
  Inv X pins σ (upd H p (.lst ys)) { s with heap:=s.heap.update p f,toks:=t }:=by
 have e:(s.heap.update p f).get? p=some { cls:=.type "list",data:=.seq its'.toArray n' }:=by
  rw [Heap.get?_update_self f ho (by rw [hf] <;> rfl),hf]
 refine I.write (x:=p) (e:=p) (by rw [h];trivial) (.inl rfl) (fun b u hb q=>(Heap.get?_update_other _ _ (Ne.symm hb)).trans q) ⟨_,e⟩ ?_
 exact ⟨hz,its',n',r,e⟩
def jgD:V→V→V→Hp→(Hp→Prop)→Prop:=fun o i v H Q=>∃ p xs k j,o=.ref p∧i=.int k∧H p=some (.lst xs)∧ixN xs.length k=some j∧Q (upd H p (.lst (xs.set j v)))
theorem YR:jgm X jgD:=by
 intro pins s σ H o i v ov iv u Q I ro ri rv h
 obtain ⟨p,xs,k,j,rfl,rfl,hp,hj,q⟩:=h
 cases ro
 obtain ⟨t,rfl⟩:=ri
 obtain ⟨its,n,r,ho,hz⟩:=I.lst hp
 obtain ⟨h1,h2,h3,h4⟩:=ja8 hj
 have hl:=r.length
 have hn:=Ji
 have I':Inv X pins σ (upd H p (.lst (xs.set j v))) { s with heap:=s.heap.update p (Obj.mapSeq (·.setIfInBounds j u)) }:=
  I.lstUpd hp ho (ZZ its n j u) (r.set rv j) (by rw [List.length_set];exact hz) s.toks
 by_cases h0:0≤k
 ·have hk:k.toNat=j:=by
   rw [seqIndex_of h0 h4] at h1
   exact Option.some.inj h1
  exact PySem.W.ki_setAt ho h0 (by omega) (by rw [List.size_toArray,← hl];exact h4) (by rw [hk];exact ⟨_,I',q⟩)
 ·have hk:(k+(its.toArray.size:Int)).toNat=j:=by
   rw [seqIndex_neg (by omega) h3] at h1
   rw [List.size_toArray,← hl]
   exact Option.some.inj h1
  exact PySem.W.ki_setBack ho (by omega) (by rw [List.size_toArray,← hl];exact h3) (by omega) (by rw [hk];exact ⟨_,I',q⟩)
def yY:V→Bool
 | .non=>true
 | .bl _=>true
 | .int _=>true
 | .str _=>true
 | _=>false
def eqV:V→V→Bool
 | .non,.non=>true
 | .bl a,.bl b=>a == b
 | .bl a,.int b=>(if a then 1 else 0) == b
 | .int a,.bl b=>a == (if b then 1 else 0)
 | .int a,.int b=>a == b
 | .str a,.str b=>a == b
 | _,_=>false
theorem jgc {A:Around} {s:Shared} {y x:V} {u v:Value} (ry:RelV y u) (rx:RelV x v) (fy:yY y=true) (fx:yY x=true):SeqAt.EqAt A s u v (eqV y x):=by
 cases y with
 | non=>
  cases ry
  cases x with
  | non=>cases rx;exact SeqAt.EqAt.same _
  | bl b=>cases rx;exact SeqAt.EqAt.none_bool b
  | int b=>obtain ⟨t,rfl⟩:=rx;exact SeqAt.EqAt.none_int b t
  | str b=>obtain ⟨t,rfl⟩:=rx;exact SeqAt.EqAt.none_str b t
  | _=>exact absurd (show false=true from fx) Bool.false_ne_true
 | bl a=>
  cases ry
  cases x with
  | non=>cases rx;exact SeqAt.EqAt.bool_none a
  | bl b=>cases rx;exact SeqAt.EqAt.bool_bool a b
  | int b=>obtain ⟨t,rfl⟩:=rx;exact SeqAt.EqAt.bool_int a b t
  | str b=>obtain ⟨t,rfl⟩:=rx;exact SeqAt.EqAt.bool_str a b t
  | _=>exact absurd (show false=true from fx) Bool.false_ne_true
 | int a=>
  obtain ⟨t',rfl⟩:=ry
  cases x with
  | non=>cases rx;exact SeqAt.EqAt.int_none a t'
  | bl b=>cases rx;exact SeqAt.EqAt.int_bool a t' b
  | int b=>obtain ⟨t,rfl⟩:=rx;exact SeqAt.EqAt.int_int a t' b t
  | str b=>obtain ⟨t,rfl⟩:=rx;exact SeqAt.EqAt.int_str a t' b t
  | _=>exact absurd (show false=true from fx) Bool.false_ne_true
 | str a=>
  obtain ⟨t',rfl⟩:=ry
  cases x with
  | non=>cases rx;exact SeqAt.EqAt.str_none a t'
  | bl b=>cases rx;exact SeqAt.EqAt.str_bool a t' b
  | int b=>obtain ⟨t,rfl⟩:=rx;exact SeqAt.EqAt.str_int a t' b t
  | str b=>obtain ⟨t,rfl⟩:=rx;exact SeqAt.EqAt.str_str a t' b t
  | _=>exact absurd (show false=true from fx) Bool.false_ne_true
 | _=>exact absurd (show false=true from fy) Bool.false_ne_true
def eqU (x:V) (u:Value):Bool:=match u with
 | .none=>eqV .non x
 | .bool b=>eqV (.bl b) x
 | .int i _=>eqV (.int i) x
 | .str z _=>eqV (.str z) x
 | _=>false
theorem jdA {x y:V} {u:Value} (r:RelV y u) (f:yY y=true):eqU x u=eqV y x:=by
 cases y with
 | non=>cases r;rfl
 | bl b=>cases r;rfl
 | int i=>obtain ⟨t,rfl⟩:=r;rfl
 | str z=>obtain ⟨t,rfl⟩:=r;rfl
 | _=>exact absurd (show false=true from f) Bool.false_ne_true
theorem Jb {x:V}:∀ {xs:List V} {us:List Value},Vals xs us→xs.all yY=true→us.any (eqU x)=xs.any fun y=>eqV y x
 | _,_,.nil,_=>rfl
 | y :: xs,u :: us,.cons r t,f=>by
  rw [List.all_cons,Bool.and_eq_true] at f
  rw [List.any_cons,List.any_cons,jdA r f.1,Jb t f.2]
theorem zO {A:Around} {s:Shared} {x:V} {v:Value} (rx:RelV x v) (fx:yY x=true):∀ {xs:List V} {us:List Value},Vals xs us→xs.all yY=true→∀ u∈us,SeqAt.EqAt A s u v (eqU x u)
 | _,_,.nil,_=>fun u hu=>by cases hu
 | y :: xs,u :: us,.cons r t,f=>fun u' hu=>by
  rw [List.all_cons,Bool.and_eq_true] at f
  rcases List.mem_cons.mp hu with rfl | hu
  ·rw [jdA r f.1];exact jgc r rx f.1 fx
  ·exact zO rx fx t f.2 u' hu
def inV (x:V) (xs:List V):Bool:=xs.any fun y=>eqV y x
def rIn (K:PySem.W.Frag) (neg:Bool):R2:=fun x y H Q=>∃ p xs,y=.ref p∧(SqL K H p xs∨SqT K H p xs)∧yY x=true∧xs.all yY=true∧Q (.bl (if neg then !inV x xs else inV x xs)) H
theorem jbJ:OpR X (compareOp .In) (rIn X.K false):=by
 intro pins s σ H x y v u Q I rx ry h
 obtain ⟨p,xs,rfl,hq,fx,fs,q⟩:=h
 cases ry
 rcases hq with hq | hq
 ·obtain ⟨its,r,pl,hz⟩:=I.list hq
  refine SeqAt.in_listAt (eqU x) pl.isList (fun w hw=>zO rx fx r fs w (by simpa using hw)) ⟨.bl _,H,I,rfl,?_⟩
  rw [show its.toArray.any (eqU x)=its.any (eqU x) by simp,Jb r fs]
  exact q
 ·obtain ⟨its,r,pl,hz⟩:=I.tuple hq
  refine SeqAt.in_tupleAt (eqU x) pl (fun w hw=>zO rx fx r fs w (by simpa using hw)) ⟨.bl _,H,I,rfl,?_⟩
  rw [show its.toArray.any (eqU x)=its.any (eqU x) by simp,Jb r fs]
  exact q
theorem Yj:OpR X (compareOp .NotIn) (rIn X.K true):=by
 intro pins s σ H x y v u Q I rx ry h
 obtain ⟨p,xs,rfl,hq,fx,fs,q⟩:=h
 cases ry
 rcases hq with hq | hq
 ·obtain ⟨its,r,pl,hz⟩:=I.list hq
  refine SeqAt.notIn_listAt (eqU x) pl.isList (fun w hw=>zO rx fx r fs w (by simpa using hw)) ⟨.bl _,H,I,rfl,?_⟩
  rw [show its.toArray.any (eqU x)=its.any (eqU x) by simp,Jb r fs]
  exact q
 ·obtain ⟨its,r,pl,hz⟩:=I.tuple hq
  refine SeqAt.notIn_tupleAt (eqU x) pl (fun w hw=>zO rx fx r fs w (by simpa using hw)) ⟨.bl _,H,I,rfl,?_⟩
  rw [show its.toArray.any (eqU x)=its.any (eqU x) by simp,Jb r fs]
  exact q
theorem jK:qt X (.builtin "len") (fun xs H Q=>∃ p ys,xs=[.ref p]∧(SqL X.K H p ys∨SqT X.K H p ys)∧Q (.int ys.length) H):=by
 intro pins s σ H xs us Q I r h
 obtain ⟨p,ys,rfl,hq,q⟩:=h
 obtain ⟨u,rfl,rx⟩:=qz r
 cases rx
 have hn:=Ji
 rcases hq with hq | hq
 ·obtain ⟨its,r',pl,hz⟩:=I.list hq
  have hlen:=r'.length
  exact Calls.call_len_list pl.isList (by simp only [List.size_toArray] <;> omega) ⟨.int ys.length,H,I.tok _,⟨s.toks+1,by rw [List.size_toArray,hlen]⟩,q⟩
 ·obtain ⟨its,r',pl,hz⟩:=I.tuple hq
  have hlen:=r'.length
  exact len_tuple pl (by simp only [List.size_toArray] <;> omega) ⟨.int ys.length,H,I.tok _,⟨s.toks+1,by rw [List.size_toArray,hlen]⟩,q⟩
theorem qx:qt X (.builtin "len") (fun xs H Q=>∃ z,xs=[.str z]∧z.length≤sizeLine∧Q (.int z.length) H):=by
 intro pins s σ H xs us Q I r h
 obtain ⟨z,rfl,hz,q⟩:=h
 obtain ⟨u,rfl,t,rfl⟩:=qz r
 have hn:=Ji
 exact len_str (by omega) ⟨.int z.length,H,I.tok _,⟨_,rfl⟩,q⟩
def tyV (K:PySem.W.Frag) (T:String) (x:V) (H:Hp):Prop:=match x with
 | .str _=>T = "str"
 | .int _=>T = "int"
 | .ref p=>(T = "list"∧∃ xs,SqL K H p xs)∨(T = "tuple"∧∃ o,K.lookup p=some o∧o.cls=.type "tuple"∧o.dict=none)∨
   (T = "dict"∧((∃ kvs,H p=some (.dK kvs))∨∃ kvs,H p=some (.dT kvs)))∨(T = "set"∧∃ S n,H p=some (.set S n))
 | _=>False
theorem jct {pins:List (Addr×Obj)} {σ:St} {H:Hp} {s:Shared} {T:String} {x:V} {v:Value} (I:Inv X pins σ H s) (r:RelV x v) (ty:tyV X.K T x H) :
  s.TypeIs v T∧∀ a,v=.ref a→∃ ob,s.heap.get? a=some ob∧ob.dict=none:=by
 cases x with
 | str z=>
  obtain ⟨t,rfl⟩:=r
  cases (show T = "str" from ty)
  exact ⟨typeIs_str s z t,fun _ e=>nomatch e⟩
 | int i=>
  obtain ⟨t,rfl⟩:=r
  cases (show T = "int" from ty)
  exact ⟨typeIs_int s i t,fun _ e=>nomatch e⟩
 | ref p=>
  cases r
  rcases ty with ⟨rfl,xs,hq⟩ | ⟨rfl,o,hk,hc,hd⟩ | ⟨rfl,hk⟩ | ⟨rfl,S,n,hk⟩
  ·obtain ⟨its,_,pl,_⟩:=I.list hq
   refine ⟨pl.isList.typeIs,fun a e=>?_⟩
   cases e
   obtain ⟨o,n,e,c,hd,_⟩:=pl
   exact ⟨o,e,hd⟩
  ·refine ⟨⟨o,I.kIn p o hk,hc⟩,fun a e=>?_⟩
   cases e
   exact ⟨o,I.kIn _ o hk,hd⟩
  ·have z:∃ o,s.heap.get? p=some o∧o.ExactDict:=by
    rcases hk with ⟨kvs,hk⟩ | ⟨kvs,hk⟩
    ·obtain ⟨_,_,_,_,o,_,_,e,ex,_⟩:=I.hok p _ hk
     exact ⟨o,e,ex⟩
    ·obtain ⟨_,_,_,_,o,_,_,e,ex,_⟩:=I.hok p _ hk
     exact ⟨o,e,ex⟩
   obtain ⟨o,e,ex⟩:=z
   refine ⟨⟨o,e,ex.1⟩,fun a e2=>?_⟩
   cases e2
   exact ⟨o,e,ex.2.1⟩
  ·obtain ⟨o,_,_,_,e,ex,_⟩:=I.hok p _ hk
   refine ⟨⟨o,e,ex.1⟩,fun a e2=>?_⟩
   cases e2
   exact ⟨o,e,ex.2.1⟩
 | _=>exact False.elim ty
def jgz (K:PySem.W.Frag) (T:String) (r:V→List V→Hp→VK→Prop) (to:TE):TE:=fun σ H Q=>to σ H fun x H1=>tyV K T x H1∧r x [] H1 Q
def tBM (K:PySem.W.Frag) (T:String) (r:V→List V→Hp→VK→Prop) (to:TE) (t:TA):TE:=fun σ H Q=>to σ H fun x H1=>tyV K T x H1∧t σ H1 fun xs H2=>r x xs H2 Q
variable {o e:Expr} {es:List Expr} {to:TE} {t:TA} {name:Str} {apos cpos:Pos} {T id:String} {r:V→List V→Hp→VK→Prop}
theorem jfW (pa:PlainAttrs T) (slot:Slot T name id) (hty:typeOf (.builtin id)=pure (.type "method_descriptor")) (hm:MtR X id r) (ho:PE X o to)
  (hbase:attributeBase o name X.env (eval o X.env)=eval o X.env:=by rfl) (hline:(apos.endLine == cpos.line)=true:=by rfl):PE X (.Call (.Attribute o name apos) [] [] cpos) (jgz X.K T r to):=by
 intro pins s σ H Q I h
 refine wpAny_Call_method0_late hbase hline (thn (ho pins s σ H _ I h) fun v s1 ⟨x,H1,I1,r1,ty,q1⟩=>?_)
 obtain ⟨h1,h2⟩:=jct I1 r1 ty
 exact ⟨T,id,pa,slot,hty,h1,h2,Calls.callWith_builtin rfl (PySem.evalArgs_none (hm pins s1 σ H1 x [] v [] Q I1 r1 .nil q1))⟩
theorem jgK (pa:PlainAttrs T) (slot:Slot T name id) (hty:typeOf (.builtin id)=pure (.type "method_descriptor")) (hm:MtR X id r) (ho:PE X o to) (ha:PA X (e :: es) t)
  (hbase:attributeBase o name X.env (eval o X.env)=eval o X.env:=by rfl)
  (hfew:((backTo cpos (starEach (e :: es) X.env)).all (fun x=>!x.1) && (backToKw cpos (keywordEach [] X.env)).all (fun x=>x.1.isSome)
   && decide ((e :: es).length+([]:List Keyword).length+(if ([]:List Keyword).isEmpty then 0 else 1) < 30))=true:=by rfl)
  (hline:(apos.endLine == cpos.line)=true:=by rfl) (hs:starEach (e :: es) X.env=(false,eval e X.env) :: starEach es X.env:=by rfl) (hplain:(backTo cpos (starEach es X.env)).any (·.1)=false:=by rfl) :
  PE X (.Call (.Attribute o name apos) (e :: es) [] cpos) (tBM X.K T r to t):=by
 intro pins s σ H Q I h
 refine wpAny_Call_method_late hbase hfew hline rfl (thn (ho pins s σ H _ I h) fun v s1 ⟨x,H1,I1,r1,ty,q1⟩=>?_)
 obtain ⟨h1,h2⟩:=jct I1 r1 ty
 refine ⟨T,id,pa,slot,hty,h1,h2,?_⟩
 have hA:=ha cpos pins s1 σ H1 _ I1 q1
 rw [hs] at hA ⊢
 refine Calls.callWith_builtin (by show (false || (backTo cpos (starEach es X.env)).any (·.1))=false;rw [hplain] <;> rfl) (Calls.evalArgs_plain ?_)
 exact thn hA fun us s2 ⟨vs,H2,I2,r2,q2⟩=>hm pins s2 σ H2 x vs v us Q I2 r1 r2 q2
end
def MtM (X:Cx) (id:String) (r:V→List V→Hp→VK→Prop):Prop:=
 ∀ (pins:List (Addr×Obj)) (s:Shared) (σ:St) (H:Hp) (x:V) (xs:List V) (v:Value) (us:List Value) (Q:VK),Inv X pins σ H s→RelV x v→Vals xs us→r x xs H Q→
  wpAny (model X.prog X.w) X.A (call (.builtin id) (v :: us)) (EP X pins σ Q) X.xe s
theorem Vals.one:∀ {x:V} {us:List Value},Vals [x] us→∃ u,us=[u]∧RelV x u
 | _,_,.cons r .nil=>⟨_,rfl,r⟩
theorem Vals.dropLast {xs:List V} {us:List Value} (h:Vals xs us):Vals xs.dropLast us.dropLast:=by
 induction h with
 | nil=>exact .nil
 | cons r t ih=>
  cases t with
  | nil=>exact .nil
  | cons q t'=>exact .cons r ih
theorem Vals.reverse {xs:List V} {us:List Value} (h:Vals xs us):Vals xs.reverse us.reverse:=by
 induction h with
 | nil=>exact .nil
 | cons r t ih=>rw [List.reverse_cons,List.reverse_cons];exact Vals.append ih (.cons r .nil)
section
variable {X:Cx} {pins:List (Addr×Obj)} {σ:St} {H:Hp} {s:Shared} {l b:Addr} {xs ys zs:List V}
theorem Inv.lset {its its':List Value} {n:Nat} {f:Array Value→Array Value} {t':Nat} (I:Inv X pins σ H s) (hH:H l=some (.lst xs))
  (e:s.heap.get? l=some { cls:=.type "list",data:=.seq its.toArray n }) (hf:f its.toArray=its'.toArray) (hv:Vals ys its') (hz:ys.length≤sizeLine) :
  Inv X pins σ (upd H l (.lst ys)) { s with heap:=s.heap.update l (Obj.mapSeq f),toks:=t' }:=by
 have q:=PySem.IsL.update e f
 rw [hf] at q
 refine I.write (x:=l) (e:=l) (by rw [hH];exact trivial) (.inl rfl) (fun b' u hb hu=>(Heap.get?_update_other s.heap (Obj.mapSeq f) (Ne.symm hb)).trans hu) ⟨_,q⟩ ?_
 exact ⟨hz,its',_,hv,q⟩
theorem Inv.lnew {its:List Value} {t':Nat} (I:Inv X pins σ H s) (hv:Vals ys its) (hz:ys.length≤sizeLine) :
  Inv X pins σ (upd H s.heap.objs.size (.lst ys)) { s with heap:=s.heap.push { cls:=.type "list",data:=.seq its.toArray },toks:=t' }:=
 I.laid (fun _ _ q=>Heap.get?_push_of_some _ q) (Nat.le_refl _) ⟨hz,its,0,hv,Heap.get?_push_size _ rfl⟩
theorem Inv.fresh (I:Inv X pins σ H s):H s.heap.objs.size=none:=I.hok.fresh (Nat.le_refl _)
theorem Inv.lstM (I:Inv X pins σ H s) (hH:H l=some (.lst xs)):xs.length≤sizeLine∧∃ (its:List Value) (n:Nat),Vals xs its∧xs.length=its.length∧s.heap.get? l=some { cls:=.type "list",data:=.seq its.toArray n }:=by
 obtain ⟨z,its,n,r,e⟩:=I.hok l _ hH
 exact ⟨z,its,n,r,r.length,e⟩
theorem jdh {n:Nat} (h:n≤sizeLine):Builtin.List.listTooLong n=false:=by
 unfold Builtin.List.listTooLong
 exact decide_eq_false (by omega)
end
section
variable {X:Cx}
def jec:V→List V→Hp→VK→Prop:=fun x vs H Q=>∃ l xs y,x=.ref l∧vs=[y]∧H l=some (.lst xs)∧xs.length < sizeLine∧Q .non (upd H l (.lst (xs++[y])))
theorem Jh:MtM X "list.append" jec:=by
 intro pins s σ H x vs v us Q I rx rv h
 obtain ⟨l,xs,y,rfl,rfl,hH,hz,q⟩:=h
 cases rx
 obtain ⟨u,rfl,ru⟩:=rv.one
 obtain ⟨z,its,n,r,hl,e⟩:=I.lstM hH
 refine call_meets F.slot_list_append ⟨_,e,rfl⟩ F.entry_list_append (F.args_list_append_2 _ _) (PySem.list_append l its.toArray n u (by rw [List.size_toArray];omega)) ⟨e,?_⟩
 refine ⟨.non,_,I.lset (its':=its++[u]) hH e (by simp) (r.append (.cons ru .nil)) ?_,rfl,q⟩
 rw [List.length_append,List.length_singleton]
 omega
def jeb:V→List V→Hp→VK→Prop:=fun x vs H Q=>∃ l b xs zs,x=.ref l∧vs=[.ref b]∧H l=some (.lst xs)∧H b=some (.lst zs)∧xs.length+zs.length≤sizeLine∧Q .non (upd H l (.lst (xs++zs)))
theorem jgp:MtM X "list.extend" jeb:=by
 intro pins s σ H x vs v us Q I rx rv h
 obtain ⟨l,b,xs,zs,rfl,rfl,hH,hB,hz,q⟩:=h
 cases rx
 obtain ⟨u,rfl,ru⟩:=rv.one
 cases ru
 obtain ⟨z,its,n,r,hl,e⟩:=I.lstM hH
 obtain ⟨z2,its2,n2,r2,hl2,e2⟩:=I.lstM hB
 have hsz:its.toArray.size+its2.toArray.size≤sizeLine:=by rw [List.size_toArray,List.size_toArray];omega
 have hlong:¬ (!its.toArray.isEmpty && Builtin.List.listTooLong (its.toArray.size+its2.toArray.size))=true:=by
  rw [jdh hsz,Bool.and_false]
  exact Bool.false_ne_true
 refine call_meets F.slot_list_extend ⟨_,e,rfl⟩ F.entry_list_extend (F.args_list_extend_2 _ _)
  (AutoSeq1.list_extend_list_list_0 l its.toArray n b its2.toArray n2 hlong (by rw [List.size_toArray];omega) (by omega)) ⟨e,e2,?_⟩
 refine ⟨.non,_,I.lset (its':=its++its2) hH e (by simp) (r.append r2) ?_,rfl,q⟩
 rw [List.length_append]
 omega
def jg3:R2:=fun x y H Q=>∃ l b xs zs,x=.ref l∧y=.ref b∧H l=some (.lst xs)∧H b=some (.lst zs)∧xs.length+zs.length≤sizeLine∧∀ p,H p=none→Q (.ref p) (upd H p (.lst (xs++zs)))
theorem ZR:OpR X (binaryOp .Add) jg3:=by
 intro pins s σ H x y v u Q I rx ry h
 obtain ⟨l,b,xs,zs,rfl,rfl,hH,hB,hz,q⟩:=h
 cases rx
 cases ry
 obtain ⟨z,its,n,r,hl,e⟩:=I.lstM hH
 obtain ⟨z2,its2,n2,r2,hl2,e2⟩:=I.lstM hB
 refine PySem.P.add_list e e2 ?_ (by rw [List.size_toArray,List.size_toArray];omega)
 have ea:its.toArray++its2.toArray=(its++its2).toArray:=by simp
 rw [ea]
 exact ⟨.ref _,_,I.lnew (t':=s.toks) (r.append r2) (by rw [List.length_append];omega),rfl,q _ I.fresh⟩
end
section
variable {κ:Type} [DecidableEq κ]
def Js (kvs:List (κ×V)) (k:κ):Option V:=(kvs.find? fun kv=>decide (kv.1=k)).map (·.2)
def YZ (kvs:List (κ×V)) (k:κ) (v:V):List (κ×V):=
 if (kvs.any fun kv=>decide (kv.1=k))=true then kvs.map (fun kv=>if kv.1=k then (kv.1,v) else kv) else kvs++[(k,v)]
theorem JV {p:κ×V} {r:List (κ×V)} {k:κ} (e:p.1=k):Js (p :: r) k=some p.2:=by simp [Js,List.find?_cons,e]
theorem JW {p:κ×V} {r:List (κ×V)} {k:κ} (e:¬ p.1=k):Js (p :: r) k=Js r k:=by simp [Js,List.find?_cons,e]
theorem YF (k:κ):∀ kvs:List (κ×V),(kvs.any fun kv=>decide (kv.1=k))=(Js kvs k).isSome
 | []=>rfl
 | p :: r=>by
  rw [List.any_cons]
  by_cases e:p.1=k
  ·simp only [JV e,decide_eq_true e,Bool.true_or,Option.isSome_some]
  ·rw [JW e,decide_eq_false e,Bool.false_or];exact YF k r
theorem RelO.isSome_eq {o:Option V} {u:Option Value} (r:RelO o u):o.isSome=u.isSome:=by
 cases o with
 | none=>cases u with
  | none=>rfl
  | some _=>exact (show False from r).elim
 | some _=>cases u with
  | none=>exact (show False from r).elim
  | some _=>rfl
theorem RelO.getD {o:Option V} {u:Option Value} {d:V} {d':Value} (r:RelO o u) (rd:RelV d d'):RelV (o.getD d) (u.getD d'):=by
 cases o with
 | none=>cases u with
  | none=>exact rd
  | some _=>exact (show False from r).elim
 | some _=>cases u with
  | none=>exact (show False from r).elim
  | some _=>exact r
theorem KV.val {kvs:List (κ×V)} {vs:List (κ×Value)} (r:KV kvs vs) (k:κ):RelO (Js kvs k) (valueAt vs k):=by
 unfold KV at r
 induction r with
 | nil=>exact True.intro
 | @cons p q ps qs h t ih=>
  obtain ⟨h1,h2⟩:=h
  by_cases e:p.1=k
  ·have e':q.1=k:=h1.symm.trans e
   have b:valueAt (q :: qs) k=some q.2:=by simp [valueAt,List.find?_cons,e']
   rw [JV e,b];exact h2
  ·have e':¬ q.1=k:=fun z=>e (h1.trans z)
   have b:valueAt (q :: qs) k=valueAt qs k:=by simp [valueAt,List.find?_cons,e']
   rw [JW e,b];exact ih
theorem KV.any {kvs:List (κ×V)} {vs:List (κ×Value)} (r:KV kvs vs) (k:κ):(kvs.any fun kv=>decide (kv.1=k))=vs.any fun kv=>decide (kv.1=k):=by
 unfold KV at r
 induction r with
 | nil=>rfl
 | cons h t ih=>rw [List.any_cons,List.any_cons,ih,h.1]
theorem KV.repl {kvs:List (κ×V)} {vs:List (κ×Value)} (r:KV kvs vs) (k:κ) {y:V} {u:Value} (ry:RelV y u) :
  KV (kvs.map fun kv=>if kv.1=k then (kv.1,y) else kv) (vs.map fun kv=>if kv.1=k then (kv.1,u) else kv):=by
 unfold KV at r ⊢
 induction r with
 | nil=>exact .nil
 | @cons p q ps qs h t ih=>
  rw [List.map_cons,List.map_cons]
  refine .cons ?_ ih
  obtain ⟨h1,h2⟩:=h
  by_cases e:p.1=k
  ·rw [if_pos e,if_pos (h1.symm.trans e)];exact ⟨h1,ry⟩
  ·rw [if_neg e,if_neg (fun z=>e (h1.trans z))];exact ⟨h1,h2⟩
theorem KV.put {kvs:List (κ×V)} {vs:List (κ×Value)} (r:KV kvs vs) (k:κ) {y:V} {u:Value} (ry:RelV y u):KV (YZ kvs k y) (stored vs k u):=by
 unfold YZ stored
 rw [r.any k]
 by_cases e:(vs.any fun kv=>decide (kv.1=k))=true
 ·rw [if_pos e,if_pos e];exact r.repl k ry
 ·rw [if_neg e,if_neg e];exact Paired.snoc r ⟨rfl,ry⟩
theorem KV.keys {kvs:List (κ×V)} {vs:List (κ×Value)} (r:KV kvs vs):kvs.map (·.1)=vs.map (·.1):=by
 unfold KV at r
 induction r with
 | nil=>rfl
 | cons h t ih=>rw [List.map_cons,List.map_cons,ih,h.1]
end
abbrev KT (H:Hp):List (List Key×V)→List (List Key×Addr×Value)→Prop:=Paired fun p q=>p.1=q.1∧H q.2.1=some (.tup (p.1.map kV))∧RelV p.2 q.2.2
theorem KT.val {H:Hp} {kvs:List (List Key×V)} {xs:List (List Key×Addr×Value)} (r:KT H kvs xs) (k:List Key):RelO (Js kvs k) ((atKey xs k).map (·.2)):=by
 induction r with
 | nil=>exact True.intro
 | @cons p q ps qs h t ih=>
  obtain ⟨h1,_,h2⟩:=h
  by_cases e:p.1=k
  ·have e':q.1=k:=h1.symm.trans e
   have b:atKey (q :: qs) k=some q.2:=by simp [atKey,List.find?_cons,e']
   rw [JV e,b];exact h2
  ·have e':¬ q.1=k:=fun z=>e (h1.trans z)
   have b:atKey (q :: qs) k=atKey qs k:=by simp [atKey,List.find?_cons,e']
   rw [JW e,b];exact ih
theorem KT.repl {H:Hp} {kvs:List (List Key×V)} {xs:List (List Key×Addr×Value)} (r:KT H kvs xs) (k:List Key) {y:V} {u:Value} (ry:RelV y u) :
  KT H (kvs.map fun kv=>if kv.1=k then (kv.1,y) else kv) (xs.map (putAt k u)):=by
 induction r with
 | nil=>exact .nil
 | @cons p q ps qs h t ih=>
  rw [List.map_cons,List.map_cons]
  refine .cons ?_ ih
  obtain ⟨h1,h2,h3⟩:=h
  unfold putAt
  by_cases e:p.1=k
  ·rw [if_pos e,if_pos (h1.symm.trans e)];exact ⟨h1,h2,ry⟩
  ·rw [if_neg e,if_neg (fun z=>e (h1.trans z))];exact ⟨h1,h2,h3⟩
theorem KT.put {H:Hp} {kvs:List (List Key×V)} {xs:List (List Key×Addr×Value)} (r:KT H kvs xs) (k:List Key) {b:Addr} {y:V} {u:Value} (hb:H b=some (.tup (k.map kV))) (ry:RelV y u) :
  KT H (YZ kvs k y) (storedH xs k b u):=by
 have e:(kvs.any fun kv=>decide (kv.1=k))=(atKey xs k).isSome:=by
  rw [YF,(r.val k).isSome_eq,Option.isSome_map]
 unfold YZ storedH
 rw [e]
 by_cases q:(atKey xs k).isSome=true
 ·rw [if_pos q,if_pos q];exact r.repl k ry
 ·rw [if_neg q,if_neg q];exact Paired.snoc r ⟨rfl,hb,ry⟩
theorem KT.keeps {H H':Hp} {kvs:List (List Key×V)} {xs:List (List Key×Addr×Value)} (r:KT H kvs xs) (ht:∀ b ys,H b=some (.tup ys)→H' b=some (.tup ys)):KT H' kvs xs:=
 Paired.mapP r fun _ _ z=>⟨z.1,ht _ _ z.2.1,z.2.2⟩
def DGet (H:Hp) (a:Addr) (y:V) (r:Option V):Prop:=
 (∃ kvs k,Rd H a (.dK kvs)∧y=kV k∧r=Js kvs k)∨∃ kvs k b,Rd H a (.dT kvs)∧y=.ref b∧H b=some (.tup (k.map kV))∧r=Js kvs k
def DPut (H:Hp) (a:Addr) (y v:V) (H':Hp):Prop:=
 (∃ kvs k,H a=some (.dK kvs)∧y=kV k∧kvs.length < sizeLine∧H'=upd H a (.dK (YZ kvs k v)))∨
 ∃ kvs k b,H a=some (.dT kvs)∧y=.ref b∧H b=some (.tup (k.map kV))∧kvs.length < sizeLine∧H'=upd H a (.dT (YZ kvs k v))
theorem DGet.k {H:Hp} {a:Addr} {kvs:List (Key×V)} {k:Key} (e:H a=some (.dK kvs)):DGet H a (kV k) (Js kvs k):=.inl ⟨kvs,k,.inl e,rfl,rfl⟩
theorem DGet.t {H:Hp} {a b:Addr} {kvs:List (List Key×V)} {k:List Key} (e:H a=some (.dT kvs)) (eb:H b=some (.tup (k.map kV))):DGet H a (.ref b) (Js kvs k):=.inr ⟨kvs,k,b,.inl e,rfl,eb,rfl⟩
theorem DPut.k {H:Hp} {a:Addr} {kvs:List (Key×V)} {k:Key} {v:V} (e:H a=some (.dK kvs)) (hl:kvs.length < sizeLine):DPut H a (kV k) v (upd H a (.dK (YZ kvs k v))):=.inl ⟨kvs,k,e,rfl,hl,rfl⟩
theorem DPut.t {H:Hp} {a b:Addr} {kvs:List (List Key×V)} {k:List Key} {v:V} (e:H a=some (.dT kvs)) (eb:H b=some (.tup (k.map kV))) (hl:kvs.length < sizeLine) :
  DPut H a (.ref b) v (upd H a (.dT (YZ kvs k v))):=.inr ⟨kvs,k,b,e,rfl,eb,hl,rfl⟩
end L2
namespace Att
open PySem PySem.W PySem.Calls PyProof.Rows
theorem Ju {P:Params} {h:Heap}:∀ (ns:List Int) (vs:List Value),WellAll P h vs (ns.map WData.int)→IntsAre vs ns:=by
 intro ns
 induction ns with
 | nil=>
  intro vs w
  rw [List.map_nil] at w
  cases w
  exact .nil
 | cons n ns ih=>
  intro vs w
  rw [List.map_cons] at w
  cases w with
  | cons a b=>
   cases a
   exact .cons _ _ (ih _ b)
theorem jbD {l:OpenLaw} {n:Nat} (hn:l.most=some n) {P:Params} {h:Heap} {args:List WData} {vals:List Value}
  (hpre:l.row.toRowW.claim.pre args=true) (hwl:WellAll P h vals args) :
  ∃ a vs ns,vals=[Value.ref a]∧args=[WData.list (ns.map WData.int)]∧h.get? a=some { cls:=.type "list",data:=.seq vs.toArray }∧IntsAre vs ns∧ns.length≤n:=by
 have hsh:WShape.hasAll [] args [.list .int]=true:=(pre_splitW hpre).1
 have hc:l.pre.holds [] { args:=args }=true:=(pre_splitW hpre).2
 obtain ⟨d,r,rfl,h1,h2⟩:=hasAllW_cons hsh
 obtain rfl:=hasAllW_nil h2
 obtain ⟨xs,rfl,h3⟩:=hasW_list h1
 obtain ⟨ns,rfl⟩:=items_int h3
 have hlen:ns.length≤n:=by
  unfold OpenLaw.pre at hc
  have h4:(WTm.not (.lt (.lit (.int (n:Int))) (.len (.arg 0)))).holds [] { args:=[.list (ns.map .int)] }=true:=by
   have h4:=(holds_andW hc).1
   rw [hn] at h4
   exact h4
  have h5:=condW_of h4 (w_not (w_lt w_lit (w_len_list (w_arg rfl))))
  rw [List.length_map] at h5
  refine Nat.le_of_not_lt fun q=>?_
  have q':(n:Int) < ((ns.length:Nat):Int):=by omega
  first
   | (rw [decide_eq_true q'] at h5;exact absurd h5 (by decide))
   | (simp at h5;omega)
 cases hwl with
 | cons w1 w2=>
  cases w2
  cases w1 with
  | list ho hall=>exact ⟨_,_,ns,rfl,rfl,ho,Ju ns _ hall,hlen⟩
theorem jbF (l:OpenLaw) (args:List WData):l.row.toRowW.claim.post args (.bool true) args=true:=
 postW_of (r:=l.row.toRowW) (X:=(true == true))
  (show WShape.has [] (.bool true) .bool=true by first | rfl | decide | simp [WShape.has,WShape.arms,WShape.armsAll])
  (show (WTm.eq .res (.lit (.bool true))).value [] { args:=args,res:=some (.bool true),after:=args }=some (.bool (true == true)) from w_eq_bool (w_res rfl) w_lit) rfl
theorem attach_call {l:OpenLaw} {n:Nat} {q:Program} {loose:List Str} {XP:(Str→Option Value)→Heap→Prop} {YP:World→Heap→Prop} {d:DefRec}
  (hn:l.most=some n) (hdf:d.params.defaults=[])
  (call:∀ (w:World) (s₀ s₁:Shared) (mg mb:Str→Option Value) (fa:Addr) (o:Obj) (pm cd doc:Value) (a:Addr) (vs:List Value) (ns:List Int),
   Ground q loose [] XP w s₀ mg mb s₁.heap→YP w s₁.heap→
   s₁.heap.get? fa=some o→o.data=.func (docDef d.name d.params d.body d.scope pm cd doc)→s₁.heap.CodeRec cd d.name→mg d.name=some (.ref fa)→
   s₁.heap.get? a=some { cls:=.type "list",data:=.seq vs.toArray }→IntsAre vs ns→ns.length≤n→s₁.gens=#[]→
   codeAny (model l.prog w) callerA (.call (.ref fa) ⟨[.ref a],[]⟩) (fun r s'=>r=.ok (.ret (.bool true))∧OldK s₁.heap s'.heap∧s'.os=s₁.os∧AllBare s'.gens) s₁) :
  WalkO q loose XP YP l.row.toRowW d [] (fun f vs=>PySem.call f vs):=by
 intro w s₀ s₁ mg mb G Y fa o pm cd doc dV kV ho hd hcd hD hmg hg args vals as hpre hlay hrd hwl hlo
 obtain rfl:dV=.none:=Dflts.none hD hdf
 obtain rfl:kV=.none:=Dflts.noKw hD
 obtain ⟨a,vs,ns,rfl,rfl,hobj,hints,hlen⟩:=jbD hn hpre hwl
 refine enter_call (codeAny_mono (call w s₀ s₁ mg mb fa o pm cd doc a vs ns G Y ho (fd_plain hd) hcd hmg hobj hints hlen hg) fun r s' hq=>?_)
 obtain ⟨rfl,h2,h3,h4⟩:=hq
 exact ⟨.inl ⟨.bool true,.bool true,[],rfl,fun _=>rfl,.bool true,jbF l _,fun _=>⟨List.Pairwise.nil,fun _ hm=>(nomatch hm)⟩⟩,h2,h3,h4⟩
end Att
namespace L2
open PySem PySem.Spec PyProof.Rows
theorem Kz:∀ {vs:List Value} {ns:List Int},IntsAre vs ns→Vals (ns.map V.int) vs
 | _,_,.nil=>.nil
 | _,_,.cons n t h=>.cons ⟨t,rfl⟩ (Kz h)
def jgn (H:Hp):Prop:=∀ b,H b=none∨∃ o xs,H b=some (.frz o (.lst xs))
theorem jdq {P:Program} {w:World} {K:PySem.W.Frag} {mg mb:Str→Option Value} {CX:CXT} {k:Nat} {fa a:Addr} {fd:FuncData} {x:Str} {sp:Sp} {s₁:Shared} {vs:List Value} {ns:List Int}
  (KX:K.In s₁.heap) (hns:s₁.heap.Ns mainGlobals mg) (hb:s₁.heap.Ns builtinsNs mb) (hbb:∀ x:Str,x≠"__name__"→mb x=bootBuiltins x) (hlim:s₁.heap.NoLimit) (hg:s₁.gens=#[])
  (ha:s₁.heap.get? a=some { cls:=.type "list",data:=.seq vs.toArray }) (hi:IntsAre vs ns) (hl:ns.length≤sizeLine) (hr:Room k callerA)
  (F:∀ base:Heap,K.In base→base.Ns mainGlobals mg→FnOk P w K mg base CX k fa fd [x] sp) (hbind:∀ (s:Shared) (u:Value),BindsTo s fd ⟨[u],[]⟩ [(x,u)])
  (hsp:∀ H:Hp,jgn H→SqL K H a (ns.map V.int)→sp [.ref a] H (fun v _=>v=.bl true) fun _ _ _=>False)
  (hCX:∀ H e s',CX [] H s₁ (fun _ _ _=>False) e s'→False) :
  codeAny (model P w) callerA (.call (.ref fa) ⟨[.ref a],[]⟩) (fun r s'=>r=.ok (.ret (.bool true))∧OldK s₁.heap s'.heap∧s'.os=s₁.os∧AllBare s'.gens) s₁:=by
 have rv:=Kz hi
 have lenV:=hi.length
 have core:∀ H:Hp,jgn H→SqL K H a (ns.map V.int)→HOk P w H s₁.heap→(∀ b,H b≠none→b=a)→(H a≠none→K.lookup a=none)→
   codeAny (model P w) callerA (.call (.ref fa) ⟨[.ref a],[]⟩) (fun r s'=>r=.ok (.ret (.bool true))∧OldK s₁.heap s'.heap∧s'.os=s₁.os∧AllBare s'.gens) s₁:=by
  intro H hO hS hok hA hK
  have base_of:∀ {b:Addr} {o:Obj},s₁.heap.get? b=some o→H b=none→(Ys s₁.heap H).get? b=some o:=fun e n=>jdt e n
  have noA:∀ {b:Addr} {o:Obj} {es:Array DictEntry} {ep:Nat},s₁.heap.get? b=some o→o.data=.dict es ep→H b=none:=fun {b o es ep} e d=>by
   cases q:H b with
   | none=>rfl
   | some u=>
    have e':b=a:=hA b (by rw [q];simp)
    subst e'
    rw [ha] at e;cases e
    have d':Data.seq vs.toArray _=Data.dict es ep:=d
    cases d'
  have nsK:∀ {b:Addr} {m:Str→Option Value},s₁.heap.Ns b m→(Ys s₁.heap H).Ns b m:=fun {b m} ⟨o,es,ep,e,d,r⟩=>⟨o,es,ep,base_of e (noA e d),d,r⟩
  have hKb:K.In (Ys s₁.heap H):=fun b o e=>base_of (KX b o e) (by
   cases q:H b with
   | none=>rfl
   | some u=>
    have e':b=a:=hA b (by rw [q];simp)
    subst e'
    rw [hK (by rw [q];simp)] at e;cases e)
  have hM:Mod K mg (Ys s₁.heap H):=⟨hKb,nsK hns,⟨mb,nsK hb,hbb⟩,let ⟨mc,h1,h2⟩:=hlim;⟨mc,nsK h1,h2⟩⟩
  have e0:Env0 P w K mg (Ys s₁.heap H) callerA [] s₁ H:=⟨rfl,hM,fun b o e=>jey e,Nat.le_of_eq (jb7 _ _),trivial,fun b hb=>absurd (show b∈([]:List Addr) from hb) (by simp),hok,.of_eq hg⟩
  refine codeAny_mono ((F _ hKb (nsK hns)).run callerA [] s₁ H ⟨[.ref a],[]⟩ [.ref a] [.ref a] _ _ hr e0 (hbind s₁ (.ref a)) (.cons rfl .nil) (hsp H hO hS)) fun r s' h=>?_
  cases r with
  | error e=>exact (hCX H e s' h).elim
  | ok fl=>
   cases fl with
   | next=>exact False.elim h
   | brk=>exact False.elim h
   | cont=>exact False.elim h
   | ret u=>
    obtain ⟨v,H',os,bare,un,hok',r',q⟩:=h
    have q':v=.bl true:=q
    subst q'
    obtain rfl:u=Value.bool true:=r'
    refine ⟨rfl,OldK.of_keep fun b o e=>?_,os,bare⟩
    cases q:H b with
    | none=>exact un.keep b o e q (by intro z;exact absurd (show b∈([]:List Addr) from z) (by simp)) (by simp)
    | some u=>
     rcases hO b with z | ⟨ob,xs,z⟩
     ·rw [q] at z;cases z
     ·have z2:=un.frzs b ob _ z
      obtain ⟨e1,_⟩:=hok b _ z
      obtain ⟨e2,_⟩:=hok' b _ z2
      rw [e] at e1;cases e1
      exact e2
 cases hk:K.lookup a with
 | some o=>
  have e:=KX a o hk
  rw [ha] at e
  cases e
  refine core (fun _=>none) (fun _=>.inl rfl) (.inr ⟨_,vs.toArray,_,hk,rfl,rfl,rfl,by rw [List.size_toArray,lenV];exact hl,by simpa using rv⟩) (fun b u z=>by have z':(none:Option HO)=some u:=z;cases z') (fun b z=>absurd rfl z) fun z=>absurd rfl z
 | none=>
  refine core (fun b=>if b=a then some (.frz { cls:=.type "list",data:=.seq vs.toArray } (.lst (ns.map V.int))) else none) (fun b=>?_) (.inl (.inr ⟨{ cls:=.type "list",data:=.seq vs.toArray },if_pos rfl⟩)) (fun b u z=>?_) (fun b z=>?_) fun _=>hk
  ·by_cases hb:b=a
   ·exact .inr ⟨_,_,if_pos hb⟩
   ·exact .inl (if_neg hb)
  ·by_cases hb:b=a
   ·have z':=(if_pos hb).symm.trans z
    cases z'
    subst hb
    exact ⟨ha,by rw [List.length_map];exact hl,vs,_,rv,ha⟩
   ·have z':=(if_neg hb).symm.trans z
    cases z'
  ·by_cases hb:b=a
   ·exact hb
   ·exact absurd (if_neg hb) z
theorem walk_of {l:PySem.W.OpenLaw} {n k:Nat} {q:Program} {loose:List Str} {XP:(Str→Option Value)→Heap→Prop} {YP:World→Heap→Prop} {d:DefRec} {K:Params→PySem.W.Frag} {CX:World→CXT} {sp:World→Sp} {x:Str}
  (hn:l.most=some n) (hn2:n≤sizeLine) (hdf:d.params.defaults=[]) (hr:Room k callerA)
  (hY:∀ (w:World) (h:Heap),YP w h→(K w.params).In h)
  (F:∀ (w:World) (mg:Str→Option Value) (fa:Addr) (h:Heap),(K w.params).In h→h.Ns mainGlobals mg→mg d.name=some (.ref fa)→
   ∃ fd:FuncData,(∀ (s:Shared) (u:Value),BindsTo s fd ⟨[u],[]⟩ [(x,u)])∧
    ∀ base:Heap,(K w.params).In base→base.Ns mainGlobals mg→FnOk l.prog w (K w.params) mg base (CX w) k fa fd [x] (sp w))
  (hsp:∀ (w:World) (H:Hp) (a:Addr) (ns:List Int),ns.length≤n→jgn H→SqL (K w.params) H a (ns.map V.int)→sp w [.ref a] H (fun v _=>v=.bl true) fun _ _ _=>False)
  (hCX:∀ (w:World) (H:Hp) (s:Shared) (e:Value) (s':Shared),CX w [] H s (fun _ _ _=>False) e s'→False) :
  PySem.W.WalkO q loose XP YP l.row.toRowW d [] (fun f vs=>PySem.call f vs):=by
 refine Att.attach_call hn hdf fun w s₀ s₁ mg mb fa o pm cd doc a vs ns G Y ho hd hcd hmg hobj hints hlen hg=>?_
 have KX:=hY w _ Y
 obtain ⟨fd,hb,hF⟩:=F w mg fa _ KX G.T.g hmg
 exact jdq KX G.T.g G.T.b G.T.builtins G.T.nolimit hg hobj hints (Nat.le_trans hlen hn2) hr hF hb (fun H hO hS=>hsp w H a ns hlen hO hS) fun H e s'=>hCX w H s₁ e s'
def jeJ (s:Stmt) (j:Nat):Stmt:=match s with
 | .ClassDef _ _ _ body _ _ _ _ _ _ _=>body.getD j (.Pass ⟨0,0,0,0⟩)
 | _=>.Pass ⟨0,0,0,0⟩
def ye (s:Stmt):Arguments:=match s with
 | .FunctionDef _ a _ _ _ _ _ _ _ _=>a
 | _=>{ posonlyargs:=[],args:=[],vararg:=none,kwonlyargs:=[],kw_defaults:=[],kwarg:=none,defaults:=[] }
def qw (s:Stmt):List Stmt:=match s with
 | .FunctionDef _ _ b _ _ _ _ _ _ _=>b
 | _=>[]
def jk (s:Stmt):Scope:=match s with
 | .FunctionDef _ _ _ _ _ _ sc _ _ _=>sc
 | _=>{ kind:=.function,names:=[],isGenerator:=false,isCoroutine:=false }
abbrev CX0:CXT:=fun _ _ _ _ _ _=>False
abbrev E0:XK:=fun _ _ _=>False
theorem jfl {X:Cx}:Ks CX0 X E0:=fun _ _ _ _ _ _ _ h=>h.elim
structure Fun (K:PySem.W.Frag) (x qual:Str) (st:Stmt) (f:Addr) (fd:FuncData):Prop where
 ex:∃ (oc:Value) (od:Option Addr) (kV doc pm:Value) (an:Option Addr) (cdv ct:Value) (osl:Array (Option Value)),
  fd=PySem.W.fnOf x qual (ye st) (qw st) (jk st) .none kV doc pm an cdv ct∧K.lookup f=some ⟨oc,od,.func fd,osl⟩∧PySem.W.codeIn K cdv qual=true
 kp:PySem.W.keepIn K (.ref f)=true
section
variable {P:Program} {w:World} {K:PySem.W.Frag} {mg:Str→Option Value} {base:Heap}
theorem Fun.ok {x qual:Str} {st:Stmt} {f:Addr} {fd:FuncData} {N ps:List Str} {k:Nat} {sp:Sp} (F:Fun K x qual st f fd) (S:FnScope N ps (jk st)) (len:∀ vs H Q E,sp vs H Q E→vs.length=ps.length)
  (hbody:∀ (cdv:Value) (A:Around) (outer:List Env) (s:Shared) (H:Hp) (vs:List V) (Q:VK) (E:XK),Room k (A.deeper (envOfC qual (jk st) s.heap.objs.size f cdv))→sp vs H Q E→
   ∃ t,PSs (Jw CX0 P w K mg base N qual (jk st) f cdv A outer s H E).nox (qw st) t∧t { nx:=fun _ H'=>Q .non H',rt:=Q } (yh N vs) H):FnOk P w K mg base CX0 (k+1) f fd ps sp:=by
 obtain ⟨oc,od,kV,doc,pm,an,cdv,ct,osl,rfl,lk,hcd⟩:=F.ex
 refine jfv lk hcd S len fun A outer s H vs Q E hr hsp=>?_
 obtain ⟨t,h,q⟩:=hbody cdv A outer s H vs Q E hr hsp
 exact ⟨t,h.nox,q⟩
theorem Fun.binds {x qual:Str} {st:Stmt} {f:Addr} {fd:FuncData} {ps:List Str} (F:Fun K x qual st f fd)
  (h:∀ (kV doc pm:Value) (an:Option Addr) (cdv ct:Value) (us:List Value),us.length=ps.length→bindArgs (PySem.W.fnOf x qual (ye st) (qw st) (jk st) .none kV doc pm an cdv ct) ⟨us,[]⟩=pure (ps.zip us)):Binds K fd ps []:=by
 obtain ⟨oc,od,kV,doc,pm,an,cdv,ct,osl,rfl,lk,hcd⟩:=F.ex
 exact .all (h kV doc pm an cdv ct)
theorem jG {x qual:Str} {st:Stmt} {f:Addr} {oc:Value} {od an:Option Addr} {osl:Array (Option Value)} {kV doc pm cdv ct:Value} (l:K.lookup f=some ⟨oc,od,.func (PySem.W.fnOf x qual (ye st) (qw st) (jk st) .none kV doc pm an cdv ct),osl⟩)
  (c:PySem.W.codeIn K cdv qual=true) (k:PySem.W.keepIn K (.ref f)=true):Fun K x qual st f (PySem.W.fnOf x qual (ye st) (qw st) (jk st) .none kV doc pm an cdv ct):=⟨⟨oc,od,kV,doc,pm,an,cdv,ct,osl,rfl,l,c⟩,k⟩
end
theorem jfr {A:Around} {k:Nat} (hr:Room k A):A.units+1 < cLine:=Nat.lt_of_le_of_lt (Nat.add_le_add_left (by decide:1≤64) _) hr.units
theorem km {n:Nat} (h:n≤1000):n < sizeLine:=Nat.lt_of_le_of_lt h (by decide)
section
variable {X:Cx}
theorem pv (i:Nat) {x:Str} {pos:Pos} (hN:X.N[i]?=some x:=by rfl) (hv:Vis X.env.scope x:=by first | exact Or.inl rfl | exact Or.inr (Or.inl rfl) | exact Or.inr (Or.inr rfl)) (hd:(x == ("__debug__" : Str))=false:=by decide)
  (hcd:(x == ("__classdict__" : Str))=false:=by decide):PE X (.Name x pos) (jfA i):=jfQ hN hv hd hcd
end
theorem ku {A B:Prop} (h:B):if false=true then A else B:=by
 rw [if_neg Bool.false_ne_true]
 exact h
theorem kE {A B:Prop} (h:A):if true=true then A else B:=by
 rw [if_pos rfl]
 exact h
theorem kF {c A B:Prop} [Decidable c] (h1:c→A) (h2:¬ c→B):if c then A else B:=by
 by_cases h:c
 ·rw [if_pos h]
  exact h1 h
 ·rw [if_neg h]
  exact h2 h
theorem jgP {c A B:Prop} [Decidable c] (hc:c) (h:B):if (!decide c)=true then A else B:=by
 rw [decide_eq_true hc]
 exact ku h
def Same (H H':Hp):Prop:=∀ b o,H b=some o→H' b=some o
theorem Same.refl (H:Hp):Same H H:=fun _ _ h=>h
theorem Same.trans {H H1 H2:Hp} (a:Same H H1) (b:Same H1 H2):Same H H2:=fun c o h=>b c o (a c o h)
theorem Same.free {H H':Hp} (e:Same H H') {l:Addr} (h:H' l=Option.none):H l=Option.none:=by
 cases q:H l with
 | none=>rfl
 | some o=>
  rw [e l o q] at h
  cases h
theorem Same.seq {K:PySem.W.Frag} {H H':Hp} {a:Addr} {xs:List V} (e:Same H H') (h:SqL K H a xs):SqL K H' a xs:=by
 rcases h with (h | ⟨o,h⟩) | h
 ·exact .inl (.inl (e _ _ h))
 ·exact .inl (.inr ⟨o,e _ _ h⟩)
 ·exact .inr h
theorem y7 {prog:Program} {w:World} {A:Around} {s:Shared} {elt target iter:Expr} {ifs:List Expr} {scope:Scope} {pos:Pos} {it acc:Value} {env:Env} {R:Result→Shared→Prop} (I:Nat→Shared→Prop)
  (turn:∀ n s,I n s→wpAny (model prog w) A (pyNext it) (fun r s1=>match r with
   | none=>R (.ok .next) s1
   | some v=>wpAny (model prog w) A (letOwnedTupleGo target it v) (fun _ s1'=>wpAny (model prog w) A (assign target env v) (fun _ s2=>
     wpAny (model prog w) A (forIn ifs true fun c r=>if r=true then do let ok ← isTrue c env (eval c env);pure (ForInStep.yield ok) else pure (ForInStep.yield r)) (fun ok s3=>
      if ok=true then wpAny (model prog w) A (eval elt env) (fun x s4=>
       wpAny (model prog w) A (call (.builtin "list.append") [acc,x]) (fun _ s5=>∃ m,m < n∧I m s5) (fun _ _=>False) s4) (fun _ _=>False) s3
      else ∃ m,m < n∧I m s3) (fun _ _=>False) s2) (fun _ _=>False) s1') (fun _ _=>False) s1) (fun _ _=>False) s)
  (n:Nat) (h:I n s):codeAny (model prog w) A (.compLoop (.ListComp elt [⟨target,iter,ifs,0⟩] scope pos) 0 it acc env) R s:=by
 have no:∀ (x:Value) (s':Shared),False→notedBy (model prog w) A env (fun e s'=>R (.error e) s') x s':=fun _ _ z=>z.elim
 refine codeAny_loop rfl I (fun n s hI=>?_) n h
 show wpAny _ A ((compTurn (.ListComp elt [⟨target,iter,ifs,0⟩] scope pos) 0 it acc env).onRaise (fun x=>do noteFrame x env;theTreesLotGoes x)) _ _ s
 refine wpAny_noted ?_
 rw [compTurn_list]
 refine wpAny_bind (wpAny_standAt (wpAny_bind (wpAny_mono (turn n s hI) (fun r s1 h1=>?_) no)))
 cases r with
 | none=>exact wpAny_pure h1
 | some v=>
  refine wpAny_bind (wpAny_mono h1 (fun _ s1' h1'=>?_) no)
  refine wpAny_bind (wpAny_mono h1' (fun _ s2 h2=>wpAny_bind (wpAny_mono h2 (fun ok s3 h3=>?_) no)) no)
  cases ok with
  | false=>exact wpAny_pure ⟨rfl,h3⟩
  | true=>
   exact wpAny_bind (wpAny_bind (wpAny_mono h3 (fun x s4 h4=>wpAny_bind (wpAny_mono h4 (fun _ s5 h5=>wpAny_pure (wpAny_pure ⟨rfl,h5⟩)) no)) no))
theorem jdx:(NameKind.free == NameKind.free)=true:=rfl
def zR (cells:List (Str×Addr)):List (Str×NameKind)→List (Str×Addr)→List (Str×Addr)
 | [],acc=>acc
 | (n,k) :: r,acc=>if k == .free then zR cells r ((n,(cells.lookup n).getD 0) :: acc) else zR cells r acc
theorem Zh {env:Env}:∀ (names:List (Str×NameKind)) (acc:List (Str×Addr)),(∀ x∈names,x.2=.free→(env.cells.lookup x.1).isSome=true)→
  (forIn names acc fun x (cs:List (Str×Addr))=>(match x with | (name,kind)=>if (kind == NameKind.free)=true then do let c ← cellOf env name;pure (ForInStep.yield ((name,c) :: cs)) else pure (ForInStep.yield cs):Sem (ForInStep (List (Str×Addr)))))=(pure (zR env.cells names acc):Sem (List (Str×Addr)))
 | [],acc,_=>by simp only [List.forIn_nil];rfl
 | (n,k) :: r,acc,h=>by
  have ih:=fun a=>Zh (env:=env) r a fun x hx=>h x (List.mem_cons_of_mem _ hx)
  rw [List.forIn_cons]
  by_cases hk:k=.free
  ·subst hk
   have q:=h (n,.free) List.mem_cons_self rfl
   obtain ⟨c,hc⟩:=Option.isSome_iff_exists.mp q
   have e:cellOf env n=pure c:=by unfold cellOf;rw [show env.cells.lookup n=some c from hc]
   simp only [beq_self_eq_true,if_true,e,pure_bind]
   rw [ih]
   show _=pure (if (NameKind.free == NameKind.free)=true then zR env.cells r ((n,(env.cells.lookup n).getD 0) :: acc) else _)
   rw [if_pos jdx,show env.cells.lookup n=some c from hc]
   rfl
  ·have hb:(k == NameKind.free)=false:=by simpa using hk
   simp only [hb,Bool.false_eq_true,if_false,pure_bind]
   rw [ih]
   show _=pure (if (k == NameKind.free)=true then _ else zR env.cells r acc)
   rw [hb]
   rfl
theorem Kn {scope:Scope} {env:Env} (h:∀ x∈scope.names,x.2=.free→(env.cells.lookup x.1).isSome=true):closureFor scope env=pure (zR env.cells scope.names []):=by
 unfold closureFor
 have e:=Zh (env:=env) scope.names [] h
 simp only [bind_pure] at *
 exact e
theorem jaf {cells:List (Str×Addr)}:∀ (names:List (Str×NameKind)) (acc:List (Str×Addr)),(∀ x∈names,x.2=.free→(cells.lookup x.1).isSome=true)→(∀ x c,acc.lookup x=some c→cells.lookup x=some c)→
  ∀ x c,(zR cells names acc).lookup x=some c→cells.lookup x=some c
 | [],acc,_,ha=>ha
 | (n,k) :: r,acc,h,ha=>by
  unfold zR
  by_cases hk:k=.free
  ·subst hk
   rw [if_pos jdx]
   refine jaf r _ (fun x hx=>h x (List.mem_cons_of_mem _ hx)) fun x c e=>?_
   by_cases hx:x=n
   ·subst hx
    rw [List.lookup_cons_self] at e
    obtain ⟨d,hd⟩:=Option.isSome_iff_exists.mp (h (x,.free) List.mem_cons_self rfl)
    have hd':cells.lookup x=some d:=hd
    rw [hd'] at e ⊢
    exact e
   ·rw [List.lookup_cons,beq_eq_false_iff_ne.mpr hx] at e
    exact ha x c e
  ·rw [if_neg (by simpa using hk)]
   exact jaf r _ (fun x hx=>h x (List.mem_cons_of_mem _ hx)) ha
theorem Yx {cells:List (Str×Addr)}:∀ (names:List (Str×NameKind)) (acc:List (Str×Addr)) (x:Str),(acc.lookup x).isSome=true→((zR cells names acc).lookup x).isSome=true
 | [],acc,_,ha=>ha
 | (n,k) :: r,acc,x,ha=>by
  unfold zR
  split
  ·refine Yx r _ x ?_
   rw [List.lookup_cons]
   split
   ·rfl
   ·exact ha
  ·exact Yx r _ x ha
theorem jag {cells:List (Str×Addr)}:∀ (names:List (Str×NameKind)) (acc:List (Str×Addr)) (x:Str),(x,NameKind.free)∈names→((zR cells names acc).lookup x).isSome=true
 | [],_,_,h=>by simp at h
 | (n,k) :: r,acc,x,h=>by
  unfold zR
  rcases List.mem_cons.mp h with e | h
  ·obtain ⟨e1,e2⟩:=Prod.mk.inj e
   subst e1 e2
   rw [if_pos jdx]
   refine Yx r _ _ ?_
   rw [List.lookup_cons_self]
   rfl
  ·split
   ·exact jag r _ x h
   ·exact jag r _ x h
theorem qG {env:Env}:∀ {names:List (Str×NameKind)} {x:Str} {k:NameKind},
  (names.map fun (n,k)=>if (k == NameKind.free && env.scope.kind == .function && env.kindOf n == some .cell) then (n,NameKind.cell) else (n,k)).lookup x=some k→
   names.lookup x=some k∨(k=.cell∧names.lookup x=some .free)
 | [],_,_,h=>by simp at h
 | (n,k') :: r,x,k,h=>by
  rw [List.map_cons] at h
  by_cases hx:x=n
  ·subst hx
   rw [List.lookup_cons_self]
   by_cases hc:(k' == NameKind.free && env.scope.kind == .function && env.kindOf x == some .cell)=true
   ·simp only [hc,if_true] at h
    rw [List.lookup_cons_self] at h
    have hk:k'=.free:=by
     simp only [Bool.and_eq_true,beq_iff_eq] at hc
     exact hc.1.1
    exact .inr ⟨(Option.some.inj h).symm,by rw [hk]⟩
   ·simp only [hc] at h
    rw [if_neg (by simp),List.lookup_cons_self] at h
    exact .inl h
  ·have e:(x == n)=false:=beq_eq_false_iff_ne.mpr hx
   have h':(r.map fun (n,k)=>if (k == NameKind.free && env.scope.kind == .function && env.kindOf n == some .cell) then (n,NameKind.cell) else (n,k)).lookup x=some k:=by
    by_cases hc:(k' == NameKind.free && env.scope.kind == .function && env.kindOf n == some .cell)=true
    ·simp only [hc,if_true] at h
     rw [List.lookup_cons,e] at h
     exact h
    ·simp only [hc] at h
     rw [if_neg (by simp),List.lookup_cons,e] at h
     exact h
   have ih:=@qG env r x k h'
   rw [List.lookup_cons,e]
   exact ih
theorem yQ {env:Env}:∀ {names:List (Str×NameKind)} {x:Str},names.lookup x=some .free→
  (names.map fun (n,k)=>if (k == NameKind.free && env.scope.kind == .function && env.kindOf n == some .cell) then (n,NameKind.cell) else (n,k)).lookup x=some .cell∨
  (names.map fun (n,k)=>if (k == NameKind.free && env.scope.kind == .function && env.kindOf n == some .cell) then (n,NameKind.cell) else (n,k)).lookup x=some .free
 | [],_,h=>by simp at h
 | (n,k') :: r,x,h=>by
  rw [List.map_cons]
  by_cases hx:x=n
  ·subst hx
   rw [List.lookup_cons_self] at h
   cases h
   by_cases hc:(NameKind.free == NameKind.free && env.scope.kind == .function && env.kindOf x == some .cell)=true
   ·simp only [hc,if_true]
    exact .inl List.lookup_cons_self
   ·simp only [hc]
    rw [if_neg (by simp)]
    exact .inr List.lookup_cons_self
  ·have e:(x == n)=false:=beq_eq_false_iff_ne.mpr hx
   rw [List.lookup_cons,e] at h
   have ih:=@yQ env r x h
   by_cases hc:(k' == NameKind.free && env.scope.kind == .function && env.kindOf n == some .cell)=true
   ·simp only [hc,if_true]
    rw [List.lookup_cons,e]
    exact ih
   ·simp only [hc]
    rw [if_neg (by simp),List.lookup_cons,e]
    exact ih
def blk (X:Cx) (scope:Scope) (own:List Str) (fr:List Nat) (s:Shared) (H:Hp) (ex:List Addr):Cx where
 prog:=X.prog
 w:=X.w
 K:=X.K
 mg:=X.mg
 base:=X.base
 A:=X.A
 N:=own++fr.map fun j=>X.N.getD j (Str.ofString "")
 s₀:=s
 H₀:=H
 env:=compEnvC scope (zR X.env.cells scope.names []) s.heap.objs.size X.env
 outer:=X.stack
 stack:=X.stack
 ex:=ex
 fn:=fun _=>false
 calm:=X.calm
 pn:=[]
 xe:=fun _ _=>False
def jdP (own:List Str) (fr:List Nat) (σ:St):St:=own.map (fun _=>none)++fr.map fun j=>(σ[j]?).join
structure CompOk (X:Cx) (scope:Scope) (fr:List Nat):Prop where
 kind:scope.kind=.function
 nocell:∀ y∈scope.names,y.2≠.cell
 loc:∀ y∈scope.names,y.2=.local→scope.names.lookup y.1=some .local
 frees:∀ y∈scope.names,y.2=.free→X.env.scope.names.lookup y.1=some .cell∨X.env.scope.names.lookup y.1=some .free
 fr:∀ j∈fr,scope.names.lookup (X.N.getD j (Str.ofString ""))=some .free
theorem ja9 {X:Cx} {scope:Scope} {own:List Str} {fr:List Nat} {pins:List (Addr×Obj)} {σ:St} {H:Hp} {s:Shared} {ex:List Addr} {h1:Heap} {t1:Nat} (I:Inv X pins σ H s) (O:CompOk X scope fr)
  (hex:∀ b∈ex,Jx X pins H b∧b < s.heap.objs.size) (hns:h1.Ns s.heap.objs.size fun _=>none) (hk:∀ b o,s.heap.get? b=some o→h1.get? b=some o) :
  Inv (blk X scope own fr s H ex) [] (jdP own fr σ) H { s with heap:=h1,toks:=t1 }:=by
 have hsome:∀ x∈scope.names,x.2=.free→(X.env.cells.lookup x.1).isSome=true:=fun x hx e=>by
  obtain ⟨c,hc⟩:=I.ok.has x.1 (O.frees x hx e)
  rw [hc];rfl
 have sub:∀ x c,(zR X.env.cells scope.names []).lookup x=some c→X.env.cells.lookup x=some c:=jaf scope.names [] hsome fun x c e=>by simp at e
 have hasc:∀ x,scope.names.lookup x=some .free→∃ c,(zR X.env.cells scope.names []).lookup x=some c:=fun x e=>Option.isSome_iff_exists.mp (jag scope.names [] x (PySem.mem_of_lookup e))
 have hcne:∀ x c,X.env.cells.lookup x=some c→c < s.heap.objs.size:=fun x c e=>by
  obtain ⟨v,q⟩:=I.cell x c e
  exact q.lt
 have hN:σ.length=X.N.length:=I.len
 refine ⟨⟨I.ok.mod,O.kind,I.ok.glob,I.ok.blt,Nat.le_refl _,fun x y c e1 e2=>I.ok.inj x y c (sub x c e1) (sub y c e2),fun x hx=>?_,fun x c z=>absurd z (by simp [blk]),I.ok.hd,I.ok.frames,.inl rfl,fun b hb=>⟨Nat.ne_of_lt (hex b hb).2,fun x c e=>(hex b hb).1.2.2.2.2.1 x c (sub x c e)⟩,
  fun b o e=>I.bs b o e,Nat.le_trans I.ok.bsz I.sz,fun b o e hb=>?_,fun b hb z=>?_,I.stack,I.stkFree⟩,
  rfl,I.bare,Un.kept hk,⟨_,hns,fun i x v e1 e2 e3=>?_⟩,fun x c e=>?_,I.fresh,fun x c e=>I.freeC x c (sub x c e),fun p hp=>absurd hp (by simp [blk]),I.hok.kept hk,?_⟩
 ·have hx':(relabel scope X.env).names.lookup x=some .cell∨(relabel scope X.env).names.lookup x=some .free:=hx
  rcases hx' with hx | hx
  ·rcases qG hx with q | ⟨_,q⟩
   ·exact absurd rfl (O.nocell _ (PySem.mem_of_lookup q))
   ·exact hasc x q
  ·rcases qG hx with q | ⟨q,_⟩
   ·exact hasc x q
   ·cases q
 ·rcases (hex b hb).1.2.2.2.1 with z | z
  ·exact I.ok.noex b o e z
  ·exact absurd (Nat.lt_of_lt_of_le (Heap.lt_size e) (Nat.le_trans I.ok.bsz z)) (Nat.lt_irrefl _)
 ·obtain ⟨_,f1,f2,_⟩:=(hex b hb).1
  rcases List.mem_cons.mp (I.stkSub b z) with q | q
  ·exact f1 q
  ·exact f2 q
 ·have e1':(own++fr.map fun j=>X.N.getD j (Str.ofString ""))[i]?=some x:=e1
  unfold jdP at e2
  have hi:own.length≤i:=by
   by_cases h:own.length≤i
   ·exact h
   ·rw [List.getElem?_append_left (by simpa using Nat.lt_of_not_le h),List.getElem?_map] at e2
    cases q:own[i]? with
    | none=>rw [q] at e2;cases e2
    | some z=>rw [q] at e2;cases e2
  rw [List.getElem?_append_right hi,List.getElem?_map] at e1'
  rw [List.getElem?_append_right (by simpa using hi),List.getElem?_map,List.length_map] at e2
  cases q:fr[i - own.length]? with
  | none=>rw [q] at e2;cases e2
  | some j=>
   rw [q] at e1' e2
   have e1'':X.N.getD j (Str.ofString "")=x:=Option.some.inj e1'
   have e2':(σ[j]?).join=some v:=Option.some.inj e2
   have e2'':σ[j]?=some (some v):=by
    cases z:σ[j]? with
    | none=>rw [z] at e2';cases e2'
    | some y=>rw [z] at e2';rw [← e2'];rfl
   have hj:j < X.N.length:=by rw [← hN];exact (List.getElem?_eq_some_iff.mp e2'').1
   have e3':X.N[j]?=some x:=by
    rw [List.getElem?_eq_getElem hj,← e1'',List.getD_eq_getElem?_getD,List.getElem?_eq_getElem hj]
    rfl
   have hf:=O.fr j (List.mem_of_getElem? q)
   rw [e1''] at hf
   have hv:=O.frees _ (PySem.mem_of_lookup hf) rfl
   obtain ⟨m,_,hl⟩:=I.loc
   obtain ⟨u,ru,lk⟩:=hl j x v e3' e2'' (.inr hv)
   refine ⟨u,ru,.inr ⟨?_,?_⟩⟩
   ·exact yQ hf
   ·obtain ⟨c,hc⟩:=hasc x hf
    refine ⟨c,hc,?_⟩
    rcases lk with ⟨k,_⟩ | ⟨_,c',hc',z⟩
    ·have k':X.env.scope.names.lookup x=some .local:=k
     rcases hv with hv | hv <;> · rw [k'] at hv;cases hv
    ·have:=sub x c hc
     rw [hc'] at this
     cases this
     obtain ⟨o,ho,hd⟩:=z
     exact ⟨o,hk _ _ ho,hd⟩
 ·obtain ⟨v,o,ho,hd⟩:=I.cell x c (sub x c e)
  exact ⟨v,o,hk _ _ ho,hd⟩
 ·show (jdP own fr σ).length=(own++fr.map fun j=>X.N.getD j (Str.ofString "")).length
  unfold jdP
  rw [List.length_append,List.length_append,List.length_map,List.length_map,List.length_map]
theorem Ja {X:Cx} {scope:Scope} {own:List Str} {fr:List Nat} {pins:List (Addr×Obj)} {σ σ':St} {H H':Hp} {s s':Shared} {ex:List Addr} (I:Inv X pins σ H s) (hex:∀ b∈ex,Jx X pins H b∧b < s.heap.objs.size)
  (J:Inv (blk X scope own fr s H ex) [] σ' H' s') {h':Heap} (hs:Heap.SameBut s.heap.objs.size s'.heap h'):Inv X pins σ H' { s' with heap:=h' }:=by
 have hC:H' s.heap.objs.size=none:=J.free
 have u:Un (frs X.stack) ex H H' s.heap s'.heap:=J.base
 have ne:∀ b o,s.heap.get? b=some o→b≠s.heap.objs.size:=fun b o e=>Nat.ne_of_lt (Heap.lt_size e)
 have at':∀ b o,b≠s.heap.objs.size→s'.heap.get? b=some o→h'.get? b=some o:=fun b o hb e=>(hs.2 b hb).trans e
 refine I.call' (ch:=ex) J.os ⟨fun b o e n hb hx=>?_,fun b o e n hb hx=>?_,u.free,fun b o e hx=>?_,u.tups,u.frzs,u.tbls⟩ (fun b o e=>?_) J.bare fun b hb=>?_
 ·exact at' b o (ne b o e) (u.keep b o e n hb hx)
 ·obtain ⟨sl,q⟩:=u.slot b o e n hb hx
  exact ⟨sl,at' b _ (ne b o e) q⟩
 ·obtain ⟨o',q⟩:=u.there b o e hx
  exact ⟨o',at' b _ (ne b o e) q⟩
 ·refine (J.hok b o e).stay (fun c v hc q=>at' c v ?_ q) (fun _ q=>q) fun _ _ q=>q
  rintro z
  rcases hc with y | y
  ·rw [y] at z;rw [z,hC] at e;cases e
  ·rw [z,hC] at y;cases y
 ·obtain ⟨f0,f1,f2,f3,f4,f5⟩:=(hex b hb).1
  exact ⟨f3,f1,f4,f5⟩
def PTs (X:Cx) (ifs:List Expr) (t:TT):Prop:=
 ∀ (pins:List (Addr×Obj)) (s:Shared) (σ:St) (H:Hp) (Q:Bool→Hp→Prop),Inv X pins σ H s→t σ H Q→
  wpAny (model X.prog X.w) X.A (forIn ifs true fun c r=>if r=true then do let ok ← isTrue c X.env (eval c X.env);pure (ForInStep.yield ok) else pure (ForInStep.yield r)) (TP X pins σ Q) X.xe s
def jbA:TT:=fun _ H Q=>Q true H
theorem jaO {X:Cx}:PTs X [] jbA:=fun _ _ _ H _ I h=>wpAny_tests_nil ⟨H,I,h⟩
def jap (J:It) (p:Addr) (g:TG) (tt:TT) (te:TE) (Q:VK) (σ:St) (H:Hp):Prop:=∃ W:Nat→Nat→St→Hp→Prop,(∃ m,W 0 m σ H)∧
 ∀ i m σ' H',W i m σ' H'→(J.stop i H'∧Q (.ref p) H')∨(J.go i H'∧∃ N:St→Hp→Prop,(∀ σ3 H3,N σ3 H3→∃ m',m' < m∧W (i+1) m' σ3 H3)∧∀ x H2,J.yld i H' x H2→g x σ' H2 fun σ3 H3=>tt σ3 H3 fun c H4=>
  if c=true then te σ3 H4 fun y H5=>∃ ys,H5 p=some (.lst ys)∧ys.length < sizeLine∧N σ3 (upd H5 p (.lst (ys++[y]))) else N σ3 H4)
def KA (own:List Str) (fr:List Nat) (wi:TI) (g:TG) (tt:TT) (te:TE):TE:=fun σ H Q=>wi σ H fun J H1=>∀ p,H1 p=none→jap J p g tt te Q (jdP own fr σ) (upd H1 p (.lst []))
theorem jdI {X:Cx} {scope:Scope} {own:List Str} {fr:List Nat} {elt tg iter:Expr} {ifs:List Expr} {pos:Pos} {wi:TI} {g:TG} {tt:TT} {te:TE} {use:Option (Value→Sem Unit)} (hc:X.calm=true) (O:CompOk X scope fr) (hi:PI X tg iter wi)
  (hb:∀ s H ex,PG (blk X scope own fr s H ex) tg g∧PTs (blk X scope own fr s H ex) ifs tt∧PE (blk X scope own fr s H ex) elt te)
  (hs:∀ x,foldedSetIterable iter X.env x=pure x) {pins:List (Addr×Obj)} {s:Shared} {σ:St} {H:Hp} {Q:VK} {R:Value→Shared→Prop} (I:Inv X pins σ H s) (h:KA own fr wi g tt te σ H Q) (hx:∀ e s',X.xe e s'↔False)
  (fin:∀ (p C:Addr) (H':Hp) (s':Shared) (m:Str→Option Value),s'.heap.Ns C m→H' C=none→C≠X.env.locals→(∀ x c,X.env.cells.lookup x=some c→c≠C)→Inv X pins σ H' s'→(∀ h',Heap.SameBut C s'.heap h'→Inv X pins σ H' { s' with heap:=h' })→Q (.ref p) H'→
   compPost (model X.prog X.w) X.A X.xe use R (.ref p) C (.ok .next) s') :
  wpAny (model X.prog X.w) X.A (comprehension (.ListComp elt [⟨tg,iter,ifs,0⟩] scope pos) scope X.env (firstIterPos [⟨tg,iter,ifs,0⟩] pos) (newList []) false (eval iter X.env) use) R X.xe s:=by
 have hsome:∀ x∈scope.names,x.2=.free→(X.env.cells.lookup x.1).isSome=true:=fun x hx' e=>by
  obtain ⟨c,hc⟩:=I.ok.has x.1 (O.frees x hx' e)
  rw [hc];rfl
 have no:∀ (E:Value→Shared→Prop) (x:Value) (s':Shared),X.xe x s'→E x s':=fun E x s' z=>((hx x s').mp z).elim
 refine wpAny_comprehension_free (cl:=zR X.env.cells scope.names []) rfl hs (Kn hsome) O.kind O.loc ?_
 refine thn (hi pins s σ H _ I h) fun v s1 h1=>thn h1 fun itv s2 h2=>?_
 obtain ⟨it,fp,tn,J,H2,e,I2,T,st2,f2,q2⟩:=h2
 subst e
 refine wpAny_newObj_type ?_
 have nw:H2 s2.heap.objs.size=none:=I2.fresh
 obtain ⟨W,⟨m0,w0⟩,turn⟩:=q2 _ nw
 generalize hp:s2.heap.objs.size=p at *
 have I3:Inv X pins σ (upd H2 p (.lst [])) { s2 with heap:=s2.heap.push { cls:=.type "list",dict:=none,data:=.seq ([]:List Value).toArray } }:=by
  have:=I2.lnew (ys:=[]) (its:=[]) (t':=s2.toks) .nil (Nat.zero_le _)
  rw [hp] at this
  exact this
 have lt2:∀ b∈fp,b < s2.heap.objs.size:=fun b hb=>by
  obtain ⟨o,ho,_⟩:=T.obj _ _ st2 b hb
  exact Heap.lt_size ho
 have fpn:∀ b∈fp,(upd H2 p (.lst [])) b=none:=fun b hb=>by
  rw [jx (by rw [← hp];exact Nat.ne_of_lt (lt2 b hb))]
  exact (f2 b hb).1
 generalize hs3:({ s2 with heap:=s2.heap.push { cls:=.type "list",dict:=none,data:=.seq ([]:List Value).toArray } }:Shared)=s3 at *
 have sz3:s3.heap.objs.size=p+1:=by
  rw [← hs3]
  show (s2.heap.push _).objs.size=_
  rw [Heap.size_push,hp]
 have st3:tn 0 s3.heap:=T.keep 0 _ _ st2 fun b hb o e=>by
  rw [← hs3]
  exact Heap.get?_push_of_some _ e
 refine wpAny_newFunctionEnv O.nocell (by intro y hy;simp at hy) (fun h4 hns4 hsb4=>?_) O.kind
 have k4:∀ b o,s3.heap.get? b=some o→h4.get? b=some o:=fun b o e=>hsb4.extBut b o (Nat.ne_of_lt (Heap.lt_size e)) (Heap.get?_push_of_some _ e)
 have hns4':h4.Ns s3.heap.objs.size fun _=>none:=by
  have z:(fun x:Str=>([]:List (Str×Value)).reverse.lookup x)=fun _=>none:=by funext x;rfl
  rw [z] at hns4
  exact hns4
 have fo:∀ b∈fp,Jx X pins (upd H2 p (.lst [])) b∧b < s3.heap.objs.size:=fun b hb=>⟨⟨fpn b hb,(f2 b hb).2⟩,by rw [sz3,← hp];exact Nat.lt_succ_of_lt (lt2 b hb)⟩
 have I4:=ja9 (own:=own) (fr:=fr) (t1:=s3.toks+([]:List (Str×Value)).length) I3 O fo hns4' k4
 have st4:tn 0 h4:=T.keep 0 _ _ st3 fun b hb o e=>k4 b o e
 obtain ⟨hg,ht,he⟩:=hb s3 (upd H2 p (.lst [])) fp
 have stat:∀ {H':Hp} {pn:List (Addr×Obj)} {s':Shared} {σ':St},Inv (blk X scope own fr s3 (upd H2 p (.lst [])) fp) [] σ' H' s'→(∀ b∈fp,H' b=none)→∀ b∈fp,Jx (blk X scope own fr s3 (upd H2 p (.lst [])) fp) [] H' b:=fun {H' pn s' σ'} J hn b hb'=>
  ⟨hn b hb',(J.ok.exf b hb').1,J.ok.exfs b hb',.inl hb',(J.ok.exf b hb').2,fun p hp=>absurd hp (by simp [blk])⟩
 have nocells:∀ x c,X.env.cells.lookup x=some c→c≠s3.heap.objs.size:=fun x c e=>by
  obtain ⟨v,q⟩:=I3.cell x c e
  exact Nat.ne_of_lt q.lt
 have loop:∀ s5:Shared,s5={ s3 with heap:=h4,toks:=s3.toks+([]:List (Str×Value)).length }→
   codeAny (model X.prog X.w) X.A (.compLoop (.ListComp elt [⟨tg,iter,ifs,0⟩] scope pos) 0 (.ref it) (.ref p) (blk X scope own fr s3 (upd H2 p (.lst [])) fp).env) (compPost (model X.prog X.w) X.A X.xe use R (.ref p) s3.heap.objs.size) s5:=by
  rintro s5 rfl
  refine y7 (fun n s'=>∃ i σ' H',Inv (blk X scope own fr s3 (upd H2 p (.lst [])) fp) [] σ' H' s'∧tn i s'.heap∧(∀ b∈fp,H' b=none)∧W i n σ' H') ?_ m0 ⟨0,_,_,I4,st4,fpn,w0⟩
  rintro n s6 ⟨i,σ6,H6,I6,st6,fr6,w6⟩
  rcases turn i n σ6 H6 w6 with ⟨stop,qn⟩ | ⟨go,N,hN,step⟩
  ·refine thn (T.done (blk X scope own fr s3 (upd H2 p (.lst [])) fp) rfl rfl rfl hc i [] s6 σ6 H6 _ I6 (stat (pn:=[]) I6 fr6) st6 stop) fun r s7 ⟨hr,I7⟩=>?_
   subst hr
   obtain ⟨m,hm,_⟩:=I7.loc
   exact fin p _ H6 s7 m hm I7.free (Nat.ne_of_gt I3.lt) nocells (Ja I3 fo I7 (Heap.SameBut.refl ..)) (fun h' hs'=>Ja I3 fo I7 hs') qn
  ·refine thn (T.item (blk X scope own fr s3 (upd H2 p (.lst [])) fp) rfl rfl rfl hc i [] s6 σ6 H6 _ I6 (stat (pn:=[]) I6 fr6) st6 go) fun r s7 ⟨u,hr,h7⟩=>?_
   subst hr
   refine thn h7 fun _ s8 ⟨x,H8,I8,r8,y8,st8,fr8⟩=>?_
   have I8':=I8.pinned (stat (pn:=[]) I8 fr8) (T.obj _ _ st8)
   refine thn (hg _ s8 σ6 H8 x u _ I8' r8 (step x H8 y8)) fun _ s9 ⟨σ9,H9,I9,q9⟩=>?_
   refine thn (ht _ s9 σ9 H9 _ I9 q9) fun ok s10 ⟨H10,I10,q10⟩=>?_
   have again:∀ {H11:Hp} {s11:Shared},Inv (blk X scope own fr s3 (upd H2 p (.lst [])) fp) ([]++zK fp s8.heap) σ9 H11 s11→(∃ m',m' < n∧W (i+1) m' σ9 H11)→
     ∃ m,m < n∧∃ i σ' H',Inv (blk X scope own fr s3 (upd H2 p (.lst [])) fp) [] σ' H' s11∧tn i s11.heap∧(∀ b∈fp,H' b=none)∧W i m σ' H':=fun {H11 s11} I11 ⟨m',hm,w11⟩=>by
    refine ⟨m',hm,i+1,σ9,H11,I11.unpinned,T.keep _ _ _ st8 fun b hb' o e=>(I11.pin (b,o) (List.mem_append_right _ (List.mem_append_right _ (kY hb' e)))).1,fun b hb'=>?_,w11⟩
    obtain ⟨o,e,d⟩:=T.obj _ _ st8 b hb'
    exact (I11.pin (b,o) (List.mem_append_right _ (List.mem_append_right _ (kY hb' e)))).2.1
   cases ok with
   | false=>
    rw [if_neg Bool.false_ne_true] at q10 ⊢
    exact again I10 (hN _ _ q10)
   | true=>
    rw [if_pos rfl] at q10 ⊢
    refine thn (he _ s10 σ9 H10 _ I10 q10) fun yv s11 ⟨y,H11,I11,r11,ys,hys,hlen,q11⟩=>?_
    have ap:=Jh (X:=blk X scope own fr s3 (upd H2 p (.lst [])) fp) ([]++zK fp s8.heap) s11 σ9 H11 (.ref p) [y] (.ref p) [yv] (fun _ H12=>∃ m',m' < n∧W (i+1) m' σ9 H12) I11 rfl (.cons r11 .nil) ⟨p,ys,y,rfl,rfl,hys,hlen,hN _ _ q11⟩
    exact thn ap fun _ s12 ⟨_,H12,I12,_,q12⟩=>again I12 q12
 refine codeAny_compStart_list (loop _ rfl) (T.self X.A 0 _ _ _ st4 (loop _ rfl))
theorem jaX {X:Cx} {scope:Scope} {elt tg iter:Expr} {ifs:List Expr} {pos:Pos} {wi:TI} {g:TG} {tt:TT} {te:TE} (own:List Str) (fr:List Nat) (hc:X.calm=true) (O:CompOk X scope fr) (hi:PI X.nox tg iter wi)
  (hb:∀ s H ex,PG (blk X.nox scope own fr s H ex) tg g∧PTs (blk X.nox scope own fr s H ex) ifs tt∧PE (blk X.nox scope own fr s H ex) elt te)
  (hs:∀ x,foldedSetIterable iter X.env x=pure x:=by intro _;rfl):PE X.nox (.ListComp elt [⟨tg,iter,ifs,0⟩] scope pos) (KA own fr wi g tt te):=by
 intro pins s σ H Q I h
 rw [eval_ListComp]
 refine jdI (X:=X.nox) (use:=none) (Q:=Q) hc ⟨O.kind,O.nocell,O.loc,O.frees,O.fr⟩ hi hb hs I h (fun _ _=>Iff.rfl) fun p C H' s' m hm hC _ _ I' back q=>?_
 exact ⟨m,hm,fun h' hs'=>⟨.ref p,H',back h' hs',rfl,q⟩⟩
section
variable {p:Addr} {g:TG} {tt:TT} {te:TE} {σ:St} {H:Hp} {Q:VK}
theorem jeS (J:It) (n:Nat) (Pv:Nat→St→Hp→Prop) (h0:Pv 0 σ H) (stop:∀ σ' H',Pv n σ' H'→J.stop n H') (go:∀ i σ' H',i < n→Pv i σ' H'→J.go i H')
  (hs:∀ i σ' H',i < n→Pv i σ' H'→∀ x H2,J.yld i H' x H2→g x σ' H2 fun σ3 H3=>tt σ3 H3 fun c H4=>if c=true then te σ3 H4 fun y H5=>∃ ys,H5 p=some (.lst ys)∧ys.length < sizeLine∧Pv (i+1) σ3 (upd H5 p (.lst (ys++[y]))) else Pv (i+1) σ3 H4)
  (hd:∀ σ' H',Pv n σ' H'→Q (.ref p) H'):jap J p g tt te Q σ H:=by
 refine ⟨fun i m σ H=>m=n - i∧i≤n∧Pv i σ H,⟨n,by simp,Nat.zero_le _,h0⟩,?_⟩
 rintro i m σ1 H1 ⟨rfl,hi,pv⟩
 by_cases hlt:i < n
 ·exact .inr ⟨go i σ1 H1 hlt pv,Pv (i+1),fun σ3 H3 q=>⟨n - (i+1),by omega,rfl,hlt,q⟩,hs i σ1 H1 hlt pv⟩
 ·have e:i=n:=by omega
  subst e
  exact .inl ⟨stop σ1 H1 pv,hd σ1 H1 pv⟩
theorem zy {lo:Int} {n:Nat} (Pv:Nat→St→Hp→Prop) (h0:Pv 0 σ H)
  (hs:∀ i σ' H',i < n→Pv i σ' H'→g (.int (lo+i)) σ' H' fun σ3 H3=>tt σ3 H3 fun c H4=>if c=true then te σ3 H4 fun y H5=>∃ ys,H5 p=some (.lst ys)∧ys.length < sizeLine∧Pv (i+1) σ3 (upd H5 p (.lst (ys++[y]))) else Pv (i+1) σ3 H4)
  (hd:∀ σ' H',Pv n σ' H'→Q (.ref p) H'):jap (Itr lo n) p g tt te Q σ H:=
 jeS (Itr lo n) n Pv h0 (fun _ _ _=>Nat.le_refl _) (fun i _ _ h _=>h) (fun i σ' H' h pv x H2 y=>by
  obtain ⟨e1,e2⟩:=y
  subst e1 e2
  exact hs i σ' _ h pv) hd
end
inductive D where
 | int (i:Int) | str (x:Str) | tup (ds:List D)
mutual
def Held (H:Hp):D→V→Prop
 | .int i,v=>v=.int i
 | .str x,v=>v=.str x
 | .tup ds,v=>∃ a xs,v=.ref a∧H a=some (.tup xs)∧HeldL H ds xs
def HeldL (H:Hp):List D→List V→Prop
 | [],vs=>vs=[]
 | d :: ds,vs=>∃ v r,vs=v :: r∧Held H d v∧HeldL H ds r
end
mutual
theorem Held.mono {H H':Hp} (e:Same H H'):∀ {d:D} {v:V},Held H d v→Held H' d v
 | .int i,v,h=>by unfold Held at h ⊢;exact h
 | .str x,v,h=>by unfold Held at h ⊢;exact h
 | .tup ds,v,h=>by
  unfold Held at h ⊢
  obtain ⟨a,xs,e1,e2,e3⟩:=h
  exact ⟨a,xs,e1,e a _ e2,HeldL.mono e e3⟩
theorem HeldL.mono {H H':Hp} (e:Same H H'):∀ {ds:List D} {vs:List V},HeldL H ds vs→HeldL H' ds vs
 | [],vs,h=>by unfold HeldL at h ⊢;exact h
 | d :: ds,vs,h=>by
  unfold HeldL at h ⊢
  obtain ⟨v,r,e1,e2,e3⟩:=h
  exact ⟨v,r,e1,Held.mono e e2,HeldL.mono e e3⟩
end
theorem jN {H:Hp} {i:Int}:Held H (.int i) (.int i):=by unfold Held;rfl
theorem jq {H:Hp} {x:Str}:Held H (.str x) (.str x):=by unfold Held;rfl
theorem jB {H:Hp} {a:Addr} {xs:List V} {ds:List D} (e:H a=some (.tup xs)) (h:HeldL H ds xs):Held H (.tup ds) (.ref a):=by unfold Held;exact ⟨a,xs,rfl,e,h⟩
theorem jt {H:Hp}:HeldL H [] []:=by unfold HeldL;rfl
theorem je {H:Hp} {d:D} {ds:List D} {v:V} {r:List V} (h:Held H d v) (t:HeldL H ds r):HeldL H (d :: ds) (v :: r):=by unfold HeldL;exact ⟨v,r,rfl,h,t⟩
theorem HeldL.length {H:Hp}:∀ {ds:List D} {vs:List V},HeldL H ds vs→ds.length=vs.length
 | [],vs,h=>by unfold HeldL at h;subst h;rfl
 | d :: ds,vs,h=>by
  unfold HeldL at h
  obtain ⟨v,r,e1,_,e3⟩:=h
  subst e1
  rw [List.length_cons,List.length_cons,HeldL.length e3]
theorem HeldL.get {H:Hp}:∀ {ds:List D} {vs:List V} {j:Nat} {d:D},HeldL H ds vs→ds[j]?=some d→∃ v,vs[j]?=some v∧Held H d v
 | [],_,_,_,_,e=>by simp at e
 | d :: ds,vs,0,d',h,e=>by
  unfold HeldL at h
  obtain ⟨v,r,e1,e2,e3⟩:=h
  simp at e;subst e e1
  exact ⟨v,rfl,e2⟩
 | d :: ds,vs,j+1,d',h,e=>by
  unfold HeldL at h
  obtain ⟨v,r,e1,e2,e3⟩:=h
  subst e1
  obtain ⟨w,h1,h2⟩:=HeldL.get (j:=j) (d:=d') e3 (by simpa using e)
  exact ⟨w,by simpa using h1,h2⟩
mutual
def D.depth:D→Nat
 | .int _=>0
 | .str _=>0
 | .tup ds=>D.depthL ds+1
def D.depthL:List D→Nat
 | []=>0
 | d :: ds=>max (D.depth d) (D.depthL ds)
end
theorem D.depthL_get:∀ {ds:List D} {j:Nat} {d:D},ds[j]?=some d→d.depth≤D.depthL ds
 | [],_,_,e=>by simp at e
 | d :: ds,0,d',e=>by simp at e;subst e;unfold D.depthL;exact Nat.le_max_left _ _
 | d :: ds,j+1,d',e=>by unfold D.depthL;exact Nat.le_trans (D.depthL_get (j:=j) (by simpa using e)) (Nat.le_max_right _ _)
theorem jc4 {X:Cx}:OpR X (binaryOp .FloorDiv) (rI (fun _ j=>0 < j∧j < 2 ^ 200) fun i j=>.int (i / j)):=opI fun i j _ _ _ _ _ hc q=>by
 refine floordiv_int (by omega) ?_ (.inl (PyProof.noPylong_of_log2 ?_))
 ·rw [Int.fdiv_eq_ediv_of_nonneg _ (by omega)]
  exact q
 ·have h0:j.natAbs≠0:=by omega
  exact Nat.lt_trans ((Nat.log2_lt h0).mpr (show j.natAbs < 2 ^ 200 by omega)) (by decide)
theorem jdL {X:Cx} (hc:X.calm=true):qt X (.builtin "all") (fun xs H Q=>∃ (p:Addr) (ys:List Bool),xs=[.ref p]∧SqL X.K H p (ys.map V.bl)∧Q (.bl (ys.all id)) H):=by
 intro pins s σ H xs us Q I r h
 obtain ⟨p,ys,rfl,hq,q⟩:=h
 obtain ⟨u,rfl,ru⟩:=qz r
 cases ru
 obtain ⟨its,rv,hp,hz⟩:=I.list hq
 refine call_all_walk (wpAny_pyIter_list hp.isList ?_)
 have hne:p≠s.heap.objs.size:=by
  obtain ⟨o,ho,_⟩:=hp.isList
  exact Nat.ne_of_lt (Heap.lt_size ho)
 have hl:=rv.length
 rw [List.length_map] at hl
 refine ⟨_,_,_,_,_,_,fun i=>ys.getD i false,rfl,Walks.list (A:=X.A.in1) (show X.A.in1.handled=none from I.ok.hd hc) s.heap.objs.size p hne its.toArray,⟨⟨_,Heap.get?_push_size _ rfl,rfl,rfl⟩,hp.isList.at fun o e=>Heap.get?_push_of_some _ e⟩,?_,?_⟩
 ·intro i v s1 Q1 E1 hv hq1
  have hv':its[i]?=some v:=by simpa using hv
  have hi:i < its.length:=(List.getElem?_eq_some_iff.mp hv').1
  have ey:(ys.map V.bl)[i]?=some (.bl (ys[i]'(by omega))):=by rw [List.getElem?_map,List.getElem?_eq_getElem (by omega)];rfl
  obtain ⟨w,hw,rw'⟩:=rv.get ey
  rw [hv'] at hw;cases hw
  cases rw'
  have:ys.getD i false=ys[i]'(by omega):=by rw [List.getD_eq_getElem?_getD,List.getElem?_eq_getElem (by omega)];rfl
  have hq2:Q1 (ys.getD i false) s1:=hq1
  rw [this] at hq2
  exact wpAny_truthy_bool hq2
 ·intro h' tk hk
  have e:((List.range its.toArray.size).all fun i=>ys.getD i false)=ys.all id:=by
   have el:its.toArray.size=ys.length:=by simp;omega
   rw [el]
   apply Bool.eq_iff_iff.mpr
   rw [List.all_eq_true,List.all_eq_true]
   constructor
   ·intro h x hx
    obtain ⟨i,hi,rfl⟩:=List.mem_iff_getElem.mp hx
    have:=h i (List.mem_range.mpr hi)
    rw [List.getD_eq_getElem?_getD,List.getElem?_eq_getElem hi] at this
    exact this
   ·intro h i hi
    have hi:=List.mem_range.mp hi
    rw [List.getD_eq_getElem?_getD,List.getElem?_eq_getElem hi]
    exact h _ (List.getElem_mem hi)
  rw [e]
  exact ⟨.bl (ys.all id),H,I.kept (t':=tk) fun b o e=>hk b o (by simp;exact Nat.ne_of_lt (Heap.lt_size e)) (Heap.get?_push_of_some _ e),rfl,q⟩
theorem kP {X:Cx}:qt X (.builtin "isinstance") (fun xs H Q=>∃ x t T b,xs=[x,.ty T]∧TyOf X.K H x t∧PySem.W.kitOne X.K t (.type T)=some b∧Q (.bl b) H):=by
 intro pins s σ H xs us Q I r h
 obtain ⟨x,t,T,b,rfl,ty,e,q⟩:=h
 obtain ⟨u,v,rfl,ru,rv⟩:=jat r
 cases rv
 exact jb5 I ru ty e fun tk=>⟨.bl b,H,I.tok _,rfl,q⟩
theorem jdr (K:PySem.W.Frag):PySem.W.kitOne K (.type "tuple") (.type "tuple")=some true:=rfl
theorem jf5 (K:PySem.W.Frag):PySem.W.kitOne K (.type "int") (.type "tuple")=some false:=rfl
theorem jf2 (K:PySem.W.Frag):PySem.W.kitOne K (.type "str") (.type "tuple")=some false:=rfl
theorem jds (K:PySem.W.Frag):PySem.W.kitOne K (.type "int") (.type "int")=some true:=rfl
theorem jf4 (K:PySem.W.Frag):PySem.W.kitOne K (.type "str") (.type "int")=some false:=rfl
theorem jf6 (K:PySem.W.Frag):PySem.W.kitOne K (.type "int") (.type "bool")=some false:=rfl
theorem jf3 (K:PySem.W.Frag):PySem.W.kitOne K (.type "str") (.type "str")=some true:=rfl
def kA:Expr→Bool
 | .Starred _ _=>false
 | _=>true
theorem qf {e:Expr} (h:kA e=true) (j3:List Expr) (env:Env):starEach (e :: j3) env=(false,eval e env) :: starEach j3 env:=by
 cases e <;> first | rfl | cases h
theorem yp (pos:Pos) (env:Env):∀ es:List Expr,es.all kA=true→(backTo pos (starEach es env)).any (·.1)=false
 | [],_=>rfl
 | e :: es,h=>by
  rw [List.all_cons,Bool.and_eq_true] at h
  rw [qf h.1]
  have ih:=yp pos env es h.2
  show (false || (backTo pos (starEach es env)).any (·.1))=false
  rw [ih]
  rfl
theorem qm {X:Cx} {e:Expr} {es:List Expr} {te:TE} {t:TA} (ha:PE X e te) (hr:PA X es t) (hp:kA e=true:=by rfl):PA X (e :: es) (jcy te t):=jeo ha hr (qf hp es X.env)
theorem qV {X:Cx} {x:Str} {p pos:Pos} {e:Expr} {es:List Expr} {t:TA} {id:String} {r:List V→Hp→VK→Prop} (hc:qt X (.builtin id) r) (hg:Gl X x) (hm:X.mg x=none) (hv:bootBuiltins x=some (.builtin id)) (ha:PA X (e :: es) t) (hp:(e :: es).all kA=true:=by rfl) (hn:x≠"__name__":=by decide) (hdb:(x == ("__debug__" : Str))=false:=by decide) :
  PE X (.Call (.Name x p) (e :: es) [] pos) (tCB r t):=by
 rw [List.all_cons,Bool.and_eq_true] at hp
 exact jc1 hc hg hm hv ha hn hdb (qf hp.1 es X.env) (yp pos X.env es hp.2)
theorem jgJ {X:Cx} {x:Str} {p pos:Pos} {e:Expr} {es:List Expr} {t:TA} {T:String} {r:List V→Hp→VK→Prop} (hc:qt X (.type T) r) (hg:Gl X x) (hm:X.mg x=none) (hv:bootBuiltins x=some (.type T)) (ha:PA X (e :: es) t) (hp:(e :: es).all kA=true:=by rfl) (hn:x≠"__name__":=by decide) (hdb:(x == ("__debug__" : Str))=false:=by decide) :
  PE X (.Call (.Name x p) (e :: es) [] pos) (tCB r t):=by
 rw [List.all_cons,Bool.and_eq_true] at hp
 exact jbH hc hg hm hv ha hn hdb (qf hp.1 es X.env) (yp pos X.env es hp.2)
structure Fn (P:Program) (w:World) (K:PySem.W.Frag) (mg:Str→Option Value) (base:Heap) (k:Nat) (x:Str) (ps:List Str) (sp:Sp):Prop where
 ex:∃ f fd,FnOk P w K mg base CX0 k f fd ps sp∧Binds K fd ps []∧PySem.W.keepIn K (.ref f)=true∧mg x=some (.ref f)
theorem jfj {X:Cx} {k k':Nat} {x:Str} {ps:List Str} {sp:Sp} {e:Expr} {es:List Expr} {t:TA} {p pos:Pos} (F:Fn X.prog X.w X.K X.mg X.base k x ps sp) (hr:Room k' X.A) (ha:PA X (e :: es) t) (hk:k≤k':=by decide) (hg:Gl X x:=by rfl)
  (hd:(x == ("__debug__" : Str))=false:=by decide) (hp:(e :: es).all kA=true:=by rfl):PE X (.Call (.Name x p) (e :: es) [] pos) (KB sp [] E0 t):=by
 obtain ⟨f,fd,G,b,kp,m⟩:=F.ex
 rw [List.all_cons,Bool.and_eq_true] at hp
 exact jaY G (hr.mono hk) hg m kp b .nil jfl ha hd (qf hp.1 es X.env) (yp pos X.env es hp.2)
theorem Fn.mk' {P:Program} {w:World} {K:PySem.W.Frag} {mg:Str→Option Value} {base:Heap} {k:Nat} {x:Str} {ps:List Str} {sp:Sp} {st:Stmt} {f:Addr} {fd:FuncData} (F:Fun K x x st f fd) (b:Binds K fd ps []) (m:mg x=some (.ref f)) (G:FnOk P w K mg base CX0 k f fd ps sp):Fn P w K mg base k x ps sp:=⟨f,fd,G,b,F.kp,m⟩
theorem JP {X:Cx} {scope:Scope} {fr:List Nat} {sc:Scope} {N:List Str} (h1:X.env.scope=sc) (h2:X.N=N) (h:scope.kind=.function∧(∀ y∈scope.names,y.2≠.cell)∧(∀ y∈scope.names,y.2=.local→scope.names.lookup y.1=some .local)∧
  (∀ y∈scope.names,y.2=.free→sc.names.lookup y.1=some .cell∨sc.names.lookup y.1=some .free)∧∀ j∈fr,scope.names.lookup (N.getD j (Str.ofString ""))=some .free):CompOk X scope fr:=by
 obtain ⟨a,b,c,d,e⟩:=h
 exact ⟨a,b,c,by rw [h1];exact d,by rw [h2];exact e⟩
theorem kj:bootBuiltins "len" = some (.builtin "len"):=by decide +kernel
theorem jdM:bootBuiltins "max" = some (.builtin "max"):=by decide +kernel
theorem jgi:bootBuiltins "min" = some (.builtin "min"):=by decide +kernel
theorem jgj:bootBuiltins "all" = some (.builtin "all"):=by decide +kernel
theorem kn:bootBuiltins "isinstance" = some (.builtin "isinstance"):=by decide +kernel
theorem jaj:bootBuiltins "abs" = some (.builtin "abs"):=by decide +kernel
theorem yw:bootBuiltins "int" = some (.type "int"):=by decide +kernel
theorem Yz:bootBuiltins "str" = some (.type "str"):=by decide +kernel
theorem jeW:bootBuiltins "bool" = some (.type "bool"):=by decide +kernel
theorem Zu:bootBuiltins "tuple" = some (.type "tuple"):=by decide +kernel
structure Free0 (mg:Str→Option Value):Prop where
 len_:mg "len" = none
 max_:mg "max" = none
 min_:mg "min" = none
 all_:mg "all" = none
 isinstance_:mg "isinstance" = none
 abs_:mg "abs" = none
 sorted_:mg "sorted" = none
 int_:mg "int" = none
 str_:mg "str" = none
 bool_:mg "bool" = none
 tuple_:mg "tuple" = none
 list_:mg "list" = none
 dict_:mg "dict" = none
 range_:mg "range" = none
 set_:mg "set" = none
theorem ja7 {X:Cx} {K:PySem.W.Frag} (h:X.K=K:=by rfl):IxR X (jgE K):=by subst h;exact jY
structure QS (X:Cx) (st:Stmt) (t:TS):Prop where
 h:PS X st t
structure QSs (X:Cx) (st:List Stmt) (t:TS):Prop where
 h:PSs X st t
theorem qs {X:Cx} {st:Stmt} {t:TS} (h:PS X st t):QS X st t:=⟨h⟩
theorem qW {X:Cx}:OpR X (binaryOp .Add) (fun x y H Q=>∃ a b xs ys,x=.ref a∧y=.ref b∧SqL X.K H a xs∧SqL X.K H b ys∧xs.length+ys.length≤sizeLine∧∀ l,H l=none→Q (.ref l) (upd H l (.lst (xs++ys)))):=by
 intro pins s σ H x y v u Q I rx ry h
 obtain ⟨a,b,xs,ys,rfl,rfl,ha,hb,hz,q⟩:=h
 cases rx;cases ry
 obtain ⟨its,rv,⟨⟨c1,d1,t1,l1⟩,n1,o1,z1,z2,z3⟩,hz1⟩:=I.list ha
 obtain ⟨its2,rv2,⟨⟨c2,d2,t2,l2⟩,n2,o2,y1,y2,y3⟩,hz2⟩:=I.list hb
 simp only at z1 z2 z3 y1 y2 y3
 subst z1 z2 z3 y1 y2 y3
 have h1:=rv.length
 have h2:=rv2.length
 refine concat_meets ⟨_,o1,rfl⟩ ⟨_,o2,rfl⟩ noFill_list_add seq_list_add PySem.F.slot_list_add PySem.F.entry_list_add (PySem.F.args_list_add_2 _ _)
  (list_addW a b its.toArray its2.toArray n1 n2 none none l1 l2 (by simp only [List.size_toArray];omega)) ⟨o1,o2,?_⟩
 have e:its.toArray++its2.toArray=(its++its2).toArray:=by simp
 rw [e]
 refine ⟨.ref s.heap.objs.size,_,I.laid (t':=s.toks) (fun b u hb=>Heap.get?_push_of_some _ hb) (Nat.le_refl _) (show ObjOk X.prog X.w _ _ _ (.lst (xs++ys)) from ⟨?_,its++its2,0,rv.append rv2,Heap.get?_push_size _ rfl⟩),rfl,q _ (I.hok.fresh (Nat.le_refl _))⟩
 rw [List.length_append]
 exact hz
theorem J8 {X:Cx}:OpR X (binaryOp .Mult) (fun x y H Q=>∃ i j,x=.str i∧y=.int j∧i.length≤16∧0≤j∧j≤1000∧Q (.str (Txt.mul i j)) H):=by
 intro pins s σ H x y v u Q I rx ry h
 obtain ⟨i,j,rfl,rfl,h1,h2,h3,q⟩:=h
 obtain ⟨t,rfl⟩:=rx
 obtain ⟨t',rfl⟩:=ry
 exact SB.mul (mulOk_of 16 1000 h1 (by omega) (by omega) (by decide) (by decide)) fun t' k=>⟨.str (Txt.mul i j),H,I.tok _,⟨_,rfl⟩,q⟩
open PySem PySem.Spec PyProof.Rows PySem.W
def OkP (N:Nat) (p:Array Nat):Prop:=p.toList.Perm (List.range N)
theorem OkP.size {N:Nat} {p:Array Nat} (h:OkP N p):p.size=N:=by
 have:=h.length_eq
 rw [List.length_range] at this
 simpa using this
end L2
namespace PySem
open Sem (wp)
namespace F
end F
end PySem
namespace L2
open PySem PySem.Spec PyProof.Rows PySem.W
theorem Inv.more {X:Cx} {pins:List (Addr×Obj)} {σ:St} {H H':Hp} {s:Shared} {h':Heap} {t':Nat} (I:Inv X pins σ H s) (k:∀ b u,s.heap.get? b=some u→h'.get? b=some u) (same:Same H H')
  (new:∀ b o,H b=none→H' b=some o→s.heap.objs.size≤b∧ObjOk X.prog X.w H' h' b o):Inv X pins σ H' { s with heap:=h',toks:=t' }:=by
 refine I.un ⟨fun b u q _ _ _=>k b u q,fun b u q _ _ _=>⟨u.slots,k b u q⟩,fun b u q n _=>?_,fun b u q _=>⟨u,k b u q⟩,fun b xs q=>same _ _ q,fun b u xs q=>same _ _ q,fun b ps q=>⟨#[],by rw [same _ _ q];simp⟩⟩ fun b o e=>?_
 ·cases e:H' b with
  | none=>rfl
  | some o=>exact absurd (Heap.lt_size q) (Nat.not_lt.mpr (new b o n e).1)
 ·cases q:H b with
  | none=>exact (new b o q e).2
  | some u=>
   have:=same _ _ q
   rw [e] at this
   cases this
   exact (I.hok b o q).stay (fun c v _ q=>k c v q) (fun c q=>same _ _ q) fun c xs q=>same _ _ q
abbrev Up (xs:Array Nat):Prop:=xs.toList.Pairwise (· < ·)
structure TabOk (led:Bool) (t:SetTable):Prop where
 led_:t.led=led
 none_:t.dummies=#[]
 up:Up t.place
end L2
namespace PySem
namespace F
end F
end PySem
namespace L2
open PySem PySem.Spec PyProof.Rows PySem.W
abbrev jcJ (es:Array (Int×Value)) (ep:Nat) (t:SetTable):Obj:={ cls:=.type "set",dict:=none,data:=.set es ep t }
open PySem PySem.Spec PySem.Calls PyProof.Rows PySem.W
theorem Inv.drawn {X:Cx} {pins:List (Addr×Obj)} {σ:St} {H:Hp} {s:Shared} {h':Heap} {d':Drawn} (I:Inv X pins σ H s) (k:∀ b u,s.heap.get? b=some u→h'.get? b=some u):Inv X pins σ H { s with heap:=h',drawn:=d' }:=
 I.call (g':=s.gens) (t':=s.toks) (d':=d') (ch:=[]) (Un.kept k) (I.hok.kept k) I.bare fun _ z=>nomatch z
theorem jcf {X:Cx} {scope:Scope} {own:List Str} {fr:List Nat} {elt tg iter:Expr} {ifs:List Expr} {pos:Pos} {wi:TI} {g:TG} {tt:TT} {te:TE} {use:Option (Value→Sem Unit)} (hc:X.calm=true) (O:CompOk X scope fr) (hi:PI X tg iter wi)
  (hb:∀ s H ex,PG (blk X scope own fr s H ex) tg g∧PTs (blk X scope own fr s H ex) ifs tt∧PE (blk X scope own fr s H ex) elt te)
  (hs:∀ x,foldedSetIterable iter X.env x=pure x) {pins:List (Addr×Obj)} {s:Shared} {σ:St} {H:Hp} {Q:VK} {R:Value→Shared→Prop} (I:Inv X pins σ H s) (h:KA own fr wi g tt te σ H Q) (hx:∀ e s',X.xe e s'↔False)
  (fin:∀ (p C:Addr) (H':Hp) (s':Shared) (m:Str→Option Value),s'.heap.Ns C m→H' C=none→C≠X.env.locals→(∀ x c,X.env.cells.lookup x=some c→c≠C)→X.s₀.heap.objs.size≤C→(∀ p∈X.pn++pins,p.1≠C)→Inv X pins σ H' s'→(∀ h',Heap.SameBut C s'.heap h'→Inv X pins σ H' { s' with heap:=h' })→Q (.ref p) H'→
   compPost (model X.prog X.w) X.A X.xe use R (.ref p) C (.ok .next) s') :
  wpAny (model X.prog X.w) X.A (comprehension (.ListComp elt [⟨tg,iter,ifs,0⟩] scope pos) scope X.env (firstIterPos [⟨tg,iter,ifs,0⟩] pos) (newList []) false (eval iter X.env) use) R X.xe s:=by
 have hsome:∀ x∈scope.names,x.2=.free→(X.env.cells.lookup x.1).isSome=true:=fun x hx' e=>by
  obtain ⟨c,hc⟩:=I.ok.has x.1 (O.frees x hx' e)
  rw [hc];rfl
 have no:∀ (E:Value→Shared→Prop) (x:Value) (s':Shared),X.xe x s'→E x s':=fun E x s' z=>((hx x s').mp z).elim
 refine wpAny_comprehension_free (cl:=zR X.env.cells scope.names []) rfl hs (Kn hsome) O.kind O.loc ?_
 refine thn (hi pins s σ H _ I h) fun v s1 h1=>thn h1 fun itv s2 h2=>?_
 obtain ⟨it,fp,tn,J,H2,e,I2,T,st2,f2,q2⟩:=h2
 subst e
 refine wpAny_newObj_type ?_
 have nw:H2 s2.heap.objs.size=none:=I2.fresh
 obtain ⟨W,⟨m0,w0⟩,turn⟩:=q2 _ nw
 generalize hp:s2.heap.objs.size=p at *
 have I3:Inv X pins σ (upd H2 p (.lst [])) { s2 with heap:=s2.heap.push { cls:=.type "list",dict:=none,data:=.seq ([]:List Value).toArray } }:=by
  have:=I2.lnew (ys:=[]) (its:=[]) (t':=s2.toks) .nil (Nat.zero_le _)
  rw [hp] at this
  exact this
 have lt2:∀ b∈fp,b < s2.heap.objs.size:=fun b hb=>by
  obtain ⟨o,ho,_⟩:=T.obj _ _ st2 b hb
  exact Heap.lt_size ho
 have fpn:∀ b∈fp,(upd H2 p (.lst [])) b=none:=fun b hb=>by
  rw [jx (by rw [← hp];exact Nat.ne_of_lt (lt2 b hb))]
  exact (f2 b hb).1
 generalize hs3:({ s2 with heap:=s2.heap.push { cls:=.type "list",dict:=none,data:=.seq ([]:List Value).toArray } }:Shared)=s3 at *
 have sz3:s3.heap.objs.size=p+1:=by
  rw [← hs3]
  show (s2.heap.push _).objs.size=_
  rw [Heap.size_push,hp]
 have st3:tn 0 s3.heap:=T.keep 0 _ _ st2 fun b hb o e=>by
  rw [← hs3]
  exact Heap.get?_push_of_some _ e
 refine wpAny_newFunctionEnv O.nocell (by intro y hy;simp at hy) (fun h4 hns4 hsb4=>?_) O.kind
 have k4:∀ b o,s3.heap.get? b=some o→h4.get? b=some o:=fun b o e=>hsb4.extBut b o (Nat.ne_of_lt (Heap.lt_size e)) (Heap.get?_push_of_some _ e)
 have hns4':h4.Ns s3.heap.objs.size fun _=>none:=by
  have z:(fun x:Str=>([]:List (Str×Value)).reverse.lookup x)=fun _=>none:=by funext x;rfl
  rw [z] at hns4
  exact hns4
 have fo:∀ b∈fp,Jx X pins (upd H2 p (.lst [])) b∧b < s3.heap.objs.size:=fun b hb=>⟨⟨fpn b hb,(f2 b hb).2⟩,by rw [sz3,← hp];exact Nat.lt_succ_of_lt (lt2 b hb)⟩
 have I4:=ja9 (own:=own) (fr:=fr) (t1:=s3.toks+([]:List (Str×Value)).length) I3 O fo hns4' k4
 have st4:tn 0 h4:=T.keep 0 _ _ st3 fun b hb o e=>k4 b o e
 obtain ⟨hg,ht,he⟩:=hb s3 (upd H2 p (.lst [])) fp
 have stat:∀ {H':Hp} {pn:List (Addr×Obj)} {s':Shared} {σ':St},Inv (blk X scope own fr s3 (upd H2 p (.lst [])) fp) [] σ' H' s'→(∀ b∈fp,H' b=none)→∀ b∈fp,Jx (blk X scope own fr s3 (upd H2 p (.lst [])) fp) [] H' b:=fun {H' pn s' σ'} J hn b hb'=>
  ⟨hn b hb',(J.ok.exf b hb').1,J.ok.exfs b hb',.inl hb',(J.ok.exf b hb').2,fun p hp=>absurd hp (by simp [blk])⟩
 have nocells:∀ x c,X.env.cells.lookup x=some c→c≠s3.heap.objs.size:=fun x c e=>by
  obtain ⟨v,q⟩:=I3.cell x c e
  exact Nat.ne_of_lt q.lt
 have loop:∀ s5:Shared,s5={ s3 with heap:=h4,toks:=s3.toks+([]:List (Str×Value)).length }→
   codeAny (model X.prog X.w) X.A (.compLoop (.ListComp elt [⟨tg,iter,ifs,0⟩] scope pos) 0 (.ref it) (.ref p) (blk X scope own fr s3 (upd H2 p (.lst [])) fp).env) (compPost (model X.prog X.w) X.A X.xe use R (.ref p) s3.heap.objs.size) s5:=by
  rintro s5 rfl
  refine y7 (fun n s'=>∃ i σ' H',Inv (blk X scope own fr s3 (upd H2 p (.lst [])) fp) [] σ' H' s'∧tn i s'.heap∧(∀ b∈fp,H' b=none)∧W i n σ' H') ?_ m0 ⟨0,_,_,I4,st4,fpn,w0⟩
  rintro n s6 ⟨i,σ6,H6,I6,st6,fr6,w6⟩
  rcases turn i n σ6 H6 w6 with ⟨stop,qn⟩ | ⟨go,N,hN,step⟩
  ·refine thn (T.done (blk X scope own fr s3 (upd H2 p (.lst [])) fp) rfl rfl rfl hc i [] s6 σ6 H6 _ I6 (stat (pn:=[]) I6 fr6) st6 stop) fun r s7 ⟨hr,I7⟩=>?_
   subst hr
   obtain ⟨m,hm,_⟩:=I7.loc
   exact fin p _ H6 s7 m hm I7.free (Nat.ne_of_gt I3.lt) nocells I3.sz (fun p hp=>Nat.ne_of_lt (Heap.lt_size (I3.pin p hp).1)) (Ja I3 fo I7 (Heap.SameBut.refl ..)) (fun h' hs'=>Ja I3 fo I7 hs') qn
  ·refine thn (T.item (blk X scope own fr s3 (upd H2 p (.lst [])) fp) rfl rfl rfl hc i [] s6 σ6 H6 _ I6 (stat (pn:=[]) I6 fr6) st6 go) fun r s7 ⟨u,hr,h7⟩=>?_
   subst hr
   refine thn h7 fun _ s8 ⟨x,H8,I8,r8,y8,st8,fr8⟩=>?_
   have I8':=I8.pinned (stat (pn:=[]) I8 fr8) (T.obj _ _ st8)
   refine thn (hg _ s8 σ6 H8 x u _ I8' r8 (step x H8 y8)) fun _ s9 ⟨σ9,H9,I9,q9⟩=>?_
   refine thn (ht _ s9 σ9 H9 _ I9 q9) fun ok s10 ⟨H10,I10,q10⟩=>?_
   have again:∀ {H11:Hp} {s11:Shared},Inv (blk X scope own fr s3 (upd H2 p (.lst [])) fp) ([]++zK fp s8.heap) σ9 H11 s11→(∃ m',m' < n∧W (i+1) m' σ9 H11)→
     ∃ m,m < n∧∃ i σ' H',Inv (blk X scope own fr s3 (upd H2 p (.lst [])) fp) [] σ' H' s11∧tn i s11.heap∧(∀ b∈fp,H' b=none)∧W i m σ' H':=fun {H11 s11} I11 ⟨m',hm,w11⟩=>by
    refine ⟨m',hm,i+1,σ9,H11,I11.unpinned,T.keep _ _ _ st8 fun b hb' o e=>(I11.pin (b,o) (List.mem_append_right _ (List.mem_append_right _ (kY hb' e)))).1,fun b hb'=>?_,w11⟩
    obtain ⟨o,e,d⟩:=T.obj _ _ st8 b hb'
    exact (I11.pin (b,o) (List.mem_append_right _ (List.mem_append_right _ (kY hb' e)))).2.1
   cases ok with
   | false=>
    rw [if_neg Bool.false_ne_true] at q10 ⊢
    exact again I10 (hN _ _ q10)
   | true=>
    rw [if_pos rfl] at q10 ⊢
    refine thn (he _ s10 σ9 H10 _ I10 q10) fun yv s11 ⟨y,H11,I11,r11,ys,hys,hlen,q11⟩=>?_
    have ap:=Jh (X:=blk X scope own fr s3 (upd H2 p (.lst [])) fp) ([]++zK fp s8.heap) s11 σ9 H11 (.ref p) [y] (.ref p) [yv] (fun _ H12=>∃ m',m' < n∧W (i+1) m' σ9 H12) I11 rfl (.cons r11 .nil) ⟨p,ys,y,rfl,rfl,hys,hlen,hN _ _ q11⟩
    exact thn ap fun _ s12 ⟨_,H12,I12,_,q12⟩=>again I12 q12
 refine codeAny_compStart_list (loop _ rfl) (T.self X.A 0 _ _ _ st4 (loop _ rfl))
theorem ZL {X:Cx} {scope:Scope} {elt tg iter:Expr} {ifs:List Expr} {pos:Pos} {wi:TI} {g:TG} {tt:TT} {te:TE} {i:Nat} {y:Str} {py spos:Pos} (hN:X.N.Nodup) (hi':X.N[i]?=some y) (hy:Loc X.env.scope y) (own:List Str) (fr:List Nat) (hc:X.calm=true) (O:CompOk X scope fr) (hi:PI X.nox tg iter wi)
  (hb:∀ s H ex,PG (blk X.nox scope own fr s H ex) tg g∧PTs (blk X.nox scope own fr s H ex) ifs tt∧PE (blk X.nox scope own fr s H ex) elt te)
  (hs:∀ x,foldedSetIterable iter X.env x=pure x:=by intro _;rfl)
  (hsw:swapsWith (.ListComp elt [⟨tg,iter,ifs,0⟩] scope pos) (some (.Name y py)) spos.line X.env=pure true:=by rfl)
  (hf:X.fn y=true∨X.env.scope.names.lookup y=some .local:=by first | exact .inl rfl | exact .inr rfl | assumption) :
  PS X.nox (.Assign [.Name y py] (.ListComp elt [⟨tg,iter,ifs,0⟩] scope pos) spos) (jbB (KA own fr wi g tt te) (kW i)):=by
 intro pins s σ H D I h
 rw [exec_Assign_Name_used _ _ _ _ hsw]
 refine wpAny_bind (wpAny_standAt (wpAny_bind ?_))
 show wpAny _ _ (do let _ ← comprehension (.ListComp elt [⟨tg,iter,ifs,0⟩] scope pos) scope X.nox.env _ (newList []) false (eval iter X.nox.env) (some (assign (.Name y py) X.nox.env))) _ _ s
 refine wpAny_bind (wpAny_mono (jcf (X:=X.nox) (use:=some (assign (.Name y py) X.nox.env)) (R:=fun _ s'=>SP X.nox pins D .next s') hc ⟨O.kind,O.nocell,O.loc,O.frees,O.fr⟩ hi hb hs I h (fun _ _=>Iff.rfl)
  fun p C H' s' m hm hC hL hcs hz hpn I' back q=>?_) (fun _ s' hq=>wpAny_pure (wpAny_pure hq)) fun _ _ e=>e)
 show wpAny _ _ (assign (.Name y py) X.nox.env (.ref p)) _ _ _
 refine wpAny_assign_Name (KD (v:=.ref p) I' hN hi' hy rfl (fun s2 I2 hsb=>?_) hf)
 obtain ⟨a,hsa,ha⟩:=hsb
 have hCa:C≠a:=by
  rcases ha with rfl | e
  ·exact hL
  ·exact fun z=>hcs _ _ e z.symm
 refine ⟨m,hm.sameBut hsa hCa,fun h' hs'=>?_⟩
 exact ⟨_,H',I2.turned (t':=s2.toks) (fun b o hb e=>(hs'.2 b hb).trans e) hC hL (.inr hz) hcs hpn,q⟩
section
variable {X:Cx} {pins:List (Addr×Obj)} {σ:St} {H:Hp} {s:Shared} {tg:Expr}
theorem Inv.relabel {a:Addr} {u v:HO} (I:Inv X pins σ H s) (hu:H a=some u) (h1:∀ xs,u≠.tup xs) (h2:∀ ps,u≠.tbl ps) (h3:∀ o z,X.H₀ a≠some (.frz o z)) (h4:∀ x,u≠.own x) (hv:ObjOk X.prog X.w (upd H a v) s.heap a v):Inv X pins σ (upd H a v) s:=by
 have ne:∀ b,H b=none→b≠a:=fun b n z=>by rw [z,hu] at n;cases n
 have nt:∀ b xs,H b=some (.tup xs)→b≠a:=fun b xs n z=>by rw [z,hu] at n;exact h1 xs (Option.some.inj n)
 have no:∀ b x,H b=some (.own x)→b≠a:=fun b x n z=>by rw [z,hu] at n;exact h4 x (Option.some.inj n)
 refine ⟨I.ok,I.os,I.bare,⟨I.base.keep,I.base.slot,fun b o e n hx=>?_,I.base.there,fun b xs e=>?_,fun b o z e=>?_,fun b ps e=>?_⟩,I.loc,I.cell,?_,fun x c e=>?_,fun p hp=>?_,fun b o e=>?_,I.len⟩
 ·have q:=I.base.free b o e n hx
  rw [jx (ne b q)];exact q
 ·have q:=I.base.tups b xs e
  rw [jx (nt b xs q)];exact q
 ·have hb:b≠a:=fun z'=>by subst z';exact h3 _ _ e
  rw [jx hb]
  exact I.base.frzs b o z e
 ·obtain ⟨m,q⟩:=I.base.tbls b ps e
  have hb:b≠a:=fun z'=>by rw [z',hu] at q;exact h2 _ (Option.some.inj q)
  exact ⟨m,by rw [jx hb];exact q⟩
 ·rw [jx (ne _ I.free)];exact I.free
 ·rw [jx (ne _ (I.freeC x c e))];exact I.freeC x c e
 ·obtain ⟨q1,q2,q3⟩:=I.pin p hp
  exact ⟨q1,by rw [jx (ne _ q2)];exact q2,q3⟩
 ·by_cases hb:b=a
  ·subst hb
   rw [jf] at e
   cases e
   exact hv
  ·rw [jx hb] at e
   exact (I.hok b o e).stay (fun _ _ _ q=>q) (fun c q=>by rw [jx (no c _ q)];exact q) fun c xs q=>by rw [jx (nt c xs q)];exact q
end
end L2
namespace PySem
open AutoSeq1 (wpAny_loadPart')
end PySem
namespace L2
open PySem PySem.Spec PyProof.Rows
open PySem PySem.Spec PyProof.Rows PySem.W
mutual
def dEq:D→D→Bool
 | .int i,.int j=>i == j
 | .str x,.str y=>x == y
 | .tup a,.tup b=>dEqL a b
 | _,_=>false
def dEqL:List D→List D→Bool
 | [],[]=>true
 | a :: as,b :: bs=>dEq a b && dEqL as bs
 | _,_=>false
end
mutual
theorem yf:∀ {a b:D},dEq a b=true↔a=b
 | .int i,.int j=>by unfold dEq;rw [beq_iff_eq];exact ⟨(fun h=>by rw [h]),(fun h=>by injection h)⟩
 | .str i,.str j=>by unfold dEq;rw [beq_iff_eq];exact ⟨(fun h=>by rw [h]),(fun h=>by injection h)⟩
 | .tup a,.tup b=>by unfold dEq;rw [dEqL_iff];exact ⟨(fun h=>by rw [h]),(fun h=>by injection h)⟩
 | .int i,.str j=>by unfold dEq;exact ⟨(fun h=>by cases h),(fun h=>by cases h)⟩
 | .int i,.tup j=>by unfold dEq;exact ⟨(fun h=>by cases h),(fun h=>by cases h)⟩
 | .str i,.int j=>by unfold dEq;exact ⟨(fun h=>by cases h),(fun h=>by cases h)⟩
 | .str i,.tup j=>by unfold dEq;exact ⟨(fun h=>by cases h),(fun h=>by cases h)⟩
 | .tup i,.int j=>by unfold dEq;exact ⟨(fun h=>by cases h),(fun h=>by cases h)⟩
 | .tup i,.str j=>by unfold dEq;exact ⟨(fun h=>by cases h),(fun h=>by cases h)⟩
theorem dEqL_iff:∀ {a b:List D},dEqL a b=true↔a=b
 | [],[]=>by unfold dEqL;exact ⟨(fun _=>rfl),(fun _=>rfl)⟩
 | a :: as,b :: bs=>by
  unfold dEqL
  rw [Bool.and_eq_true,yf,dEqL_iff]
  exact ⟨(fun h=>by rw [h.1,h.2]),(fun h=>by injection h with h1 h2;exact ⟨h1,h2⟩)⟩
 | [],b :: bs=>by unfold dEqL;exact ⟨(fun h=>by cases h),(fun h=>by cases h)⟩
 | a :: as,[]=>by unfold dEqL;exact ⟨(fun h=>by cases h),(fun h=>by cases h)⟩
end
instance:DecidableEq D:=fun a b=>if h:dEq a b=true then isTrue (yf.mp h) else isFalse fun e=>h (yf.mpr e)
theorem jdG (a b:List D):dEqL a b=decide (a=b):=by
 apply Bool.eq_iff_iff.mpr
 rw [dEqL_iff,decide_eq_true_iff]
mutual
theorem Zf {H:Hp}:∀ {d d':D} {v:V},Held H d v→Held H d' v→d=d'
 | .int i,.int j,v,h,h'=>by unfold Held at h h';subst h;injection h' with h';rw [h']
 | .str i,.str j,v,h,h'=>by unfold Held at h h';subst h;injection h' with h';rw [h']
 | .tup a,.tup b,v,h,h'=>by
  unfold Held at h h'
  obtain ⟨p,xs,rfl,e,h⟩:=h
  obtain ⟨p',xs',e0,e',h'⟩:=h'
  injection e0 with e0
  subst e0
  rw [e] at e'
  injection e' with e'
  injection e' with e'
  subst e'
  rw [heldL_inj h h']
 | .int i,.str j,v,h,h'=>by unfold Held at h h';subst h;cases h'
 | .int i,.tup j,v,h,h'=>by unfold Held at h h';subst h;obtain ⟨p,xs,e,_⟩:=h';cases e
 | .str i,.int j,v,h,h'=>by unfold Held at h h';subst h;cases h'
 | .str i,.tup j,v,h,h'=>by unfold Held at h h';subst h;obtain ⟨p,xs,e,_⟩:=h';cases e
 | .tup i,.int j,v,h,h'=>by unfold Held at h h';subst h';obtain ⟨p,xs,e,_⟩:=h;cases e
 | .tup i,.str j,v,h,h'=>by unfold Held at h h';subst h';obtain ⟨p,xs,e,_⟩:=h;cases e
theorem heldL_inj {H:Hp}:∀ {d d':List D} {v:List V},HeldL H d v→HeldL H d' v→d=d'
 | [],[],_,_,_=>rfl
 | a :: as,b :: bs,v,h,h'=>by
  unfold HeldL at h h'
  obtain ⟨u,r,rfl,h1,h2⟩:=h
  obtain ⟨u',r',e,h1',h2'⟩:=h'
  injection e with e1 e2
  subst e1 e2
  rw [Zf h1 h1',heldL_inj h2 h2']
 | [],b :: bs,v,h,h'=>by unfold HeldL at h h';subst h;obtain ⟨u',r',e,_⟩:=h';cases e
 | a :: as,[],v,h,h'=>by unfold HeldL at h h';subst h';obtain ⟨u',r',e,_⟩:=h;cases e
end
theorem Zp:∀ (a b:List D),((List.range (min a.length b.length)).all (fun j=>dEq (a.getD j (.int 0)) (b.getD j (.int 0))) && a.length == b.length)=dEqL a b:=by
 intro a b
 apply Bool.eq_iff_iff.mpr
 rw [dEqL_iff,Bool.and_eq_true,List.all_eq_true,beq_iff_eq]
 constructor
 ·rintro ⟨h1,h2⟩
  apply List.ext_getElem h2
  intro j hj hj'
  have:=h1 j (List.mem_range.mpr (by omega))
  rw [yf] at this
  simpa [hj,hj'] using this
 ·rintro rfl
  exact ⟨fun j _=>yf.mpr rfl,rfl⟩
section
variable {X:Cx} {pins:List (Addr×Obj)} {σ:St} {H:Hp} {s:Shared}
theorem jeN (I:Inv X pins σ H s):∀ (n:Nat) (A:Around) (d d':D) (x y:V) (u v:Value),d.depth≤n→A.units+n < cLine→Held H d x→Held H d' y→RelV x u→RelV y v→SeqAt.EqAt A s u v (dEq d d'):=by
 intro n
 induction n with
 | zero=>
  intro A d d' x y u v hd hA hx hy ru rv
  have hA':A.units < cLine:=by omega
  cases d with
  | int i=>
   unfold Held at hx;subst hx
   obtain ⟨t,rfl⟩:=ru
   cases d' with
   | int j=>
    unfold Held at hy;subst hy
    obtain ⟨t',rfl⟩:=rv
    unfold dEq
    exact SeqAt.EqAt.int_int i t j t'
   | str j=>
    unfold Held at hy;subst hy
    obtain ⟨t',rfl⟩:=rv
    unfold dEq
    exact SeqAt.EqAt.int_str i t j t'
   | tup ds=>
    unfold Held at hy
    obtain ⟨b,ys,rfl,hb,_⟩:=hy
    cases rv
    obtain ⟨its,_,tb,_⟩:=I.tuple (SqT.of hb)
    unfold dEq
    exact SeqAt.EqAt.int_tuple i t (show s.heap.IsTuple b its.toArray from tb) hA'
  | str i=>
   unfold Held at hx;subst hx
   obtain ⟨t,rfl⟩:=ru
   cases d' with
   | int j=>
    unfold Held at hy;subst hy
    obtain ⟨t',rfl⟩:=rv
    unfold dEq
    exact SeqAt.EqAt.str_int i t j t'
   | str j=>
    unfold Held at hy;subst hy
    obtain ⟨t',rfl⟩:=rv
    unfold dEq
    exact SeqAt.EqAt.str_str i t j t'
   | tup ds=>
    unfold Held at hy
    obtain ⟨b,ys,rfl,hb,_⟩:=hy
    cases rv
    obtain ⟨its,_,tb,_⟩:=I.tuple (SqT.of hb)
    unfold dEq
    exact SeqAt.EqAt.str_tuple i t (show s.heap.IsTuple b its.toArray from tb) hA'
  | tup ds=>unfold D.depth at hd;omega
 | succ n ih=>
  intro A d d' x y u v hd hA hx hy ru rv
  have hA':A.units < cLine:=by omega
  cases d with
  | int i=>exact ih A (.int i) d' x y u v (by unfold D.depth;omega) (by omega) hx hy ru rv
  | str z=>exact ih A (.str z) d' x y u v (by unfold D.depth;omega) (by omega) hx hy ru rv
  | tup ds=>
   have hx0:=hx
   unfold Held at hx
   obtain ⟨a,xs,rfl,ha,hxs⟩:=hx
   cases ru
   obtain ⟨its,rva,ta,_⟩:=I.tuple (SqT.of ha)
   cases d' with
   | int j=>
    unfold Held at hy;subst hy
    obtain ⟨t',rfl⟩:=rv
    unfold dEq
    exact SeqAt.EqAt.tuple_int j t' (show s.heap.IsTuple a its.toArray from ta) hA'
   | str j=>
    unfold Held at hy;subst hy
    obtain ⟨t',rfl⟩:=rv
    unfold dEq
    exact SeqAt.EqAt.tuple_str j t' (show s.heap.IsTuple a its.toArray from ta) hA'
   | tup ds'=>
    have hy0:=hy
    unfold Held at hy
    obtain ⟨b,ys,rfl,hb,hys⟩:=hy
    cases rv
    by_cases hab:a=b
    ·subst hab
     rw [yf.mpr (Zf hx0 hy0)]
     exact SeqAt.EqAt.same _
    ·obtain ⟨its2,rvb,tb,_⟩:=I.tuple (SqT.of hb)
     refine SeqAt.EqAt.of_refs hab ?_
     have l1:=hxs.length
     have l2:=hys.length
     have l3:=rva.length
     have l4:=rvb.length
     have key:=SeqAt.RcAt.tuples (A:=A) (s:=s) (e:=fun j=>dEq (ds.getD j (.int 0)) (ds'.getD j (.int 0))) (show s.heap.IsTuple a its.toArray from ta) (show s.heap.IsTuple b its2.toArray from tb) (by omega) (fun j h1 h2=>by
      have hj:j < ds.length:=by
       have:j < its.length:=by simpa using h1
       omega
      have hj':j < ds'.length:=by
       have:j < its2.length:=by simpa using h2
       omega
      have ej:ds[j]?=some ds[j]:=List.getElem?_eq_getElem hj
      obtain ⟨x',hx',gx⟩:=hxs.get ej
      obtain ⟨y',hy',gy⟩:=hys.get (List.getElem?_eq_getElem hj')
      obtain ⟨u',hu',ru'⟩:=rva.get hx'
      obtain ⟨v',hv',rv'⟩:=rvb.get hy'
      have eu:its.toArray[j]=u':=by
       have:=(List.getElem?_eq_some_iff.mp hu').2
       simpa using this
      have ev:its2.toArray[j]=v':=by
       have:=(List.getElem?_eq_some_iff.mp hv').2
       simpa using this
      rw [eu,ev]
      unfold D.depth at hd
      have g1:ds.getD j (.int 0)=ds[j]:=by simp [hj]
      have g2:ds'.getD j (.int 0)=ds'[j]:=by simp [hj']
      rw [g1,g2]
      exact ih A.in1 ds[j] ds'[j] x' y' u' v' (by have:=D.depthL_get ej;omega) (by show A.units+1+n < cLine;omega) gx gy ru' rv')
     have e:((List.range (min its.toArray.size its2.toArray.size)).all (fun j=>dEq (ds.getD j (.int 0)) (ds'.getD j (.int 0))) && its.toArray.size == its2.toArray.size)=dEqL ds ds':=by
      have e1:its.toArray.size=ds.length:=by simp;omega
      have e2:its2.toArray.size=ds'.length:=by simp;omega
      rw [e1,e2]
      exact Zp ds ds'
     rw [e] at key
     unfold dEq
     exact key
theorem Z9 (I:Inv X pins σ H s) {n:Nat} {A:Around} {ds ds':List D} {xs ys:List V} {its its2:List Value} (hd:D.depthL ds≤n) (hA:A.units+n < cLine) (hxs:HeldL H ds xs) (hys:HeldL H ds' ys) (rva:Vals xs its) (rvb:Vals ys its2) :
  ∀ j (h1:j < its.toArray.size) (h2:j < its2.toArray.size),SeqAt.EqAt A s its.toArray[j] its2.toArray[j] (dEq (ds.getD j (.int 0)) (ds'.getD j (.int 0))):=fun j h1 h2=>by
 have l1:=hxs.length
 have l2:=hys.length
 have l3:=rva.length
 have l4:=rvb.length
 have hj:j < ds.length:=by
  have:j < its.length:=by simpa using h1
  omega
 have hj':j < ds'.length:=by
  have:j < its2.length:=by simpa using h2
  omega
 have ej:ds[j]?=some ds[j]:=List.getElem?_eq_getElem hj
 obtain ⟨x',hx',gx⟩:=hxs.get ej
 obtain ⟨y',hy',gy⟩:=hys.get (List.getElem?_eq_getElem hj')
 obtain ⟨u',hu',ru'⟩:=rva.get hx'
 obtain ⟨v',hv',rv'⟩:=rvb.get hy'
 have eu:its.toArray[j]=u':=by
  have:=(List.getElem?_eq_some_iff.mp hu').2
  simpa using this
 have ev:its2.toArray[j]=v':=by
  have:=(List.getElem?_eq_some_iff.mp hv').2
  simpa using this
 rw [eu,ev]
 have g1:ds.getD j (.int 0)=ds[j]:=by simp [hj]
 have g2:ds'.getD j (.int 0)=ds'[j]:=by simp [hj']
 rw [g1,g2]
 exact jeN I n A ds[j] ds'[j] x' y' u' v' (by have:=D.depthL_get ej;omega) hA gx gy ru' rv'
theorem ja1 (n:Nat) (hu:X.A.units+1+n < cLine):OpR X (compareOp .Eq) (fun x y H Q=>∃ a b xs ys ds ds',x=.ref a∧y=.ref b∧H a=some (.tup xs)∧H b=some (.tup ys)∧D.depthL ds≤n∧HeldL H ds xs∧HeldL H ds' ys∧Q (.bl (decide (ds=ds'))) H):=by
 intro pins s σ H x y v u Q I rx ry h
 obtain ⟨a,b,xs,ys,ds,ds',rfl,rfl,ha,hb,hd,hxs,hys,q⟩:=h
 cases rx;cases ry
 obtain ⟨its,rva,ta,_⟩:=I.tuple (SqT.of ha)
 obtain ⟨its2,rvb,tb,_⟩:=I.tuple (SqT.of hb)
 have l1:=hxs.length
 have l2:=hys.length
 have l3:=rva.length
 have l4:=rvb.length
 have key:=SeqAt.RcAt.tuples (A:=X.A) (s:=s) (e:=fun j=>dEq (ds.getD j (.int 0)) (ds'.getD j (.int 0))) (show s.heap.IsTuple a its.toArray from ta) (show s.heap.IsTuple b its2.toArray from tb) (by omega) (Z9 I (A:=X.A.in1) hd (by show X.A.units+1+n < cLine;exact hu) hxs hys rva rvb)
 have e:((List.range (min its.toArray.size its2.toArray.size)).all (fun j=>dEq (ds.getD j (.int 0)) (ds'.getD j (.int 0))) && its.toArray.size == its2.toArray.size)=decide (ds=ds'):=by
  have e1:its.toArray.size=ds.length:=by simp;omega
  have e2:its2.toArray.size=ds'.length:=by simp;omega
  rw [e1,e2,Zp,jdG]
 rw [e] at key
 exact key X.prog X.w X.xe _ ⟨.bl (decide (ds=ds')),H,I,rfl,q⟩
end
def LikeV (K:PySem.W.Frag) (H:Hp):Nat→V→V→Prop
 | 0,x,y=>(∃ i,x=.int i∧y=.int i)∨∃ z,x=.str z∧y=.str z
 | n+1,x,y=>LikeV K H n x y∨
  (∃ a b xs ys,x=.ref a∧y=.ref b∧SqT K H a xs∧SqT K H b ys∧xs.length=ys.length∧∀ (j:Nat) x' y',xs[j]?=some x'→ys[j]?=some y'→LikeV K H n x' y')∨
  ∃ a b xs ys,x=.ref a∧y=.ref b∧SqL K H a xs∧SqL K H b ys∧xs.length=ys.length∧∀ (j:Nat) x' y',xs[j]?=some x'→ys[j]?=some y'→LikeV K H n x' y'
theorem LikeV.up {K:PySem.W.Frag} {H:Hp} {n m:Nat} {x y:V} (h:LikeV K H n x y) (hm:n≤m):LikeV K H m x y:=by
 induction hm with
 | refl=>exact h
 | step _ ih=>exact .inl ih
theorem YI:∀ {ys:List Str} {its:List Value},Vals (ys.map V.str) its→StrsAre its ys
 | [],_,r=>by cases r;exact .nil
 | y :: ys,_,r=>by
  cases r with
  | cons h t=>
   obtain ⟨k,rfl⟩:=h
   exact .cons y k (YI t)
theorem jeD {X:Cx}:MtR X "str.join" (fun x xs H Q=>∃ (sep:Str) (l:Addr) (ys:List Str),x=.str sep∧xs=[.ref l]∧SqL X.K H l (ys.map V.str)∧(ys.map (·.length)).sum+ys.length * sep.length≤16777216∧Q (.str (Txt.join sep ys)) H):=by
 intro pins s σ H x xs v us Q I rx rs h
 obtain ⟨sep,l,ys,rfl,rfl,hl,hb,q⟩:=h
 obtain ⟨t,rfl⟩:=rx
 obtain ⟨u,rfl,ru⟩:=qz rs
 cases ru
 obtain ⟨its,rv,pl,hz⟩:=I.list hl
 refine join_list pl.isList (by simpa using YI rv) hb fun t' k=>?_
 exact ⟨.str (Txt.join sep ys),H,I.kept (t':=k) fun b o e=>e,⟨t',rfl⟩,q⟩
def jfb (t:TS):TS:=fun D σ H=>∃ J:St→Hp→Prop,t { D with nx:=J } σ H∧∀ σ' H',J σ' H'→D.nx σ' H'
theorem jeg {X:Cx} {st:Stmt} {t:TS} (h:PS X st t):PS X st (jfb t):=by
 intro pins s σ H D I q
 obtain ⟨J,q,k⟩:=q
 refine thn (h pins s σ H _ I q) fun f s1 q1=>?_
 cases f with
 | next=>
  obtain ⟨σ',H',I',e⟩:=q1
  exact ⟨σ',H',I',k _ _ e⟩
 | cont=>exact q1
 | brk=>exact q1
 | ret v=>exact q1
end L2
namespace LW
open PySem L2
mutual
theorem jbb {H H':Hp} (e:∀ b xs,H b=some (.tup xs)→H' b=some (.tup xs)):∀ {d:D} {v:V},Held H d v→Held H' d v
 | .int i,v,h=>by unfold Held at h ⊢;exact h
 | .str x,v,h=>by unfold Held at h ⊢;exact h
 | .tup ds,v,h=>by
  unfold Held at h ⊢
  obtain ⟨a,xs,e1,e2,e3⟩:=h
  exact ⟨a,xs,e1,e a _ e2,heldL_tk e e3⟩
theorem heldL_tk {H H':Hp} (e:∀ b xs,H b=some (.tup xs)→H' b=some (.tup xs)):∀ {ds:List D} {vs:List V},HeldL H ds vs→HeldL H' ds vs
 | [],vs,h=>by unfold HeldL at h ⊢;exact h
 | d :: ds,vs,h=>by
  unfold HeldL at h ⊢
  obtain ⟨v,r,e1,e2,e3⟩:=h
  exact ⟨v,r,e1,jbb e e2,heldL_tk e e3⟩
end
def TK (G G':Hp):Prop:=∀ b xs,G b=some (.tup xs)→G' b=some (.tup xs)
theorem TK.held {G G':Hp} (h:TK G G') {d:D} {v:V} (x:Held G d v):Held G' d v:=jbb h x
end LW
namespace L2
open PySem PySem.Spec PyProof.Rows PySem.W
theorem fQ {a b c} (h:FnScope a b c:=by exact ⟨rfl,rfl,rfl,by decide +kernel,rfl,by decide +kernel,by decide +kernel⟩):FnScope a b c:=h
theorem oQ {p q:Prop} (h:p∨q:=by first|exact .inl rfl|exact .inr rfl):p∨q:=h
theorem jg7 {i:Nat} {v:V} {σ σ':St} {H:Hp} {Q:St→Hp→Prop} (e:σ.set i (some v)=σ') (h:Q σ' H):kW i v σ H Q:=by subst e;exact h
theorem gQ {i:Nat} {v:V} {σ σ':St} {H:Hp} {Q:St→Hp→Prop} (h:Q σ' H) (e:σ.set i (some v)=σ':=by simp only [List.set_cons_succ,List.set_cons_zero];rfl):kW i v σ H Q:=jg7 e h
theorem jA {t:TS} {D:Ends} {σ σ':St} {H:Hp} (e:σ=σ') (h:t D σ' H):t D σ H:=by subst e;exact h
section
variable {X:Cx}
structure QA (X:Cx) (es:List Expr) (t:TA):Prop where
 h:PA X es t
structure QE (X:Cx) (e:Expr) (t:TE):Prop where
 h:PE X e t
end
end L2
namespace PySem
open Sem (wp)
namespace F
end F
end PySem
namespace L2
open PySem PySem.Spec PyProof.Rows PySem.W
end L2
namespace HT
open PySem PySem.Spec PyProof.Rows L2
open PySem.SeqAt
open PySem.AutoSeq1 (wpAny_loadPart')
open PySem.MeetsSeq PySem.MeetsSeq2 PySem.MeetsSeq3
end HT
namespace L2
open PySem PySem.Spec PyProof.Rows
variable {X:Cx}
variable {X:Cx} {pos:Pos}
structure QT (X:Cx) (e:Expr) (t:TT):Prop where
 h:PT X e t
structure QW (X:Cx) (e:Expr) (t:TT):Prop where
 h:PW X e t
structure QG (X:Cx) (e:Expr) (t:TG):Prop where
 h:PG X e t
structure QGs (X:Cx) (e:List Expr) (t:TGs):Prop where
 h:PGs X e t
structure QI (X:Cx) (tg e:Expr) (t:TI):Prop where
 h:PI X tg e t
structure QO (X:Cx) (e:Option Expr) (t:TO):Prop where
 h:PO X e t
structure QTs (X:Cx) (e:List Expr) (t:TT):Prop where
 h:PTs X e t
theorem QW.pt {X:Cx} {e:Expr} {t:TT} (h:QW X e t):QT X e t:=⟨h.h.pt⟩
theorem ko {X:Cx} {e:Expr} {t:TE} (h:QE X e t) (he:∀ whole,isTrue e X.env whole=(do let v ← whole;standAt e.pos;holding [v] (truthy v)):=by intro _;rfl):QT X e (tB t):=⟨Ya h.h he⟩
theorem jar {X:Cx} {pos:Pos} {o i:Expr} {to ti:TE} {t:je1} (ho:QE X o to) (hi:QE X i ti) (hs:jgm X t)
  (ha:∀ v,assign (.Subscript o i pos) X.env v=(do
   let ov ← holding [v] (eval o X.env)
   let iv ← holding [v,ov] (eval i X.env)
   standAt pos
   holding [v,ov,iv] (setItem ov iv v)
   release [v,ov,iv] []):=by intro _;rfl):QG X (.Subscript o i pos) (jgU to ti t):=⟨jfP ho.h hi.h hs ha⟩
theorem zpv {X:Cx} (i:Nat) {x:Str} {pos:Pos} (h1:(Cx.N X)[i]?=some x:=by rfl) (h2:Vis (Env.scope (Cx.env X)) x:=by first | exact Or.inl rfl | exact Or.inr (Or.inl rfl) | exact Or.inr (Or.inr rfl)) (h3:(x == Str.ofString "__debug__")=false:=by decide) (h4:(x == Str.ofString "__classdict__")=false:=by decide):QE X (Expr.Name x pos) (jfA i):=
 ⟨@pv _ i _ _ h1 h2 h3 h4⟩
theorem jg {X:Cx} {i:Int} {j:Nat} {pos:Pos}:QE X (Expr.Constant (Const.int i) j pos) (tC (V.int i)):=
 ⟨@ZP _ _ _ _⟩
theorem jc {X:Cx} {x:Str} {j:Nat} {pos:Pos}:QE X (Expr.Constant (Const.str x) j pos) (tC (V.str x)):=
 ⟨@jfS _ _ _ _⟩
theorem JU {X:Cx} {b:Bool} {j:Nat} {pos:Pos}:QE X (Expr.Constant (Const.bool b) j pos) (tC (V.bl b)):=
 ⟨@jfk _ _ _ _⟩
theorem jdW {X:Cx} {j:Nat} {pos:Pos}:QE X (Expr.Constant Const.none j pos) (tC V.non):=
 ⟨@jfT _ _ _⟩
theorem jr {X:Cx} {a b:Expr} {ta tb:TE} {pos:Pos} {op:Operator} {r:R2} (h1:OpR X (binaryOp op) r) (h2:QE X a ta) (h3:QE X b tb):QE X (Expr.BinOp a op b pos) (tOp r ta tb):=
 ⟨@jgI _ _ _ _ _ _ _ _ h1 h2.h h3.h⟩
theorem jdV {X:Cx} {a:Expr} {ta:TE} {pos:Pos} (h1:QE X a ta):QE X (Expr.UnaryOp UnaryOp.Not a pos) (jfa ta):=
 ⟨@jcZ _ _ _ _ h1.h⟩
theorem ym {X:Cx} {a:Expr} {ta:TE} {pos:Pos} {op:UnaryOp} {r:V→Hp→VK→Prop} (h1:UnR X (unaryOp op) r) (h2:QE X a ta):QE X (Expr.UnaryOp op a pos) (tUn r ta):=
 ⟨@jgG _ _ _ _ _ _ h1 h2.h⟩
theorem zE {X:Cx} {a b:Expr} {ta tb:TE} {pos:Pos} {op:CmpOp} {r:R2} (h1:OpR X (compareOp op) r) (h2:QE X a ta) (h3:QE X b tb) (h4:behindInMarks op b=false):QE X (Expr.Compare a [op] [b] pos) (tOp r ta tb):=
 ⟨@Yg _ _ _ _ _ _ _ _ h1 h2.h h3.h h4⟩
theorem Jz {X:Cx} {a:Expr} {pos:Pos} {op:BoolOp} {t:TE} (h1:QE X a t):QE X (Expr.BoolOp op [a] pos) t:=
 ⟨@ZO _ _ _ _ _ h1.h⟩
theorem yE {X:Cx} {a b:Expr} {ta tb:TE} {pos:Pos} {j3:List Expr} (h1:QE X a ta) (h2:QE X (Expr.BoolOp BoolOp.And (b :: j3) pos) tb):QE X (Expr.BoolOp BoolOp.And (a :: b :: j3) pos) (jcz ta tb):=
 ⟨@Yh _ _ _ _ _ _ _ h1.h h2.h⟩
theorem jfx {X:Cx} {a b:Expr} {ta tb:TE} {pos:Pos} {j3:List Expr} (h1:QE X a ta) (h2:QE X (Expr.BoolOp BoolOp.Or (b :: j3) pos) tb):QE X (Expr.BoolOp BoolOp.Or (a :: b :: j3) pos) (jgt ta tb):=
 ⟨@jgH _ _ _ _ _ _ _ h1.h h2.h⟩
theorem kz {X:Cx} {e:Expr} {te:TE} {lo hi:Option Expr} {tl th:TO} {pos p2:Pos} {r:V→Option Int→Option Int→Hp→VK→Prop} (h1:SlR X r) (h2:QE X e te) (h3:QO X lo tl) (h4:QO X hi th):QE X (Expr.Subscript e (Expr.Slice lo hi none p2) pos) (tSl r te tl th):=
 ⟨@jcY _ _ _ _ _ _ _ _ _ _ h1 h2.h h3.h h4.h⟩
theorem jz {X:Cx} {a b:Expr} {ta tb:TE} {pos:Pos} {r:R2} (h1:IxR X r) (h2:QE X a ta) (h3:QE X b tb) (h4:jbt b):QE X (Expr.Subscript a b pos) (tOp r ta tb):=
 ⟨@jc0 _ _ _ _ _ _ _ h1 h2.h h3.h h4⟩
theorem kg {X:Cx} {es:List Expr} {t:TA} {pos:Pos} (h1:QA X es t):QE X (Expr.List es pos) (jgv t):=
 ⟨@jfU _ _ _ _ h1.h⟩
theorem jJ {X:Cx} {es:List Expr} {t:TA} {pos:Pos} {x1:Nat} (h1:QA X es t):QE X (Expr.Tuple es x1 pos) (jgs t):=
 ⟨@jfR _ _ _ _ _ h1.h⟩
theorem YE {X:Cx} {scope:Scope} {elt tg iter:Expr} {ifs:List Expr} {pos:Pos} {wi:TI} {g:TG} {tt:TT} {te:TE} (own:List Str) (fr:List Nat) (h1:Cx.calm X=true) (h2:CompOk X scope fr) (h3:QI (Cx.nox X) tg iter wi) (h4:∀ (s:PySem.Shared) (H:Hp) (ex:List PySem.Addr),QG (blk (Cx.nox X) scope own fr s H ex) tg g∧QTs (blk (Cx.nox X) scope own fr s H ex) ifs tt∧QE (blk (Cx.nox X) scope own fr s H ex) elt te) (h5:∀ (x:Value),foldedSetIterable iter (Cx.env X) x=pure x:=by intro _;rfl):QE (Cx.nox X) (Expr.ListComp elt [{ target:=tg,iter:=iter,ifs:=ifs,is_async:=0 }] scope pos) (KA own fr wi g tt te):=
 ⟨@jaX _ _ _ _ _ _ _ _ _ _ _ own fr h1 h2 h3.h (fun s H ex=>⟨(h4 s H ex).1.h,(h4 s H ex).2.1.h,(h4 s H ex).2.2.h⟩) h5⟩
theorem jp {X:Cx} {k k':Nat} {x:Str} {ps:List Str} {sp:Sp} {e:Expr} {es:List Expr} {t:TA} {p pos:Pos} (h1:Fn (Cx.prog X) (Cx.w X) (Cx.K X) (Cx.mg X) (Cx.base X) k x ps sp) (h2:Room k' (Cx.A X)) (h3:QA X (e :: es) t) (h4:k≤k':=by decide) (h5:Gl X x:=by rfl) (h6:(x == Str.ofString "__debug__")=false:=by decide) (h7:List.all (e :: es) kA=true:=by rfl):QE X (Expr.Call (Expr.Name x p) (e :: es) [] pos) (KB sp [] E0 t):=
 ⟨@jfj _ _ _ _ _ _ _ _ _ _ _ h1 h2 h3.h h4 h5 h6 h7⟩
theorem kh {X:Cx} {x:Str} {p pos:Pos} {e:Expr} {es:List Expr} {t:TA} {id:String} {r:List V→Hp→VK→Prop} (h1:qt X (Value.builtin id) r) (h2:Gl X x) (h3:Cx.mg X x=none) (h4:bootBuiltins x=some (Value.builtin id)) (h5:QA X (e :: es) t) (h6:List.all (e :: es) kA=true:=by rfl) (h7:x≠Str.ofString "__name__":=by decide) (h8:(x == Str.ofString "__debug__")=false:=by decide):QE X (Expr.Call (Expr.Name x p) (e :: es) [] pos) (tCB r t):=
 ⟨@qV _ _ _ _ _ _ _ _ _ h1 h2 h3 h4 h5.h h6 h7 h8⟩
theorem zF {X:Cx} {x:Str} {p pos:Pos} {e:Expr} {es:List Expr} {t:TA} {T:String} {r:List V→Hp→VK→Prop} (h1:qt X (Value.type T) r) (h2:Gl X x) (h3:Cx.mg X x=none) (h4:bootBuiltins x=some (Value.type T)) (h5:QA X (e :: es) t) (h6:List.all (e :: es) kA=true:=by rfl) (h7:x≠Str.ofString "__name__":=by decide) (h8:(x == Str.ofString "__debug__")=false:=by decide):QE X (Expr.Call (Expr.Name x p) (e :: es) [] pos) (tCB r t):=
 ⟨@jgJ _ _ _ _ _ _ _ _ _ h1 h2 h3 h4 h5.h h6 h7 h8⟩
theorem kK {X:Cx} {o e:Expr} {es:List Expr} {to:TE} {t:TA} {name:Str} {apos cpos:Pos} {T id:String} {r:V→List V→Hp→VK→Prop} (h1:PlainAttrs T) (h2:Slot T name id) (h3:typeOf (Value.builtin id)=pure (Value.type "method_descriptor")) (h4:MtR X id r) (h5:QE X o to) (h6:QA X (e :: es) t) (h7:attributeBase o name (Cx.env X) (eval o (Cx.env X))=eval o (Cx.env X):=by rfl) (h8:(((List.all (backTo cpos (starEach (e :: es) (Cx.env X))) fun x=>!Prod.fst x) && List.all (backToKw cpos (keywordEach [] (Cx.env X))) fun x=>Option.isSome (Prod.fst x)) && decide ((List.length (e :: es)+List.length ([]:List PySem.Keyword)+if List.isEmpty ([]:List PySem.Keyword)=true then 0 else 1) < 30))=true:=by rfl) (h9:(Pos.endLine apos == Pos.line cpos)=true:=by rfl) (h10:starEach (e :: es) (Cx.env X)=(false,eval e (Cx.env X)) :: starEach es (Cx.env X):=by rfl) (h11:(List.any (backTo cpos (starEach es (Cx.env X))) fun x=>Prod.fst x)=false:=by rfl):QE X (Expr.Call (Expr.Attribute o name apos) (e :: es) [] cpos) (tBM (Cx.K X) T r to t):=
 ⟨@jgK _ _ _ _ _ _ _ _ _ _ _ _ h1 h2 h3 h4 h5.h h6.h h7 h8 h9 h10 h11⟩
theorem yD {X:Cx} {o:Expr} {to:TE} {name:Str} {apos cpos:Pos} {T id:String} {r:V→List V→Hp→VK→Prop} (h1:PlainAttrs T) (h2:Slot T name id) (h3:typeOf (Value.builtin id)=pure (Value.type "method_descriptor")) (h4:MtR X id r) (h5:QE X o to) (h6:attributeBase o name (Cx.env X) (eval o (Cx.env X))=eval o (Cx.env X):=by rfl) (h7:(Pos.endLine apos == Pos.line cpos)=true:=by rfl):QE X (Expr.Call (Expr.Attribute o name apos) [] [] cpos) (jgz (Cx.K X) T r to):=
 ⟨@jfW _ _ _ _ _ _ _ _ _ h1 h2 h3 h4 h5.h h6 h7⟩
theorem qI {X:Cx} {a:Expr} {pos:Pos} {tA:TT} (h1:QT X a tA):QT X (Expr.UnaryOp UnaryOp.Not a pos) (jgu tA):=
 ⟨@jcQ _ _ _ _ h1.h⟩
theorem jw {X:Cx} {a b:Expr} {ta tb:TE} {pos:Pos} {op:CmpOp} {r:R2} (h1:OpR X (compareOp op) r) (h2:QE X a ta) (h3:QE X b tb) (h4:behindInMarks op b=false):QT X (Expr.Compare a [op] [b] pos) (je8 (tOp r ta tb)):=
 ⟨@jaQ _ _ _ _ _ _ _ _ h1 h2.h h3.h h4⟩
theorem yB {X:Cx} {a b:Expr} {pos:Pos} {tA tB':TT} {j3:List Expr} (h1:QT X a tA) (h2:QW X (Expr.BoolOp BoolOp.And (b :: j3) pos) tB'):QW X (Expr.BoolOp BoolOp.And (a :: b :: j3) pos) (jgA tA tB'):=
 ⟨@jfI _ _ _ _ _ _ _ h1.h h2.h⟩
theorem yA {X:Cx} {a:Expr} {pos:Pos} {tA:TT} (h1:QT X a tA):QW X (Expr.BoolOp BoolOp.And [a] pos) tA:=
 ⟨@jed _ _ _ _ h1.h⟩
theorem JQ {X:Cx} {a b:Expr} {pos:Pos} {tA tB':TT} {j3:List Expr} (h1:QT X a tA) (h2:QW X (Expr.BoolOp BoolOp.Or (b :: j3) pos) tB'):QW X (Expr.BoolOp BoolOp.Or (a :: b :: j3) pos) (tOr tA tB'):=
 ⟨@jfh _ _ _ _ _ _ _ h1.h h2.h⟩
theorem Jy {X:Cx} {a:Expr} {pos:Pos} {tA:TT} (h1:QT X a tA):QW X (Expr.BoolOp BoolOp.Or [a] pos) tA:=
 ⟨@jcO _ _ _ _ h1.h⟩
theorem qd {X:Cx}:QO X none jay:=
 ⟨@jej _⟩
theorem kD {X:Cx} {e:Expr} {te:TE} (h1:QE X e te):QO X (some e) (je9 te):=
 ⟨@jei _ _ _ h1.h⟩
theorem yl {X:Cx} {tg a:Expr} {ta:TA} {p pos:Pos} (h1:Gl X (Str.ofString "range")) (h2:Cx.mg X (Str.ofString "range")=none) (h3:QA X [a] ta) (h4:starEach [a] (Cx.env X)=[(false,eval a (Cx.env X))]:=by rfl):QI X tg (Expr.Call (Expr.Name (Str.ofString "range") p) [a] [] pos) (jfq ta):=
 ⟨@KI _ _ _ _ _ _ h1 h2 h3.h h4⟩
theorem Zz {X:Cx} {tg a b:Expr} {ta:TA} {p pos:Pos} (h1:Gl X (Str.ofString "range")) (h2:Cx.mg X (Str.ofString "range")=none) (h3:QA X [a,b] ta) (h4:starEach [a,b] (Cx.env X)=[(false,eval a (Cx.env X)),(false,eval b (Cx.env X))]:=by rfl) (h5:starEach [b] (Cx.env X)=[(false,eval b (Cx.env X))]:=by rfl):QI X tg (Expr.Call (Expr.Name (Str.ofString "range") p) [a,b] [] pos) (jfp ta):=
 ⟨@jbG _ _ _ _ _ _ _ h1 h2 h3.h h4 h5⟩
theorem jdU {X:Cx} {tg l:Expr} {tl:TE} (h1:QE X l tl):QI X tg l (jgR (Cx.K X) tl):=
 ⟨@jfN _ _ _ _ h1.h⟩
theorem ju {X:Cx} {pos:Pos} {i:Nat} {x:Str} {e:Expr} {te:TE} {pos':Pos} (h1:List.Nodup (Cx.N X)) (h2:(Cx.N X)[i]?=some x) (h3:L2.Loc (Env.scope (Cx.env X)) x) (h4:QE X e te) (h5:swapsWith e (some (Expr.Name x pos')) (Pos.line pos) (Cx.env X)=pure false:=by rfl) (h6:Cx.fn X x=true∨List.lookup x (Scope.names (Env.scope (Cx.env X)))=some NameKind.local:=by first | exact .inl rfl | exact .inr rfl | assumption):QS X (Stmt.Assign [Expr.Name x pos'] e pos) (jbB te (kW i)):=
 ⟨@jfJ _ _ _ _ _ _ _ h1 h2 h3 h4.h h5 h6⟩
theorem YD {X:Cx} {scope:Scope} {elt tg iter:Expr} {ifs:List Expr} {pos:Pos} {wi:TI} {g:TG} {tt:TT} {te:TE} {i:Nat} {y:Str} {py spos:Pos} (h1:List.Nodup (Cx.N X)) (h2:(Cx.N X)[i]?=some y) (h3:L2.Loc (Env.scope (Cx.env X)) y) (own:List Str) (fr:List Nat) (h4:Cx.calm X=true) (h5:CompOk X scope fr) (h6:QI (Cx.nox X) tg iter wi) (h7:∀ (s:PySem.Shared) (H:Hp) (ex:List PySem.Addr),QG (blk (Cx.nox X) scope own fr s H ex) tg g∧QTs (blk (Cx.nox X) scope own fr s H ex) ifs tt∧QE (blk (Cx.nox X) scope own fr s H ex) elt te) (h8:∀ (x:Value),foldedSetIterable iter (Cx.env X) x=pure x:=by intro _;rfl) (h9:swapsWith (Expr.ListComp elt [{ target:=tg,iter:=iter,ifs:=ifs,is_async:=0 }] scope pos) (some (Expr.Name y py)) (Pos.line spos) (Cx.env X)=pure true:=by rfl) (h10:Cx.fn X y=true∨List.lookup y (Scope.names (Env.scope (Cx.env X)))=some NameKind.local:=by first | exact .inl rfl | exact .inr rfl | assumption):QS (Cx.nox X) (Stmt.Assign [Expr.Name y py] (Expr.ListComp elt [{ target:=tg,iter:=iter,ifs:=ifs,is_async:=0 }] scope pos) spos) (jbB (KA own fr wi g tt te) (kW i)):=
 ⟨@ZL _ _ _ _ _ _ _ _ _ _ _ _ _ _ _ h1 h2 h3 own fr h4 h5 h6.h (fun s H ex=>⟨(h7 s H ex).1.h,(h7 s H ex).2.1.h,(h7 s H ex).2.2.h⟩) h8 h9 h10⟩
theorem j1 {X:Cx} {pos:Pos} {tg e:Expr} {te:TE} {g:TG} (h1:QE X e te) (h2:QG X tg g) (h3:swapsWithSole [tg] e (Pos.line pos) (Cx.env X)=pure false:=by rfl) (h4:swappedStores [tg] e (Cx.env X)=pure none:=by rfl) (h5:List.map (fun x=>Prod.snd x) (assignEach [tg] (Cx.env X))=[assign tg (Cx.env X)]:=by rfl):QS X (Stmt.Assign [tg] e pos) (jbB te g):=
 ⟨@jfL _ _ _ _ _ _ h1.h h2.h h3 h4 h5⟩
theorem jl {X:Cx} {e:Expr} {te:TE} {pos:Pos} (h1:QE X e te):QS X (Stmt.Return (some e) pos) (jfB te):=
 ⟨@Jg _ _ _ _ h1.h⟩
theorem jH {X:Cx} {t u:TS} {pos:Pos} {c:Expr} {a b:List Stmt} {tc:TT} (h1:QT X c tc) (h2:QSs X a t) (h3:QSs X b u):QS X (Stmt.If c a b pos) (Kw tc t u):=
 ⟨@jaR _ _ _ _ _ _ _ _ h1.h h2.h h3.h⟩
theorem jaq {X:Cx} {tg iter:Expr} {body:List Stmt} {wi:TI} {g:TG} {tb:TS} {pos:Pos} (h1:PassesOwn (model (Cx.prog X) (Cx.w X)) (Cx.A X) (Cx.env X) (Cx.xe X)) (h2:Cx.calm X=true) (h3:QI X tg iter wi) (h4:QG X tg g) (h5:QSs X body tb) (h6:∀ (x:Value),foldedSetIterable iter (Cx.env X) x=pure x:=by intro _;rfl):QS X (Stmt.For tg iter body [] pos) (jgx wi g tb):=
 ⟨@jfK _ _ _ _ _ _ _ _ h1 h2 h3.h h4.h h5.h h6⟩
theorem jbv {X:Cx} {pos:Pos} {c:Expr} {body:List Stmt} {tc:TT} {tb:TS} (h1:PassesOwn (model (Cx.prog X) (Cx.w X)) (Cx.A X) (Cx.env X) (Cx.xe X)) (h2:QT X c tc) (h3:QSs X body tb):QS X (Stmt.While c body [] pos) (ZD tc tb):=
 ⟨@jcR _ _ _ _ _ _ h1 h2.h h3.h⟩
theorem yC {X:Cx} {e:Expr} {te:TE} {pos:Pos} (h1:QE X e te) (h2:swapsWith e none (Pos.line pos) (Cx.env X)=pure false:=by rfl):QS X (Stmt.Expr e pos) (jfd te):=
 ⟨@jeh _ _ _ _ h1.h h2⟩
theorem jn {X:Cx} {pos:Pos} {i:Nat} {x:Str} (h1:List.Nodup (Cx.N X)) (h2:(Cx.N X)[i]?=some x) (h3:L2.Loc (Env.scope (Cx.env X)) x) (h4:Cx.fn X x=true∨List.lookup x (Scope.names (Env.scope (Cx.env X)))=some NameKind.local:=by first | exact .inl rfl | exact .inr rfl | assumption):QG X (Expr.Name x pos) (kW i):=
 ⟨@jaW _ _ _ _ h1 h2 h3 h4⟩
theorem j6 {X:Cx} {pos:Pos} {es:List Expr} {k:Nat} {t:TGs} {n:Nat} (h1:Cx.calm X=true) (h2:QGs X es t) (h3:List.length (assignEach es (Cx.env X))=n:=by rfl) (h4:List.findIdx? (fun x=>Prod.fst x) (assignEach es (Cx.env X))=none:=by rfl):QG X (Expr.Tuple es k pos) (jgT (Cx.K X) n t):=
 ⟨@jfO _ _ _ _ _ _ h1 h2.h h3 h4⟩
theorem jT {X:Cx}:QGs X [] jgV:=
 ⟨@jel _⟩
theorem jm {X:Cx} {e:Expr} {es:List Expr} {t:TG} {u:TGs} (h1:QG X e t) (h2:QGs X es u) (h3:List.map (fun x=>Prod.snd x) (assignEach (e :: es) (Cx.env X))=assign e (Cx.env X) :: List.map (fun x=>Prod.snd x) (assignEach es (Cx.env X)):=by rfl):QGs X (e :: es) (jfu t u):=
 ⟨@jcX _ _ _ _ _ h1.h h2.h h3⟩
theorem js {X:Cx}:QSs X [] YH:=
 ⟨@JH _⟩
theorem jh {X:Cx} {st:Stmt} {t:TS} (h1:QS X st t):QSs X [st] t:=
 ⟨@zY _ _ _ h1.h⟩
theorem jd {X:Cx} {st:Stmt} {j3:List Stmt} {t u:TS} (h1:QS X st t) (h2:QSs X j3 u):QSs X (st :: j3) (kX t u):=
 ⟨@yR _ _ _ _ _ h1.h h2.h⟩
theorem JR {X:Cx}:QTs X [] jbA:=
 ⟨@jaO _⟩
theorem jb {X:Cx}:QA X [] jcx:=
 ⟨@kB _⟩
theorem ja {X:Cx} {e:Expr} {es:List Expr} {te:TE} {t:TA} (h1:QE X e te) (h2:QA X es t) (h3:kA e=true:=by rfl):QA X (e :: es) (jcy te t):=
 ⟨@qm _ _ _ _ _ h1.h h2.h h3⟩
theorem JS {X:Cx} {x:Str} {v:V} {u:Value} {pos:Pos} (h1:Gl X x) (h2:Cx.mg X x=some u) (h3:RelV v u) (h4:(x == Str.ofString "__debug__")=false:=by decide):QE X (Expr.Name x pos) (tC v):=
 ⟨@jen _ _ _ _ _ h1 h2 h3 h4⟩
theorem jcp {X:Cx} {st:Stmt} {t:TS} (h:QS X st t):QS X st (jfb t):=⟨jeg h.h⟩
theorem Fun.okZ {P:Program} {w:World} {K:W.Frag} {mg:Str→Option Value} {base:Heap} {x qual:Str} {st:Stmt} {f:Addr} {fd:FuncData} {N ps:List Str} {k:Nat} {sp:Sp} (F:Fun K x qual st f fd) (S:FnScope N ps (jk st)) (len:∀ vs H Q E,sp vs H Q E→vs.length=ps.length)
  (hbody:∀ (cdv:Value) (A:Around) (outer:List Env) (s:Shared) (H:Hp) (vs:List V) (Q:VK) (E:XK),Room k (A.deeper (envOfC qual (jk st) s.heap.objs.size f cdv))→sp vs H Q E→
   ∃ t,QSs (Jw CX0 P w K mg base N qual (jk st) f cdv A outer s H E).nox (qw st) t∧t { nx:=fun _ H'=>Q .non H',rt:=Q } (yh N vs) H):FnOk P w K mg base CX0 (k+1) f fd ps sp:=
 F.ok S len fun cdv A outer s H vs Q E hr h=>let ⟨t,a,b⟩:=hbody cdv A outer s H vs Q E hr h;⟨t,a.h,b⟩
open PySem PySem.Spec PyProof.Rows PySem.W
def SetAtS (prog:Program) (w:World) (h:Heap) (a:Addr) (led:Bool) (σ:List Str):Prop:=∃ (es:Array (Int×Value)) (ep:Nat) (t:SetTable),
 h.get? a=some { cls:=.type "set",dict:=none,data:=.set es ep t }∧ElemsOf (PySem.strKind prog w) es.toList∧(∃ l:List Str,StrsAre (es.toList.map (·.2)) l∧l.Perm σ)∧es.size < scanBound∧t.fits es.size=true∧TabOk led t
end L2
namespace PySem
end PySem
namespace L2
open PySem PySem.Spec PySem.Calls PyProof.Rows PySem.W
end L2
namespace PySem
end PySem
namespace L2
open PySem PySem.Spec PySem.Calls PyProof.Rows PySem.W
def jcl (m:Nat):Prop:=m=7∨m=15∨m=31∨m=63
structure SmS (prog:Program) (w:World) (h:Heap) (a:Addr) (led:Bool) (σ:List Str) (es:Array (Int×Value)) (ep:Nat) (t:SetTable):Prop where
 o:h.get? a=some (jcJ es ep t)
 el:ElemsOf (PySem.strKind prog w) es.toList
 pm:∃ l:List Str,StrsAre (es.toList.map (·.2)) l∧l.Perm σ
 fit:t.fits es.size=true
 tab:TabOk led t
 sm:jcl t.mask
theorem SmS.len {prog:Program} {w:World} {h:Heap} {a:Addr} {led:Bool} {σ:List Str} {es:Array (Int×Value)} {ep:Nat} {t:SetTable} (x:SmS prog w h a led σ es ep t):es.size=σ.length:=by
 obtain ⟨l,h1,h2⟩:=x.pm
 have:=h1.length
 rw [List.length_map,Array.length_toList] at this
 rw [this,h2.length_eq]
end L2
namespace PySem.F
end PySem.F
namespace L2
open PySem PySem.Spec PyProof.Rows PySem.W
section
variable {prog:Program} {w:World} {A:Around} {E:Value→Shared→Prop} {s:Shared}
theorem SetAtS.type {h:Heap} {a:Addr} {led:Bool} {σ:List Str} (x:SetAtS prog w h a led σ):∃ es ep t,h.get? a=some (jcJ es ep t)∧t.fits es.size=true:=by
 obtain ⟨es,ep,t,e,_,_,_,hf,_⟩:=x
 exact ⟨es,ep,t,e,hf⟩
end
end L2
namespace LW
open PySem L2
theorem jD {n:Nat} (h:n≤1000):n≤sizeLine:=Nat.le_of_lt (km h)
theorem sm {n:Nat} (h:n.ble 1000=true):n≤sizeLine:=jD (Nat.le_of_ble_eq_true h)
inductive Tm where
 | is (x:Str) | at_ (r x:Str) (d:Int)
inductive Bd where
 | is (x:Str) | row (r:Str)
inductive Cl where
 | least (a b:Tm) (c:Int) | each (t:Str) (td:Int) (u:Str) (ud:Int) (r way:Str) (b:Bd) (c:Int) | rise (t:Str) (td:Int) (u:Str) (ud:Int) (r:Str)
inductive Sm where
 | set (x:Str) (t:Tm) (c:Int) | put (r x:Str) (d:Int) (t:Tm) (c:Int) | any (x:Str) | claim (C:Cl) | call (x f:Str) (as rs:List Str)
def plD (x:Str) (d:Int):D:=.tup [.str x,.int d]
def Tm.toD:Tm→D
 | .is x=>.tup [.str "is",.str x]
 | .at_ r x d=>.tup [.str "at",.str r,plD x d]
def Bd.toD:Bd→D
 | .is x=>.tup [.str "is",.str x]
 | .row r=>.tup [.str "row",.str r]
def Cl.toD:Cl→D
 | .least a b c=>.tup [.str "least",a.toD,b.toD,.int c]
 | .each t td u ud r way b c=>.tup [.str "each",plD t td,plD u ud,.str r,.str way,b.toD,.int c]
 | .rise t td u ud r=>.tup [.str "rise",plD t td,plD u ud,.str r]
def Tm.ns:Tm→List Str
 | .is x=>[x]
 | .at_ _ x _=>[x]
def Cl.ns:Cl→List Str
 | .least a b _=>a.ns++b.ns
 | .each t _ u _ _ _ b _=>[t,u]++(match b with | .is x=>[x] | .row _=>[])
 | .rise t _ u _ _=>[t,u]
def Sm.ns:Sm→List Str
 | .set x t _=>[x]++t.ns
 | .put _ x _ t _=>[x]++t.ns
 | .any x=>[x]
 | .claim C=>C.ns
 | .call x _ as _=>[x]++as
def Sm.few:Sm→Prop
 | .call _ _ as rs=>as.length≤6∧rs.length≤6
 | _=>True
theorem zx {H:Hp} {x:Int} {v:V} (h:Held H (.int x) v):v=.int x:=by unfold Held at h;exact h
theorem j2 {H:Hp} {ds:List D} {v:V} (h:Held H (.tup ds) v):∃ a xs,v=.ref a∧H a=some (.tup xs)∧HeldL H ds xs:=by unfold Held at h;exact h
theorem j7 {H:Hp} {vs:List V} (h:HeldL H [] vs):vs=[]:=by unfold HeldL at h;exact h
theorem jo {H:Hp} {d:D} {ds:List D} {vs:List V} (h:HeldL H (d :: ds) vs):∃ v r,vs=v :: r∧Held H d v∧HeldL H ds r:=by unfold HeldL at h;exact h
theorem jW {H:Hp} {x:Str} {v:V} (h:Held H (.str x) v):v=.str x:=by unfold Held at h;exact h
theorem yq {H:Hp} {x:Str} {d:Int} {v:V} (h:Held H (plD x d) v):∃ a,v=.ref a∧H a=some (.tup [.str x,.int d]):=by
 obtain ⟨a,xs,rfl,ha,h1⟩:=j2 h
 obtain ⟨v1,r1,rfl,e1,h2⟩:=jo h1
 obtain ⟨v2,r2,rfl,e2,h3⟩:=jo h2
 cases j7 h3
 cases jW e1
 cases zx e2
 exact ⟨a,rfl,ha⟩
theorem qB {H:Hp} {x y:Str} {v:V} (h:Held H (.tup [.str x,.str y]) v):∃ a,v=.ref a∧H a=some (.tup [.str x,.str y]):=by
 obtain ⟨a,xs,rfl,ha,h1⟩:=j2 h
 obtain ⟨v1,r1,rfl,e1,h2⟩:=jo h1
 obtain ⟨v2,r2,rfl,e2,h3⟩:=jo h2
 cases j7 h3
 cases jW e1
 cases jW e2
 exact ⟨a,rfl,ha⟩
theorem jdR {H:Hp} {r x:Str} {d:Int} {v:V} (h:Held H (Tm.at_ r x d).toD v):∃ a b,v=.ref a∧H a=some (.tup [.str "at",.str r,.ref b])∧H b=some (.tup [.str x,.int d]):=by
 obtain ⟨a,xs,rfl,ha,h1⟩:=j2 h
 obtain ⟨v1,r1,rfl,e1,h2⟩:=jo h1
 obtain ⟨v2,r2,rfl,e2,h3⟩:=jo h2
 obtain ⟨v3,r3,rfl,e3,h4⟩:=jo h3
 cases j7 h4
 cases jW e1
 cases jW e2
 obtain ⟨b,rfl,hb⟩:=yq e3
 exact ⟨a,b,rfl,ha,hb⟩
theorem KN {H:Hp} {a b:Tm} {c:Int} {v:V} (h:Held H (Cl.least a b c).toD v):∃ t va vb,v=.ref t∧H t=some (.tup [.str "least",va,vb,.int c])∧Held H a.toD va∧Held H b.toD vb:=by
 obtain ⟨t,xs,rfl,ht,h1⟩:=j2 h
 obtain ⟨v1,r1,rfl,e1,h2⟩:=jo h1
 obtain ⟨v2,r2,rfl,e2,h3⟩:=jo h2
 obtain ⟨v3,r3,rfl,e3,h4⟩:=jo h3
 obtain ⟨v4,r4,rfl,e4,h5⟩:=jo h4
 cases j7 h5
 cases jW e1
 cases zx e4
 exact ⟨t,v2,v3,rfl,ht,e2,e3⟩
theorem YV {H:Hp} {x y r:Str} {d e:Int} {v:V} (h:Held H (Cl.rise x d y e r).toD v):∃ t a b,v=.ref t∧H t=some (.tup [.str "rise",.ref a,.ref b,.str r])∧H a=some (.tup [.str x,.int d])∧H b=some (.tup [.str y,.int e]):=by
 obtain ⟨t,xs,rfl,ht,h1⟩:=j2 h
 obtain ⟨v1,r1,rfl,e1,h2⟩:=jo h1
 obtain ⟨v2,r2,rfl,e2,h3⟩:=jo h2
 obtain ⟨v3,r3,rfl,e3,h4⟩:=jo h3
 obtain ⟨v4,r4,rfl,e4,h5⟩:=jo h4
 cases j7 h5
 cases jW e1
 cases jW e4
 obtain ⟨a,rfl,ha⟩:=yq e2
 obtain ⟨b,rfl,hb⟩:=yq e3
 exact ⟨t,a,b,rfl,ht,ha,hb⟩
theorem Zm {H:Hp} {x y r way:Str} {d e c:Int} {bd:Bd} {v:V} (h:Held H (Cl.each x d y e r way bd c).toD v):∃ t a b vb,v=.ref t∧H t=some (.tup [.str "each",.ref a,.ref b,.str r,.str way,.ref vb,.int c])∧H a=some (.tup [.str x,.int d])∧H b=some (.tup [.str y,.int e])∧H vb=some (.tup (match bd with | .is z=>[.str "is",.str z] | .row z=>[.str "row",.str z])):=by
 obtain ⟨t,xs,rfl,ht,h1⟩:=j2 h
 obtain ⟨v1,r1,rfl,e1,h2⟩:=jo h1
 obtain ⟨v2,r2,rfl,e2,h3⟩:=jo h2
 obtain ⟨v3,r3,rfl,e3,h4⟩:=jo h3
 obtain ⟨v4,r4,rfl,e4,h5⟩:=jo h4
 obtain ⟨v5,r5,rfl,e5,h6⟩:=jo h5
 obtain ⟨v6,r6,rfl,e6,h7⟩:=jo h6
 obtain ⟨v7,r7,rfl,e7,h8⟩:=jo h7
 cases j7 h8
 cases jW e1
 cases jW e4
 cases jW e5
 cases zx e7
 obtain ⟨a,rfl,ha⟩:=yq e2
 obtain ⟨b,rfl,hb⟩:=yq e3
 cases bd with
 | is z=>
  obtain ⟨vb,rfl,hvb⟩:=qB e6
  exact ⟨t,a,b,vb,rfl,ht,ha,hb,hvb⟩
 | row z=>
  obtain ⟨vb,rfl,hvb⟩:=qB e6
  exact ⟨t,a,b,vb,rfl,ht,ha,hb,hvb⟩
inductive Fo (α:Type) where
 | leaf (S:Sm) | ite (a b:Tm) (c:Int) (x y:List α) | whl (a b:Tm) (c:Int) (ks:List Cl) (x:List α)
inductive Nd where
 | leaf (S:Sm) | ite (a b:Tm) (c:Int) (x y:List D) | whl (a b:Tm) (c:Int) (ks:List Cl) (x:List D)
def Nd.ns:Nd→List Str
 | .leaf S=>S.ns
 | .ite a b c _ _=>(Cl.least a b c).ns
 | .whl a b c ks _=>(Cl.least a b c :: ks).flatMap Cl.ns
def Nd.few:Nd→Prop
 | .leaf S=>S.few
 | .whl _ _ _ ks _=>ks.length≤20
 | _=>True
def Fo.nd {α:Type} (f:α→D):Fo α→Nd
 | .leaf S=>.leaf S
 | .ite a b c x y=>.ite a b c (x.map f) (y.map f)
 | .whl a b c ks x=>.whl a b c ks (x.map f)
def Nd.cls:Nd→List Cl
 | .leaf (.claim C)=>[C]
 | .leaf _=>[]
 | .ite a b c _ _=>[.least a b c]
 | .whl a b c ks _=>.least a b c :: ks
end LW
namespace L2
open PySem PySem.Spec PyProof.Rows PySem.W PySem.Builtin PySem.Builtin.Str
section
variable {X:Cx}
def rIs (f:Str→Bool):V→List V→Hp→VK→Prop:=fun x xs H Q=>∃ z,x=.str z∧xs=[]∧Q (.bl (f z)) H
def jgF (f:Str→Str→Bool):V→List V→Hp→VK→Prop:=fun x xs H Q=>∃ z y,x=.str z∧xs=[.str y]∧Q (.bl (f z y)) H
theorem Ke:MtR X "str.isascii" (rIs Txt.isascii):=by
 intro pins s σ H x xs v us Q I rx rs h
 obtain ⟨z,rfl,rfl,q⟩:=h
 obtain ⟨t,rfl⟩:=rx
 cases rs
 exact SC.isascii ⟨.bl _,H,I,rfl,q⟩
theorem ZY:MtR X "str.isalpha" (rIs Txt.isalpha):=by
 intro pins s σ H x xs v us Q I rx rs h
 obtain ⟨z,rfl,rfl,q⟩:=h
 obtain ⟨t,rfl⟩:=rx
 cases rs
 exact SC.isalpha ⟨.bl _,H,I,rfl,q⟩
theorem ZW:MtR X "str.islower" (rIs Txt.islower):=by
 intro pins s σ H x xs v us Q I rx rs h
 obtain ⟨z,rfl,rfl,q⟩:=h
 obtain ⟨t,rfl⟩:=rx
 cases rs
 exact SC.islower ⟨.bl _,H,I,rfl,q⟩
theorem ZX:MtR X "str.isdigit" (rIs Txt.isdigit):=by
 intro pins s σ H x xs v us Q I rx rs h
 obtain ⟨z,rfl,rfl,q⟩:=h
 obtain ⟨t,rfl⟩:=rx
 cases rs
 exact SC.isdigit ⟨.bl _,H,I,rfl,q⟩
theorem yj:MtR X "str.startswith" (jgF Txt.startswith):=by
 intro pins s σ H x xs v us Q I rx rs h
 obtain ⟨z,y,rfl,rfl,q⟩:=h
 obtain ⟨t,rfl⟩:=rx
 obtain ⟨u,rfl,t',rfl⟩:=qz rs
 exact SC.startswith ⟨.bl _,H,I,rfl,q⟩
theorem Jq:MtR X "str.endswith" (jgF Txt.endswith):=by
 intro pins s σ H x xs v us Q I rx rs h
 obtain ⟨z,y,rfl,rfl,q⟩:=h
 obtain ⟨t,rfl⟩:=rx
 obtain ⟨u,rfl,t',rfl⟩:=qz rs
 exact SC.endswith ⟨.bl _,H,I,rfl,q⟩
theorem jb2:MtR X "str.strip" (fun x xs H Q=>∃ z y,x=.str z∧xs=[.str y]∧z.length≤sizeLine∧Q (.str (Txt.stripChars z y)) H):=by
 intro pins s σ H x xs v us Q I rx rs h
 obtain ⟨z,y,rfl,rfl,hz,q⟩:=h
 obtain ⟨t,rfl⟩:=rx
 obtain ⟨u,rfl,t',rfl⟩:=qz rs
 exact SC.stripChars (fun t2 k=>⟨.str _,H,I.kept (t':=k) fun b o e=>e,⟨t2,rfl⟩,q⟩) hz
theorem yF {pins:List (Addr×Obj)} {σ:St} {H:Hp} {s:Shared} {a b c:Str} {ta tb tc:Tok} {k:Nat} (I:Inv X pins σ H s):Inv X pins σ (upd H s.heap.objs.size (.tup [.str a,.str b,.str c])) { s with heap:=s.heap.push { cls:=.type "tuple",data:=.seq [Value.str a ta,.str b tb,.str c tc].toArray },toks:=k }:=
 I.laid (fun _ _ q=>Heap.get?_push_of_some _ q) (Nat.le_refl _) ⟨Nat.le_of_lt (km (show 3≤1000 by decide)),_,.cons ⟨_,rfl⟩ (.cons ⟨_,rfl⟩ (.cons ⟨_,rfl⟩ .nil)),⟨_,Heap.get?_push_size _ rfl,rfl,_,rfl⟩⟩
def jfg (f:Str→Str→Str×Str×Str):V→List V→Hp→VK→Prop:=fun x xs H Q=>∃ z y,x=.str z∧xs=[.str y]∧(y.length == 0)=false∧z.length≤sizeLine∧∀ p,H p=none→Q (.ref p) (upd H p (.tup [.str (f z y).1,.str (f z y).2.1,.str (f z y).2.2]))
theorem kT:MtR X "str.partition" (jfg Txt.partition):=by
 intro pins s σ H x xs v us Q I rx rs h
 obtain ⟨z,y,rfl,rfl,hy,hz,q⟩:=h
 obtain ⟨t,rfl⟩:=rx
 obtain ⟨u,rfl,t',rfl⟩:=qz rs
 refine call_meets PySem.F.slot_str_partition (typeIs_str _ _ _) PySem.F.entry_str_partition (PySem.F.args_str_partition_2 _ _) (meets_str_partition z y t t' hy hz) ?_
 have q1:=q s.heap.objs.size I.fresh
 unfold Txt.partition at q1
 revert q1
 cases occurrences z y 0 z.length 1 with
 | nil=>intro q1;exact ⟨.ref _,_,yF I,rfl,q1⟩
 | cons i r=>intro q1;exact ⟨.ref _,_,yF I,rfl,q1⟩
theorem yk:MtR X "str.rpartition" (jfg Txt.rpartition):=by
 intro pins s σ H x xs v us Q I rx rs h
 obtain ⟨z,y,rfl,rfl,hy,hz,q⟩:=h
 obtain ⟨t,rfl⟩:=rx
 obtain ⟨u,rfl,t',rfl⟩:=qz rs
 refine call_meets PySem.F.slot_str_rpartition (typeIs_str _ _ _) PySem.F.entry_str_rpartition (PySem.F.args_str_rpartition_2 _ _) (meets_str_rpartition z y t t' hy hz) ?_
 have q1:=q s.heap.objs.size I.fresh
 unfold Txt.rpartition at q1
 revert q1
 cases lastOccurrence z y 0 z.length with
 | none=>intro q1;exact ⟨.ref _,_,yF I,rfl,q1⟩
 | some i=>intro q1;exact ⟨.ref _,_,yF I,rfl,q1⟩
end
def zb (z:Str) (lo hi:Option Int):Str:=⟨((z.cps.toList.drop (HT.sIx z.length 0 lo)).take (HT.sIx z.length z.length hi - HT.sIx z.length 0 lo)).toArray⟩
theorem qe {a b:Str} (h:a.cps.toList=b.cps.toList):a=b:=by
 cases a;cases b
 congr 1
 exact Array.toList_inj.mp h
theorem kZ (z:Str) (lo hi:Option Int):(zb z lo hi).cps.toList=(z.cps.toList.drop (HT.sIx z.length 0 lo)).take (HT.sIx z.length z.length hi - HT.sIx z.length 0 lo):=rfl
theorem yg (z:Str) (lo hi:Option Int):(zb z lo hi).length≤z.length:=by
 show ((z.cps.toList.drop (HT.sIx z.length 0 lo)).take (HT.sIx z.length z.length hi - HT.sIx z.length 0 lo)).toArray.size≤z.length
 rw [List.size_toArray,List.length_take,List.length_drop]
 have:z.cps.toList.length=z.length:=by simp [Str.length]
 omega
theorem jgB (lo hi:Option Int) (n:Nat):Builtin.Str.strSliceIndices lo hi 1 n=(List.range (HT.sIx n n hi - HT.sIx n 0 lo)).map (HT.sIx n 0 lo+·):=by
 have e:Builtin.Str.strSliceIndices lo hi 1 n=sliceRange ((HT.sIx n 0 lo:Nat):Int) ((HT.sIx n n hi:Nat):Int) 1:=by
  unfold Builtin.Str.strSliceIndices
  cases lo with
  | none=>
   cases hi with
   | none=>simp [HT.sIx]
   | some i=>
    simp only [HT.sIx,show (1:Int) > 0 by decide,if_true]
    congr 1
    by_cases h:i < 0
    ·simp only [h,if_true];omega
    ·simp only [h,if_false];omega
  | some j=>
   have ej:max 0 (min (if j < 0 then j+(n:Int) else j) (n:Int))=((HT.sIx n 0 (some j):Nat):Int):=by
    simp only [HT.sIx]
    by_cases h:j < 0
    ·simp only [h,if_true];omega
    ·simp only [h,if_false];omega
   cases hi with
   | none=>
    simp only [show (1:Int) > 0 by decide,if_true,HT.sIx_none]
    rw [ej]
   | some i=>
    have ei:max 0 (min (if i < 0 then i+(n:Int) else i) (n:Int))=((HT.sIx n n (some i):Nat):Int):=by
     simp only [HT.sIx]
     by_cases h:i < 0
     ·simp only [h,if_true];omega
     ·simp only [h,if_false];omega
    simp only [show (1:Int) > 0 by decide,if_true]
    rw [ej,ei]
 rw [e,sliceRange_one]
theorem Jd {X:Cx}:SlR X (fun x lo hi H Q=>∃ z,x=.str z∧z.length≤sizeLine∧Q (.str (zb z lo hi)) H):=by
 intro pins s σ H x v vl vu lo hi sl Q I rx hs pl pu h
 obtain ⟨z,rfl,hz,q⟩:=h
 obtain ⟨t,rfl⟩:=rx
 obtain ⟨l,hl1,hl2⟩:∃ l:Option (Int×Tok),vl=partValue l∧l.map (·.1)=lo:=by
  cases pl with
  | none=>exact ⟨none,rfl,rfl⟩
  | int i t=>exact ⟨some (i,t),rfl,rfl⟩
 obtain ⟨u,hu1,hu2⟩:∃ l:Option (Int×Tok),vu=partValue l∧l.map (·.1)=hi:=by
  cases pu with
  | none=>exact ⟨none,rfl,rfl⟩
  | int i t=>exact ⟨some (i,t),rfl,rfl⟩
 refine ⟨"str",_,slot_str_getitem.lookup,typeIs_str s z t,?_⟩
 obtain ⟨o,h1,h2,h3⟩:=hs
 have hsl:s.heap.IsSlice sl l u none:=⟨o,h1,h2,by rw [h3,hl1,hu1];rfl⟩
 refine wpAny_getItem_str_slice hsl rfl ?_
 have hp:slicePicked z l u none=(List.range (HT.sIx z.length z.length hi - HT.sIx z.length 0 lo)).map (HT.sIx z.length 0 lo+·):=by
  unfold slicePicked
  rw [hl2,hu2]
  exact jgB lo hi z.length
 have hn:z.cps.toList.length=z.length:=by simp [Str.length]
 unfold sliceMade
 split
 ·rename_i hc
  rw [Bool.and_eq_true] at hc
  have hc2:=eq_of_beq hc.2
  rw [hp,List.length_map,List.length_range] at hc2
  have hle:=HT.sIx_le z.length z.length (Nat.le_refl _) hi
  have hcz:zb z lo hi=z:=by
   refine qe ?_
   rw [kZ]
   rw [hc2]
   by_cases h0:HT.sIx z.length 0 lo=0
   ·rw [h0,List.drop_zero,← hn,List.take_length]
   ·have:z.length=0:=by omega
    have:z.cps.toList=[]:=List.length_eq_zero_iff.mp (by omega)
    rw [this];simp
  rw [hcz] at q
  exact ⟨.str z,H,I,⟨t,rfl⟩,q⟩
 ·rw [hp,pick_run]
  exact ⟨Nat.le_trans (yg z lo hi) hz,⟨.str (zb z lo hi),H,I.tok _,⟨_,rfl⟩,q⟩⟩
open PySem PySem.Builtin PySem.Builtin.Str PySem.StrLaws PyProof.Rows
def cd (z:Str):List Nat:=z.cps.toList
def mS (l:List Nat):Str:=⟨l.toArray⟩
theorem qr (z:Str):mS (cd z)=z:=by cases z;rfl
theorem kt (l:List Nat):cd (mS l)=l:=rfl
theorem jI (z:Str):(cd z).length=z.length:=Array.length_toList
theorem kU (l:List Nat):(mS l).length=l.length:=by simp [mS,Str.length]
theorem jS (a b:Str):cd (a++b)=cd a++cd b:=by unfold cd;rw [Str.cps_append,Array.toList_append]
theorem yu {a b:Str} (h:cd a=cd b):a=b:=by rw [← qr a,h,qr]
def jZ (sep:List Nat):List Nat→Option (List Nat×List Nat)
 | []=>none
 | c :: l=>if sep.isPrefixOf (c :: l) then some ([],(c :: l).drop sep.length) else (jZ sep l).map fun p=>(c :: p.1,p.2)
def jQ (sep:List Nat):List Nat→Option (List Nat×List Nat)
 | []=>none
 | c :: l=>match jQ sep l with
  | some p=>some (c :: p.1,p.2)
  | none=>if sep.isPrefixOf (c :: l) then some ([],(c :: l).drop sep.length) else none
theorem jaS {sep:List Nat} (h:sep≠[]) {i:Nat}:¬ sep <+: ([]:List Nat).drop i:=by
 rw [List.drop_nil]
 intro ⟨t,e⟩
 exact h (List.append_eq_nil_iff.mp e).1
theorem J7 {sep:List Nat} (h:sep≠[]):∀ {l:List Nat},jZ sep l=none→∀ i,¬ sep <+: l.drop i
 | [],_,i=>jaS h
 | c :: l,e,i=>by
  unfold jZ at e
  split at e
  ·cases e
  ·rename_i hn
   cases i with
   | zero=>exact fun z=>hn (List.isPrefixOf_iff_prefix.mpr z)
   | succ i=>exact J7 h (Option.map_eq_none_iff.mp e) i
theorem jaT {sep l:List Nat} (h:sep.isPrefixOf l=true):l=sep++l.drop sep.length:=by
 obtain ⟨t,rfl⟩:=List.isPrefixOf_iff_prefix.mp h
 rw [List.drop_left]
theorem kM {sep:List Nat}:∀ {l a b:List Nat},jZ sep l=some (a,b)→l=a++sep++b∧∀ i < a.length,¬ sep <+: l.drop i
 | [],_,_,e=>by cases e
 | c :: l,a,b,e=>by
  unfold jZ at e
  split at e
  ·rename_i hp
   cases e
   exact ⟨jaT hp,fun i hi=>absurd hi (by simp)⟩
  ·rename_i hn
   obtain ⟨⟨a',b'⟩,e1,e2⟩:=Option.map_eq_some_iff.mp e
   cases e2
   obtain ⟨k1,k2⟩:=kM e1
   refine ⟨by rw [k1];rfl,fun i hi=>?_⟩
   cases i with
   | zero=>exact fun z=>hn (List.isPrefixOf_iff_prefix.mpr z)
   | succ i=>exact k2 i (by simpa using hi)
theorem zJ {sep:List Nat} (h:sep≠[]):∀ {l:List Nat},jQ sep l=none→∀ i,¬ sep <+: l.drop i
 | [],_,i=>jaS h
 | c :: l,e,i=>by
  unfold jQ at e
  split at e
  ·cases e
  ·rename_i e1
   split at e
   ·cases e
   ·rename_i hn
    cases i with
    | zero=>exact fun z=>hn (List.isPrefixOf_iff_prefix.mpr z)
    | succ i=>exact zJ h e1 i
theorem kN {sep:List Nat} (h:sep≠[]):∀ {l a b:List Nat},jQ sep l=some (a,b)→l=a++sep++b∧∀ i,a.length < i→¬ sep <+: l.drop i
 | [],_,_,e=>by cases e
 | c :: l,a,b,e=>by
  unfold jQ at e
  split at e
  ·rename_i p e1
   cases e
   obtain ⟨k1,k2⟩:=kN h (a:=p.1) (b:=p.2) e1
   refine ⟨by rw [k1];rfl,fun i hi=>?_⟩
   cases i with
   | zero=>exact absurd hi (by simp)
   | succ i=>exact k2 i (by simpa using hi)
  ·rename_i e1
   split at e
   ·rename_i hp
    cases e
    refine ⟨jaT hp,fun i hi=>?_⟩
    cases i with
    | zero=>exact absurd hi (by simp)
    | succ i=>exact zJ h e1 i
   ·cases e
theorem yy {x y:Str} {i:Nat} (h:cd y≠[]):(i+y.length≤x.length∧subAt x y i=true)↔cd y <+: (cd x).drop i:=by
 rw [subAt_eq,List.prefix_iff_eq_take,beq_iff_eq,show (cd y).length=y.length from jI y]
 constructor
 ·rintro ⟨h1,h2⟩
  exact h2.symm
 ·intro h2
  have h3:=congrArg List.length h2
  rw [List.length_take,List.length_drop,jI,jI] at h3
  have:0 < y.length:=by rw [← jI];exact List.length_pos_iff.mpr h
  exact ⟨by omega,h2.symm⟩
theorem Y4 (s sub:Str) (hi:Nat):∀ (l:List Nat) (st:Array Nat×Nat),st.fst.size=1→(forIn l st (occBody s sub hi 1)).run.fst=st.fst
 | [],st,h=>rfl
 | a :: l,st,h=>by
  rw [List.forIn_cons]
  unfold occBody
  rw [if_neg (fun z=>by have:=z.1.1.1;omega)]
  exact Y4 s sub hi l _ h
theorem KL (s sub:Str) (hi i:Nat):∀ (l:List Nat) (free:Nat),i∈l→l.Pairwise (· < ·)→(∀ k∈l,free≤k)→(i+sub.length≤hi∧subAt s sub i=true)→(∀ k∈l,k < i→¬ (k+sub.length≤hi∧subAt s sub k=true))→(forIn l ((#[]:Array Nat),free) (occBody s sub hi 1)).run.fst=#[i]
 | [],_,h,_,_,_,_=>nomatch h
 | a :: l,free,hm,hp,hf,hA,hn=>by
  rw [List.forIn_cons]
  have hp':=List.pairwise_cons.mp hp
  by_cases e:a=i
  ·subst e
   unfold occBody
   rw [if_pos ⟨⟨⟨by simp,hf a (List.mem_cons_self ..)⟩,hA.1⟩,hA.2⟩]
   exact Y4 s sub hi l _ rfl
  ·have hm':i∈l:=by
    rcases List.mem_cons.mp hm with z | z
    ·exact absurd z.symm e
    ·exact z
   have hlt:=hp'.1 i hm'
   have h0:=hn a (List.mem_cons_self ..) hlt
   unfold occBody
   rw [if_neg (fun z=>h0 ⟨z.1.2,z.2⟩)]
   exact KL s sub hi i l free hm' hp'.2 (fun k hk=>hf k (List.mem_cons_of_mem _ hk)) hA fun k hk=>hn k (List.mem_cons_of_mem _ hk)
theorem jdg {x y:Str} (h:cd y≠[]):occurrences x y 0 x.length 1=match jZ (cd y) (cd x) with | some p=>[p.1.length] | none=>[]:=by
 cases e:jZ (cd y) (cd x) with
 | none=>
  have h0:=J7 h e
  have h1:=found_iff x y
  cases e2:occurrences x y 0 x.length 1 with
  | nil=>rfl
  | cons i r=>
   rw [e2] at h1
   obtain ⟨j,hj⟩:=h1.mp rfl
   exact absurd ((yy h).mp hj) (h0 j)
 | some p=>
  obtain ⟨k1,k2⟩:=kM (a:=p.1) (b:=p.2) e
  have hA:cd y <+: (cd x).drop p.1.length:=by rw [k1,List.append_assoc,List.drop_left];exact List.prefix_append ..
  have hA':=(yy h).mpr hA
  rw [occ_eq,KL x y x.length p.1.length _ 0 (by rw [List.mem_range'];exact ⟨p.1.length,by omega,by omega⟩) (by simpa using List.pairwise_lt_range' (s:=0) (n:=x.length+1 - 0)) (fun _ _=>Nat.zero_le _) hA' fun k _ hk z=>k2 k hk ((yy h).mp z)]
theorem ZE (x:Str) (i j:Nat):strSub x i j=mS (((cd x).drop i).take (j - i)):=yu (strSub_toList x i j)
theorem KQ {x y:Str} {a b:List Nat} (e:cd x=a++cd y++b):strSub x 0 a.length=mS a∧strSub x (a.length+y.length) x.length=mS b:=by
 rw [ZE,ZE,← jI x,e]
 constructor
 ·rw [List.drop_zero,List.append_assoc,Nat.sub_zero,List.take_left]
 ·have e1:a.length+y.length=(a++cd y).length:=by rw [List.length_append,jI]
  rw [e1,List.drop_left,List.take_of_length_le (by rw [List.length_append];omega)]
theorem jaZ {x y:Str} (h:cd y≠[]):Txt.partition x y=match jZ (cd y) (cd x) with | some p=>(mS p.1,y,mS p.2) | none=>(x,Str.empty,Str.empty):=by
 unfold Txt.partition
 rw [jdg h]
 cases e:jZ (cd y) (cd x) with
 | none=>rfl
 | some p=>
  obtain ⟨k1,k2⟩:=kM (a:=p.1) (b:=p.2) e
  obtain ⟨e1,e2⟩:=KQ k1
  show (strSub x 0 p.1.length,y,strSub x (p.1.length+y.length) x.length)=_
  rw [e1,e2]
theorem YU {x y:Str} (h:cd y≠[]):Txt.rpartition x y=match jQ (cd y) (cd x) with | some p=>(mS p.1,y,mS p.2) | none=>(Str.empty,Str.empty,x):=by
 unfold Txt.rpartition
 cases e:jQ (cd y) (cd x) with
 | none=>
  have h0:=zJ h e
  rcases last_spec x y with ⟨e1,_⟩ | ⟨i,_,hA,_⟩
  ·rw [e1]
  ·exact absurd ((yy h).mp hA) (h0 i)
 | some p=>
  obtain ⟨k1,k2⟩:=kN h (a:=p.1) (b:=p.2) e
  have hA:cd y <+: (cd x).drop p.1.length:=by rw [k1,List.append_assoc,List.drop_left];exact List.prefix_append ..
  rcases last_spec x y with ⟨_,h1⟩ | ⟨i,e1,hI,h1⟩
  ·exact absurd ((yy h).mpr hA) (h1 _)
  ·have:i=p.1.length:=by
    rcases Nat.lt_trichotomy i p.1.length with z | z | z
    ·exact absurd ((yy h).mpr hA) (h1 _ z)
    ·exact z
    ·exact absurd ((yy h).mp hI) (k2 _ z)
   subst this
   obtain ⟨e2,e3⟩:=KQ k1
   rw [e1]
   show (strSub x 0 p.1.length,y,strSub x (p.1.length+y.length) x.length)=_
   rw [e2,e3]
def qi (l:List Nat):List Nat:=((l.dropWhile (· == 32)).reverse.dropWhile (· == 32)).reverse
theorem yd {p:Nat→Bool}:∀ l:List Nat,l.drop (l.takeWhile p).length=l.dropWhile p
 | []=>rfl
 | a :: l=>by
  rw [List.takeWhile_cons,List.dropWhile_cons]
  split
  ·exact yd l
  ·rfl
theorem jcv {p:Nat→Bool} (l:List Nat):l.take (l.length - (l.reverse.takeWhile p).length)=(l.reverse.dropWhile p).reverse:=by
 rw [← yd l.reverse,List.drop_reverse,List.reverse_reverse]
theorem jcA (z:Str):Txt.stripChars z (Str.ofString " ")=mS (qi (cd z)):=by
 have hg:(Str.ofString " ").cps.contains=fun c:Nat=>c == 32:=by
  funext c
  show (#[32]:Array Nat).contains c=_
  simp
  rfl
 unfold Txt.stripChars
 rw [hg,PyProof.Rows.stripBy_eq,ZE]
 unfold stripLo stripHi qi
 simp only [if_true]
 show mS (List.take (z.length - _ - ((cd z).takeWhile _).length) ((cd z).drop ((cd z).takeWhile _).length))=_
 rw [← jcv]
 congr 2
 ·show z.length - ((List.drop ((cd z).takeWhile _).length (cd z)).reverse.takeWhile _).length - _=_
  rw [yd,← jI]
  have h1:(cd z).length=((cd z).takeWhile fun c=>c == 32).length+((cd z).dropWhile fun c=>c == 32).length:=by
   rw [← List.length_append,List.takeWhile_append_dropWhile]
  omega
 ·exact yd _
end L2
namespace LW
open PySem L2 PySem.NumText
def qp:List Str:=["each","rise","to","proc","need","give","back","any","claim","if","else","end","while","keep","call"]
def qv (c:Nat):Bool:=decide (97≤c) && decide (c≤122)
def qH (c:Nat):Bool:=decide (48≤c) && decide (c≤57)
def jO (l:List Nat):Bool:=!l.isEmpty && l.all qv && decide (l.length≤8) && !(qp.map cd).contains l
def qh (l:List Nat):Bool:=!l.isEmpty && l.all qH && decide (l.length≤19) && (l == [48] || !(l.head? == some 48))
def yr (l:List Nat):Bool:=if l.head?=some 45 then qh l.tail && !(l.tail == [48]) else qh l
def K2 (l:List Nat):Int:=if l.head?=some 45 then -((digitsVal l.tail:Nat):Int) else ((digitsVal l:Nat):Int)
def qj (q:Nat) (l:List Nat):Option (List Nat×List Nat):=match jQ [32,q,32] l with
 | some p=>if qh p.2 && !(p.2 == [48]) then some p else none
 | none=>none
def j9 (l:List Nat):List Nat×Int:=match qj 43 l with
 | some p=>(p.1,((digitsVal p.2:Nat):Int))
 | none=>match qj 45 l with
  | some p=>(p.1,-((digitsVal p.2:Nat):Int))
  | none=>(l,0)
def ql (l:List Nat):Option (Str×Int):=if yr l then some (Str.ofString "",K2 l) else if jO (j9 l).1 then some (mS (j9 l).1,(j9 l).2) else none
def qo (l:List Nat):Option Tm:=match jZ [91] l with
 | none=>if jO l then some (.is (mS l)) else none
 | some p=>if p.2.getLast? == some 93 then if jO p.1 then (ql p.2.dropLast).map fun q=>.at_ (mS p.1) q.1 q.2 else none else none
def yG (l:List Nat):Option (Tm×Int):=if yr l then some (.is (Str.ofString ""),K2 l) else (qo (j9 l).1).map fun t=>(t,(j9 l).2)
def zA (l:List Nat):Option (Bd×Int):=
 if yr l then some (.is (Str.ofString ""),K2 l)
 else if [91,93].isSuffixOf (j9 l).1 then if jO ((j9 l).1.take ((j9 l).1.length - 2)) then some (.row (mS ((j9 l).1.take ((j9 l).1.length - 2))),(j9 l).2) else none
 else if jO (j9 l).1 then some (.is (mS (j9 l).1),(j9 l).2) else none
def Jo (l:List Nat):Option Tm:=if l=[48] then some (.is (Str.ofString "")) else qo l
def prt (sep l:List Nat):List Nat×List Nat:=(jZ sep l).getD (l,[])
def yO (sep l:List Nat):List Nat×List Nat:=(jQ sep l).getD ([],l)
structure Rch where
 t:Str×Int
 u:Str×Int
 r:Str
def qY (l:List Nat):Option Rch:=match ql (prt [32,116,111,32] l).1 with
 | none=>none
 | some t=>match ql (yO [32] (prt [32,116,111,32] l).2).1 with
  | none=>none
  | some u=>if jO (yO [32] (prt [32,116,111,32] l).2).2 then some ⟨t,u,mS (yO [32] (prt [32,116,111,32] l).2).2⟩ else none
def Kv (l:List Nat):Str:=if (jZ [32,60,61,32] l).isSome then Str.ofString "<=" else Str.ofString ">="
def Zn (l:List Nat):Option Cl:=match qY (prt (32 :: (cd (Kv l)++[32])) l).1 with
 | none=>none
 | some k=>match zA (prt (32 :: (cd (Kv l)++[32])) l).2 with
  | none=>none
  | some b=>some (.each k.t.1 k.t.2 k.u.1 k.u.2 k.r (Kv l) b.1 b.2)
def J5 (l:List Nat):Option Cl:=match qY l with
 | none=>none
 | some k=>some (.rise k.t.1 k.t.2 k.u.1 k.u.2 k.r)
def Kg (l:List Nat):Option Cl:=match yG (prt [32,62,61,32] l).2 with
 | none=>none
 | some t=>match Jo (prt [32,62,61,32] l).1 with
  | none=>none
  | some x=>some (.least x t.1 t.2)
def kC (l:List Nat):Option Cl:=
 if (prt [32] l).1=[101,97,99,104] then Zn (prt [32] l).2
 else if (prt [32] l).1=[114,105,115,101] then J5 (prt [32] l).2
 else Kg l
def dg (m:Nat):List Nat:=(Nat.toDigits 10 m).map Char.toNat
def zP (i:Int):List Nat:=if i < 0 then 45 :: dg i.natAbs else dg i.natAbs
def jP (x:List Nat) (c:Int):List Nat:=if x=[] then zP c else if 0 < c then x++32 :: 43 :: 32 :: dg c.natAbs else if c < 0 then x++32 :: 45 :: 32 :: dg c.natAbs else x
def kc:Tm→List Nat
 | .is x=>if cd x=[] then [48] else cd x
 | .at_ r x d=>cd r++91 :: (jP (cd x) d++[93])
def zC (t:Tm) (c:Int):List Nat:=match t with
 | .is x=>jP (cd x) c
 | .at_ r x d=>jP (kc (.at_ r x d)) c
def qa (b:Bd) (c:Int):List Nat:=match b with
 | .is x=>jP (cd x) c
 | .row r=>jP (cd r++[91,93]) c
def j5 (x:Str) (d:Int) (y:Str) (e:Int) (r:Str):List Nat:=jP (cd x) d++32 :: 116 :: 111 :: 32 :: (jP (cd y) e++32 :: cd r)
def qq:Cl→List Nat
 | .least a b c=>kc a++32 :: 62 :: 61 :: 32 :: zC b c
 | .rise x d y e r=>114 :: 105 :: 115 :: 101 :: 32 :: j5 x d y e r
 | .each x d y e r way b c=>101 :: 97 :: 99 :: 104 :: 32 :: (j5 x d y e r++32 :: (cd way++32 :: qa b c))
theorem jdE (m:Nat):∀ c∈dg m,qH c=true:=by
 intro c hc
 obtain ⟨ch,hch,rfl⟩:=List.mem_map.mp hc
 have r:=PyProof.Rows.digit_range (Nat.isDigit_of_mem_toDigits (by decide) (by decide) hch)
 unfold qH
 rw [decide_eq_true r.1,decide_eq_true r.2]
 rfl
theorem jbl (m:Nat):dg m≠[]:=fun h=>Nat.toDigits_ne_nil (List.map_eq_nil_iff.mp h)
theorem jgf {m:Nat} (h:m < 10 ^ 19):(dg m).length≤19:=by
 unfold dg
 rw [List.length_map]
 exact (Nat.length_toDigits_le_iff (b:=10) (by decide) (by decide)).mpr h
theorem Yw (m:Nat):digitsVal (dg m)=m:=PySem.W.KIN.val_back m
theorem jce:∀ c:Nat,c < 10→0 < c→(Nat.digitChar c).toNat≠48:=by decide
theorem jbm (m:Nat) (h:0 < m):(dg m).head?≠some 48:=by
 induction m using Nat.strongRecOn with
 | _ m ih=>
  by_cases h9:m < 10
  ·unfold dg
   rw [Nat.toDigits_of_lt_base h9]
   intro e
   exact jce m h9 h (by simpa using e)
  ·have hm:m % 10 < 10:=Nat.mod_lt m (by decide)
   have t:Nat.toDigits 10 (m / 10)++Nat.toDigits 10 (m % 10)=Nat.toDigits 10 (10 * (m / 10)+m % 10):=Nat.toDigits_append_toDigits (by decide) (by omega) hm
   rw [Nat.div_add_mod] at t
   have i:=ih (m / 10) (by omega) (by omega)
   have n:=jbl (m / 10)
   unfold dg at i n ⊢
   rw [← t,List.map_append]
   cases e:(Nat.toDigits 10 (m / 10)).map Char.toNat with
   | nil=>exact absurd e n
   | cons a l=>rw [e] at i;exact i
theorem jad {m:Nat} (h:m < 10 ^ 19):qh (dg m)=true:=by
 unfold qh
 rw [List.all_eq_true.mpr (jdE m),decide_eq_true (jgf h)]
 have h1:(dg m).isEmpty=false:=by rw [List.isEmpty_eq_false_iff];exact jbl m
 rw [h1]
 rcases Nat.eq_zero_or_pos m with rfl | hp
 ·rfl
 ·rw [show ((dg m).head? == some 48)=false from beq_eq_false_iff_ne.mpr (jbm m hp)]
  simp
theorem jdD {m:Nat} (h:0 < m):(dg m == [48])=false:=beq_eq_false_iff_ne.mpr fun e=>jbm m h (by rw [e];rfl)
theorem jge {c k:Nat} (h:qH c=true) (hk:qH k=false):c≠k:=fun e=>by rw [e,hk] at h;cases h
theorem za {m k:Nat} (hk:qH k=false):k ∉ dg m:=fun h=>jge (jdE m k h) hk rfl
theorem jgg {m k:Nat} (hk:qH k=false):(dg m).head?≠some k:=fun h=>za hk (List.mem_of_mem_head? h)
theorem Yq {i:Int} (h:i.natAbs < 10 ^ 19):yr (zP i)=true∧K2 (zP i)=i:=by
 unfold zP yr K2
 split
 ·rename_i hi
  simp only [List.head?_cons,if_true,List.tail_cons]
  rw [jad h,jdD (by omega),Yw]
  exact ⟨rfl,by omega⟩
 ·rw [if_neg (jgg rfl),if_neg (jgg rfl),jad h,Yw]
  exact ⟨rfl,by omega⟩
theorem Kb {l:List Nat} (h:jO l=true):l≠[]:=by
 rintro rfl
 exact absurd h (by decide)
theorem ZU {l:List Nat} (h:jO l=true):∀ c∈l,qv c=true:=by
 unfold jO at h
 simp only [Bool.and_eq_true] at h
 exact List.all_eq_true.mp h.1.1.2
theorem Z2 {c k:Nat} (h:qv c=true) (hk:qv k=false):c≠k:=fun e=>by rw [e,hk] at h;cases h
theorem kS {l:List Nat} {k:Nat} (h:jO l=true) (hk:qv k=false):k ∉ l:=fun z=>Z2 (ZU h k z) hk rfl
theorem yW {c:Nat} (h:qv c=true):qH c=false:=by
 unfold qv at h
 unfold qH
 simp only [Bool.and_eq_true,decide_eq_true_eq] at h
 rw [decide_eq_false (show ¬ c≤57 by omega)]
 simp
theorem Yv {l:List Nat} {c:Nat} (h:c∈l) (hc:qH c=false):qh l=false:=by
 unfold qh
 have:l.all qH=false:=by
  rw [List.all_eq_false]
  exact ⟨c,h,by rw [hc];decide⟩
 rw [this]
 simp
theorem ZT {l:List Nat} {c:Nat} (h:c∈l) (hc:qv c=false):jO l=false:=by
 cases e:jO l with
 | false=>rfl
 | true=>exact absurd h (kS e hc)
theorem JK {l:List Nat} {c:Nat} (h:c∈l) (hc:qH c=false) (h45:c≠45):yr l=false:=by
 unfold yr
 split
 ·rename_i e
  cases l with
  | nil=>cases h
  | cons a l=>
   have e':a=45:=by simpa using e
   rcases List.mem_cons.mp h with z | z
   ·exact absurd (z.trans e') h45
   ·rw [List.tail_cons,Yv z hc]
    rfl
 ·exact Yv h hc
theorem ZJ {sep:List Nat} {l u v:List Nat}:∀ a:List Nat,jQ sep l=some (u,v)→jQ sep (a++l)=some (a++u,v)
 | [],h=>h
 | c :: a,h=>by
  show (match jQ sep (a++l) with | some p=>some (c :: p.1,p.2) | none=>_)=_
  rw [ZJ a h]
  rfl
theorem jaM {sep l:List Nat} {c:Nat} (h:sep≠[]) (hc:c∈sep) (hn:c ∉ l):jQ sep l=none:=by
 cases e:jQ sep l with
 | none=>rfl
 | some p=>
  obtain ⟨k1,_⟩:=kN h (a:=p.1) (b:=p.2) e
  rw [k1] at hn
  exact absurd (List.mem_append_left _ (List.mem_append_right _ hc)) hn
theorem jaP {sep l:List Nat} {c:Nat} (hc:c∈sep) (hn:c ∉ l):jZ sep l=none:=by
 cases e:jZ sep l with
 | none=>rfl
 | some p=>
  obtain ⟨k1,_⟩:=kM (a:=p.1) (b:=p.2) e
  rw [k1] at hn
  exact absurd (List.mem_append_left _ (List.mem_append_right _ hc)) hn
theorem jcN {c:Nat} {b:List Nat} (h:c ∉ b) (a:List Nat):jQ [c] (a++c :: b)=some (a,b):=by
 have:jQ [c] (c :: b)=some ([],b):=by
  unfold jQ
  rw [jaM (by simp) (List.mem_singleton.mpr rfl) h]
  simp [List.isPrefixOf]
 have:=ZJ a this
 rwa [List.append_nil] at this
theorem jcM {q:Nat} {b:List Nat} (h:32 ∉ b) (hq:q≠32) (hh:b.head?≠some q) (a:List Nat):jQ [32,q,32] (a++32 :: q :: 32 :: b)=some (a,b):=by
 have e0:=jaM (sep:=[32,q,32]) (by simp) (List.mem_cons_self ..) h
 have e1:jQ [32,q,32] (32 :: b)=none:=by
  unfold jQ
  rw [e0]
  cases b with
  | nil=>rfl
  | cons x b=>
   have:(q == x)=false:=beq_eq_false_iff_ne.mpr fun z=>hh (by rw [z];rfl)
   simp [List.isPrefixOf,this]
 have e2:jQ [32,q,32] (q :: 32 :: b)=none:=by
  unfold jQ
  rw [e1]
  have:(32 == q)=false:=beq_eq_false_iff_ne.mpr hq.symm
  simp [List.isPrefixOf,this]
 have e3:jQ [32,q,32] (32 :: q :: 32 :: b)=some ([],b):=by
  unfold jQ
  rw [e2]
  simp [List.isPrefixOf]
 have:=ZJ a e3
 rwa [List.append_nil] at this
theorem Jf {p:Nat} {s l:List Nat}:∀ {a:List Nat},p ∉ a→jZ (p :: s) (a++l)=(jZ (p :: s) l).map fun r=>(a++r.1,r.2)
 | [],_=>by simp
 | c :: a,h=>by
  have hc:(p == c)=false:=beq_eq_false_iff_ne.mpr fun z=>h (by rw [z];exact List.mem_cons_self ..)
  show (if (p :: s).isPrefixOf (c :: (a++l)) then _ else (jZ (p :: s) (a++l)).map _)=_
  rw [List.isPrefixOf,hc,Bool.false_and,if_neg Bool.false_ne_true,Jf (fun z=>h (List.mem_cons_of_mem _ z)),Option.map_map]
  rfl
theorem zX {p q:Nat} {s l:List Nat} (hpq:q≠p):∀ {a:List Nat},q ∉ a→jZ (p :: q :: s) (a++p :: l)=(jZ (p :: q :: s) (p :: l)).map fun r=>(a++r.1,r.2)
 | [],_=>by simp
 | c :: a,h=>by
  have hx:∃ x m,a++p :: l=x :: m∧(q == x)=false:=by
   cases a with
   | nil=>exact ⟨p,l,rfl,beq_eq_false_iff_ne.mpr hpq⟩
   | cons y a=>exact ⟨y,a++p :: l,rfl,beq_eq_false_iff_ne.mpr fun z=>h (by rw [z];exact List.mem_cons_of_mem _ (List.mem_cons_self ..))⟩
  obtain ⟨x,m,e,hx⟩:=hx
  have hf:(p :: q :: s).isPrefixOf (c :: (a++p :: l))=false:=by
   rw [e,List.isPrefixOf,List.isPrefixOf,hx]
   simp
  show (if (p :: q :: s).isPrefixOf (c :: (a++p :: l)) then _ else (jZ (p :: q :: s) (a++p :: l)).map _)=_
  rw [hf,if_neg Bool.false_ne_true,zX hpq (fun z=>h (List.mem_cons_of_mem _ z)),Option.map_map]
  rfl
theorem JG {p:Nat} {s b:List Nat}:jZ (p :: s) (p :: (s++b))=some ([],b):=by
 unfold jZ
 rw [if_pos (show (p :: s).isPrefixOf (p :: (s++b))=true from List.isPrefixOf_iff_prefix.mpr ⟨b,rfl⟩)]
 show some (([]:List Nat),((p :: s)++b).drop (p :: s).length)=_
 rw [List.drop_left]
theorem jcP {c:Nat} {a b:List Nat} (h:c ∉ a):jZ [c] (a++c :: b)=some (a,b):=by
 rw [Jf h,show jZ [c] (c :: b)=some ([],b) from JG (s:=[])]
 simp
theorem KH {q c:Nat} {l:List Nat} (h:l.getLast?=some c) (hc:qH c=false):qj q l=none:=by
 unfold qj
 cases e:jQ [32,q,32] l with
 | none=>rfl
 | some p=>
  obtain ⟨k1,_⟩:=kN (by simp) (a:=p.1) (b:=p.2) e
  have:qh p.2=false:=by
   cases e2:p.2 with
   | nil=>rfl
   | cons x m=>
    refine Yv (c:=c) ?_ hc
    rw [k1,e2,List.getLast?_append] at h
    have:(x :: m).getLast?=some c:=by
     cases e3:(x :: m).getLast? with
     | none=>simp at e3
     | some y=>rw [e3] at h;exact h
    exact List.mem_of_getLast? this
  show (if qh p.2 && !(p.2 == [48]) then some p else none)=none
  rw [this]
  rfl
theorem y0 {c:Nat} {l:List Nat} (h:l.getLast?=some c) (hc:qH c=false):j9 l=(l,0):=by
 unfold j9
 rw [KH h hc,KH h hc]
theorem jaG {q m:Nat} (hq:q=43∨q=45) (h0:0 < m) (h:m < 10 ^ 19) (a:List Nat):qj q (a++32 :: q :: 32 :: dg m)=some (a,dg m):=by
 unfold qj
 rw [jcM (za rfl) (by omega) (jgg (by rcases hq with rfl | rfl <;> rfl)) a]
 show (if qh (dg m) && !(dg m == [48]) then some (a,dg m) else none)=_
 rw [jad h,jdD h0]
 rfl
theorem jgd {x y u v:List Nat} (hu:32 ∉ u) (hv:32 ∉ v) (h:x++32 :: u=y++32 :: v):x=y∧u=v:=by
 rcases List.append_eq_append_iff.mp h with ⟨c,e1,e2⟩ | ⟨c,e1,e2⟩
 ·cases c with
  | nil=>rw [List.append_nil] at e1;cases e2;exact ⟨e1.symm,rfl⟩
  | cons z c=>
   cases e2
   exact absurd (List.mem_append_right _ (List.mem_cons_self ..)) hu
 ·cases c with
  | nil=>rw [List.append_nil] at e1;cases e2;exact ⟨e1,rfl⟩
  | cons z c=>
   cases e2
   exact absurd (List.mem_append_right _ (List.mem_cons_self ..)) hv
theorem jbf {l:List Nat} (h:qh l=true):∀ c∈l,qH c=true:=by
 unfold qh at h
 simp only [Bool.and_eq_true] at h
 exact List.all_eq_true.mp h.1.1.2
theorem ZI {m:Nat} (a:List Nat):qj 43 (a++32 :: 45 :: 32 :: dg m)=none:=by
 unfold qj
 cases e:jQ [32,43,32] (a++32 :: 45 :: 32 :: dg m) with
 | none=>rfl
 | some p=>
  obtain ⟨k1,_⟩:=kN (by simp) (a:=p.1) (b:=p.2) e
  have:qh p.2=false:=by
   cases e2:qh p.2 with
   | false=>rfl
   | true=>
    have k2:(a++[32,45])++32 :: dg m=(p.1++[32,43])++32 :: p.2:=by
     simpa using k1
    have:=(jgd (za rfl) (fun z=>by have:=jbf e2 _ z;cases this) k2).1
    have:=congrArg List.getLast? this
    simp at this
  show (if qh p.2 && !(p.2 == [48]) then some p else none)=none
  rw [this]
  rfl
theorem jeP {m:Nat} (h0:0 < m) (h:m < 10 ^ 19) (a:List Nat):j9 (a++32 :: 43 :: 32 :: dg m)=(a,(m:Int)):=by
 unfold j9
 rw [jaG (.inl rfl) h0 h a]
 show (a,((digitsVal (dg m):Nat):Int))=_
 rw [Yw]
theorem jeQ {m:Nat} (h0:0 < m) (h:m < 10 ^ 19) (a:List Nat):j9 (a++32 :: 45 :: 32 :: dg m)=(a,-(m:Int)):=by
 unfold j9
 rw [ZI,jaG (.inr rfl) h0 h a]
 show (a,-((digitsVal (dg m):Nat):Int))=_
 rw [Yw]
theorem zQ {x:List Nat} {c:Int} {k:Nat} (hx:x.getLast?=some k) (hk:qH k=false) (hc:c.natAbs < 10 ^ 19):j9 (jP x c)=(x,c):=by
 unfold jP
 rw [if_neg (by rintro rfl;cases hx)]
 split
 ·rw [jeP (by omega) hc]
  congr 1
  omega
 split
 ·rw [jeQ (by omega) hc]
  congr 1
  omega
 ·rw [y0 hx hk]
  congr 1
  omega
theorem jdn {x:List Nat} (hx:x≠[]) (c:Int):∃ m,jP x c=x++m:=by
 unfold jP
 rw [if_neg hx]
 split
 ·exact ⟨_,rfl⟩
 split
 ·exact ⟨_,rfl⟩
 ·exact ⟨[],(List.append_nil _).symm⟩
theorem zN {x:List Nat} {k:Nat} (hx:k∈x) (hk:qv k=true) (c:Int):yr (jP x c)=false:=by
 obtain ⟨m,e⟩:=jdn (List.ne_nil_of_mem hx) c
 rw [e]
 exact JK (List.mem_append_left _ hx) (yW hk) (Z2 hk rfl)
theorem yU {l:List Nat} (h:jO l=true):∃ k,l.getLast?=some k∧qv k=true:=by
 have hn:=Kb h
 exact ⟨l.getLast hn,List.getLast?_eq_some_getLast hn,ZU h _ (List.getLast_mem hn)⟩
theorem ja2 {l:List Nat} (h:jO l=true):∃ k,k∈l∧qv k=true:=by
 obtain ⟨k,h1,h2⟩:=yU h
 exact ⟨k,List.mem_of_getLast? h1,h2⟩
def NmE (x:Str):Prop:=x=Str.ofString ""∨jO (cd x)=true
def Sml (d:Int):Prop:=d.natAbs < 10 ^ 19
theorem zt {x:Str} {d:Int} (hx:NmE x) (hd:Sml d):ql (jP (cd x) d)=some (x,d):=by
 unfold ql
 rcases hx with rfl | hx
 ·obtain ⟨e1,e2⟩:=Yq hd
  rw [show jP (cd (Str.ofString "")) d=zP d from rfl,if_pos e1,e2]
 ·obtain ⟨k,k1,k2⟩:=yU hx
  rw [if_neg (by rw [zN (List.mem_of_getLast? k1) k2];decide),zQ k1 (yW k2) hd,if_pos hx,qr]
def TmF:Tm→Prop
 | .is x=>NmE x
 | .at_ r x d=>jO (cd r)=true∧NmE x∧Sml d
def BdF:Bd→Prop
 | .is x=>NmE x
 | .row r=>jO (cd r)=true
theorem Y7 {r x:Str} {d:Int} (hr:jO (cd r)=true) (hx:NmE x) (hd:Sml d):qo (kc (.at_ r x d))=some (.at_ r x d):=by
 unfold qo
 rw [show kc (.at_ r x d)=cd r++91 :: (jP (cd x) d++[93]) from rfl,jcP (kS hr rfl)]
 show (if (jP (cd x) d++[93]).getLast? == some 93 then if jO (cd r) then (ql (jP (cd x) d++[93]).dropLast).map _ else none else none)=_
 have hl:((jP (cd x) d++[93]).getLast? == some 93)=true:=by rw [List.getLast?_append];rfl
 rw [if_pos hl,if_pos hr,List.dropLast_concat,zt hx hd,qr]
 rfl
theorem Y6 {x:Str} (hx:jO (cd x)=true):qo (cd x)=some (.is x):=by
 unfold qo
 rw [jaP (List.mem_singleton.mpr rfl) (kS hx rfl)]
 show (if jO (cd x) then some (Tm.is (mS (cd x))) else none)=_
 rw [if_pos hx,qr]
theorem Zv (r x:Str) (d:Int):(kc (.at_ r x d)).getLast?=some 93:=by
 show (cd r++91 :: (jP (cd x) d++[93])).getLast?=some 93
 rw [← List.cons_append,← List.append_assoc,List.getLast?_append]
 rfl
theorem jbz {t:Tm} {c:Int} (ht:TmF t) (hc:Sml c):yG (zC t c)=some (t,c):=by
 unfold yG
 cases t with
 | is x=>
  rcases (show NmE x from ht) with rfl | hx
  ·obtain ⟨e1,e2⟩:=Yq hc
   rw [show zC (.is (Str.ofString "")) c=zP c from rfl,if_pos e1,e2]
  ·obtain ⟨k,k1,k2⟩:=yU hx
   rw [show zC (.is x) c=jP (cd x) c from rfl,if_neg (by rw [zN (List.mem_of_getLast? k1) k2];decide),zQ k1 (yW k2) hc,Y6 hx]
   rfl
 | at_ r x d=>
  obtain ⟨h1,h2,h3⟩:=ht
  obtain ⟨k,k1,k2⟩:=ja2 h1
  have hk:k∈kc (.at_ r x d):=List.mem_append_left _ k1
  rw [show zC (.at_ r x d) c=jP (kc (.at_ r x d)) c from rfl,if_neg (by rw [zN hk k2];decide),zQ (Zv r x d) rfl hc,Y7 h1 h2 h3]
  rfl
theorem jal {t:Tm} (ht:TmF t):Jo (kc t)=some t:=by
 unfold Jo
 cases t with
 | is x=>
  rcases (show NmE x from ht) with rfl | hx
  ·rfl
  ·have e:kc (.is x)=cd x:=if_neg (Kb hx)
   rw [e,if_neg (fun z=>by have:=kS hx (k:=48) rfl;rw [z] at this;exact this (List.mem_singleton.mpr rfl)),Y6 hx]
 | at_ r x d=>
  obtain ⟨h1,h2,h3⟩:=ht
  rw [if_neg (fun z=>by have:=Zv r x d;rw [z] at this;exact absurd this (by decide)),Y7 h1 h2 h3]
theorem jak {b:Bd} {c:Int} (hb:BdF b) (hc:Sml c):zA (qa b c)=some (b,c):=by
 unfold zA
 cases b with
 | is x=>
  rcases (show NmE x from hb) with rfl | hx
  ·obtain ⟨e1,e2⟩:=Yq hc
   rw [show qa (.is (Str.ofString "")) c=zP c from rfl,if_pos e1,e2]
  ·obtain ⟨k,k1,k2⟩:=yU hx
   rw [show qa (.is x) c=jP (cd x) c from rfl,if_neg (by rw [zN (List.mem_of_getLast? k1) k2];decide),zQ k1 (yW k2) hc]
   have:[91,93].isSuffixOf (cd x)=false:=by
    cases e:[91,93].isSuffixOf (cd x) with
    | false=>rfl
    | true=>
     obtain ⟨t,e2⟩:=List.isSuffixOf_iff_suffix.mp e
     exact absurd (by rw [← e2];simp) (kS hx (k:=91) rfl)
   rw [this,if_neg Bool.false_ne_true,if_pos hx,qr]
 | row r=>
  have hr:jO (cd r)=true:=hb
  obtain ⟨k,k1,k2⟩:=ja2 hr
  rw [show qa (.row r) c=jP (cd r++[91,93]) c from rfl,if_neg (by rw [zN (List.mem_append_left _ k1) k2];decide),zQ (k:=93) (by rw [List.getLast?_append];rfl) rfl hc]
  have e:(cd r++[91,93]).take ((cd r++[91,93]).length - 2)=cd r:=by
   rw [List.length_append,show (cd r).length+[91,93].length - 2=(cd r).length from rfl,List.take_left]
  show (if [91,93].isSuffixOf (cd r++[91,93]) then if jO ((cd r++[91,93]).take ((cd r++[91,93]).length - 2)) then some (Bd.row (mS ((cd r++[91,93]).take ((cd r++[91,93]).length - 2))),c) else none else _)=_
  rw [e,if_pos (List.isSuffixOf_iff_suffix.mpr ⟨cd r,rfl⟩),if_pos hr,qr]
theorem JM {i:Int} {k:Nat} (hk:qH k=false) (h45:k≠45):k ∉ zP i:=by
 unfold zP
 split
 ·intro h
  rcases List.mem_cons.mp h with z | z
  ·exact h45 z
  ·exact za hk z
 ·exact za hk
theorem jav {x:Str} (hx:NmE x) (d:Int) (l:List Nat):jZ [32,116,111,32] (jP (cd x) d++32 :: 116 :: 111 :: 32 :: l)=some (jP (cd x) d,l):=by
 have e0:jZ [32,116,111,32] (32 :: 116 :: 111 :: 32 :: l)=some ([],l):=JG (s:=[116,111,32])
 rcases hx with rfl | hx
 ·rw [show jP (cd (Str.ofString "")) d=zP d from rfl,zX (by decide) (JM rfl (by decide)),e0]
  simp
 ·unfold jP
  rw [if_neg (Kb hx)]
  have hd:116 ∉ 32 :: 43 :: 32 :: dg d.natAbs:=fun h=>za (k:=116) rfl (by simpa using h)
  have hd':116 ∉ 32 :: 45 :: 32 :: dg d.natAbs:=fun h=>za (k:=116) rfl (by simpa using h)
  split
  ·rw [List.append_assoc,Jf (kS hx rfl),zX (by decide) hd,e0]
   simp
  split
  ·rw [List.append_assoc,Jf (kS hx rfl),zX (by decide) hd',e0]
   simp
  ·rw [Jf (kS hx rfl),e0]
   simp
theorem J6 {x y r:Str} {d e:Int} (hx:NmE x) (hd:Sml d) (hy:NmE y) (he:Sml e) (hr:jO (cd r)=true):qY (j5 x d y e r)=some ⟨(x,d),(y,e),r⟩:=by
 have e1:prt [32,116,111,32] (j5 x d y e r)=(jP (cd x) d,jP (cd y) e++32 :: cd r):=by
  unfold prt j5
  rw [jav hx]
  rfl
 have e2:yO [32] (jP (cd y) e++32 :: cd r)=(jP (cd y) e,cd r):=by
  unfold yO
  rw [jcN (kS hr rfl)]
  rfl
 unfold qY
 rw [e1]
 dsimp only
 rw [e2]
 dsimp only
 rw [zt hx hd,zt hy he]
 dsimp only
 rw [if_pos hr,qr]
def Pl (l:List Nat):Prop:=60 ∉ l∧62 ∉ l
theorem Pl.app {a b:List Nat} (h:Pl a) (k:Pl b):Pl (a++b):=⟨fun z=>(List.mem_append.mp z).elim h.1 k.1,fun z=>(List.mem_append.mp z).elim h.2 k.2⟩
theorem Pl.cons {c:Nat} {a:List Nat} (h:Pl a) (h1:(60 == c)=false:=by decide) (h2:(62 == c)=false:=by decide):Pl (c :: a):=⟨fun z=>(List.mem_cons.mp z).elim (beq_eq_false_iff_ne.mp h1) h.1,fun z=>(List.mem_cons.mp z).elim (beq_eq_false_iff_ne.mp h2) h.2⟩
theorem Yf:Pl []:=⟨by simp,by simp⟩
theorem jfi (m:Nat):Pl (dg m):=⟨za rfl,za rfl⟩
theorem jfM (i:Int):Pl (zP i):=⟨JM rfl (by decide),JM rfl (by decide)⟩
theorem jaU {l:List Nat} (h:jO l=true):Pl l:=⟨kS h rfl,kS h rfl⟩
theorem yS {x:List Nat} (h:Pl x) (c:Int):Pl (jP x c):=by
 unfold jP
 split
 ·exact jfM c
 split
 ·exact h.app (jfi _).cons.cons.cons
 split
 ·exact h.app (jfi _).cons.cons.cons
 ·exact h
theorem jcU {x:Str} (h:NmE x):Pl (cd x):=by
 rcases h with rfl | h
 ·exact Yf
 ·exact jaU h
theorem jcV {t:Tm} (h:TmF t):Pl (kc t):=by
 cases t with
 | is x=>
  show Pl (if cd x=[] then [48] else cd x)
  split
  ·exact Yf.cons
  ·exact jcU h
 | at_ r x d=>exact (jaU h.1).app (((yS (jcU h.2.1) d).app Yf.cons).cons)
theorem Y0 {b:Bd} {c:Int} (h:BdF b):Pl (qa b c):=by
 cases b with
 | is x=>exact yS (jcU h) c
 | row r=>exact yS ((jaU h).app Yf.cons.cons) c
theorem jcT {x y r:Str} {d e:Int} (hx:NmE x) (hy:NmE y) (hr:jO (cd r)=true):Pl (j5 x d y e r):=(yS (jcU hx) d).app ((yS (jcU hy) e).app (jaU hr).cons).cons.cons.cons.cons
def ClF:Cl→Prop
 | .least a b c=>TmF a∧TmF b∧Sml c
 | .rise x d y e r=>NmE x∧Sml d∧NmE y∧Sml e∧jO (cd r)=true
 | .each x d y e r way b c=>(NmE x∧Sml d∧NmE y∧Sml e∧jO (cd r)=true)∧(way=Str.ofString ">="∨way=Str.ofString "<=")∧BdF b∧Sml c
theorem jeA {l:List Nat} (h:jO l=true):l≠[101,97,99,104]∧l≠[114,105,115,101]:=⟨by rintro rfl;exact absurd h (by decide),by rintro rfl;exact absurd h (by decide)⟩
theorem zZ (a b:List Nat) (h:32 ∉ a):prt [32] (a++32 :: b)=(a,b):=by
 unfold prt
 rw [jcP h]
 rfl
theorem Z8 {t:Tm} (h:TmF t) (l:List Nat):(prt [32] (kc t++32 :: l)).1≠[101,97,99,104]∧(prt [32] (kc t++32 :: l)).1≠[114,105,115,101]:=by
 have key:∀ {r m:List Nat},jO r=true→(prt [32] (r++91 :: m)).1≠[101,97,99,104]∧(prt [32] (r++91 :: m)).1≠[114,105,115,101]:=by
  intro r m hr
  have hm:91∈(prt [32] (r++91 :: m)).1:=by
   unfold prt
   rw [Jf (kS hr rfl)]
   cases e:jZ [32] (91 :: m) with
   | none=>exact List.mem_append_right _ (List.mem_cons_self ..)
   | some p=>
    obtain ⟨k1,_⟩:=kM (a:=p.1) (b:=p.2) e
    show 91∈r++p.1
    cases e2:p.1 with
    | nil=>rw [e2] at k1;cases k1
    | cons z a=>rw [e2] at k1;cases k1;exact List.mem_append_right _ (List.mem_cons_self ..)
  exact ⟨fun z=>by rw [z] at hm;exact absurd hm (by decide),fun z=>by rw [z] at hm;exact absurd hm (by decide)⟩
 cases t with
 | is x=>
  rcases (show NmE x from h) with rfl | hx
  ·rw [show kc (.is (Str.ofString ""))=[48] from rfl,zZ _ _ (by decide)]
   exact ⟨(by decide:[48]≠[101,97,99,104]),(by decide:[48]≠[114,105,115,101])⟩
  ·have e:kc (.is x)=cd x:=if_neg (Kb hx)
   rw [e,zZ _ _ (kS hx rfl)]
   exact jeA hx
 | at_ r x d=>
  have:=key (m:=(jP (cd x) d++[93])++32 :: l) h.1
  rwa [← List.cons_append,← List.append_assoc] at this
theorem Yb {q:Nat} {a b:List Nat} (hq:q≠32) (h:q ∉ a):prt [32,q,61,32] (a++32 :: q :: 61 :: 32 :: b)=(a,b):=by
 unfold prt
 rw [zX hq h,show jZ [32,q,61,32] (32 :: q :: 61 :: 32 :: b)=some ([],b) from JG (s:=[q,61,32])]
 simp
theorem Jr {t:Tm} (h:TmF t) (l:List Nat):kC (kc t++32 :: 62 :: 61 :: 32 :: l)=match yG l with | none=>none | some u=>some (.least t u.1 u.2):=by
 obtain ⟨n1,n2⟩:=Z8 h (62 :: 61 :: 32 :: l)
 unfold kC
 rw [if_neg n1,if_neg n2]
 unfold Kg
 rw [Yb (by decide) (jcV h).2]
 dsimp only
 rw [jal h]
theorem Kk {x y r way:Str} {d e:Int} (hx:NmE x) (hd:Sml d) (hy:NmE y) (he:Sml e) (hr:jO (cd r)=true) (hw:way=Str.ofString ">="∨way=Str.ofString "<=") {l:List Nat} (hl:60 ∉ l) :
  kC (101 :: 97 :: 99 :: 104 :: 32 :: (j5 x d y e r++32 :: (cd way++32 :: l)))=match zA l with | none=>none | some b=>some (.each x d y e r way b.1 b.2):=by
 have e0:prt [32] (101 :: 97 :: 99 :: 104 :: 32 :: (j5 x d y e r++32 :: (cd way++32 :: l)))=([101,97,99,104],j5 x d y e r++32 :: (cd way++32 :: l)):=zZ [101,97,99,104] _ (by decide)
 have hp:=jcT (d:=d) (e:=e) hx hy hr
 have ew:Kv (j5 x d y e r++32 :: (cd way++32 :: l))=way:=by
  unfold Kv
  rcases hw with rfl | rfl
  ·rw [jaP (c:=60) (by decide) (fun z=>(List.mem_append.mp z).elim hp.1 fun z=>hl (by simpa [show cd (Str.ofString ">=")=[62,61] from rfl] using z))]
   rfl
  ·rw [show 32 :: (cd (Str.ofString "<=")++32 :: l)=32 :: 60 :: 61 :: 32 :: l from rfl,zX (by decide) hp.1,show jZ [32,60,61,32] (32 :: 60 :: 61 :: 32 :: l)=some ([],l) from JG (s:=[60,61,32])]
   rfl
 have e1:prt (32 :: (cd way++[32])) (j5 x d y e r++32 :: (cd way++32 :: l))=(j5 x d y e r,l):=by
  rcases hw with rfl | rfl
  ·exact Yb (by decide) hp.2
  ·exact Yb (by decide) hp.1
 unfold kC
 rw [e0]
 dsimp only
 rw [if_pos rfl]
 unfold Zn
 rw [ew,e1]
 dsimp only
 rw [J6 hx hd hy he hr]
theorem J4 (l:List Nat):kC (114 :: 105 :: 115 :: 101 :: 32 :: l)=J5 l:=by
 unfold kC
 rw [show prt [32] (114 :: 105 :: 115 :: 101 :: 32 :: l)=([114,105,115,101],l) from zZ [114,105,115,101] l (by decide)]
 dsimp only
 rw [if_neg (by decide),if_pos rfl]
theorem jae {C:Cl} (h:ClF C):kC (qq C)=some C:=by
 cases C with
 | least a b c=>
  obtain ⟨h1,h2,h3⟩:=h
  rw [show qq (.least a b c)=kc a++32 :: 62 :: 61 :: 32 :: zC b c from rfl,Jr h1,jbz h2 h3]
 | rise x d y e r=>
  obtain ⟨h1,h2,h3,h4,h5⟩:=h
  rw [show qq (.rise x d y e r)=114 :: 105 :: 115 :: 101 :: 32 :: j5 x d y e r from rfl,J4]
  unfold J5
  rw [J6 h1 h2 h3 h4 h5]
 | each x d y e r way b c=>
  obtain ⟨⟨h1,h2,h3,h4,h5⟩,h6,h7,h8⟩:=h
  rw [show qq (.each x d y e r way b c)=101 :: 97 :: 99 :: 104 :: 32 :: (j5 x d y e r++32 :: (cd way++32 :: qa b c)) from rfl,Kk h1 h2 h3 h4 h5 h6 (Y0 h7).1,jak h7 h8]
theorem K1 (l:List Nat):(l++[32,120]).getLast?=some 120:=by rw [List.getLast?_append];rfl
theorem jas (l:List Nat):32∈l++[32,120]:=List.mem_append_right _ (by decide)
theorem jeB (l:List Nat):qo (l++[32,120])=none:=by
 unfold qo
 cases e:jZ [91] (l++[32,120]) with
 | none=>
  show (if jO (l++[32,120]) then _ else none)=none
  rw [ZT (jas l) rfl]
  rfl
 | some p=>
  obtain ⟨k1,_⟩:=kM (a:=p.1) (b:=p.2) e
  have:(p.2.getLast? == some 93)=false:=by
   rw [beq_eq_false_iff_ne]
   intro z
   have h:=K1 l
   rw [k1,List.getLast?_append,z] at h
   simp at h
  show (if p.2.getLast? == some 93 then _ else none)=none
  rw [this]
  rfl
theorem jfz (l:List Nat):yG (l++[32,120])=none:=by
 unfold yG
 rw [JK (jas l) rfl (by decide),if_neg Bool.false_ne_true,y0 (K1 l) rfl,jeB]
 rfl
theorem jeX (l:List Nat):zA (l++[32,120])=none:=by
 unfold zA
 rw [JK (jas l) rfl (by decide),if_neg Bool.false_ne_true,y0 (K1 l) rfl]
 have:[91,93].isSuffixOf (l++[32,120])=false:=by
  cases e:[91,93].isSuffixOf (l++[32,120]) with
  | false=>rfl
  | true=>
   obtain ⟨t,e2⟩:=List.isSuffixOf_iff_suffix.mp e
   have:=congrArg List.getLast? e2
   rw [K1,List.getLast?_append] at this
   simp at this
 dsimp only
 rw [this,if_neg Bool.false_ne_true,ZT (jas l) rfl]
 rfl
theorem jek {l r:List Nat} (hr:jO r=true):ql (l++32 :: r)=none:=by
 obtain ⟨k,k1,k2⟩:=yU hr
 have hm:32∈l++32 :: r:=List.mem_append_right _ (List.mem_cons_self ..)
 have hl:(l++32 :: r).getLast?=some k:=by
  rw [List.getLast?_append,List.getLast?_cons,k1]
  rfl
 unfold ql
 rw [JK hm rfl (by decide),if_neg Bool.false_ne_true,y0 hl (yW k2),ZT hm rfl]
 rfl
theorem jd9 {x y r:Str} {d e:Int} (hx:NmE x) (hd:Sml d) (hr:jO (cd r)=true):qY (j5 x d y e r++[32,120])=none:=by
 have e0:j5 x d y e r++[32,120]=jP (cd x) d++32 :: 116 :: 111 :: 32 :: ((jP (cd y) e++32 :: cd r)++[32,120]):=by
  unfold j5
  rw [List.append_assoc]
  rfl
 have e1:prt [32,116,111,32] (j5 x d y e r++[32,120])=(jP (cd x) d,(jP (cd y) e++32 :: cd r)++[32,120]):=by
  unfold prt
  rw [e0,jav hx]
  rfl
 have e2:yO [32] ((jP (cd y) e++32 :: cd r)++[32,120])=(jP (cd y) e++32 :: cd r,[120]):=by
  unfold yO
  rw [jcN (b:=[120]) (by decide)]
  rfl
 unfold qY
 rw [e1]
 dsimp only
 rw [e2]
 dsimp only
 rw [zt hx hd,jek hr]
theorem jeT {C:Cl} (h:ClF C):kC (qq C++[32,120])=none:=by
 cases C with
 | least a b c=>
  obtain ⟨h1,h2,h3⟩:=h
  rw [show qq (.least a b c)++[32,120]=kc a++32 :: 62 :: 61 :: 32 :: (zC b c++[32,120]) from by show (kc a++_)++_=_;rw [List.append_assoc];rfl,Jr h1,jfz]
 | rise x d y e r=>
  obtain ⟨h1,h2,h3,h4,h5⟩:=h
  rw [show qq (.rise x d y e r)++[32,120]=114 :: 105 :: 115 :: 101 :: 32 :: (j5 x d y e r++[32,120]) from rfl,J4]
  unfold J5
  rw [jd9 h1 h2 h5]
 | each x d y e r way b c=>
  obtain ⟨⟨h1,h2,h3,h4,h5⟩,h6,h7,h8⟩:=h
  rw [show qq (.each x d y e r way b c)++[32,120]=101 :: 97 :: 99 :: 104 :: 32 :: (j5 x d y e r++32 :: (cd way++32 :: (qa b c++[32,120]))) from by show 101 :: 97 :: 99 :: 104 :: 32 :: ((j5 x d y e r++32 :: (cd way++32 :: qa b c))++[32,120])=_;simp,Kk h1 h2 h3 h4 h5 h6 (l:=qa b c++[32,120]) (fun z=>(List.mem_append.mp z).elim (Y0 h7).1 (by decide)),jeX]
end LW
namespace L2
open PySem PySem.Spec PyProof.Rows
structure Fly (h0:Heap) (H:Hp) (cls:Value) (e:Addr) (h:Heap):Prop where
 he:H e=none
 ne:h0.get? e=none
 tr:∃ oe vs T oT ts a0,h.get? e=some oe∧oe.cls=cls∧oe.data=.fields vs∧vs[0]?=some a0∧vs[1]?=some (.ref T)∧T≠e∧h.get? T=some oT∧oT.data=.fields ts∧ts[3]?=some .none∧H T=none∧h0.get? T=none
structure Left (fs:List Addr) (h0:Heap) (H:Hp) (h h':Heap):Prop where
 keep:∀ b o,h.get? b=some o→b ∉ fs→(H b≠none∨∃ u,h0.get? b=some u)→h'.get? b=some o
 slot:∀ b o,h.get? b=some o→b∈fs→∃ sl,h'.get? b=some { cls:=o.cls,dict:=o.dict,data:=o.data,slots:=sl }
theorem Jj {h base:Heap}:∀ {l:List Env},h.FunFrames base l→∀ b∈frs l,∃ o,h.get? b=some o∧∀ vs:Array Value,o.data≠.fields vs
 | [],_,b,hb=>by cases hb
 | env :: l,hf,b,hb=>by
  obtain ⟨_,⟨L,o,e1,_,e3,e4⟩,hr⟩:=hf
  unfold frs at hb
  rw [List.filterMap_cons,e1] at hb
  rcases List.mem_cons.mp hb with rfl | hb
  ·exact ⟨o,e3,e4⟩
  ·exact Jj hr b hb
theorem ki {h base B:Heap}:∀ {l:List Env},h.FunFrames base l→(∀ b∈frs l,B.get? b=none)→h.FunFrames B l
 | [],_,_=>trivial
 | env :: l,hf,hB=>by
  obtain ⟨k,⟨L,o,e1,_,e3,e4⟩,hr⟩:=hf
  have hm:L∈frs (env :: l):=by unfold frs;rw [List.filterMap_cons,e1];exact List.mem_cons_self
  refine ⟨k,⟨L,o,e1,hB L hm,e3,e4⟩,ki hr fun b hb=>hB b ?_⟩
  unfold frs at hb ⊢
  rw [List.filterMap_cons,e1]
  exact List.mem_cons_of_mem _ hb
section
variable {M:Model} {A:Around} {E:Value→Shared→Prop} {s:Shared} {base h0:Heap} {env:Env} {outer:List Env} {L e:Addr} {cls:Value} {H:Hp} {Q:Unit→Shared→Prop}
theorem Yt {B h':Heap} {l:List Env} {hs:List Addr} {a0:Value} (he:H e=none) (ne:h0.get? e=none) (hB:B=W.hideAll s.heap hs) (hl:∀ b∈hs,H b=none∧(b∈frs l∨h0.get? b=none)) (hfr:h'.FunFrames base l) (hH:∀ b,s.heap.get? b=none→H b=none∧h0.get? b=none) (tw:h'.TracedW B e cls a0):Fly h0 H cls e h':=by
 obtain ⟨oe,vs,T,oT,ts,t1,⟨t2,t3⟩,t4,t5,t6,t7,t8,t9,t10⟩:=tw
 have hT:H T=none∧h0.get? T=none:=by
  rcases hs':s.heap.get? T with _ | o
  ·exact hH T hs'
  ·by_cases hm:T∈hs
   ·refine ⟨(hl T hm).1,?_⟩
    rcases (hl T hm).2 with hf | hf
    ·obtain ⟨o',e1,e2⟩:=Jj hfr T hf
     rw [t8] at e1
     cases e1
     exact absurd t9 (e2 ts)
    ·exact hf
   ·rw [hB,W.hideAll_get hs hs' hm] at t6
    cases t6
 exact ⟨he,ne,oe,vs,T,oT,ts,a0,t1,t2,t4,t3,t5,t7,t8,t9,t10,hT.1,hT.2⟩
theorem JL {B h':Heap} {l:List Env} {hs:List Addr} (hB:B=W.hideAll s.heap hs) (hl:∀ b∈hs,b ∉ frs l→H b=none∧h0.get? b=none) (st:B.StaysIn h') (hfr:s.heap.FunFrames base l)
  (ks:∀ b o,s.heap.get? b=some o→(∀ vs:Array Value,o.data≠.fields vs)→∃ sl,h'.get? b=some { cls:=o.cls,dict:=o.dict,data:=o.data,slots:=sl }):Left (frs l) h0 H s.heap h':=by
 refine ⟨fun b o hb hf ho=>?_,fun b o hb hf=>?_⟩
 ·by_cases hm:b∈hs
  ·obtain ⟨h1,h2⟩:=hl b hm hf
   rcases ho with ho | ⟨u,hu⟩
   ·exact absurd h1 ho
   ·rw [h2] at hu;cases hu
  ·exact st b o (by rw [hB];exact W.hideAll_get hs hb hm)
 ·obtain ⟨o',e1,e2⟩:=Jj hfr b hf
  rw [hb] at e1
  cases e1
  exact ks b o hb e2
theorem Z4 (hA:A.frames=some (env :: outer)) (hfr:s.heap.FunFrames base (env :: outer)) (hL:env.frame=some L) (hF:Fly h0 H cls e s.heap) (hff:∀ b∈frs (env :: outer),H b=none) (hH:∀ b,s.heap.get? b=none→H b=none∧h0.get? b=none)
  (hQ:∀ h',Left (frs (env :: outer)) h0 H s.heap h'→Fly h0 H cls e h'→h'.FunFrames base (env :: outer)→Q () { s with heap:=h' }) (hbs:∀ b o,base.get? b=some o→b ∉ frs (env :: outer)∧∃ u,h0.get? b=some u):wpAny M A (leaving env (.ref e)) Q E s:=by
 obtain ⟨oe,vs,T,oT,ts,a0,t1,t2,t3,t4,t5,t6,t7,t8,t9,t10,t11⟩:=hF.tr
 have hB0:∀ b∈e :: T :: frs (env :: outer),(W.hideAll s.heap (e :: T :: frs (env :: outer))).get? b=none:=fun b hb=>W.hideAll_none _ hb
 refine wpAny_leaving_nextW (base:=W.hideAll s.heap (e :: T :: frs (env :: outer))) (cls:=cls) (a0:=a0) hA (ki hfr fun b hb=>hB0 b (List.mem_cons_of_mem _ (List.mem_cons_of_mem _ hb))) hL ⟨oe,vs,T,oT,ts,t1,⟨t2,t4⟩,t3,t5,hB0 T (List.mem_cons_of_mem _ List.mem_cons_self),t6,t7,t8,t9⟩ (fun b o hb=>W.of_hideAll _ hb) (hB0 e List.mem_cons_self) ?_
 rintro h' ⟨l1,l2,l3,l4⟩
 have hfr':h'.FunFrames base (env :: outer):=ki l2 fun b hb=>by
  rcases hh:base.get? b with _ | o
  ·rfl
  ·exact absurd hb (hbs b o hh).1
 refine hQ h' (JL rfl (fun b hb hf=>?_) l1 hfr l4) (Yt (s:=s) (l:=env :: outer) hF.he hF.ne rfl (fun b hb=>?_) hfr' hH l3) hfr'
 ·rcases List.mem_cons.mp hb with rfl | hb
  ·exact ⟨hF.he,hF.ne⟩
  ·rcases List.mem_cons.mp hb with rfl | hb
   ·exact ⟨t10,t11⟩
   ·exact absurd hb hf
 ·rcases List.mem_cons.mp hb with rfl | hb
  ·exact ⟨hF.he,.inr hF.ne⟩
  ·rcases List.mem_cons.mp hb with rfl | hb
   ·exact ⟨t10,.inr t11⟩
   ·exact ⟨hff b hb,.inl hb⟩
theorem Zd {oe:Obj} {vs:Array Value} {a0:Value} (hA:A.frames=some (env :: outer)) (hfr:s.heap.FunFrames base (env :: outer)) (hL:env.frame=some L) (he:H e=none) (ne:h0.get? e=none) (ho:s.heap.get? e=some oe) (hc:oe.cls=cls) (hd:oe.data=.fields vs) (h1:vs[1]?=some .none) (ha:vs[0]?=some a0) (hff:∀ b∈frs (env :: outer),H b=none) (hH:∀ b,s.heap.get? b=none→H b=none∧h0.get? b=none)
  (hQ:∀ h',Left (frs (env :: outer)) h0 H s.heap h'→Fly h0 H cls e h'→h'.FunFrames base (env :: outer)→Q () { s with heap:=h' }) (hbs:∀ b o,base.get? b=some o→b ∉ frs (env :: outer)∧∃ u,h0.get? b=some u):wpAny M A (leaving env (.ref e)) Q E s:=by
 subst hc
 have hB0:∀ b∈e :: frs (env :: outer),(W.hideAll s.heap (e :: frs (env :: outer))).get? b=none:=fun b hb=>W.hideAll_none _ hb
 refine wpAny_leaving_firstW (base:=W.hideAll s.heap (e :: frs (env :: outer))) hA (ki hfr fun b hb=>hB0 b (List.mem_cons_of_mem _ hb)) hL ho (fun b o hb=>W.of_hideAll _ hb) (hB0 e List.mem_cons_self) hd h1 ha ?_
 rintro h' ⟨l1,l2,l3,l4⟩
 have hfr':h'.FunFrames base (env :: outer):=ki l2 fun b hb=>by
  rcases hh:base.get? b with _ | o
  ·rfl
  ·exact absurd hb (hbs b o hh).1
 refine hQ h' (JL rfl (fun b hb hf=>?_) l1 hfr l4) (Yt (s:=s) (l:=env :: outer) he ne rfl (fun b hb=>?_) hfr' hH l3) hfr'
 ·rcases List.mem_cons.mp hb with rfl | hb
  ·exact ⟨he,ne⟩
  ·exact absurd hb hf
 ·rcases List.mem_cons.mp hb with rfl | hb
  ·exact ⟨he,.inr ne⟩
  ·exact ⟨hff b hb,.inl hb⟩
end
theorem ObjOk.ex {P:Program} {w:World} {H:Hp} {h:Heap} {a:Addr} {o:HO} (x:ObjOk P w H h a o):∃ u,h.get? a=some u:=by
 cases o with
 | lst xs=>obtain ⟨_,_,_,_,e⟩:=x;exact ⟨_,e⟩
 | tup xs=>obtain ⟨_,_,_,⟨u,e,_⟩⟩:=x;exact ⟨_,e⟩
 | dK kvs=>obtain ⟨_,_,_,_,o,_,_,e,_⟩:=x;exact ⟨_,e⟩
 | dT kvs=>obtain ⟨_,_,_,_,o,_,_,e,_⟩:=x;exact ⟨_,e⟩
 | set S n=>obtain ⟨o,_,_,_,e,_⟩:=x;exact ⟨_,e⟩
 | ins C dx fs=>obtain ⟨_,_,_,e,_⟩:=x;exact ⟨_,e⟩
 | own y=>exact x
 | xd fs=>obtain ⟨_,⟨_,_,_,e,_⟩,_⟩:=x;exact ⟨_,e⟩
 | rng lo hi=>obtain ⟨_,_,_,e⟩:=x;exact ⟨_,e⟩
 | frz o u=>exact ⟨_,x.1⟩
 | tbl ps=>exact ⟨_,x⟩
 | met f y=>exact ⟨_,x⟩
 | ext φ=>exact x.2.1
def CX1 (P:Program) (w:World):CXT:=fun outer H s E e s'=>∃ ea cls H',e=.ref ea∧s'.os=s.os∧AllBare s'.gens∧Un (frs outer) [] H H' s.heap s'.heap∧HOk P w H' s'.heap∧Fly s.heap H' cls ea s'.heap∧E cls none H'
section
variable {X:Cx} {pins:List (Addr×Obj)} {σ:St} {H:Hp} {s:Shared} {cls:Value} {e:Addr}
structure XW (X:Cx) (E:XK):Prop where
 env:X.stack=X.env :: X.outer
 fr:X.env.frame=some X.env.locals
 ex:X.ex=[]
 xe:X.xe=fun e s'=>wpAny (model X.prog X.w) X.A (leaving X.env e) (fun _ s''=>CX1 X.prog X.w X.outer X.H₀ X.s₀ E e s'') (fun e' s''=>CX1 X.prog X.w X.outer X.H₀ X.s₀ E e' s'') s'
end
theorem Kx {h h':Heap} {bmB:List Value} (k:∀ b o,h.get? b=some o→h'.get? b=some o):∀ {l:List Value},OwnTail h bmB l→OwnTail h' bmB l:=by
 intro l t
 induction t with
 | base=>exact .base
 | own h1 h2 h3 _ ih=>exact .own (k _ _ h1) (h2.keeps k) h3 ih
def valB:List Value:=[.type "ValueError",.type "Exception",.type "BaseException",.type "object"]
section
variable {M:Model} {A:Around} {E:Value→Shared→Prop} {s:Shared} {base h0:Heap} {env:Env} {outer:List Env} {L e:Addr} {cls:Value} {H:Hp} {Q:Unit→Shared→Prop}
theorem jb4 (hA:A.frames=some (env :: outer)) (hfr:s.heap.FunFrames base (env :: outer)) (hL:env.frame=some L) (hF:Fly h0 H cls e s.heap) (hff:∀ b∈frs (env :: outer),H b=none) (hH:∀ b,s.heap.get? b=none→H b=none∧h0.get? b=none)
  (hQ:∀ h',Left (frs (env :: outer)) h0 H s.heap h'→Fly h0 H cls e h'→h'.FunFrames base (env :: outer)→Q () { s with heap:=h' }) (hbs:∀ b o,base.get? b=some o→b ∉ frs (env :: outer)∧∃ u,h0.get? b=some u) :
  wpAny M A (noteFrame (.ref e) env) (fun _ s2=>wpAny M A (setFlight (.ref e) none) Q E s2) E s:=by
 obtain ⟨oe,vs,T,oT,ts,a0,t1,t2,t3,t4,t5,t6,t7,t8,t9,t10,t11⟩:=hF.tr
 have hB0:∀ b∈e :: T :: frs (env :: outer),(W.hideAll s.heap (e :: T :: frs (env :: outer))).get? b=none:=fun b hb=>W.hideAll_none _ hb
 refine wpAny_noteFrame_onW (base:=W.hideAll s.heap (e :: T :: frs (env :: outer))) (cls:=cls) (a0:=a0) hA (ki hfr fun b hb=>hB0 b (List.mem_cons_of_mem _ (List.mem_cons_of_mem _ hb))) hL ⟨oe,vs,T,oT,ts,t1,⟨t2,t4⟩,t3,t5,hB0 T (List.mem_cons_of_mem _ List.mem_cons_self),t6,t7,t8,t9⟩ (fun b o hb=>W.of_hideAll _ hb) (hB0 e List.mem_cons_self) ?_
 rintro h1 ⟨k1,k2,k3,k4⟩
 refine wpAny_setFlight_noneW k1 k2 k3 fun h' l1 l2 l3 l5=>?_
 have l4:∀ b o,s.heap.get? b=some o→(∀ vs:Array Value,o.data≠.fields vs)→∃ sl,h'.get? b=some { cls:=o.cls,dict:=o.dict,data:=o.data,slots:=sl }:=fun b o hb hn=>by
  obtain ⟨sl,q⟩:=k4 b o hb hn
  exact ⟨sl,l5 b _ q hn⟩
 have hfr':h'.FunFrames base (env :: outer):=ki l2 fun b hb=>by
  rcases hh:base.get? b with _ | o
  ·rfl
  ·exact absurd hb (hbs b o hh).1
 refine hQ h' (JL rfl (fun b hb hf=>?_) l1 hfr l4) (Yt (s:=s) (l:=env :: outer) hF.he hF.ne rfl (fun b hb=>?_) hfr' hH l3) hfr'
 ·rcases List.mem_cons.mp hb with rfl | hb
  ·exact ⟨hF.he,hF.ne⟩
  ·rcases List.mem_cons.mp hb with rfl | hb
   ·exact ⟨t10,t11⟩
   ·exact absurd hb hf
 ·rcases List.mem_cons.mp hb with rfl | hb
  ·exact ⟨hF.he,.inr hF.ne⟩
  ·rcases List.mem_cons.mp hb with rfl | hb
   ·exact ⟨t10,.inr t11⟩
   ·exact ⟨hff b hb,.inl hb⟩
theorem Z6 (hfr:s.heap.FunFrames base (env :: outer)) (hF:Fly h0 H cls e s.heap) (hff:∀ b∈frs (env :: outer),H b=none) (hH:∀ b,s.heap.get? b=none→H b=none∧h0.get? b=none)
  (hQ:∀ h',Left (frs (env :: outer)) h0 H s.heap h'→Fly h0 H cls e h'→h'.FunFrames base (env :: outer)→Q () { s with heap:=h' }) (hbs:∀ b o,base.get? b=some o→b ∉ frs (env :: outer)∧∃ u,h0.get? b=some u) :
  wpAny M A (setFlight (.ref e) none) Q E s:=by
 obtain ⟨oe,vs,T,oT,ts,a0,t1,t2,t3,t4,t5,t6,t7,t8,t9,t10,t11⟩:=hF.tr
 have hB0:∀ b∈e :: T :: frs (env :: outer),(W.hideAll s.heap (e :: T :: frs (env :: outer))).get? b=none:=fun b hb=>W.hideAll_none _ hb
 refine wpAny_setFlight_noneW (base:=W.hideAll s.heap (e :: T :: frs (env :: outer))) (l:=env :: outer) (cls:=cls) (a0:=a0) (fl:=.none) (fun b o hb=>W.of_hideAll _ hb) (ki hfr fun b hb=>hB0 b (List.mem_cons_of_mem _ (List.mem_cons_of_mem _ hb))) ⟨oe,vs,T,oT,ts,t1,⟨t2,t4⟩,t3,t5,hB0 T (List.mem_cons_of_mem _ List.mem_cons_self),t6,t7,t8,t9⟩ fun h' l1 l2 l3 l5=>?_
 have l4:∀ b o,s.heap.get? b=some o→(∀ vs:Array Value,o.data≠.fields vs)→∃ sl,h'.get? b=some { cls:=o.cls,dict:=o.dict,data:=o.data,slots:=sl }:=fun b o hb hn=>⟨o.slots,l5 b _ hb hn⟩
 have hfr':h'.FunFrames base (env :: outer):=ki l2 fun b hb=>by
  rcases hh:base.get? b with _ | o
  ·rfl
  ·exact absurd hb (hbs b o hh).1
 refine hQ h' (JL rfl (fun b hb hf=>?_) l1 hfr l4) (Yt (s:=s) (l:=env :: outer) hF.he hF.ne rfl (fun b hb=>?_) hfr' hH l3) hfr'
 ·rcases List.mem_cons.mp hb with rfl | hb
  ·exact ⟨hF.he,hF.ne⟩
  ·rcases List.mem_cons.mp hb with rfl | hb
   ·exact ⟨t10,t11⟩
   ·exact absurd hb hf
 ·rcases List.mem_cons.mp hb with rfl | hb
  ·exact ⟨hF.he,.inr hF.ne⟩
  ·rcases List.mem_cons.mp hb with rfl | hb
   ·exact ⟨t10,.inr t11⟩
   ·exact ⟨hff b hb,.inl hb⟩
end
theorem Un.left {fs:List Addr} {H H':Hp} {h h1 h2:Heap} {P:Program} {w:World} (u:Un fs [] H H' h h1) (l:Left fs h H' h1 h2):Un fs [] H H' h h2 where
 keep:=fun b o h1 h2 h3 h4=>l.keep b o (u.keep b o h1 h2 h3 h4) h3 (.inr ⟨o,h1⟩)
 slot:=fun b o h1 h2 h3 h4=>by
  obtain ⟨sl,h5⟩:=u.slot b o h1 h2 h3 h4
  obtain ⟨sl',h6⟩:=l.slot b _ h5 h3
  exact ⟨sl',h6⟩
 free:=u.free
 there:=fun b o h1 h2=>by
  obtain ⟨o',h5⟩:=u.there b o h1 h2
  by_cases hm:b∈fs
  ·obtain ⟨sl',h6⟩:=l.slot b _ h5 hm
   exact ⟨_,h6⟩
  ·exact ⟨o',l.keep b o' h5 hm (.inr ⟨o,h1⟩)⟩
 tups:=u.tups
 frzs:=u.frzs
 tbls:=u.tbls
theorem HOk.left {fs:List Addr} {H:Hp} {h0 h1 h2:Heap} {P:Program} {w:World} (k:HOk P w H h1) (ff:∀ b∈fs,H b=none) (l:Left fs h0 H h1 h2):HOk P w H h2:=fun a o ho=>by
 refine (k a o ho).stay (fun b u hbu q=>?_) (fun _ q=>q) fun _ _ q=>q
 have hne:H b≠none:=by
  rcases hbu with rfl | hbu
  ·rw [ho];simp
  ·rw [hbu];simp
 exact l.keep b u q (fun hm=>hne (ff b hm)) (.inl hne)
theorem Un.track {fs:List Addr} {H H':Hp} {h h1:Heap} {e:Addr} {o:HO} (u:Un fs [] H H' h h1) (he:H' e=none) (hn:h.get? e=none):Un fs [] H (upd H' e o) h h1 where
 keep:=u.keep
 slot:=u.slot
 free:=fun b ob h1 h2 h3=>by
  rw [jx fun z=>by rw [z,hn] at h1;cases h1]
  exact u.free b ob h1 h2 h3
 there:=u.there
 tups:=fun b xs q=>by
  have:=u.tups b xs q
  rw [jx fun z=>by rw [z,he] at this;cases this]
  exact this
 frzs:=fun b ob xs q=>by
  have:=u.frzs b ob xs q
  rw [jx fun z=>by rw [z,he] at this;cases this]
  exact this
 tbls:=fun b ps q=>by
  obtain ⟨m,this⟩:=u.tbls b ps q
  exact ⟨m,by rw [jx fun z=>by rw [z,he] at this;cases this];exact this⟩
theorem HOk.track {P:Program} {w:World} {H:Hp} {h:Heap} {e:Addr} {o:HO} (k:HOk P w H h) (he:H e=none) (ho:ObjOk P w (upd H e o) h e o):HOk P w (upd H e o) h:=fun a u hu=>by
 by_cases z:a=e
 ·subst z
  rw [jf] at hu
  cases hu
  exact ho
 ·rw [jx z] at hu
  refine (k a u hu).stay (fun b v _ q=>q) (fun b q=>?_) fun b xs q=>?_
  ·rw [jx fun z=>by rw [z,he] at q;cases q];exact q
  ·rw [jx fun z=>by rw [z,he] at q;cases q];exact q
abbrev Cx.hush (X:Cx) (e:Addr):Cx:={ X with A:=X.A.mark (some (.ref e)),calm:=false,xe:=fun _ _=>False }
section
variable {X:Cx} {pins:List (Addr×Obj)} {σ:St} {H:Hp} {s:Shared} {e:Addr}
theorem Inv.hush (I:Inv X pins σ H s) (e:Addr):Inv (X.hush e) pins σ H s:=
 ⟨⟨I.ok.mod,I.ok.kind,I.ok.glob,I.ok.blt,I.ok.above,I.ok.inj,I.ok.has,I.ok.cab,fun z=>(by cases z),I.ok.frames,I.ok.stk,I.ok.exf,I.ok.bs,I.ok.bsz,I.ok.noex,I.ok.exfs,I.ok.funs,I.ok.frf⟩,I.os,I.bare,I.base,I.loc,I.cell,I.free,I.freeC,I.pin,I.hok,I.len⟩
theorem Inv.unhush (ok:X.Ok) (I:Inv (X.hush e) pins σ H s):Inv X pins σ H s:=
 ⟨ok,I.os,I.bare,I.base,I.loc,I.cell,I.free,I.freeC,I.pin,I.hok,I.len⟩
theorem JN {M:Model} {A:Around} {E:Value→Shared→Prop} {i:Nat} {x:Str} {v:V} {pos:Pos} {Q:Unit→Shared→Prop} (I:Inv X pins σ H s) (hN:X.N.Nodup) (hi:X.N[i]?=some x) (hx:X.env.scope.names.lookup x=some .local)
  (h:∀ s',Inv X pins (σ.set i none) H s'→Q () s'):wpAny M A (do bindName X.env x .none;unbindBehindTheSuite X.env x pos) Q E s:=by
 have hcls:(X.env.scope.kind == .class || (X.env.scope.kind == .module && X.env.locals != X.env.globals))=false:=by rw [I.ok.kind];rfl
 refine wpAny_bind (wpAny_bindName (yJ (v:=.non) (u:=.none) I hN hi (.inl hx) rfl (fun s1 I1=>?_) (.inr hx)))
 unfold unbindBehindTheSuite
 refine wpAny_onRaise ?_
 obtain ⟨m,hn,hl⟩:=id I1.loc
 have hiσ:i < σ.length:=by rw [I.len];exact (List.getElem?_eq_some_iff.mp hi).1
 obtain ⟨u,_,q⟩:=hl i x .non hi (List.getElem?_set_self hiσ) (.inl hx)
 have hm:∃ v,m x=some v:=by
  rcases q with ⟨_,q⟩ | ⟨q,_⟩
  ·exact ⟨_,q⟩
  ·have hk:X.env.kindOf x=some .local:=hx
   rcases q with q | q <;> (rw [hk] at q;cases q)
 obtain ⟨v,hm⟩:=hm
 refine wpAny_unbindName_local hx hn hm hcls fun h' u hn' hs=>?_
 obtain ⟨oL,_,_,hoL,_⟩:=id hn
 have cne:=I1.cne
 refine h _ ⟨I1.ok,I1.os,I1.bare,⟨fun b o e n hb hx=>?_,fun b o e n hb hx=>?_,I1.base.free,fun b o e hx=>?_,I1.base.tups,I1.base.frzs,I1.base.tbls⟩,⟨_,hn',fun j y v' e1 e2 e3=>?_⟩,fun y c e=>?_,I1.free,I1.freeC,fun p hp=>?_,fun b ob e=>?_,by simpa using I.len⟩
 ·exact (hs.2 b (Nat.ne_of_lt (Nat.lt_of_lt_of_le (Heap.lt_size e) I1.ok.above))).trans (I1.base.keep b o e n hb hx)
 ·obtain ⟨sl,e1⟩:=I1.base.slot b o e n hb hx
  exact ⟨sl,(hs.2 b (Nat.ne_of_lt (Nat.lt_of_lt_of_le (Heap.lt_size e) I1.ok.above))).trans e1⟩
 ·obtain ⟨o',e1⟩:=I1.base.there b o e hx
  exact ⟨o',(hs.2 b (Nat.ne_of_lt (Nat.lt_of_lt_of_le (Heap.lt_size e) I1.ok.above))).trans e1⟩
 ·by_cases hj:j=i
  ·subst hj
   rw [List.getElem?_set_self hiσ] at e2
   cases e2
  ·rw [List.getElem?_set_ne (Ne.symm hj)] at e2
   have e2':(σ.set i (some V.non))[j]?=some (some v'):=by rw [List.getElem?_set_ne (Ne.symm hj)];exact e2
   obtain ⟨u',r',q⟩:=hl j y v' e1 e2' e3
   refine ⟨u',r',?_⟩
   rcases q with ⟨k,e⟩ | ⟨k,c,e,z⟩
   ·refine .inl ⟨k,?_⟩
    have:y≠x:=fun e=>hj (Ka hN e1 (e ▸ hi))
    simp [this,e]
   ·exact .inr ⟨k,c,e,z.sameBut hs (cne y c e)⟩
 ·obtain ⟨w',z⟩:=I1.cell y c e
  exact ⟨w',z.sameBut hs (cne y c e)⟩
 ·obtain ⟨e,n,ne,nf,d⟩:=I1.pin p hp
  exact ⟨(hs.2 p.1 ne).trans e,n,ne,nf,d⟩
 ·refine (I1.hok b ob e).stay (fun c w' hc q=>(hs.2 c ?_).trans q) (fun _ q=>q) fun _ _ q=>q
  rintro rfl
  rcases hc with rfl | hc
  ·rw [I1.free] at e;cases e
  ·rw [I1.free] at hc;cases hc
end
theorem jd7 {X:Cx} {CX:CXT} {k:Nat} {f:Addr} {fd:FuncData} {ps:List Str} {sp:Sp} {dvs:List V} {ds:List Value} {E:XK} {pins:List (Addr×Obj)} {σ:St} {H:Hp} {s:Shared} {Q:VK} {us:List Value} {vs:List V} (F:FnOk X.prog X.w X.K X.mg X.base CX k f fd ps sp) (hr:Room k X.A) (hb:Binds X.K fd ps ds) (hd:Vals dvs ds)
  (I:Inv X pins σ H s) (r:Vals vs us) (h:sp (vs++dvs) H Q E):wpAny (model X.prog X.w) X.A (call (.ref f) us) (EP X pins σ Q) (fun e s'=>CX X.stack H s E e s') s:=by
 have r2:Vals (vs++dvs) (us++ds):=r.append hd
 have hl:(us++ds).length=ps.length:=by rw [← r2.length];exact F.len _ _ _ _ h
 refine wpAny_call (codeAny_mono (F.run X.A X.stack s H ⟨us,[]⟩ (us++ds) (vs++dvs) Q E hr I.env0 (hb s us I.kIn hl) r2 h) fun r s' hq=>?_)
 cases r with
 | error e=>exact hq
 | ok fl=>
  cases fl with
  | ret u=>exact I.after hq
  | next=>exact False.elim hq
  | brk=>exact False.elim hq
  | cont=>exact False.elim hq
def Ends.gone (D:Ends) (i:Nat):Ends:={ nx:=fun σ H=>D.nx (σ.set i none) H,rt:=D.rt,bk:=fun σ H=>D.bk (σ.set i none) H,ct:=fun σ H=>D.ct (σ.set i none) H }
end L2
namespace PySem.W
open PySem PySem.Spec PySem.Calls PyProof.Rows Builtin Builtin.ObjectAttr Builtin.Getset_descriptor
section
variable {prog:Program} {w:World} {A:Around} {E:Value→Shared→Prop} {h:Heap} {g:Array GenState} {d:Drawn} {t:Nat} {os:OsState} {a C:Addr} {o:Obj} {K:Frag}
structure XCls (K:Frag) (C:Addr):Prop where
 cl:(clsIn K C).isSome=true
 ga:findIn K (.ref C) "__getattribute__" = some (some (.builtin "BaseException.__getattribute__"))
 gt:findIn K (.ref C) "__getattr__" = some none
 cc:findIn K (.ref C) "__class__" = some (some (.builtin "object.__class__"))
 ob:mroIn K C (.type "object")=some true
 be:mroIn K C (.type "BaseException")=some true
theorem jcs {M:Model} {nameV:Value} {Q:Unit→Shared→Prop} (Z:XCls K C) (X:K.In h) (hx:h.get? a=some o) (hc:o.cls=.ref C) (hq:Q () ⟨h,g,d,t,os⟩):wpAny M A (checkBuiltinCall "BaseException.__getattribute__" ⟨[.ref a,nameV],[]⟩) Q E ⟨h,g,d,t,os⟩:=by
 have hk:builtinKind "BaseException.__getattribute__" = some .slot:=by decide +kernel
 have hsplit:splitId "BaseException.__getattribute__" = some ("BaseException","__getattribute__"):=by decide +kernel
 have L:=looks_mroIn (M:=M) X Z.be
 have ha:=F.args_bexc_ga (.ref a) nameV
 simp only [checkBuiltinCall,hk,hsplit]
 refine wpAny_bind ?_
 ·unfold isInstance
  repeat (first | (with_reducible refine wpAny_loadPart_at hx ?_;rw [hc]) | with_reducible refine L.at ?_ | wp_step)
  exact hq
end
end PySem.W
namespace L2
open PySem PySem.Spec PyProof.Rows
abbrev TJ:=St→Hp→Str→(Str→Hp→Prop)→Prop
structure QJ (X:Cx) (es:List Expr) (t:TJ):Prop where
 h:∀ (pins:List (Addr×Obj)) (s:Shared) (σ:St) (H:Hp) (out:Str) (Q:Str→Hp→Prop),Inv X pins σ H s→t σ H out Q→Joins (model X.prog X.w) X.A X.xe (evalEach es X.env) out (fun o s'=>∃ H',Inv X pins σ H' s'∧Q o H') s
def jg6:TJ:=fun _ H out Q=>Q out H
def ja6 (te:TE) (t:TJ):TJ:=fun σ H out Q=>te σ H fun x H1=>∃ y,x=.str y∧(out++y).length≤sizeLine∧t σ H1 (out++y) Q
section
variable {X:Cx}
theorem qD:QJ X [] jg6:=⟨fun pins s σ H out Q I h=>Joins_nil ⟨H,I,h⟩⟩
theorem jC {e:Expr} {es:List Expr} {te:TE} {t:TJ} (he:QE X e te) (ht:QJ X es t):QJ X (e :: es) (ja6 te t):=⟨fun pins s σ H out Q I h=>by
 refine Joins_cons (thn (he.h pins s σ H _ I h) fun v s1 ⟨x,H1,I1,r,y,e1,hl,q⟩=>?_)
 subst e1
 obtain ⟨tk,rfl⟩:=r
 exact ⟨y,tk,rfl,hl,ht.h pins s1 σ H1 _ Q I1 q⟩⟩
def jgy (te:TE):TE:=fun σ H Q=>te σ H fun x H1=>∃ y,x=.str y∧y.length≤sizeLine∧Q (.str y) H1
theorem ke {e:Expr} {te:TE} {pos:Pos} (he:QE X e te):QE X (.FormattedValue e (-1) none pos) (jgy te):=⟨fun pins s σ H Q I h=>by
 refine wpAny_FormattedValue_plain (thn (he.h pins s σ H _ I h) fun v s1 ⟨x,H1,I1,r,y,e1,hl,q⟩=>?_)
 subst e1
 obtain ⟨tk,rfl⟩:=r
 exact wpAny_formatField_str ⟨.str y,H1,I1,⟨_,rfl⟩,q⟩ ⟨.str y,H1,I1.tok _,⟨_,rfl⟩,q⟩ hl⟩
def jfc (te:TE):TE:=fun σ H Q=>te σ H fun x H1=>∃ i:Int,x=.int i∧i.natAbs < 2 ^ 100∧Q (.str (Str.ofString (toString i))) H1
theorem JT {e:Expr} {te:TE} {pos:Pos} (he:QE X e te):QE X (.FormattedValue e (-1) none pos) (jfc te):=⟨fun pins s σ H Q I h=>by
 refine wpAny_FormattedValue_plain (thn (he.h pins s σ H _ I h) fun v s1 ⟨x,H1,I1,r,i,e1,hl,q⟩=>?_)
 subst e1
 obtain ⟨tk,rfl⟩:=r
 refine wpAny_formatField_int ?_ ⟨.str _,H1,I1.tok _,⟨_,rfl⟩,q⟩
 by_cases h0:i.natAbs=0
 ·rw [h0];decide
 ·exact Nat.lt_of_lt_of_le ((Nat.log2_lt h0).mpr hl) (by decide)⟩
def jgw (t:TJ):TE:=fun σ H Q=>t σ H Str.empty fun o H1=>o.length≤sizeLine∧Q (.str o) H1
theorem kx {v1 v2:Expr} {j3:List Expr} {t:TJ} {pos:Pos} (h:QJ X (v1 :: v2 :: j3) t):QE X (.JoinedStr (v1 :: v2 :: j3) pos) (jgw t):=⟨fun pins s σ H Q I hw=>by
 refine wpAny_JoinedStr ?_
 have hh:=h.h pins s σ H Str.empty _ I hw
 have mono:∀ (l:List Expr) (acc:Str) (s:Shared) (Q Q':Str→Shared→Prop),(∀ o s,Q o s→Q' o s)→Joins (model X.prog X.w) X.A X.xe (evalEach l X.env) acc Q s→Joins (model X.prog X.w) X.A X.xe (evalEach l X.env) acc Q' s:=by
  intro l
  induction l with
  | nil=>intro acc s Q Q' hq h;exact hq _ _ h
  | cons e r ih=>
   intro acc s Q Q' hq h
   refine Joins_cons (thn (show wpAny _ _ (eval e X.env) _ _ _ from h) fun v s1 ⟨y,tk,e1,hl,q⟩=>⟨y,tk,e1,hl,ih _ _ _ _ hq q⟩)
 refine mono _ _ _ _ _ (fun o s' ⟨H',I',hl,q⟩=>⟨hl,.str o,H',I'.tok _,⟨_,rfl⟩,q⟩) hh⟩
end
theorem XW.own {X:Cx} {E:XK} (W:XW X E):PassesOwn (model X.prog X.w) X.A X.env X.xe:=by
 rw [W.xe]
 exact PassesOwn.leaving
open PySem PySem.Spec PyProof.Rows PySem.W
theorem ZQ {X:Cx} {K:W.Frag} (h:X.K=K:=by rfl):OpR X (compareOp .In) (rIn K false):=by subst h;exact jbJ
theorem yX (x:Str):∀ ys:List Str,inV (.str x) (ys.map V.str)=decide (x∈ys)
 | []=>by simp [inV]
 | y :: ys=>by
  have ih:=yX x ys
  unfold inV at ih ⊢
  rw [List.map_cons,List.any_cons,ih]
  have e:eqV (.str y) (.str x)=decide (x=y):=by
   show (y == x)=_
   by_cases h:x=y
   ·subst h;simp
   ·rw [decide_eq_false h];simpa using fun z=>h z.symm
  rw [e]
  simp [List.mem_cons]
theorem Jk:∀ ys:List Str,(ys.map V.str).all yY=true
 | []=>rfl
 | y :: ys=>by rw [List.map_cons,List.all_cons,Jk ys];rfl
theorem lt_trans {a b c:List Nat} (h1:ltCps a b=true) (h2:ltCps b c=true):ltCps a c=true:=by
 induction a generalizing b c with
 | nil=>cases c with
  | nil=>cases b <;> simp [ltCps] at h1 h2
  | cons _ _=>rfl
 | cons x a ih=>
  cases b with
  | nil=>simp [ltCps] at h1
  | cons y b=>cases c with
   | nil=>simp [ltCps] at h2
   | cons z c=>
    simp only [ltCps,Bool.or_eq_true,Bool.and_eq_true,decide_eq_true_eq,beq_iff_eq] at h1 h2 ⊢
    rcases h1 with h1 | ⟨h1,h1'⟩
    ·rcases h2 with h2 | ⟨h2,h2'⟩
     ·left;omega
     ·left;omega
    ·rcases h2 with h2 | ⟨h2,h2'⟩
     ·left;omega
     ·right;exact ⟨by omega,ih h1' h2'⟩
theorem jfs {t1 t2 t3 t4 t5 u:TS} {D:Ends} {σ:St} {H:Hp} (h:let r5:=u;let r4:=kX t5 r5;let r3:=kX t4 r4;let r2:=kX t3 r3;let r1:=kX t2 r2;kX t1 r1 D σ H):(kX t1 (kX t2 (kX t3 (kX t4 (kX t5 u))))) D σ H:=h
theorem jgS {t1 t2 t3 t4 t5 t6 u:TS} {D:Ends} {σ:St} {H:Hp} (h:let r6:=u;let r5:=kX t6 r6;let r4:=kX t5 r5;let r3:=kX t4 r4;let r2:=kX t3 r3;let r1:=kX t2 r2;kX t1 r1 D σ H):(kX t1 (kX t2 (kX t3 (kX t4 (kX t5 (kX t6 u)))))) D σ H:=h
theorem jaV:∀ (n:Nat) (f:Nat→Nat),(∀ i,i≤n→f i < n)→∃ i j,i < j∧j≤n∧f i=f j
 | 0,f,h=>absurd (h 0 (Nat.le_refl _)) (Nat.not_lt_zero _)
 | n+1,f,h=>by
  by_cases hex:∃ i,i≤n∧f i=f (n+1)
  ·obtain ⟨i,hi,e⟩:=hex
   exact ⟨i,n+1,by omega,Nat.le_refl _,e⟩
  ·obtain ⟨i,j,h1,h2,h3⟩:=jaV n (fun i=>if f i=n then f (n+1) else f i) (fun i hi=>by
    have h1:=h i (by omega)
    have h2:=h (n+1) (Nat.le_refl _)
    have h3:f i≠f (n+1):=fun e=>hex ⟨i,hi,e⟩
    split
    ·next e=>omega
    ·next e=>omega)
   have a1:f i≠f (n+1):=fun e=>hex ⟨i,by omega,e⟩
   have a2:f j≠f (n+1):=fun e=>hex ⟨j,h2,e⟩
   refine ⟨i,j,h1,by omega,?_⟩
   by_cases e1:f i=n
   ·by_cases e2:f j=n
    ·omega
    ·rw [if_pos e1,if_neg e2] at h3;exact absurd h3.symm a2
   ·by_cases e2:f j=n
    ·rw [if_neg e1,if_pos e2] at h3;exact absurd h3 a1
    ·rw [if_neg e1,if_neg e2] at h3;exact h3
def orb (M:Nat):Nat→Nat→Nat
 | 0,a=>a
 | n+1,a=>orb M n ((a * 5+1) % M)
theorem JJ (M:Nat):∀ (a b x:Nat),orb M (a+b) x=orb M b (orb M a x)
 | 0,b,x=>by rw [Nat.zero_add];rfl
 | a+1,b,x=>by rw [show a+1+b=a+b+1 by omega];exact JJ M a b _
def Full (M:Nat):Prop:=(∀ e,e < M→∃ k,k < M∧orb M k 0=e)∧orb M M 0=0
theorem Full.reach {M:Nat} (F:Full M) {a e:Nat} (ha:a < M) (he:e < M):∃ k,k < M∧orb M k a=e:=by
 obtain ⟨i,hi,rfl⟩:=F.1 a ha
 obtain ⟨j,hj,rfl⟩:=F.1 e he
 rcases Nat.lt_or_ge j i with c | c
 ·refine ⟨M - i+j,by omega,?_⟩
  rw [← JJ,show i+(M - i+j)=M+j by omega,JJ,F.2]
 ·refine ⟨j - i,by omega,?_⟩
  rw [← JJ,show i+(j - i)=j by omega]
def seq (t:SetTable) (p:SetTable.Probe):Nat→SetTable.Probe
 | 0=>p
 | n+1=>t.advance (seq t p n)
structure LaidAll (mask:Nat) (owner:Array (Option Nat)) (k:Nat):Prop where
 size:owner.size=mask+1
 has:∀ m,m < k→∃ j:Nat,owner[j]?=some (some m)
 lt:∀ (j m:Nat),owner[j]?=some (some m)→m < k
 one:∀ (j j' m:Nat),owner[j]?=some (some m)→owner[j']?=some (some m)→j=j'
theorem jb9 {owner:Array (Option Nat)} {j:Nat} (h:owner.getD j (some 0)=none):owner[j]?=some none:=by
 by_cases hj:j < owner.size
 ·rw [Array.getElem?_eq_getElem hj]
  simp [Array.getD,hj] at h
  rw [h]
 ·simp [Array.getD,hj] at h
theorem LaidAll.free {mask:Nat} {owner:Array (Option Nat)} {k:Nat} (L:LaidAll mask owner k) (hk:k≤mask):∃ e,e < mask+1∧owner.getD e (some 0)=none:=by
 by_cases h:∃ e,e < mask+1∧owner.getD e (some 0)=none
 ·exact h
 ·exfalso
  have key:∀ j,∃ m,j≤mask→m < k∧owner[j]?=some (some m):=fun j=>by
   by_cases hj:j≤mask
   ·have hj':j < owner.size:=by rw [L.size];omega
    cases e:owner[j] with
    | none=>exact absurd ⟨j,by omega,by simp [Array.getD,hj',e]⟩ h
    | some m=>
     have e':owner[j]?=some (some m):=by rw [Array.getElem?_eq_getElem hj',e]
     exact ⟨m,fun _=>⟨L.lt j m e',e'⟩⟩
   ·exact ⟨0,fun z=>absurd z hj⟩
  obtain ⟨f,hf⟩:=Classical.axiomOfChoice key
  obtain ⟨i,j,h1,h2,h3⟩:=jaV mask f fun i hi=>Nat.lt_of_lt_of_le (hf i hi).1 hk
  have e1:=(hf i (by omega)).2
  have e2:=(hf j h2).2
  rw [h3] at e1
  have:=L.one i j _ e1 e2
  omega
theorem LaidAll.put {mask:Nat} {owner:Array (Option Nat)} {k j:Nat} (L:LaidAll mask owner k) (hj:owner.getD j (some 0)=none):LaidAll mask (owner.setIfInBounds j (some k)) (k+1):=by
 have hj0:=jb9 hj
 have hlt:j < owner.size:=(Array.getElem?_eq_some_iff.mp hj0).1
 have hs:∀ i,(owner.setIfInBounds j (some k))[i]?=if j=i then some (some k) else owner[i]?:=fun i=>by
  rw [Array.getElem?_setIfInBounds]
  by_cases e:j=i
  ·rw [if_pos e,if_pos e,if_pos (by omega)]
  ·rw [if_neg e,if_neg e]
 refine ⟨by rw [Array.size_setIfInBounds];exact L.size,fun m hm=>?_,fun i m h=>?_,fun i i' m h h'=>?_⟩
 ·by_cases e:m=k
  ·subst e;exact ⟨j,by rw [hs,if_pos rfl]⟩
  ·obtain ⟨i,hi⟩:=L.has m (by omega)
   refine ⟨i,?_⟩
   rw [hs,if_neg (fun z=>by subst z;rw [hj0] at hi;cases hi)]
   exact hi
 ·rw [hs] at h
  by_cases e:j=i
  ·rw [if_pos e] at h
   cases h
   omega
  ·rw [if_neg e] at h
   have:=L.lt i m h
   omega
 ·rw [hs] at h h'
  by_cases e:j=i
  ·by_cases e':j=i'
   ·omega
   ·rw [if_pos e] at h
    cases h
    rw [if_neg e'] at h'
    have:=L.lt i' k h'
    omega
  ·rw [if_neg e] at h
   by_cases e':j=i'
   ·rw [if_pos e'] at h'
    cases h'
    have:=L.lt i k h
    omega
   ·rw [if_neg e'] at h'
    exact L.one i i' m h h'
section
variable {prog:Program} {w:World} {K:Type} [DecidableEq K] {knd:KeyKind prog w K} {A:Around} {E:Value→Shared→Prop} {s:Shared}
def Msk (n mask:Nat):Prop:=(mask=7∧n≤4)∨(mask=31∧n≤18)∨(mask=127∧n≤76)
theorem Msk.le {n mask:Nat} (h:Msk n mask):n≤mask∧n+1≤mask∧mask≤127:=by unfold Msk at h;omega
end
end L2
namespace PySem
end PySem
namespace L2
open PySem PySem.Spec PyProof.Rows PySem.W
end L2
namespace LW
open PySem L2
def top (i:Nat):Stmt:=PySem.Challenge.pw_outlineward_k23_claims_written_and_read.main.body.getD i (.Pass ⟨0,0,0,0⟩)
theorem jdk:∀ {l m:List Str},l.Nodup→(∀ x∈l,x∈m)→l.length≤m.length
 | [],_,_,_=>Nat.zero_le _
 | x :: l,m,nd,h=>by
  obtain ⟨n1,n2⟩:=List.nodup_cons.mp nd
  have hx:=h x List.mem_cons_self
  have:=jdk (m:=m.erase x) n2 fun y hy=>(List.mem_erase_of_ne (show y≠x from fun z=>n1 (by rw [← z];exact hy))).mpr (h y (List.mem_cons_of_mem _ hy))
  rw [List.length_erase_of_mem hx] at this
  have:0 < m.length:=List.length_pos_of_mem hx
  rw [List.length_cons]
  omega
theorem yL {tt:TT} {ta tb u:TS} {D:Ends} {σ:St} {H:Hp} (C:Bool→Hp→Prop) (k:∀ b G,C b G→if b=true then ta { D with nx:=u D } σ G else tb { D with nx:=u D } σ G) (h:(∀ b G,C b G→if b=true then ta { D with nx:=u D } σ G else tb { D with nx:=u D } σ G)→Kw tt ta tb { D with nx:=u D } σ H):kX (Kw tt ta tb) u D σ H:=h k
abbrev jaL:Stmt:=top 32
abbrev jaK:Stmt:=top 33
abbrev jaJ:Stmt:=top 34
abbrev JC:Stmt:=top 37
abbrev K8:Stmt:=top 35
abbrev Dl:Type:=Prod Int Int
def dlO (w:Int) (s:Dl):HO:=.lst [.int s.1,.int s.2]
theorem jfe {tt:TT} {ta tb u:TS} {D:Ends} {σ:St} {H:Hp} (J:St→Hp→Prop) (k:∀ σ' G,J σ' G→u D σ' G) (h:(∀ σ' G,J σ' G→u D σ' G)→Kw tt ta tb { D with nx:=u D } σ H):kX (Kw tt ta tb) u D σ H:=h k
def Keep (a:Addr) (H H':Hp):Prop:=∀ b o,b≠a→H b=some o→H' b=some o
theorem Keep.upd (a:Addr) (H:Hp) (o:HO):Keep a H (L2.upd H a o):=fun b u hb e=>by rw [jx hb];exact e
theorem Keep.trans {a:Addr} {H H1 H2:Hp} (h:Keep a H H1) (h':Keep a H1 H2):Keep a H H2:=fun b o hb e=>h' b o hb (h b o hb e)
theorem Keep.same {a:Addr} {H H':Hp} (h:Same H H'):Keep a H H':=fun b o _ e=>h b o e
theorem ji {H:Hp} {p:Addr} (h:H p=none) (o:HO):Same H (upd H p o):=fun b u q=>by rw [jx (jF q h)];exact q
def Kr (x:Int):Int:=if x < 0 then -x else x
def Km (ns:List Int) (k:Int):Int×Dl:=
 (0,if k < (ns.length:Int)∧10 ^ 18≤Kr (ns.getD k.toNat 0) then Kr (ns.getD k.toNat 0) else 0,
  (if 0 < ns.length then ns.getD (k % (ns.length:Int)).toNat 0 * 48271+7919 * k * k else 7919 * k+11) % 2147483647)
def jj (w:Int) (n:Dl) (m:Int):Int×Dl:=
 if 0 < n.1 then (n.1 % m,n.1 / m,n.2) else
 let n1:=(n.2 * 48271+7919) % 2147483647
 let n2:=(n1 * 40692+104729) % 2147483399
 ((n1 * n1 % 2147483629 * 2147483563+n2 * n2 % 2147483563) % m,n.1,n2)
theorem jL (w:Int) (n:Dl) {m:Int} (h:0 < m):0≤(jj w n m).1:=by
 unfold jj
 split
 ·exact Int.emod_nonneg _ (by omega)
 ·exact Int.emod_nonneg _ (by omega)
theorem jM (w:Int) (n:Dl) {m:Int} (h:0 < m):(jj w n m).1 < m:=by
 unfold jj
 split
 ·exact Int.emod_lt_of_pos _ h
 ·exact Int.emod_lt_of_pos _ h
def J9 (w:Int) (n:Dl):Int×Dl:=
 let a:=jj w n 4
 if a.1 < 2 then jj w a.2 (if a.1=0 then 1 else 10)
 else ((5 - 2 * a.1) * (jj w a.2 (10 ^ 18+1)).1,(jj w a.2 (10 ^ 18+1)).2)
theorem jdQ {ns:List Int} {k:Int} (h0:0≤k) (h:k < (ns.length:Int)):atI (ns.map V.int) k=some (.int (ns.getD k.toNat 0)):=by
 have hk:k.toNat < ns.length:=by omega
 have ek:k=((k.toNat:Nat):Int):=by omega
 have q:atI (ns.map V.int) ((k.toNat:Nat):Int)=some (.int (ns.getD k.toNat 0)):=jv (by rw [List.getElem?_map,List.getElem?_eq_getElem hk,List.getD_eq_getElem?_getD,List.getElem?_eq_getElem hk] <;> rfl)
 rw [← ek] at q
 exact q
def jcH (K:W.Frag):Sp:=fun vs H Q _=>∃ (a:Addr) (ns:List Int) (k:Int),vs=[.ref a,.int k]∧SqL K H a (ns.map V.int)∧ns.length≤63∧0≤k∧k≤1000∧
 ∀ (r:Addr) (H':Hp),H r=none→Same H H'→H' r=some (dlO (Km ns k).1 (Km ns k).2)→Q (.ref r) H'
def yo:Sp:=fun vs H Q _=>∃ (a:Addr) (w:Int) (n:Dl) (m:Int),vs=[.ref a,.int m]∧H a=some (dlO w n)∧0 < m∧m < 2 ^ 200∧Q (.int (jj w n m).1) (upd H a (dlO w (jj w n m).2))
def jcD (K:W.Frag):Sp:=fun vs H Q _=>∃ (a:Addr) (ns:List Int),vs=[.ref a]∧SqL K H a (ns.map V.int)∧ns.length≤63∧Q (.int (if ns.length=0 then 1 else (ns.length:Nat))) H
def yK:Sp:=fun vs H Q _=>∃ (a:Addr) (w:Int) (n:Dl),vs=[.ref a]∧H a=some (dlO w n)∧∀ H',Keep a H H'→H' a=some (dlO w (J9 w n).2)→Q (.int (J9 w n).1) H'
def kL:List Str:=["each","rise","to","proc","need","give","back","any","claim","if","else","end","while","keep","call","out"]
def jaB:Sp:=fun vs H Q _=>vs=[]∧∀ l,H l=none→Q (.ref l) (upd H l (.lst (kL.map V.str)))
section
variable {P:Program} {w:World} {K:W.Frag} {mg:Str→Option Value} {base:Heap}
theorem jex {f:Addr} {fd:FuncData} (F:Fun K "_law_deal" "_law_deal" jaL f fd) (B:Free0 mg):FnOk P w K mg base CX0 1 f fd ["_law_script","_law_k"] (jcH K):=by
 have sc:FnScope ["_law_script","_law_k","_law_number_here","_law_own"] ["_law_script","_law_k"] (jk jaL):=fQ
 refine F.okZ sc (fun vs H Q E h=>?_) (fun cdv A outer s H vs Q E hr h=>?_)
 ·obtain ⟨a,ns,k,rfl,_⟩:=h
  rfl
 obtain ⟨a,ns,k,rfl,hS,h63,h0,h1,q⟩:=h
 have hu:=jfr hr
 refine ⟨_,(jd (ju (i:=2) sc.nd rfl oQ (jr zu (jr qE jg (zpv 1)) jg))
   (jd (ju (i:=3) sc.nd rfl oQ jg)
   (jd (jH (jw KJ (kh jK (by rfl) B.len_ kj (ja (zpv 0) jb)) jg (jE _)) (jh (ju (i:=2) sc.nd rfl oQ (jr zu (jr qE (jz jV (zpv 0) (jr q8 (zpv 1) (kh jK (by rfl) B.len_ kj (ja (zpv 0) jb))) (fun _ _=>rfl)) jg) (jr qE (jr qE jg (zpv 1)) (zpv 1))))) js)
   (jd (jH (yB (jw Y3 (zpv 1) (kh jK (by rfl) B.len_ kj (ja (zpv 0) jb)) (jE _)) (yA (jw jgM (kh Kq (by rfl) B.abs_ jaj (ja (jz jV (zpv 0) (zpv 1) (fun _ _=>rfl)) jb)) (jr jc3 jg jg) (jE _)))).pt (jh (ju (i:=3) sc.nd rfl oQ (kh Kq (by rfl) B.abs_ jaj (ja (jz jV (zpv 0) (zpv 1) (fun _ _=>rfl)) jb)))) js)
   (jh (jl (kg (ja (zpv 3) (ja (jr q8 (zpv 2) jg) jb))))))))),?_⟩
 refine jA (σ':=[some (.ref a),some (.int k),none,none]) rfl ?_
 have hl:(ns.map V.int).length=ns.length:=List.length_map _
 refine ⟨_,rfl,_,_,rfl,rfl,.inl ⟨by decide,by decide⟩,_,_,rfl,rfl,?_⟩
 refine gQ ?_
 dsimp only
 refine (?_:kW 3 (V.int 0) [some (.ref a),some (.int k),some (.int (7919 * k+11)),none] H _)
 refine gQ ?_
 dsimp only
 unfold Km at q
 refine jfe (fun σ G=>σ=[some (.ref a),some (.int k),some (.int (if 0 < ns.length then ns.getD (k % (ns.length:Int)).toNat 0 * 48271+7919 * k * k else 7919 * k+11)),some (.int 0)]∧G=H) ?_ (fun kk=>?_)
 rotate_left
 ·refine ⟨_,rfl,a,_,rfl,.inl hS,_,_,rfl,rfl,_,rfl,kF (fun c=>?_) (fun c=>?_)⟩
  ·have c':0 < ns.length:=by
    have:=of_decide_eq_true c
    rw [hl] at this
    omega
   have hm0:0≤k % (ns.length:Int):=Int.emod_nonneg _ (by omega)
   have hm1:k % (ns.length:Int) < (ns.length:Int):=Int.emod_lt_of_pos _ (by omega)
   have hat:atI (ns.map V.int) (k % (((ns.map V.int).length:Nat):Int))=some (.int (ns.getD (k % (ns.length:Int)).toNat 0)):=by
    rw [hl]
    exact jdQ hm0 hm1
   refine ⟨_,rfl,_,rfl,_,rfl,a,_,rfl,.inl hS,_,_,rfl,rfl,(by rw [hl];omega),a,_,_,_,rfl,rfl,hS,hat,_,_,rfl,rfl,.inr ⟨by decide,by decide⟩,_,rfl,_,_,rfl,rfl,.inl ⟨by decide,by decide⟩,_,rfl,_,_,rfl,rfl,.inl ⟨by omega,by omega⟩,_,_,rfl,rfl,?_⟩
   exact kk _ _ ⟨by rw [if_pos c'];rfl,rfl⟩
  ·have c':¬ 0 < ns.length:=fun e=>c (decide_eq_true (by rw [hl];omega))
   exact kk _ _ ⟨by rw [if_neg c'],rfl⟩
 rintro σ G ⟨rfl,rfl⟩
 generalize (if 0 < ns.length then ns.getD (k % (ns.length:Int)).toNat 0 * 48271+7919 * k * k else 7919 * k+11)=nh at *
 refine jfe (fun σ G'=>σ=[some (.ref a),some (.int k),some (.int nh),some (.int (if k < (ns.length:Int)∧10 ^ 18≤Kr (ns.getD k.toNat 0) then Kr (ns.getD k.toNat 0) else 0))]∧G'=G) ?_ (fun kk=>?_)
 rotate_left
 ·refine ⟨_,rfl,_,rfl,a,_,rfl,.inl hS,_,_,rfl,rfl,_,rfl,kF (fun c=>?_) (fun c=>?_)⟩
  ·have c':k < (ns.length:Int):=by
    have:=of_decide_eq_true c
    rw [hl] at this
    exact this
   have hat:atI (ns.map V.int) k=some (.int (ns.getD k.toNat 0)):=jdQ h0 c'
   refine ⟨_,rfl,_,rfl,a,_,_,_,rfl,rfl,hS,hat,_,rfl,10,18,rfl,rfl,⟨by decide,by decide,by decide⟩,_,_,rfl,rfl,_,rfl,kF (fun c2=>?_) (fun c2=>?_)⟩
   ·have c2':=of_decide_eq_true c2
    refine ⟨_,rfl,_,rfl,a,_,_,_,rfl,rfl,hS,hat,_,rfl,?_⟩
    have e9:(if k < (ns.length:Int)∧10 ^ 18≤Kr (ns.getD k.toNat 0) then Kr (ns.getD k.toNat 0) else 0)=Kr (ns.getD k.toNat 0):=if_pos ⟨c',c2'⟩
    exact kk _ _ ⟨by rw [e9];rfl,rfl⟩
   ·exact kk _ _ ⟨by rw [if_neg (fun h=>c2 (decide_eq_true h.2))],rfl⟩
  ·exact kk _ _ ⟨by rw [if_neg (fun h=>c (decide_eq_true (by rw [hl];exact h.1)))],rfl⟩
 rintro σ G' ⟨rfl,rfl⟩
 refine ⟨_,rfl,_,rfl,_,_,rfl,rfl,(by show (0:Int) < _;decide),sm rfl,fun r hr'=>?_⟩
 exact q r _ hr' (ji hr' _) jf
theorem jew {f:Addr} {fd:FuncData} (F:Fun K "_law_draw" "_law_draw" jaK f fd):FnOk P w K mg base CX0 1 f fd ["_law_deal_here","_law_many_here"] yo:=by
 have sc:FnScope ["_law_deal_here","_law_many_here","_law_found","_law_number_here","_law_one","_law_two"] ["_law_deal_here","_law_many_here"] (jk jaK):=fQ
 refine F.okZ sc (fun vs H Q E h=>?_) (fun cdv A outer s H vs Q E hr h=>?_)
 ·obtain ⟨a,w,n,m,rfl,_⟩:=h
  rfl
 obtain ⟨a,w,n,m,rfl,hS,h0,h1,q⟩:=h
 refine ⟨_,(jd (jH (jw KJ (jz jV (zpv 0) jg (fun _ _=>rfl)) jg (jE _)) (jd (ju (i:=2) sc.nd rfl oQ (jr q8 (jz jV (zpv 0) jg (fun _ _=>rfl)) (zpv 1)))
   (jd (j1 (jr jc4 (jz jV (zpv 0) jg (fun _ _=>rfl)) (zpv 1)) (jar (zpv 0) jg YR))
   (jh (jl (zpv 2))))) js)
   (jd (ju (i:=3) sc.nd rfl oQ (jr q8 (jr zu (jr qE (jz jV (zpv 0) jg (fun _ _=>rfl)) jg) jg) jg))
   (jd (j1 (jr q8 (jr zu (jr qE (zpv 3) jg) jg) jg) (jar (zpv 0) jg YR))
   (jd (ju (i:=4) sc.nd rfl oQ (jr q8 (jr qE (zpv 3) (zpv 3)) jg))
   (jd (ju (i:=5) sc.nd rfl oQ (jr q8 (jr qE (jz jV (zpv 0) jg (fun _ _=>rfl)) (jz jV (zpv 0) jg (fun _ _=>rfl))) jg))
   (jh (jl (jr q8 (jr zu (jr qE (zpv 4) jg) (zpv 5)) (zpv 1))))))))),?_⟩
 refine jA (σ':=[some (.ref a),some (.int m),none,none,none,none]) rfl ?_
 have hS':H a=some (.lst [.int n.1,.int n.2]):=hS
 refine ⟨_,rfl,a,_,_,_,rfl,rfl,SqL.of hS',rfl,_,_,rfl,rfl,_,rfl,kF (fun c=>?_) (fun c=>?_)⟩
 ·have c':=of_decide_eq_true c
  unfold jj at q
  rw [if_pos c'] at q
  refine ⟨_,rfl,a,_,_,_,rfl,rfl,SqL.of hS',rfl,_,rfl,_,_,rfl,rfl,h0,?_⟩
  refine gQ ?_
  refine ⟨_,rfl,a,_,_,_,rfl,rfl,SqL.of hS',rfl,_,rfl,_,_,rfl,rfl,⟨h0,h1⟩,_,rfl,a,_,_,0,rfl,rfl,hS',rfl,?_⟩
  exact ⟨_,rfl,q⟩
 ·have c':¬ 0 < n.1:=fun z=>c (decide_eq_true z)
  have b1:∀ x:Int,0≤x % 2147483647∧x % 2147483647 < 2147483647:=fun x=>⟨Int.emod_nonneg _ (by decide),Int.emod_lt_of_pos _ (by decide)⟩
  have b2:∀ x:Int,0≤x % 2147483399∧x % 2147483399 < 2147483399:=fun x=>⟨Int.emod_nonneg _ (by decide),Int.emod_lt_of_pos _ (by decide)⟩
  refine ⟨_,rfl,a,_,_,_,rfl,rfl,SqL.of hS',rfl,_,_,rfl,rfl,.inr ⟨by decide,by decide⟩,_,_,rfl,rfl,_,_,rfl,rfl,(by show (0:Int) < _;decide),?_⟩
  obtain ⟨x1,x2⟩:=b1 (n.2 * 48271+7919)
  unfold jj at q
  rw [if_neg c'] at q
  dsimp only at q
  refine gQ ?_
  refine ⟨_,rfl,_,_,rfl,rfl,.inr ⟨by decide,by decide⟩,_,_,rfl,rfl,_,_,rfl,rfl,(by show (0:Int) < _;decide),_,rfl,a,_,_,1,rfl,rfl,hS',rfl,?_⟩
  obtain ⟨y1,y2⟩:=b2 ((n.2 * 48271+7919) % 2147483647 * 40692+104729)
  refine ⟨_,rfl,_,rfl,_,_,rfl,rfl,.inl ⟨by omega,by omega⟩,_,_,rfl,rfl,(by show (0:Int) < _;decide),?_⟩
  refine gQ ?_
  refine ⟨_,rfl,a,_,_,_,rfl,rfl,SqL.of jf,rfl,_,rfl,a,_,_,_,rfl,rfl,SqL.of jf,rfl,_,_,rfl,rfl,.inl ⟨by omega,by omega⟩,_,_,rfl,rfl,(by show (0:Int) < _;decide),?_⟩
  refine gQ ?_
  refine ⟨_,rfl,_,_,rfl,rfl,.inr ⟨by decide,by decide⟩,_,rfl,_,_,rfl,rfl,_,rfl,_,_,rfl,rfl,h0,?_⟩
  exact q
theorem jeu {f:Addr} {fd:FuncData} (F:Fun K "_law_many" "_law_many" jaJ f fd) (B:Free0 mg):FnOk P w K mg base CX0 1 f fd ["_law_script"] (jcD K):=by
 have sc:FnScope ["_law_script"] ["_law_script"] (jk jaJ):=fQ
 refine F.ok sc (fun vs H Q E h=>?_) (fun cdv A outer s H vs Q E hr h=>?_)
 ·obtain ⟨a,ns,rfl,_⟩:=h
  rfl
 obtain ⟨a,ns,rfl,hS,h63,q⟩:=h
 refine ⟨_,(zY (Jg (qV (KR rfl) (by rfl) B.max_ jdM (qm ZP (qm (qV (jch rfl) (by rfl) B.min_ jgi (qm ZP (qm (qV jK (by rfl) B.len_ kj (qm (pv 0) kB)) kB))) kB))))),?_⟩
 refine ⟨_,rfl,a,_,rfl,.inl hS,_,_,rfl,_,_,rfl,?_⟩
 have e:(if (if (((ns.map V.int).length:Nat):Int) < 63 then (((ns.map V.int).length:Nat):Int) else 63) > 1 then (if (((ns.map V.int).length:Nat):Int) < 63 then (((ns.map V.int).length:Nat):Int) else 63) else 1)=(if ns.length=0 then 1 else ((ns.length:Nat):Int)):=by
  rw [List.length_map]
  split <;> split <;> (try split) <;> omega
 rw [e]
 exact q
theorem jbP {f:Addr} {fd:FuncData} (F:Fun K "_law_number" "_law_number" JC f fd) (F_draw:Fn P w K mg base 1 "_law_draw" ["_law_deal_here","_law_many_here"] yo):FnOk P w K mg base CX0 2 f fd ["_law_deal_here"] yK:=by
 have sc:FnScope ["_law_deal_here","_law_form"] ["_law_deal_here"] (jk JC):=fQ
 refine F.okZ sc (fun vs H Q E h=>?_) (fun cdv A outer s H vs Q E hr h=>?_)
 ·obtain ⟨a,w,n,rfl,_⟩:=h
  rfl
 obtain ⟨a,w,n,rfl,hS,q⟩:=h
 refine ⟨_,(jd (ju (i:=1) sc.nd rfl oQ (jp F_draw hr (ja (zpv 0) (ja jg jb))))
   (jd (jH (jw Y3 (zpv 1) jg (jE _)) (jh (jl (jp F_draw hr (ja (zpv 0) (ja (jz jV (kg (ja jg (ja jg jb))) (zpv 1) (fun _ _=>rfl)) jb))))) js)
   (jh (jl (jr qE (jr jfX jg (jr qE jg (zpv 1))) (jp F_draw hr (ja (zpv 0) (ja (jr zu (jr jc3 jg jg) jg) jb)))))))),?_⟩
 refine jA (σ':=[some (.ref a),none]) rfl ?_
 refine ⟨_,rfl,a,w,n,4,rfl,hS,by decide,by decide,?_⟩
 have lo:=jL w n (m:=4) (by decide)
 have hi:=jM w n (m:=4) (by decide)
 unfold J9 at q
 dsimp only at q
 generalize jj w n 4=x at *
 obtain ⟨x,n1⟩:=x
 dsimp only at lo hi q ⊢
 refine gQ ?_
 refine ⟨_,rfl,_,_,rfl,rfl,_,rfl,kF (fun c=>?_) (fun c=>?_)⟩
 ·have c':=of_decide_eq_true c
  rw [if_pos c'] at q
  refine ⟨_,rfl,sm rfl,fun p hp=>?_⟩
  have npa:a≠p:=fun z=>by rw [← z,jf] at hp;cases hp
  refine ⟨_,rfl,p,_,_,.int (if x=0 then 1 else 10),rfl,rfl,SqL.of jf,?_,?_⟩
  ·have:x=0∨x=1:=by omega
   rcases this with rfl | rfl <;> rfl
  ·refine ⟨a,w,n1,_,rfl,by rw [jx npa,jf],by split <;> decide,by split <;> decide,?_⟩
   refine q _ (fun b o hb e=>?_) jf
   rw [jx hb,jx (jF (by rw [jx hb];exact e) hp),jx hb]
   exact e
 ·have c':¬ x < 2:=fun z=>c (decide_eq_true z)
  rw [if_neg c'] at q
  refine ⟨_,rfl,_,_,rfl,rfl,.inl ⟨by decide,by decide⟩,_,_,rfl,rfl,_,rfl,_,_,rfl,rfl,⟨by decide,by decide,by decide⟩,_,_,rfl,rfl,?_⟩
  refine ⟨a,w,n1,10 ^ 18+1,rfl,jf,by decide,by decide,_,_,rfl,rfl,.inl ⟨by omega,by omega⟩,?_⟩
  rw [jdZ]
  exact q _ (Keep.upd _ _ _) jf
end
section
variable {P:Program} {w:World} {K:W.Frag} {mg:Str→Option Value} {base:Heap}
theorem jd5:FnScope [] [] (jk K8):=fQ
theorem jc9 {f:Addr} {fd:FuncData} (F:Fun K "_law_taken" "_law_taken" K8 f fd):FnOk P w K mg base CX0 1 f fd [] jaB:=by
 have sc:=jd5
 refine F.okZ sc (fun vs H Q E h=>?_) (fun cdv A outer s H vs Q E hr h=>?_)
 ·obtain ⟨rfl,_⟩:=h
  rfl
 obtain ⟨rfl,q⟩:=h
 refine ⟨_,(jh (jl (kg (ja jc (ja jc (ja jc (ja jc (ja jc (ja jc (ja jc (ja jc (ja jc (ja jc (ja jc (ja jc (ja jc (ja jc (ja jc (ja jc jb))))))))))))))))))),?_⟩
 refine jA (σ':=[]) rfl ?_
 exact ⟨sm rfl,fun l hl=>q l hl⟩
end
abbrev JB:Stmt:=top 38
abbrev K7:Stmt:=top 39
abbrev JD:Stmt:=top 40
def em (xs:List Str):List Str:=(Str.ofString "") :: xs
def q5 (xs:List Str) (d:Int):Str:=xs.getD d.toNat ""
theorem zL {xs:List Str} {d:Int} (h0:0≤d) (h1:d < (xs.length:Nat)):q5 xs d∈xs:=by
 have:d.toNat < xs.length:=by omega
 unfold q5
 rw [List.getD_eq_getElem?_getD,List.getElem?_eq_getElem this]
 exact List.getElem_mem this
theorem zB {xs:List Str} {d:Int} (h0:0≤d) (h1:d < (xs.length:Nat)):atI (xs.map V.str) d=some (.str (q5 xs d)):=by
 have hk:d.toNat < xs.length:=by omega
 have ek:d=((d.toNat:Nat):Int):=by omega
 have q:atI (xs.map V.str) ((d.toNat:Nat):Int)=some (.str (q5 xs d)):=jv (by unfold q5;rw [List.getElem?_map,List.getElem?_eq_getElem hk,List.getD_eq_getElem?_getD,List.getElem?_eq_getElem hk] <;> rfl)
 rw [← ek] at q
 exact q
theorem Keep.tk {a:Addr} {H H':Hp} (k:Keep a H H') {xs:List V} (ha:H a=some (.lst xs)):TK H H':=fun b ys e=>k b _ (fun z=>by rw [z,ha] at e;cases e) e
theorem Keep.strs {a l:Addr} {H H':Hp} (k:Keep a H H') {w:Int} {n:Dl} {xs:List Str} (ha:H a=some (dlO w n)) (hl:H l=some (.lst (xs.map V.str))):H' l=some (.lst (xs.map V.str)):=k l _ (fun z=>by
 rw [z,ha] at hl
 cases xs with
 | nil=>cases hl
 | cons x xs=>injection hl with e;injection e with e;injection e with e;cases e) hl
def qZ (w:Int) (n:Dl) (xs:List Str):(Str×Int)×Dl:=
 let a:=jj w n (((em xs).length:Nat):Int)
 let b:=J9 w a.2
 ((q5 (em xs) a.1,b.1),b.2)
def kQ (w:Int) (n:Dl) (xs rs:List Str):Tm×Dl:=
 let a:=jj w n 3
 if a.1=0∧0 < rs.length then
  let b:=jj w a.2 ((rs.length:Nat):Int)
  let p:=qZ w b.2 xs
  (.at_ (q5 rs b.1) p.1.1 p.1.2,p.2)
 else
  let b:=jj w a.2 (((em xs).length:Nat):Int)
  (.is (q5 (em xs) b.1),b.2)
def Yn (w:Int) (n:Dl) (xs rs:List Str):Cl×Dl:=
 let a:=kQ w n xs rs
 let b:=kQ w a.2 xs rs
 let c:=J9 w b.2
 (.least a.1 b.1 c.1,c.2)
def J0:Sp:=fun vs H Q _=>∃ (d l:Addr) (w:Int) (n:Dl) (xs:List Str),vs=[.ref d,.ref l]∧H d=some (dlO w n)∧H l=some (.lst (xs.map V.str))∧xs.length≤100∧∀ u H',Keep d H H'→H' d=some (dlO w (qZ w n xs).2)→Held H' (plD (qZ w n xs).1.1 (qZ w n xs).1.2) u→Q u H'
def K4:Sp:=fun vs H Q _=>∃ (d l r:Addr) (w:Int) (n:Dl) (xs rs:List Str),vs=[.ref d,.ref l,.ref r]∧H d=some (dlO w n)∧H l=some (.lst (xs.map V.str))∧H r=some (.lst (rs.map V.str))∧xs.length≤100∧rs.length≤100∧∀ u H',Keep d H H'→H' d=some (dlO w (kQ w n xs rs).2)→Held H' (kQ w n xs rs).1.toD u→Q u H'
def YK:Sp:=fun vs H Q _=>∃ (d l r:Addr) (w:Int) (n:Dl) (xs rs:List Str),vs=[.ref d,.ref l,.ref r]∧H d=some (dlO w n)∧H l=some (.lst (xs.map V.str))∧H r=some (.lst (rs.map V.str))∧xs.length≤100∧rs.length≤100∧∀ u H',Keep d H H'→H' d=some (dlO w (Yn w n xs rs).2)→Held H' (Yn w n xs rs).1.toD u→Q u H'
section
variable {P:Program} {w:World} {K:W.Frag} {mg:Str→Option Value} {base:Heap}
theorem jbO {f:Addr} {fd:FuncData} (F:Fun K "_law_place" "_law_place" JB f fd) (B:Free0 mg) (F_draw:Fn P w K mg base 1 "_law_draw" ["_law_deal_here","_law_many_here"] yo) (F_number:Fn P w K mg base 2 "_law_number" ["_law_deal_here"] yK):FnOk P w K mg base CX0 3 f fd ["_law_deal_here","_law_numbers"] J0:=by
 have sc:FnScope ["_law_deal_here","_law_numbers","_law_some","_law_x"] ["_law_deal_here","_law_numbers"] (jk JB):=fQ
 refine F.okZ sc (fun vs H Q E h=>?_) (fun cdv A outer s H vs Q E hr h=>?_)
 ·obtain ⟨d,l,w,n,xs,rfl,_⟩:=h
  rfl
 obtain ⟨d,l,w,n,xs,rfl,hd,hl,hz,q⟩:=h
 refine ⟨_,(jd (ju (i:=2) sc.nd rfl oQ (jr ZR (kg (ja jc jb)) (zpv 1)))
   (jd (ju (i:=3) sc.nd rfl oQ (jz jV (zpv 2) (jp F_draw hr (ja (zpv 0) (ja (kh jK (by rfl) B.len_ kj (ja (zpv 2) jb)) jb))) (fun _ _=>rfl)))
   (jh (jl (jJ (ja (zpv 3) (ja (jp F_number hr (ja (zpv 0) jb)) jb))))))),?_⟩
 refine jA (σ':=[some (.ref d),some (.ref l),none,none]) rfl ?_
 refine ⟨sm rfl,fun p hp=>?_⟩
 have s1:=ji hp (.lst [V.str (Str.ofString "")])
 have e1:upd H p (.lst [V.str (Str.ofString "")]) p=some (.lst [V.str (Str.ofString "")]):=jf
 generalize upd H p (.lst [V.str (Str.ofString "")])=H1 at *
 refine ⟨_,rfl,p,l,_,_,rfl,rfl,e1,s1 _ _ hl,jD (by rw [List.length_map];simp only [List.length_cons,List.length_nil];omega),fun t ht=>?_⟩
 have s2:=s1.trans (ji ht (.lst ([V.str (Str.ofString "")]++xs.map V.str)))
 have e2:upd H1 t (.lst ([V.str (Str.ofString "")]++xs.map V.str)) t=some (.lst ((em xs).map V.str)):=jf
 generalize upd H1 t (.lst ([V.str (Str.ofString "")]++xs.map V.str))=H2 at *
 have lem:(em xs).length=xs.length+1:=rfl
 refine gQ ?_
 have lo:=jL w n (m:=((em xs).length:Nat)) (by omega)
 have hi:=jM w n (m:=((em xs).length:Nat)) (by omega)
 refine ⟨_,rfl,_,rfl,_,rfl,t,_,rfl,.inl (SqL.of e2),d,w,n,((em xs).length:Nat),by rw [List.length_map];rfl,s2 _ _ hd,by omega,by omega,t,_,_,_,rfl,rfl,SqL.of ((Keep.upd d H2 _).strs (s2 _ _ hd) e2),zB lo hi,?_⟩
 refine gQ ?_
 refine ⟨_,rfl,_,rfl,d,w,_,rfl,jf,fun H3 k3 d3=>⟨sm rfl,fun p hp=>?_⟩⟩
 have s4:=ji hp (.tup [V.str (q5 (em xs) (jj w n ((em xs).length:Nat)).1),V.int (J9 w (jj w n ((em xs).length:Nat)).2).1])
 exact q _ _ ((Keep.same s2).trans ((Keep.upd d H2 _).trans (k3.trans (Keep.same s4)))) (s4 _ _ d3) (jB jf (je jq (je jN jt)))
theorem jc8 {f:Addr} {fd:FuncData} (F:Fun K "_law_term" "_law_term" K7 f fd) (B:Free0 mg) (F_draw:Fn P w K mg base 1 "_law_draw" ["_law_deal_here","_law_many_here"] yo) (F_place:Fn P w K mg base 3 "_law_place" ["_law_deal_here","_law_numbers"] J0):FnOk P w K mg base CX0 4 f fd ["_law_deal_here","_law_numbers","_law_rows"] K4:=by
 have sc:FnScope ["_law_deal_here","_law_numbers","_law_rows","_law_r","_law_some"] ["_law_deal_here","_law_numbers","_law_rows"] (jk K7):=fQ
 refine F.okZ sc (fun vs H Q E h=>?_) (fun cdv A outer s H vs Q E hr h=>?_)
 ·obtain ⟨d,l,r,w,n,xs,rs,rfl,_⟩:=h
  rfl
 obtain ⟨d,l,r,w,n,xs,rs,rfl,hd,hl,hr',hz,hz2,q⟩:=h
 refine ⟨_,(jd (jH (yB (jw kr (jp F_draw hr (ja (zpv 0) (ja jg jb))) jg (jE _)) (yA (jw KJ (kh jK (by rfl) B.len_ kj (ja (zpv 2) jb)) jg (jE _)))).pt (jd (ju (i:=3) sc.nd rfl oQ (jz jV (zpv 2) (jp F_draw hr (ja (zpv 0) (ja (kh jK (by rfl) B.len_ kj (ja (zpv 2) jb)) jb))) (fun _ _=>rfl)))
   (jh (jl (jJ (ja jc (ja (zpv 3) (ja (jp F_place hr (ja (zpv 0) (ja (zpv 1) jb))) jb))))))) js)
   (jd (ju (i:=4) sc.nd rfl oQ (jr ZR (kg (ja jc jb)) (zpv 1)))
   (jh (jl (jJ (ja jc (ja (jz jV (zpv 4) (jp F_draw hr (ja (zpv 0) (ja (kh jK (by rfl) B.len_ kj (ja (zpv 4) jb)) jb))) (fun _ _=>rfl)) jb))))))),?_⟩
 refine jA (σ':=[some (.ref d),some (.ref l),some (.ref r),none,none]) rfl ?_
 have k0:=Keep.upd d H (dlO w (jj w n 3).2)
 have d0:upd H d (dlO w (jj w n 3).2) d=some (dlO w (jj w n 3).2):=jf
 refine yL (fun b G=>b=decide ((jj w n 3).1=0∧0 < rs.length)∧G=upd H d (dlO w (jj w n 3).2)) (fun b G hb=>?_) (fun kk=>?_)
 rotate_left
 ·refine ⟨_,rfl,d,w,n,3,rfl,hd,by decide,by decide,rfl,_,rfl,kF (fun z=>?_) (fun z=>kk false _ ⟨?_,rfl⟩)⟩
  ·have z':(jj w n 3).1=0:=by have:=of_decide_eq_true z;injection this
   refine ⟨_,rfl,r,_,rfl,.inl (SqL.of (k0.strs hd hr')),_,_,rfl,rfl,_,rfl,kk _ _ ⟨?_,rfl⟩⟩
   rw [List.length_map]
   exact decide_eq_decide.mpr ⟨fun h=>⟨z',by omega⟩,fun h=>by omega⟩
  ·exact (decide_eq_false fun h=>z (decide_eq_true (congrArg V.int h.1))).symm
 obtain ⟨rfl,rfl⟩:=hb
 have hl0:=k0.strs hd hl
 have hr0:=k0.strs hd hr'
 unfold kQ at q
 dsimp only at q
 generalize upd H d (dlO w (jj w n 3).2)=H0 at *
 generalize jj w n 3=x at *
 obtain ⟨x,n1⟩:=x
 dsimp only at q d0
 by_cases c:x=0∧0 < rs.length
 ·rw [decide_eq_true c]
  refine kE ?_
  rw [if_pos c] at q
  have lo:=jL w n1 (m:=(rs.length:Nat)) (by omega)
  have hi:=jM w n1 (m:=(rs.length:Nat)) (by omega)
  have k1:=Keep.upd d H0 (dlO w (jj w n1 (rs.length:Nat)).2)
  refine ⟨_,rfl,_,rfl,_,rfl,r,_,rfl,.inl (SqL.of hr0),d,w,n1,(rs.length:Nat),by rw [List.length_map];rfl,d0,by omega,by omega,r,_,_,_,rfl,rfl,SqL.of (k1.strs d0 hr0),zB lo hi,?_⟩
  refine gQ ?_
  refine ⟨_,rfl,_,rfl,_,rfl,d,l,w,_,xs,rfl,jf,k1.strs d0 hl0,hz,fun u H3 k3 d3 h3=>⟨sm rfl,fun p hp=>?_⟩⟩
  have s4:=ji hp (.tup [V.str (Str.ofString "at"),V.str (q5 rs (jj w n1 (rs.length:Nat)).1),u])
  exact q _ _ (k0.trans (k1.trans (k3.trans (Keep.same s4)))) (s4 _ _ d3) (jB jf (je jq (je jq (je (h3.mono s4) jt))))
 rw [decide_eq_false c]
 refine ku ?_
 rw [if_neg c] at q
 refine ⟨sm rfl,fun p hp=>?_⟩
 have s1:=ji hp (.lst [V.str (Str.ofString "")])
 have e1:upd H0 p (.lst [V.str (Str.ofString "")]) p=some (.lst [V.str (Str.ofString "")]):=jf
 generalize upd H0 p (.lst [V.str (Str.ofString "")])=H1 at *
 refine ⟨_,rfl,p,l,_,_,rfl,rfl,e1,s1 _ _ hl0,jD (by rw [List.length_map];simp only [List.length_cons,List.length_nil];omega),fun t ht=>?_⟩
 have s2:=s1.trans (ji ht (.lst ([V.str (Str.ofString "")]++xs.map V.str)))
 have e2:upd H1 t (.lst ([V.str (Str.ofString "")]++xs.map V.str)) t=some (.lst ((em xs).map V.str)):=jf
 generalize upd H1 t (.lst ([V.str (Str.ofString "")]++xs.map V.str))=H2 at *
 have lem:(em xs).length=xs.length+1:=rfl
 refine gQ ?_
 have lo:=jL w n1 (m:=((em xs).length:Nat)) (by omega)
 have hi:=jM w n1 (m:=((em xs).length:Nat)) (by omega)
 have k3:=Keep.upd d H2 (dlO w (jj w n1 ((em xs).length:Nat)).2)
 refine ⟨_,rfl,_,rfl,_,rfl,t,_,rfl,.inl (SqL.of e2),d,w,n1,((em xs).length:Nat),by rw [List.length_map];rfl,s2 _ _ d0,by omega,by omega,t,_,_,_,rfl,rfl,SqL.of (k3.strs (s2 _ _ d0) e2),zB lo hi,sm rfl,fun p hp=>?_⟩
 have s4:=ji hp (.tup [V.str (Str.ofString "is"),V.str (q5 (em xs) (jj w n1 ((em xs).length:Nat)).1)])
 exact q _ _ (k0.trans ((Keep.same s2).trans (k3.trans (Keep.same s4)))) (s4 _ _ jf) (jB jf (je jq (je jq jt)))
theorem jbR {f:Addr} {fd:FuncData} (F:Fun K "_law_least" "_law_least" JD f fd) (F_term:Fn P w K mg base 4 "_law_term" ["_law_deal_here","_law_numbers","_law_rows"] K4) (F_number:Fn P w K mg base 2 "_law_number" ["_law_deal_here"] yK):FnOk P w K mg base CX0 5 f fd ["_law_deal_here","_law_numbers","_law_rows"] YK:=by
 have sc:FnScope ["_law_deal_here","_law_numbers","_law_rows","_law_one","_law_other"] ["_law_deal_here","_law_numbers","_law_rows"] (jk JD):=fQ
 refine F.okZ sc (fun vs H Q E h=>?_) (fun cdv A outer s H vs Q E hr h=>?_)
 ·obtain ⟨d,l,r,w,n,xs,rs,rfl,_⟩:=h
  rfl
 obtain ⟨d,l,r,w,n,xs,rs,rfl,hd,hl,hr',hz,hz2,q⟩:=h
 refine ⟨_,(jd (ju (i:=3) sc.nd rfl oQ (jp F_term hr (ja (zpv 0) (ja (zpv 1) (ja (zpv 2) jb)))))
   (jd (ju (i:=4) sc.nd rfl oQ (jp F_term hr (ja (zpv 0) (ja (zpv 1) (ja (zpv 2) jb)))))
   (jh (jl (jJ (ja jc (ja (zpv 3) (ja (zpv 4) (ja (jp F_number hr (ja (zpv 0) jb)) jb))))))))),?_⟩
 refine jA (σ':=[some (.ref d),some (.ref l),some (.ref r),none,none]) rfl ?_
 refine ⟨_,rfl,_,rfl,_,rfl,d,l,r,w,n,xs,rs,rfl,hd,hl,hr',hz,hz2,fun u H1 k1 d1 h1=>?_⟩
 refine gQ ?_
 refine ⟨_,rfl,_,rfl,_,rfl,d,l,r,w,_,xs,rs,rfl,d1,k1.strs hd hl,k1.strs hd hr',hz,hz2,fun u2 H2 k2 d2 h2=>?_⟩
 refine gQ ?_
 refine ⟨_,rfl,_,rfl,_,rfl,d,w,_,rfl,d2,fun H3 k3 d3=>⟨sm rfl,fun p hp=>?_⟩⟩
 have s4:=ji hp (.tup [V.str "least",u,u2,V.int (J9 w (kQ w (kQ w n xs rs).2 xs rs).2).1])
 refine q _ _ (k1.trans (k2.trans (k3.trans (Keep.same s4)))) (s4 _ _ d3) (jB jf (je jq (je ?_ (je ?_ (je jN jt)))))
 ·exact (((k2.tk d1).held h1 |> (k3.tk d2).held)).mono s4
 ·exact ((k3.tk d2).held h2).mono s4
end
abbrev JF:Stmt:=top 41
theorem jfH {tt:TT} {ta tb u:TS} {D:Ends} {σ:St} {H:Hp} (J:St→Hp→Prop) (k:∀ σ' G,J σ' G→u D σ' G) (h:(∀ σ' G,J σ' G→u D σ' G)→Kw tt ta tb { D with nx:=u D } σ H):kX (Kw tt ta tb) u D σ H:=h k
def jgZ:Tm→Bd
 | .is x=>.is x
 | .at_ _ x _=>.is x
theorem jcu (w:Int) (n:Dl) (xs:List Str):(kQ w n xs []).1.toD=(jgZ (kQ w n xs []).1).toD:=by
 unfold kQ
 dsimp only
 rw [if_neg (fun h=>absurd h.2 (by decide))]
 rfl
def bdN (w:Int) (n:Dl) (xs rs:List Str):Bd×Dl:=
 let b:=kQ w n xs []
 let e:=jj w b.2 2
 if e.1=0 then
  let k:=jj w e.2 ((rs.length:Nat):Int)
  (.row (q5 rs k.1),k.2)
 else (jgZ b.1,e.2)
def jby (d:Int):Str:=if d=0 then ">=" else "<="
def Jl (w:Int) (n:Dl) (xs rs:List Str):Cl×Dl:=
 let a:=jj w n 4
 if a.1 < 2∨rs.length=0 then Yn w a.2 xs rs else
 let t:=qZ w a.2 xs
 let u:=qZ w t.2 xs
 let r:=jj w u.2 ((rs.length:Nat):Int)
 if a.1=2 then (.rise t.1.1 t.1.2 u.1.1 u.1.2 (q5 rs r.1),r.2) else
 let b:=bdN w r.2 xs rs
 let y:=jj w b.2 2
 let c:=J9 w y.2
 (.each t.1.1 t.1.2 u.1.1 u.1.2 (q5 rs r.1) (jby y.1) b.1 c.1,c.2)
def YO:Sp:=fun vs H Q _=>∃ (d l r:Addr) (w:Int) (n:Dl) (xs rs:List Str),vs=[.ref d,.ref l,.ref r]∧H d=some (dlO w n)∧H l=some (.lst (xs.map V.str))∧H r=some (.lst (rs.map V.str))∧xs.length≤100∧rs.length≤100∧∀ u H',Keep d H H'→H' d=some (dlO w (Jl w n xs rs).2)→Held H' (Jl w n xs rs).1.toD u→Q u H'
section
variable {P:Program} {w:World} {K:W.Frag} {mg:Str→Option Value} {base:Heap}
theorem jbW {f:Addr} {fd:FuncData} (F:Fun K "_law_claim" "_law_claim" JF f fd) (B:Free0 mg) (F_draw:Fn P w K mg base 1 "_law_draw" ["_law_deal_here","_law_many_here"] yo) (F_number:Fn P w K mg base 2 "_law_number" ["_law_deal_here"] yK) (F_place:Fn P w K mg base 3 "_law_place" ["_law_deal_here","_law_numbers"] J0) (F_term:Fn P w K mg base 4 "_law_term" ["_law_deal_here","_law_numbers","_law_rows"] K4) (F_least:Fn P w K mg base 5 "_law_least" ["_law_deal_here","_law_numbers","_law_rows"] YK):FnOk P w K mg base CX0 6 f fd ["_law_deal_here","_law_numbers","_law_rows"] YO:=by
 have sc:FnScope ["_law_deal_here","_law_numbers","_law_rows","_law_form","_law_t","_law_u","_law_r","_law_b","_law_way"] ["_law_deal_here","_law_numbers","_law_rows"] (jk JF):=fQ
 refine F.okZ sc (fun vs H Q E h=>?_) (fun cdv A outer s H vs Q E hr h=>?_)
 ·obtain ⟨d,l,r,w,n,xs,rs,rfl,_⟩:=h
  rfl
 obtain ⟨d,l,r,w,n,xs,rs,rfl,hd,hl,hr',hz,hz2,q⟩:=h
 refine ⟨_,(jd (ju (i:=3) sc.nd rfl oQ (jp F_draw hr (ja (zpv 0) (ja jg jb))))
   (jd (jH (JQ (jw Y3 (zpv 3) jg (jE _)) (Jy (jw kr (kh jK (by rfl) B.len_ kj (ja (zpv 2) jb)) jg (jE _)))).pt (jh (jl (jp F_least hr (ja (zpv 0) (ja (zpv 1) (ja (zpv 2) jb)))))) js)
   (jd (ju (i:=4) sc.nd rfl oQ (jp F_place hr (ja (zpv 0) (ja (zpv 1) jb))))
   (jd (ju (i:=5) sc.nd rfl oQ (jp F_place hr (ja (zpv 0) (ja (zpv 1) jb))))
   (jd (ju (i:=6) sc.nd rfl oQ (jz jV (zpv 2) (jp F_draw hr (ja (zpv 0) (ja (kh jK (by rfl) B.len_ kj (ja (zpv 2) jb)) jb))) (fun _ _=>rfl)))
   (jd (jH (jw kr (zpv 3) jg (jE _)) (jh (jl (jJ (ja jc (ja (zpv 4) (ja (zpv 5) (ja (zpv 6) jb))))))) js)
   (jd (ju (i:=7) sc.nd rfl oQ (jp F_term hr (ja (zpv 0) (ja (zpv 1) (ja (kg jb) jb)))))
   (jd (jH (jw kr (jp F_draw hr (ja (zpv 0) (ja jg jb))) jg (jE _)) (jh (ju (i:=7) sc.nd rfl oQ (jJ (ja jc (ja (jz jV (zpv 2) (jp F_draw hr (ja (zpv 0) (ja (kh jK (by rfl) B.len_ kj (ja (zpv 2) jb)) jb))) (fun _ _=>rfl)) jb))))) js)
   (jd (ju (i:=8) sc.nd rfl oQ (jz jV (kg (ja jc (ja jc jb))) (jp F_draw hr (ja (zpv 0) (ja jg jb))) (fun _ _=>rfl)))
   (jh (jl (jJ (ja jc (ja (zpv 4) (ja (zpv 5) (ja (zpv 6) (ja (zpv 8) (ja (zpv 7) (ja (jp F_number hr (ja (zpv 0) jb)) jb))))))))))))))))))),?_⟩
 try dsimp only [Jw]
 refine jA (σ':=[some (.ref d),some (.ref l),some (.ref r),none,none,none,none,none,none]) rfl ?_
 refine jgS ?_
 intro _ _ _ _ _ _
 refine ⟨_,rfl,d,w,n,4,rfl,hd,by decide,by decide,?_⟩
 have k0:=Keep.upd d H (dlO w (jj w n 4).2)
 have d0:upd H d (dlO w (jj w n 4).2) d=some (dlO w (jj w n 4).2):=jf
 have hl0:=k0.strs hd hl
 have hr0:=k0.strs hd hr'
 have lo0:=jL w n (m:=4) (by decide)
 have hi0:=jM w n (m:=4) (by decide)
 unfold Jl at q
 dsimp only at q
 generalize upd H d (dlO w (jj w n 4).2)=H0 at *
 generalize jj w n 4=x at *
 obtain ⟨x,n1⟩:=x
 dsimp only at q d0 lo0 hi0 ⊢
 refine gQ ?_
 refine yL (fun b G=>b=decide (x < 2∨rs.length=0)∧G=H0) (fun b G hb=>?_) (fun kk=>?_)
 rotate_left
 ·refine ⟨_,rfl,_,_,rfl,rfl,_,rfl,kF (fun z=>kk true _ ⟨(decide_eq_true (.inl (of_decide_eq_true z))).symm,rfl⟩) (fun z=>?_)⟩
  refine ⟨_,rfl,r,_,rfl,.inl (SqL.of hr0),rfl,_,rfl,kk _ _ ⟨?_,rfl⟩⟩
  rw [List.length_map]
  refine decide_eq_decide.mpr ⟨fun h=>.inr (by injection h;omega),fun h=>?_⟩
  rcases h with h | h
  ·exact absurd (decide_eq_true h) z
  ·rw [h];rfl
 obtain ⟨rfl,rfl⟩:=hb
 by_cases c:x < 2∨rs.length=0
 ·rw [decide_eq_true c]
  refine kE ?_
  rw [if_pos c] at q
  exact ⟨_,rfl,_,rfl,_,rfl,d,l,r,w,n1,xs,rs,rfl,d0,hl0,hr0,hz,hz2,fun u H1 k1 d1 h1=>q u H1 (k0.trans k1) d1 h1⟩
 rw [decide_eq_false c]
 refine ku ?_
 rw [if_neg c] at q
 have hp:0 < rs.length:=by omega
 refine ⟨_,rfl,_,rfl,d,l,w,n1,xs,rfl,d0,hl0,hz,fun u1 H1 k1 d1 h1=>?_⟩
 have hl1:=k1.strs d0 hl0
 have hr1:=k1.strs d0 hr0
 generalize qZ w n1 xs=t at *
 refine gQ ?_
 refine ⟨_,rfl,_,rfl,d,l,w,t.2,xs,rfl,d1,hl1,hz,fun u2 H2 k2 d2 h2=>?_⟩
 have hl2:=k2.strs d1 hl1
 have hr2:=k2.strs d1 hr1
 have h12:=(k2.tk d1).held h1
 generalize qZ w t.2 xs=u at *
 refine gQ ?_
 have lo:=jL w u.2 (m:=(rs.length:Nat)) (by omega)
 have hi:=jM w u.2 (m:=(rs.length:Nat)) (by omega)
 have k3:=Keep.upd d H2 (dlO w (jj w u.2 (rs.length:Nat)).2)
 have d3:upd H2 d (dlO w (jj w u.2 (rs.length:Nat)).2) d=some (dlO w (jj w u.2 (rs.length:Nat)).2):=jf
 have hl3:=k3.strs d2 hl2
 have hr3:=k3.strs d2 hr2
 have h13:=(k3.tk d2).held h12
 have h23:=(k3.tk d2).held h2
 refine ⟨_,rfl,_,rfl,_,rfl,r,_,rfl,.inl (SqL.of hr2),d,w,u.2,(rs.length:Nat),by rw [List.length_map];rfl,d2,by omega,by omega,r,_,_,_,rfl,rfl,SqL.of hr3,zB lo hi,?_⟩
 generalize upd H2 d (dlO w (jj w u.2 (rs.length:Nat)).2)=H3 at *
 generalize jj w u.2 (rs.length:Nat)=y at *
 have k03:=k0.trans (k1.trans (k2.trans k3))
 refine gQ ?_
 refine ⟨_,rfl,rfl,_,rfl,kF (fun z=>?_) (fun z=>?_)⟩
 ·have z':x=2:=by have:=of_decide_eq_true z;injection this
  rw [if_pos z'] at q
  refine ⟨_,rfl,_,rfl,_,rfl,sm rfl,fun p hp=>?_⟩
  have s4:=ji hp (.tup [V.str (Str.ofString "rise"),u1,u2,V.str (q5 rs y.1)])
  exact q _ _ (k03.trans (Keep.same s4)) (s4 _ _ d3) (jB jf (je jq (je (h13.mono s4) (je (h23.mono s4) (je jq jt)))))
 have z':¬ x=2:=fun h=>z (decide_eq_true (congrArg V.int h))
 rw [if_neg z'] at q
 refine ⟨_,rfl,_,rfl,sm rfl,fun p hp=>?_⟩
 have s4:=ji hp (.lst [])
 refine ⟨d,l,p,w,y.2,xs,[],rfl,s4 _ _ d3,s4 _ _ hl3,jf,hz,Nat.zero_le _,fun u4 H4 k4 d4 h4=>?_⟩
 have k34:Keep d H3 H4:=(Keep.same s4).trans k4
 have hr4:=k34.strs d3 hr3
 have h14:=(k34.tk d3).held h13
 have h24:=(k34.tk d3).held h23
 rw [jcu] at h4
 refine gQ ?_
 dsimp only
 refine jfH (fun σ G=>∃ v,σ=[some (.ref d),some (.ref l),some (.ref r),some (.int x),some u1,some u2,some (.str (q5 rs y.1)),some v,none]∧Keep d H4 G∧G d=some (dlO w (bdN w y.2 xs rs).2)∧Held G (bdN w y.2 xs rs).1.toD v) ?_ (fun kk=>?_)
 rotate_left
 ·unfold bdN at kk
  dsimp only at kk
  have k5:=Keep.upd d H4 (dlO w (jj w (kQ w y.2 xs []).2 2).2)
  have d5:upd H4 d (dlO w (jj w (kQ w y.2 xs []).2 2).2) d=some (dlO w (jj w (kQ w y.2 xs []).2 2).2):=jf
  have hr5:=k5.strs d4 hr4
  have h45:=(k5.tk d4).held h4
  refine ⟨_,rfl,d,w,_,2,rfl,d4,by decide,by decide,rfl,_,rfl,?_⟩
  generalize upd H4 d (dlO w (jj w (kQ w y.2 xs []).2 2).2)=H5 at *
  generalize jj w (kQ w y.2 xs []).2 2=e at *
  refine kF (fun z=>?_) (fun z=>?_)
  ·have z2:e.1=0:=by have:=of_decide_eq_true z;injection this
   rw [if_pos z2] at kk
   have lo:=jL w e.2 (m:=(rs.length:Nat)) (by omega)
   have hi:=jM w e.2 (m:=(rs.length:Nat)) (by omega)
   have k6:=Keep.upd d H5 (dlO w (jj w e.2 (rs.length:Nat)).2)
   refine ⟨_,rfl,_,rfl,_,rfl,r,_,rfl,.inl (SqL.of hr5),d,w,e.2,(rs.length:Nat),by rw [List.length_map];rfl,d5,by omega,by omega,r,_,_,_,rfl,rfl,SqL.of (k6.strs d5 hr5),zB lo hi,sm rfl,fun p hp=>?_⟩
   have s7:=ji hp (.tup [V.str (Str.ofString "row"),V.str (q5 rs (jj w e.2 (rs.length:Nat)).1)])
   refine gQ ?_
   exact kk _ _ ⟨.ref p,rfl,k5.trans (k6.trans (Keep.same s7)),s7 _ _ jf,jB jf (je jq (je jq jt))⟩
  ·have z2:¬ e.1=0:=fun h=>z (decide_eq_true (congrArg V.int h))
   rw [if_neg z2] at kk
   exact kk _ _ ⟨u4,rfl,k5,d5,h45⟩
 rintro σ G ⟨v,rfl,k5,d5,hv⟩
 have h15:=(k5.tk d4).held h14
 have h25:=(k5.tk d4).held h24
 generalize bdN w y.2 xs rs=b at *
 refine ⟨sm rfl,fun p hp=>?_⟩
 have s6:=ji hp (.lst [V.str (Str.ofString ">="),V.str (Str.ofString "<=")])
 have e6:upd G p (.lst [V.str (Str.ofString ">="),V.str (Str.ofString "<=")]) p=some (.lst (([Str.ofString ">=",Str.ofString "<="]:List Str).map V.str)):=jf
 generalize upd G p (.lst [V.str (Str.ofString ">="),V.str (Str.ofString "<=")])=H6 at *
 have lo7:=jL w b.2 (m:=2) (by decide)
 have hi7:=jM w b.2 (m:=2) (by decide)
 have k7:=Keep.upd d H6 (dlO w (jj w b.2 2).2)
 have d7:upd H6 d (dlO w (jj w b.2 2).2) d=some (dlO w (jj w b.2 2).2):=jf
 have e7:=k7.strs (s6 _ _ d5) e6
 refine ⟨_,rfl,d,w,b.2,2,rfl,s6 _ _ d5,by decide,by decide,p,_,_,.str (jby (jj w b.2 2).1),rfl,rfl,SqL.of e7,?_,?_⟩
 ·have:(jj w b.2 2).1=0∨(jj w b.2 2).1=1:=by omega
  rcases this with h | h <;> rw [h] <;> rfl
 have k57:=(Keep.same (a:=d) s6).trans k7
 have h17:=(k57.tk d5).held h15
 have h27:=(k57.tk d5).held h25
 have hv7:=(k57.tk d5).held hv
 generalize upd H6 d (dlO w (jj w b.2 2).2)=H7 at *
 generalize jj w b.2 2=g at *
 refine gQ ?_
 refine ⟨_,rfl,_,rfl,_,rfl,_,rfl,_,rfl,_,rfl,d,w,g.2,rfl,d7,fun H8 k8 d8=>⟨sm rfl,fun p hp=>?_⟩⟩
 have s9:=ji hp (.tup [V.str (Str.ofString "each"),u1,u2,V.str (q5 rs y.1),V.str (jby g.1),v,V.int (J9 w g.2).1])
 have t8:=k8.tk d7
 exact q _ _ (k03.trans (k34.trans (k5.trans (k57.trans (k8.trans (Keep.same s9)))))) (s9 _ _ d8) (jB jf (je jq (je ((t8.held h17).mono s9) (je ((t8.held h27).mono s9) (je jq (je jq (je ((t8.held hv7).mono s9) (je jN jt))))))))
end
end LW
namespace L2
open PySem PySem.Spec PyProof.Rows PySem.W PySem.Builtin PySem.Builtin.Str
section
variable {X:Cx}
theorem jdm:MtR X "str.index" (fun x vs H Q=>∃ (z y:Str) (i:Nat) (r:List Nat),x=.str z∧vs=[.str y]∧occurrences z y 0 z.length 1=i :: r∧Q (.int (i:Nat)) H):=by
 intro pins s σ H x xs v us Q I rx rs h
 obtain ⟨z,y,i,r,rfl,rfl,ho,q⟩:=h
 obtain ⟨t,rfl⟩:=rx
 obtain ⟨u,rfl,t',rfl⟩:=qz rs
 exact SC.index ho ⟨.int (i:Nat),H,I.tok _,⟨_,rfl⟩,q⟩
end
end L2
namespace LW
open PySem L2
def wdS (l:List Nat):Str:=⟨l.toArray⟩
theorem zj (l:List Nat):(wdS l).cps.toList=l:=rfl
theorem zi (l:List Nat):(wdS l).length=l.length:=by show l.toArray.size=_;simp
theorem jdY {l m:List Nat} (h:wdS l=wdS m):l=m:=by rw [← zj l,h];rfl
theorem zU (l m:List Nat):wdS l++wdS m=wdS (l++m):=qe (by rw [Str.cps_append,Array.toList_append];rfl)
theorem jeH:∀ ys:List Nat,Txt.join "" (ys.map fun c=>wdS [c])=wdS ys:=by
 intro ys
 have e:Txt.join "" (ys.map fun c=>wdS [c])=("" : Str).join (ys.map fun c=>wdS [c]):=PySem.StrLaws.glued_eq_join _ _
 rw [e]
 clear e
 induction ys with
 | nil=>rfl
 | cons y r ih=>
  cases r with
  | nil=>rfl
  | cons z r=>
   show ((wdS [y]++wdS [])++("" : Str).join ((z :: r).map fun c=>wdS [c]))=_
   rw [ih,zU,zU]
   rfl
def yz:Str:="abcdefghijklmnopqrstuvwxyz"
theorem jdS:yz.cps.toList=(List.range 26).map (·+97):=by decide +kernel
theorem jdT {i:Int} (h0:0≤i) (h1:i < 26):atI yz.cps.toList i=some (i.toNat+97):=by
 have hk:i.toNat < 26:=by omega
 have:=jv (xs:=yz.cps.toList) (j:=i.toNat) (v:=i.toNat+97) (by rw [jdS,List.getElem?_map,List.getElem?_range hk];rfl)
 rw [show ((i.toNat:Nat):Int)=i by omega] at this
 exact this
theorem jgl {i:Nat} (h:i < 26):Builtin.Str.occurrences yz (wdS [i+97]) 0 yz.length 1=[i]:=by
 have:∀ i < 26,Builtin.Str.occurrences yz (wdS [i+97]) 0 yz.length 1=[i]:=by decide +kernel
 exact this i h
def NmW (z:Str):Prop:=∃ i r,z=wdS ((i+97) :: r)∧i < 26∧r.length≤7
def ky (w:Int) (n:Dl):Nat→List Nat×Dl
 | 0=>([],n)
 | i+1=>
  let p:=ky w n i
  let d:=jj w p.2 26
  (p.1++[d.1.toNat+97],d.2)
theorem yb (w:Int) (n:Dl):∀ i,(ky w n i).1.length=i
 | 0=>rfl
 | i+1=>by show (_++[_]).length=_;rw [List.length_append,yb w n i];rfl
theorem Y9 (w:Int) (n:Dl) (i:Nat) (hi:i≤7):NmW (wdS (ky w n (i+1)).1):=by
 have:∀ i,∃ k r,(ky w n (i+1)).1=(k+97) :: r∧k < 26:=by
  intro i
  induction i with
  | zero=>
   refine ⟨(jj w n 26).1.toNat,[],rfl,?_⟩
   have:=jM w n (m:=26) (by decide)
   have:=jL w n (m:=26) (by decide)
   omega
  | succ i ih=>
   obtain ⟨k,r,e,h⟩:=ih
   exact ⟨k,r++[_],by show (ky w n (i+1)).1++[_]=_;rw [e];rfl,h⟩
 obtain ⟨k,r,e,h⟩:=this i
 have hl:=yb w n (i+1)
 rw [e] at hl
 have:r.length+1=i+1:=hl
 exact ⟨k,r,by rw [e],h,by omega⟩
def ch0 (z:Str):Nat:=z.cps.toList.getD 0 0
def zf (w:Int) (n:Dl):Str×Dl:=
 let a:=jj w n 8
 let b:=ky w a.2 (1+a.1).toNat
 (wdS b.1,b.2)
def chg (last z:Str) (i:Int):Str:=zb last none (some i)++wdS [ch0 z]++zb last (some (i+1)) none
def ze (w:Int) (n:Dl) (last z:Str):Str×Dl:=
 let a:=jj w n 3
 if a.1=0∧1 < last.length then
  let b:=jj w a.2 ((last.length:Nat):Int)
  (chg last z b.1,b.2)
 else (z,a.2)
def YG:List Str:=["row","is","at","least","set","put","know","lose","proc","pick"]
def yV (w:Int) (n:Dl) (z:Str):Str×Dl:=
 let a:=jj w n 6
 if a.1=0 then
  let b:=jj w a.2 10
  (q5 YG b.1,b.2)
 else (z,a.2)
def jeV (z:Str):Str:=wdS [(ch0 z - 97+1) % 26+97]++zb z (some 1) none
def zh (tk:List Str):Nat→Str→Str
 | 0,z=>z
 | k+1,z=>if z∈tk then zh tk k (jeV z) else z
def j4 (tk:List Str):Str:=tk.getLastD ""
def zD (w:Int) (n:Dl) (tk:List Str):Str×Dl:=
 let a:=zf w n
 let b:=ze w a.2 (j4 tk) a.1
 let c:=yV w b.2 b.1
 (zh tk 26 c.1,c.2)
theorem nm1 (w:Int) (n:Dl):NmW (zf w n).1:=by
 unfold zf
 have h0:=jL w n (m:=8) (by decide)
 have h1:=jM w n (m:=8) (by decide)
 show NmW (wdS (ky w (jj w n 8).2 (1+(jj w n 8).1).toNat).1)
 rw [show (1+(jj w n 8).1).toNat=(jj w n 8).1.toNat+1 by omega]
 exact Y9 _ _ _ (by omega)
theorem jah (c:Nat) (r:List Nat):ch0 (wdS (c :: r))=c:=rfl
theorem jgX (c:Nat) (r:List Nat):zb (wdS (c :: r)) (some 1) none=wdS r:=by
 refine qe ?_
 rw [kZ,HT.sIx_none,show (some (1:Int))=some ((1:Nat):Int) from rfl,HT.sIx_nat,zi,zj]
 rw [show min 1 (c :: r).length=1 by simp only [List.length_cons];omega,List.drop_succ_cons,List.drop_zero,zj]
 exact List.take_of_length_le (by simp)
theorem jdK (c d:Nat) (r s:List Nat) (k:Nat) (hk:k < (c :: r).length):chg (wdS (c :: r)) (wdS (d :: s)) (k:Nat)=wdS ((c :: r).take k++d :: (c :: r).drop (k+1)):=by
 unfold chg
 rw [jah]
 have e1:zb (wdS (c :: r)) none (some ((k:Nat):Int))=wdS ((c :: r).take k):=by
  refine qe ?_
  rw [kZ,HT.sIx_none,HT.sIx_nat,zi,zj,zj,List.drop_zero,Nat.sub_zero,Nat.min_eq_left (by omega)]
 have e2:zb (wdS (c :: r)) (some (((k:Nat):Int)+1)) none=wdS ((c :: r).drop (k+1)):=by
  refine qe ?_
  rw [kZ,HT.sIx_none,show ((k:Nat):Int)+1=((k+1:Nat):Int) from rfl,HT.sIx_nat,zi,zj,zj,Nat.min_eq_left (by omega)]
  exact List.take_of_length_le (by rw [List.length_drop];omega)
 rw [e1,e2,zU,zU,List.append_assoc]
 rfl
theorem nm2 {w:Int} {n:Dl} {last z:Str} (hl:NmW last) (hz:NmW z):NmW (ze w n last z).1:=by
 unfold ze
 dsimp only
 split
 ·rename_i c
  obtain ⟨i,r,rfl,hi,hr⟩:=hl
  obtain ⟨j,s,rfl,hj,hs⟩:=hz
  have hp:(0:Int) < ((wdS ((i+97) :: r)).length:Nat):=by have:=c.2;omega
  have h0:=jL w (jj w n 3).2 hp
  have h1:=jM w (jj w n 3).2 hp
  generalize (jj w (jj w n 3).2 (((wdS ((i+97) :: r)).length:Nat):Int)).1=k at h0 h1
  show NmW (chg _ _ k)
  obtain ⟨k,rfl⟩:∃ m:Nat,k=(m:Nat):=⟨k.toNat,by omega⟩
  rw [zi] at h1
  rw [jdK _ _ _ _ _ (by omega)]
  cases k with
  | zero=>exact ⟨j,r,rfl,hj,hr⟩
  | succ k=>
   refine ⟨i,r.take k++(j+97) :: r.drop (k+1),rfl,hi,?_⟩
   simp only [List.length_cons] at h1
   rw [List.length_append,List.length_cons,List.length_take,List.length_drop]
   omega
 ·exact hz
theorem jfm {z:Str} (h:(match z.cps.toList with | c :: r=>decide (97≤c∧c < 123∧r.length≤7) | []=>false)=true):NmW z:=by
 obtain ⟨⟨l⟩⟩:=z
 cases l with
 | nil=>cases h
 | cons c r=>
  have:=of_decide_eq_true h
  refine ⟨c - 97,r,?_,by omega,this.2.2⟩
  rw [Nat.sub_add_cancel this.1]
  rfl
theorem nm3 {w:Int} {n:Dl} {z:Str} (hz:NmW z):NmW (yV w n z).1:=by
 unfold yV
 dsimp only
 split
 ·have h:=zL (xs:=YG) (jL w (jj w n 6).2 (m:=10) (by decide)) (jM w (jj w n 6).2 (m:=10) (by decide))
  have all:∀ x∈YG,(match x.cps.toList with | c :: r=>decide (97≤c∧c < 123∧r.length≤7) | []=>false)=true:=by decide +kernel
  exact jfm (all _ h)
 ·exact hz
theorem jdj:∀ x∈kL,NmW x:=fun x hx=>jfm ((by decide +kernel:∀ x∈kL,(match x.cps.toList with | c :: r=>decide (97≤c∧c < 123∧r.length≤7) | []=>false)=true) x hx)
theorem jbr {i:Nat} (hi:i < 26) (r:List Nat):jeV (wdS ((i+97) :: r))=wdS (((i+1) % 26+97) :: r):=by
 unfold jeV
 rw [jah,jgX,zU,Nat.add_sub_cancel]
 rfl
theorem KO {tk:List Str} {z:Str} (h:z ∉ tk):∀ k,zh tk k z=z
 | 0=>rfl
 | k+1=>by unfold zh;rw [if_neg h]
theorem Zg {tk:List Str} {z:Str} (h:z∈tk) (k:Nat):zh tk (k+1) z=zh tk k (jeV z):=by rw [zh,if_pos h]
theorem Ky {tk:List Str} {i:Nat} {r:List Nat} {m:Nat} (hm:m≤26) (h:∀ k < m,wdS (((i+k) % 26+97) :: r)∈tk):m≤tk.length:=by
 have nd:((List.range m).map fun k=>wdS (((i+k) % 26+97) :: r)).Nodup:=by
  refine List.pairwise_map.mpr ((List.nodup_range).imp_of_mem ?_)
  intro a b ha hb hab e
  have ha:=List.mem_range.mp ha
  have hb:=List.mem_range.mp hb
  have:=(List.cons.inj (jdY e)).1
  omega
 have sub:∀ x∈((List.range m).map fun k=>wdS (((i+k) % 26+97) :: r)),x∈tk:=fun x hx=>by
  obtain ⟨k,hk,rfl⟩:=List.mem_map.mp hx
  exact h k (List.mem_range.mp hk)
 have:=jdk nd sub
 rw [List.length_map,List.length_range] at this
 exact this
theorem jdv {tk:List Str} (ht:tk.length≤25) {i:Nat} {r:List Nat} (hr:r.length≤7):∀ (k m:Nat),m+k=26→(∀ j < m,wdS (((i+j) % 26+97) :: r)∈tk)→NmW (zh tk k (wdS (((i+m) % 26+97) :: r)))∧zh tk k (wdS (((i+m) % 26+97) :: r)) ∉ tk:=by
 intro k
 induction k with
 | zero=>
  intro m hm h
  have:=Ky (m:=m) (by omega) h
  omega
 | succ k ih=>
  intro m hm h
  by_cases hz:wdS (((i+m) % 26+97) :: r)∈tk
  ·rw [Zg hz,jbr (Nat.mod_lt _ (by decide)),show ((i+m) % 26+1) % 26=(i+(m+1)) % 26 by omega]
   refine ih (m+1) (by omega) (fun j hj=>?_)
   rcases Nat.lt_succ_iff_lt_or_eq.mp hj with hj | rfl
   ·exact h j hj
   ·exact hz
  ·rw [KO hz]
   exact ⟨⟨_,r,rfl,Nat.mod_lt _ (by decide),hr⟩,hz⟩
theorem jdl (w:Int) (n:Dl) {tk:List Str} (hn:tk≠[]) (ht:tk.length≤25) (h:∀ z∈tk,NmW z):NmW (zD w n tk).1∧(zD w n tk).1 ∉ tk:=by
 unfold zD
 dsimp only
 have hl:NmW (j4 tk):=h _ (by unfold j4;rw [List.getLastD_eq_getLast?,List.getLast?_eq_some_getLast hn];exact List.getLast_mem hn)
 have h3:=nm3 (w:=w) (n:=(ze w (zf w n).2 (j4 tk) (zf w n).1).2) (nm2 (w:=w) (n:=(zf w n).2) hl (nm1 w n))
 generalize (yV w (ze w (zf w n).2 (j4 tk) (zf w n).1).2 (ze w (zf w n).2 (j4 tk) (zf w n).1).1).1=z at h3 ⊢
 obtain ⟨i,r,rfl,hi,hr⟩:=h3
 have:=jdv (i:=i) ht hr 26 0 rfl (fun j hj=>absurd hj (Nat.not_lt_zero _))
 rw [show (i+0) % 26=i by omega] at this
 exact this
abbrev YT:Stmt:=top 36
def ZG:Sp:=fun vs H Q _=>∃ (d l:Addr) (w:Int) (n:Dl) (tk:List Str),vs=[.ref d,.ref l]∧H d=some (dlO w n)∧H l=some (.lst (tk.map V.str))∧tk≠[]∧tk.length≤25∧(∀ z∈tk,NmW z)∧∀ H',(∀ b o,b≠d→b≠l→H b=some o→H' b=some o)→H' d=some (dlO w (zD w n tk).2)→H' l=some (.lst ((tk++[(zD w n tk).1]).map V.str))→Q (.str (zD w n tk).1) H'
theorem jbx {c:TT} {tb:TS} {D:Ends} {σ:St} {H:Hp} (Pv:Nat→St→Hp→Prop) (n:Nat) (h0:Pv n σ H)
  (hs:∀ m σ H,Pv m σ H→c σ H fun b H1=>if b=true then tb { D with nx:=fun σ' H'=>∃ m',m' < m∧Pv m' σ' H',ct:=fun σ' H'=>∃ m',m' < m∧Pv m' σ' H',bk:=D.nx } σ H1 else D.nx σ H1)
  (mono:∀ σ H Q Q',(∀ b H1,Q b H1→Q' b H1)→c σ H Q→c σ H Q'):ZD c tb D σ H:=by
 refine ⟨Pv,⟨n,h0⟩,fun m σ H p=>mono σ H _ _ (fun b H1 q=>?_) (hs m σ H p)⟩
 cases b with
 | true=>exact ⟨_,fun σ' H' h=>h,q⟩
 | false=>exact q
theorem jeZ {tk:List Str} (h:tk≠[]):atI (tk.map V.str) (-1)=some (.str (j4 tk)):=by
 have hp:0 < tk.length:=List.length_pos_iff.mpr h
 have e:=List.getLast?_eq_some_getLast h
 rw [List.getLast?_eq_getElem?] at e
 unfold atI ixN j4
 rw [if_neg (by decide),if_pos (by rw [List.length_map];omega),List.getLastD_eq_getLast?,List.getLast?_eq_getElem?,e]
 show (tk.map V.str)[_]?=_
 rw [List.getElem?_map,show (-1+((tk.map V.str).length:Int)).toNat=tk.length - 1 by rw [List.length_map];omega,e]
 rfl
theorem ZV {z:Str} (h:NmW z):z.length≤8:=by
 obtain ⟨i,r,rfl,-,h⟩:=h
 rw [zi,List.length_cons]
 omega
section
variable {P:Program} {w:World} {K:W.Frag} {mg:Str→Option Value} {base:Heap}
theorem jes {f:Addr} {fd:FuncData} (F:Fun K "_law_name" "_law_name" YT f fd) (B:Free0 mg) (F_draw:Fn P w K mg base 1 "_law_draw" ["_law_deal_here","_law_many_here"] yo):FnOk P w K mg base CX0 2 f fd ["_law_deal_here","_law_taken_here"] ZG:=by
 have sc:FnScope ["_law_deal_here","_law_taken_here","_law_letters","_law_word","_law_at"] ["_law_deal_here","_law_taken_here"] (jk YT):=fQ
 refine F.okZ sc (fun vs H Q E h=>?_) (fun cdv A outer s H vs Q E hr h=>?_)
 ·obtain ⟨d,l,w,n,tk,rfl,_⟩:=h
  rfl
 obtain ⟨d,l,w,n,tk,rfl,hd,hl,hne,ht,hnm,q⟩:=h
 have hu:=jfr hr
 refine ⟨_,(jd (ju (i:=2) sc.nd rfl oQ jc)
   (jd (ju (i:=3) sc.nd rfl oQ (kK PySem.F.plainAttrs_str PySem.F.slot_str_join PySem.F.type_str_join jeD jc (ja (YE ["_law_k"] [0,2] rfl (JP (sc:=jk YT) (N:=["_law_deal_here","_law_taken_here","_law_letters","_law_word","_law_at"]) rfl rfl (by decide +kernel)) (yl (by rfl) B.range_ (ja (jr zu jg (jp F_draw hr (ja (zpv 0) (ja jg jb)))) jb)) (fun s H ex=>⟨(jn (i:=0) (show List.Nodup (["_law_k","_law_deal_here","_law_letters"]:List Str) by decide +kernel) rfl oQ),JR,(jz Yo (zpv 2) (jp F_draw hr (ja (zpv 1) (ja jg jb))) (fun _ _=>rfl))⟩)) jb)))
   (jd (jH (yB (jw kr (jp F_draw hr (ja (zpv 0) (ja jg jb))) jg (jE _)) (yA (jw KJ (kh qx (by rfl) B.len_ kj (ja (jz jV (zpv 1) (ym yn jg) (fun _ _=>rfl)) jb)) jg (jE _)))).pt (jd (ju (i:=4) sc.nd rfl oQ (jp F_draw hr (ja (zpv 0) (ja (kh qx (by rfl) B.len_ kj (ja (jz jV (zpv 1) (ym yn jg) (fun _ _=>rfl)) jb)) jb))))
   (jh (ju (i:=3) sc.nd rfl oQ (jr jy (jr jy (kz Jd (jz jV (zpv 1) (ym yn jg) (fun _ _=>rfl)) qd (kD (zpv 4))) (jz Yo (zpv 3) jg (fun _ _=>rfl))) (kz Jd (jz jV (zpv 1) (ym yn jg) (fun _ _=>rfl)) (kD (jr zu (zpv 4) jg)) qd))))) js)
   (jd (jH (jw kr (jp F_draw hr (ja (zpv 0) (ja jg jb))) jg (jE _)) (jh (ju (i:=3) sc.nd rfl oQ (jz jV (kg (ja jc (ja jc (ja jc (ja jc (ja jc (ja jc (ja jc (ja jc (ja jc (ja jc jb))))))))))) (jp F_draw hr (ja (zpv 0) (ja jg jb))) (fun _ _=>rfl)))) js)
   (jd (jbv PassesOwn.never (jw (ZQ (K:=K)) (zpv 3) (zpv 1) rfl) (jh (ju (i:=3) sc.nd rfl oQ (jr jy (jz Yo (zpv 2) (jr q8 (jr zu (kK PySem.F.plainAttrs_str PySem.F.slot_str_index PySem.F.type_str_index jdm (zpv 2) (ja (jz Yo (zpv 3) jg (fun _ _=>rfl)) jb)) jg) jg) (fun _ _=>rfl)) (kz Jd (zpv 3) (kD jg) qd)))))
   (jd (yC (kK PySem.F.plainAttrs_list PySem.F.slot_list_append PySem.F.type_list_append Jh (zpv 1) (ja (zpv 3) jb)))
   (jh (jl (zpv 3))))))))),?_⟩
 try dsimp only [Jw]
 refine jA (σ':=[some (.ref d),some (.ref l),none,none,none]) rfl ?_
 have hab:yz.length≤sizeLine:=by show 26≤sizeLine;rw [sizeLine_eq];decide
 have hld:l≠d:=fun z=>by
  rw [z,hd] at hl
  injection hl with e;injection e with e
  cases tk with
  | nil=>cases e
  | cons x xs=>injection e with e;cases e
 unfold zD zf at q
 dsimp only at q
 have a1:=jL w n (m:=8) (by decide)
 have a2:=jM w n (m:=8) (by decide)
 refine ⟨rfl,_,rfl,d,w,n,8,rfl,hd,by decide,by decide,_,_,rfl,rfl,?_⟩
 have k0:=Keep.upd d H (dlO w (jj w n 8).2)
 have d0:upd H d (dlO w (jj w n 8).2) d=some (dlO w (jj w n 8).2):=jf
 generalize upd H d (dlO w (jj w n 8).2)=H0 at *
 generalize jj w n 8=x at *
 obtain ⟨x,n1⟩:=x
 dsimp only at q a1 a2 d0 ⊢
 refine ⟨_,rfl,(by omega),(by omega),fun p hp=>?_⟩
 have npd:p≠d:=fun z=>by rw [z,d0] at hp;cases hp
 let Pv:Nat→St→Hp→Prop:=fun i σ' G=>∃ u,σ'=[u,some (.ref d),some (.str yz)]∧Keep d H0 G∧G d=some (dlO w (ky w n1 i).2)∧G p=some (.lst (((ky w n1 i).1.map fun c=>wdS [c]).map V.str))
 refine zy Pv ⟨none,rfl,Keep.same (ji hp _),(by rw [jx npd.symm];exact d0),jf⟩ ?_ ?_
 ·rintro i σ' G hi ⟨u,rfl,kG,dG,hGp⟩
  have lo:=jL w (ky w n1 i).2 (m:=26) (by decide)
  have hi2:=jM w (ky w n1 i).2 (m:=26) (by decide)
  have k4:=Keep.upd d G (dlO w (jj w (ky w n1 i).2 26).2)
  have al:=yb w n1 i
  unfold kW jbA
  refine kE ?_
  refine ⟨_,rfl,_,rfl,d,w,_,26,rfl,dG,by decide,by decide,yz,_,_,rfl,rfl,hab,jdT lo hi2,_,k4 _ _ npd hGp,km (by rw [List.length_map,List.length_map];omega),_,rfl,fun c o hc e=>?_,?_,?_⟩
  ·rw [jx (jF e hp)];exact k4 _ _ hc (kG _ _ hc e)
  ·rw [jx npd.symm];exact jf
  ·rw [jf]
   show _=some (HO.lst ((((ky w n1 i).1++[_]).map fun c=>wdS [c]).map V.str))
   rw [List.map_append,List.map_append]
   rfl
 rintro σ' G ⟨u,rfl,kG,dG,hGp⟩
 have al:=yb w n1 (1+x).toNat
 have kH:=k0.trans kG
 have hlG:=kH.strs hd hl
 have hz1:((((ky w n1 (1+x).toNat).1.map fun c=>wdS [c]).map (·.length)).sum+((ky w n1 (1+x).toNat).1.map fun c=>wdS [c]).length * (Str.ofString "").length≤16777216):=by
  have e0:(Str.ofString "").length=0:=rfl
  rw [e0,Nat.mul_zero,Nat.add_zero,List.map_map]
  have:∀ l:List Nat,(l.map ((fun z:Str=>z.length) ∘ fun c=>wdS [c])).sum=l.length:=by
   intro l
   induction l with
   | nil=>rfl
   | cons c l ih=>rw [List.map_cons,List.sum_cons,ih,List.length_cons];show 1+_=_;omega
  rw [this]
  omega
 refine ⟨Str.ofString "",p,_,rfl,rfl,SqL.of hGp,hz1,?_⟩
 rw [show Txt.join (Str.ofString "") ((ky w n1 (1+x).toNat).1.map fun c=>wdS [c])=wdS (ky w n1 (1+x).toNat).1 from jeH _]
 have w1:NmW (wdS (ky w n1 (1+x).toNat).1):=by
  rw [show (1+x).toNat=x.toNat+1 by omega]
  exact Y9 _ _ _ (by omega)
 generalize ky w n1 (1+x).toNat=r1 at *
 obtain ⟨r1,n2⟩:=r1
 dsimp only at q dG w1 ⊢
 generalize wdS r1=z1 at *
 have hlast:atI (tk.map V.str) (-1)=some (.str (j4 tk)):=jeZ hne
 have hll:NmW (j4 tk):=hnm _ (by unfold j4;rw [List.getLastD_eq_getLast?,List.getLast?_eq_some_getLast hne];exact List.getLast_mem hne)
 have hl8:=ZV hll
 have w2:=nm2 (w:=w) (n:=n2) hll w1
 refine gQ ?_
 refine jfH (fun σ G2=>∃ u,σ=[some (.ref d),some (.ref l),some (.str yz),some (.str (ze w n2 (j4 tk) z1).1),u]∧Keep d H G2∧G2 d=some (dlO w (ze w n2 (j4 tk) z1).2)) ?_ (fun kk=>?_)
 rotate_left
 ·unfold ze at kk
  dsimp only at kk
  have k5:=Keep.upd d G (dlO w (jj w n2 3).2)
  have d5:upd G d (dlO w (jj w n2 3).2) d=some (dlO w (jj w n2 3).2):=jf
  refine ⟨_,rfl,d,w,n2,3,rfl,dG,by decide,by decide,rfl,_,rfl,?_⟩
  have hl5:=k5.strs dG hlG
  generalize upd G d (dlO w (jj w n2 3).2)=G5 at *
  generalize jj w n2 3=x3 at *
  obtain ⟨x3,n3⟩:=x3
  dsimp only at kk d5 ⊢
  refine kF (fun c=>?_) (fun c=>?_)
  ·have c':x3=0:=by have:=of_decide_eq_true c;injection this
   refine ⟨_,rfl,_,rfl,l,_,_,_,rfl,rfl,SqL.of hl5,hlast,j4 tk,rfl,jD (by omega),_,_,rfl,rfl,_,rfl,kF (fun c2=>?_) (fun c2=>?_)⟩
   ·have c2':1 < (j4 tk).length:=by have:=of_decide_eq_true c2;omega
    rw [if_pos ⟨c',c2'⟩] at kk
    have lo:=jL w n3 (m:=((j4 tk).length:Nat)) (by omega)
    have hi:=jM w n3 (m:=((j4 tk).length:Nat)) (by omega)
    have k6:=Keep.upd d G5 (dlO w (jj w n3 ((j4 tk).length:Nat)).2)
    have d6:upd G5 d (dlO w (jj w n3 ((j4 tk).length:Nat)).2) d=some (dlO w (jj w n3 ((j4 tk).length:Nat)).2):=jf
    refine ⟨_,rfl,_,rfl,_,rfl,l,_,_,_,rfl,rfl,SqL.of hl5,hlast,j4 tk,rfl,jD (by omega),d,w,n3,((j4 tk).length:Nat),rfl,d5,by omega,by omega,?_⟩
    have hl6:=k6.strs d5 hl5
    generalize upd G5 d (dlO w (jj w n3 ((j4 tk).length:Nat)).2)=G6 at *
    generalize jj w n3 ((j4 tk).length:Nat)=x4 at *
    obtain ⟨x4,n4⟩:=x4
    dsimp only at kk d6 lo hi ⊢
    refine gQ ?_
    obtain ⟨x4,rfl⟩:∃ m:Nat,x4=(m:Nat):=⟨x4.toNat,by omega⟩
    have zl:=ZV w1
    obtain ⟨ci,cr,e1,-,-⟩:=w1
    obtain ⟨li,lr,e2,-,e4⟩:=hll
    have e3:=jdK (li+97) (ci+97) lr cr x4 (by rw [e2,zi] at hi;omega)
    rw [← e2,← e1] at e3
    have c0:atI z1.cps.toList 0=some (ch0 z1):=by rw [e1];exact jv (j:=0) rfl
    have cl1:=yg (j4 tk) none (some (x4:Int))
    have cl2:=yg (j4 tk) (some ((x4:Int)+1)) none
    refine ⟨_,rfl,_,rfl,l,_,_,_,rfl,rfl,SqL.of hl6,hlast,_,rfl,_,rfl,j4 tk,rfl,jD (by omega),_,rfl,z1,0,_,rfl,rfl,jD (by omega),c0,_,_,rfl,rfl,?_,?_⟩
    ·exact jD (by show _+1≤_;omega)
    refine ⟨_,rfl,_,rfl,l,_,_,_,rfl,rfl,SqL.of hl6,hlast,_,rfl,_,_,rfl,rfl,_,rfl,j4 tk,rfl,jD (by omega),_,_,rfl,rfl,jD ?_,?_⟩
    ·rw [Str.length_append]
     show _+1+_≤_
     omega
    refine kk _ _ ⟨_,rfl,kH.trans (k5.trans k6),d6⟩
   ·rw [if_neg (fun h=>c2 (decide_eq_true (by have:=h.2;omega)))] at kk
    exact kk _ _ ⟨_,rfl,kH.trans k5,d5⟩
  ·rw [if_neg (fun h=>c (decide_eq_true (congrArg V.int h.1)))] at kk
   exact kk _ _ ⟨_,rfl,kH.trans k5,d5⟩
 rintro σ G2 ⟨u5,rfl,kG2,dG2⟩
 clear kG dG hlG
 have hl2:=kG2.strs hd hl
 generalize ze w n2 (j4 tk) z1=z2 at *
 obtain ⟨z2,n3⟩:=z2
 dsimp only at q w2 dG2 ⊢
 have w3:=nm3 (w:=w) (n:=n3) w2
 refine jfH (fun σ G3=>σ=[some (.ref d),some (.ref l),some (.str yz),some (.str (yV w n3 z2).1),u5]∧Keep d H G3∧G3 d=some (dlO w (yV w n3 z2).2)) ?_ (fun kk=>?_)
 rotate_left
 ·unfold yV at kk
  dsimp only at kk
  have k5:=Keep.upd d G2 (dlO w (jj w n3 6).2)
  have d5:upd G2 d (dlO w (jj w n3 6).2) d=some (dlO w (jj w n3 6).2):=jf
  refine ⟨_,rfl,d,w,n3,6,rfl,dG2,by decide,by decide,rfl,_,rfl,?_⟩
  generalize upd G2 d (dlO w (jj w n3 6).2)=G5 at *
  generalize jj w n3 6=x3 at *
  obtain ⟨x3,n4⟩:=x3
  dsimp only at kk d5 ⊢
  refine kF (fun c=>?_) (fun c=>?_)
  ·have c':x3=0:=by have:=of_decide_eq_true c;injection this
   rw [if_pos c'] at kk
   refine ⟨sm rfl,fun p2 hp2=>?_⟩
   have s6:=ji hp2 (.lst (YG.map V.str))
   have e6:upd G5 p2 (.lst (YG.map V.str)) p2=some (.lst (YG.map V.str)):=jf
   have lo:=jL w n4 (m:=10) (by decide)
   have hi:=jM w n4 (m:=10) (by decide)
   refine ⟨_,rfl,d,w,n4,10,rfl,s6 _ _ d5,by decide,by decide,p2,_,_,_,rfl,rfl,SqL.of (xs:=YG.map V.str) ?_,zB lo hi,?_⟩
   ·rw [jx (fun z=>by rw [z,d5] at hp2;cases hp2)];exact e6
   refine kk _ _ ⟨rfl,kG2.trans (k5.trans ((Keep.same s6).trans (Keep.upd _ _ _))),jf⟩
  ·rw [if_neg (fun h=>c (decide_eq_true (congrArg V.int h)))] at kk
   exact kk _ _ ⟨rfl,kG2.trans k5,d5⟩
 rintro σ G3 ⟨rfl,kG3,dG3⟩
 clear kG2 dG2 hl2
 have hl3:=kG3.strs hd hl
 generalize yV w n3 z2=z3 at *
 obtain ⟨z3,n4⟩:=z3
 dsimp only at q w3 dG3 ⊢
 obtain ⟨i0,r0,rfl,hi0,hr0⟩:=w3
 refine jbx (fun m σ G=>∃ k,k+m=26∧σ=[some (.ref d),some (.ref l),some (.str yz),some (.str (wdS (((i0+k) % 26+97) :: r0))),u5]∧G=G3∧zh tk 26 (wdS ((i0+97) :: r0))=zh tk m (wdS (((i0+k) % 26+97) :: r0))∧∀ j < k,wdS (((i0+j) % 26+97) :: r0)∈tk) 26 ⟨0,rfl,by rw [show (i0+0) % 26=i0 by omega],rfl,by rw [show (i0+0) % 26=i0 by omega],fun j hj=>absurd hj (Nat.not_lt_zero _)⟩ ?_ ?_
 ·rintro m σ G ⟨k,hk,rfl,rfl,ef,hall⟩
  have few:=Ky (m:=k) (by omega) hall
  obtain ⟨m,rfl⟩:∃ m',m=m'+1:=⟨m - 1,by omega⟩
  refine ⟨_,rfl,_,rfl,l,_,rfl,.inl (SqL.of hl3),rfl,?_,_,rfl,kF (fun c=>?_) (fun c=>?_)⟩
  ·exact Jk _
  ·have hin:wdS (((i0+k) % 26+97) :: r0)∈tk:=of_decide_eq_true ((yX _ _).symm.trans c)
   have hb:(i0+k) % 26 < 26:=Nat.mod_lt _ (by decide)
   rw [Zg hin,jbr hb,show ((i0+k) % 26+1) % 26=(i0+(k+1)) % 26 by omega] at ef
   have zl:(wdS (((i0+k) % 26+97) :: r0)).length≤8:=by rw [zi,List.length_cons];omega
   have hq:(((i0+k) % 26:Nat):Int)+1=(((i0+k) % 26+1:Nat):Int):=rfl
   refine ⟨_,rfl,_,rfl,rfl,_,rfl,_,0,_,rfl,rfl,jD (by omega),jv (j:=0) rfl,yz,_,_,_,rfl,rfl,jgl hb,_,_,rfl,rfl,_,_,rfl,rfl,(by show (0:Int) < _;decide),yz,_,_,rfl,rfl,hab,jdT (by omega) (by omega),?_⟩
   refine ⟨_,rfl,_,rfl,_,rfl,jD (by omega),_,_,rfl,rfl,jD ?_,?_⟩
   ·have:=yg (wdS (((i0+k) % 26+97) :: r0)) (some 1) none
    show 1+_≤_
    omega
   ·refine ⟨m,Nat.lt_succ_self _,k+1,by omega,?_,rfl,ef,fun j hj=>?_⟩
    ·have e9:(wdS [((((i0+k) % 26:Nat):Int)+1) % 26 |>.toNat |> (·+97)]++zb (wdS (((i0+k) % 26+97) :: r0)) (some 1) none)=wdS (((i0+(k+1)) % 26+97) :: r0):=by
      rw [jgX,zU]
      show wdS ((_+97) :: r0)=_
      rw [show (((((i0+k) % 26:Nat):Int)+1) % 26).toNat=(i0+(k+1)) % 26 by omega]
     rw [← e9]
     rfl
    ·rcases Nat.lt_succ_iff_lt_or_eq.mp hj with hj | rfl
     ·exact hall j hj
     ·exact hin
  ·have hout:wdS (((i0+k) % 26+97) :: r0) ∉ tk:=fun z=>c ((yX _ _).trans (decide_eq_true z))
   rw [KO hout] at ef
   rw [ef] at q
   refine ⟨_,rfl,.inl ⟨rfl,_,SqL.of hl3⟩,_,rfl,l,_,_,rfl,rfl,hl3,km (by rw [List.length_map];omega),_,rfl,?_⟩
   refine q _ (fun b o hb hb2 e=>?_) ?_ ?_
   ·rw [jx hb2];exact kG3 _ _ hb e
   ·rw [jx hld.symm];exact dG3
   ·rw [jf,List.map_append];rfl
 ·intro σ H1 Q1 Q2 hm h
  obtain ⟨v1,e1,v2,e2,i,j,e3,e4,e5,e6,k,e7,h⟩:=h
  exact ⟨v1,e1,v2,e2,i,j,e3,e4,e5,e6,k,e7,hm _ _ h⟩
end
end LW
namespace L2
open PySem
open PySem PySem.Spec PyProof.Rows PySem.W
mutual
def D.py:D→PyData
 | .int i=>.int i
 | .str x=>.str x
 | .tup ds=>.tuple (D.pyL ds)
def D.pyL:List D→List PyData
 | []=>[]
 | d :: ds=>D.py d :: D.pyL ds
end
def sgn (d:D):List Nat:=d.py.shown.cps.toList
theorem jaF (i:Int):sgn (.int i)=(toString i).toList.map Char.toNat:=by
 show ((toString i:String):Str).cps.toList=_
 rw [signs_ofString]
end L2
namespace LW
open PySem L2
abbrev zm:Stmt:=top 30
def Ki (i:Int):Str:=Str.ofString (toString i)
theorem jd3 (z:Str):z.length=z.cps.toList.length:=by simp [Str.length]
theorem ja3 {m k:Nat} (hk:0 < k) (h:m < 10 ^ k):m.repr.toList.length≤k:=by
 have:=(Nat.length_toDigits_le_iff (b:=10) (by decide) hk).mpr h
 simpa [Nat.repr] using this
theorem zg {i:Int} (h:i.natAbs < 10 ^ 20):(Ki i).length≤21:=by
 rw [jd3,show (Ki i).cps.toList=(toString i).toList.map Char.toNat from jaF i,List.length_map]
 cases i with
 | ofNat m=>exact Nat.le_trans (ja3 (by decide) (show m < 10 ^ 20 from h)) (by decide)
 | negSucc m=>
  show ("-"++m.succ.repr).toList.length≤21
  have:=ja3 (m:=m.succ) (k:=20) (by decide) h
  rw [String.toList_append,List.length_append]
  show 1+_≤21
  omega
def j0 (z:Str) (c:Int):Str:=if z=Str.ofString "" then Ki c else if 0 < c then z++Str.ofString " + "++Ki c else if c < 0 then z++Str.ofString " - "++Ki (-c) else z
theorem la {x y:Str} {k m:Nat} (hx:x.length≤k) (hy:y.length≤m):(x++y).length≤k+m:=by rw [Str.length_append];omega
theorem log2_lt {n:Nat} (h:n < 10 ^ 20):n.log2 < 100:=by
 rcases Nat.eq_zero_or_pos n with rfl | hp
 ·decide
 ·exact (Nat.log2_lt (by omega)).mpr (Nat.lt_trans h (by decide))
theorem j8 (z:Str):Str.empty++z=z:=qe (by rw [Str.cps_append,Array.toList_append];rfl)
theorem jcE {c:Str} {t:TJ} {σ:St} {H:Hp} {out:Str} {Q:Str→Hp→Prop} {n:Nat} (ho:out.length≤n) (hc:c.length≤100) (hn:n≤800) (h:(out++c).length≤n+100→t σ H (out++c) Q):ja6 (tC (.str c)) t σ H out Q:=⟨c,rfl,jD (Nat.le_trans (la ho hc) (by omega)),h (la ho hc)⟩
theorem jfE {te:TE} {x:Str} {t:TJ} {σ:St} {H:Hp} {out:Str} {Q:Str→Hp→Prop} {n:Nat} (ho:out.length≤n) (hx:x.length≤100) (hn:n≤800) (ht:∀ q:VK,q (.str x) H→te σ H q) (h:(out++x).length≤n+100→t σ H (out++x) Q):ja6 (jgy te) t σ H out Q:=ht _ ⟨x,rfl,jD (Nat.le_trans hx (by decide)),x,rfl,jD (Nat.le_trans (la ho hx) (by omega)),h (la ho hx)⟩
theorem jiE {te:TE} {i:Int} {t:TJ} {σ:St} {H:Hp} {out:Str} {Q:Str→Hp→Prop} {n:Nat} (ho:out.length≤n) (hi:i.natAbs < 10 ^ 20) (hn:n≤800) (ht:∀ q:VK,q (.int i) H→te σ H q) (h:(out++Ki i).length≤n+100→t σ H (out++Ki i) Q):ja6 (jfc te) t σ H out Q:=ht _ ⟨i,rfl,Nat.lt_trans hi (by decide),_,rfl,jD (Nat.le_trans (la ho (Nat.le_trans (zg hi) (by decide:21≤100))) (by omega)),h (la ho (Nat.le_trans (zg hi) (by decide)))⟩
def K5:Sp:=fun vs H Q _=>∃ (z:Str) (c:Int),vs=[.str z,.int c]∧z.length≤100∧c.natAbs < 10 ^ 20∧Q (.str (j0 z c)) H
section
variable {P:Program} {w:World} {K:W.Frag} {mg:Str→Option Value} {base:Heap}
theorem jet {f:Addr} {fd:FuncData} (F:Fun K "with_more" "with_more" zm f fd) (B:Free0 mg):FnOk P w K mg base CX0 1 f fd ["named","c"] K5:=by
 have sc:FnScope ["named","c"] ["named","c"] (jk zm):=fQ
 refine F.okZ sc (fun vs H Q E h=>?_) (fun cdv A outer s H vs Q E hr h=>?_)
 ·obtain ⟨z,c,rfl,_⟩:=h
  rfl
 obtain ⟨z,c,rfl,hz,hc,q⟩:=h
 refine ⟨_,(jd (jH (jw kr (zpv 0) jc (jE _)) (jh (jl (zF zz (by rfl) B.str_ Yz (ja (zpv 1) jb)))) js)
   (jd (jH (jw KJ (zpv 1) jg (jE _)) (jh (jl (kx (jC (ke (zpv 0)) (jC jc (jC (JT (zpv 1)) qD)))))) js)
   (jd (jH (jw Y3 (zpv 1) jg (jE _)) (jh (jl (kx (jC (ke (zpv 0)) (jC jc (jC (JT (ym yn (zpv 1))) qD)))))) js)
   (jh (jl (zpv 0)))))),?_⟩
 refine jA (σ':=[some (.str z),some (.int c)]) rfl ?_
 unfold j0 at q
 refine ⟨_,rfl,rfl,_,rfl,kF (fun d=>?_) (fun d=>?_)⟩
 ·have d':z=Str.ofString "":=by have:=of_decide_eq_true d;injection this
  rw [if_pos d'] at q
  exact ⟨_,rfl,c,rfl,Nat.lt_trans (log2_lt hc) (by decide),q⟩
 rw [if_neg (fun h=>d (decide_eq_true (congrArg V.str h)))] at q
 refine ⟨_,rfl,_,_,rfl,rfl,_,rfl,kF (fun d=>?_) (fun d=>?_)⟩
 ·rw [if_pos (of_decide_eq_true d)] at q
  refine jfE (n:=0) (Nat.le_refl _) hz (by decide) (fun q h=>⟨_,rfl,h⟩) fun h1=>jcE h1 (by decide +kernel) (by decide) fun h2=>jiE h2 hc (by decide) (fun q h=>⟨_,rfl,h⟩) fun h3=>⟨jD (Nat.le_trans h3 (by decide)),?_⟩
  rw [j8]
  exact q
 rw [if_neg (fun h=>d (decide_eq_true h))] at q
 refine ⟨_,rfl,_,_,rfl,rfl,_,rfl,kF (fun d=>?_) (fun d=>?_)⟩
 ·rw [if_pos (of_decide_eq_true d)] at q
  refine jfE (n:=0) (Nat.le_refl _) hz (by decide) (fun q h=>⟨_,rfl,h⟩) fun h1=>jcE h1 (by decide +kernel) (by decide) fun h2=>jiE (i:=-c) h2 (by omega) (by decide) (fun q h=>⟨_,rfl,_,rfl,h⟩) fun h3=>⟨jD (Nat.le_trans h3 (by decide)),?_⟩
  rw [j8]
  exact q
 ·rw [if_neg (fun h=>d (decide_eq_true h))] at q
  exact ⟨_,rfl,q⟩
end
abbrev qL:Stmt:=top 26
abbrev qg:Stmt:=top 28
abbrev qC:Stmt:=top 27
abbrev qS:Stmt:=top 29
def zc:Tm→Str
 | .is x=>if x=Str.ofString "" then Str.ofString "0" else x
 | .at_ r x d=>r++Str.ofString "["++j0 x d++Str.ofString "]"
def Jp (t:Tm) (c:Int):Str:=match t with
 | .is x=>j0 x c
 | .at_ r x d=>j0 (zc (.at_ r x d)) c
def yx (b:Bd) (c:Int):Str:=match b with
 | .is x=>j0 x c
 | .row r=>j0 (r++Str.ofString "[]") c
def tmL:Tm→List D
 | .is x=>[.str "is",.str x]
 | .at_ r x d=>[.str "at",.str r,plD x d]
theorem jaw {H:Hp}:∀ {t:Tm} {v:V},Held H t.toD v→∃ a xs,v=.ref a∧H a=some (.tup xs)∧HeldL H (tmL t) xs
 | .is _,_,h=>j2 h
 | .at_ _ _ _,_,h=>j2 h
def YB:Tm→Prop
 | .is x=>x.length≤8
 | .at_ r x d=>r.length≤8∧x.length≤8∧d.natAbs < 10 ^ 20
def je4:Bd→Prop
 | .is x=>x.length≤8
 | .row r=>r.length≤8
theorem jU {z:Str} {c:Int} {n:Nat} (hz:z.length≤n) (hc:c.natAbs < 10 ^ 20):(j0 z c).length≤n+24:=by
 have h1:=zg hc
 have h2:=zg (i:=-c) (by omega)
 unfold j0
 split
 ·omega
 split
 ·exact Nat.le_trans (la (la hz (show (Str.ofString " + ").length≤3 by decide +kernel)) h1) (by omega)
 split
 ·exact Nat.le_trans (la (la hz (show (Str.ofString " - ").length≤3 by decide +kernel)) h2) (by omega)
 ·omega
theorem qb {t:Tm} (h:YB t):(zc t).length≤45:=by
 cases t with
 | is x=>
  show (if x=Str.ofString "" then Str.ofString "0" else x).length≤45
  split
  ·decide +kernel
  ·exact Nat.le_trans (show x.length≤8 from h) (by decide)
 | at_ r x d=>
  obtain ⟨h1,h2,h3⟩:=h
  exact Nat.le_trans (la (la (la h1 (show (Str.ofString "[").length≤1 by decide +kernel)) (jU h2 h3)) (show (Str.ofString "]").length≤1 by decide +kernel)) (by decide)
def JZ:Sp:=fun vs H Q _=>∃ (v:V) (x:Str) (d:Int),vs=[v]∧Held H (plD x d) v∧x.length≤8∧d.natAbs < 10 ^ 20∧Q (.str (j0 x d)) H
def J1:Sp:=fun vs H Q _=>∃ (v:V) (t:Tm),vs=[v]∧Held H t.toD v∧YB t∧∀ H',Same H H'→Q (.str (zc t)) H'
def jaA:Sp:=fun vs H Q _=>∃ (v:V) (t:Tm) (c:Int),vs=[v,.int c]∧Held H t.toD v∧YB t∧c.natAbs < 10 ^ 20∧∀ H',Same H H'→Q (.str (Jp t c)) H'
def YQ:Sp:=fun vs H Q _=>∃ (v:V) (b:Bd) (c:Int),vs=[v,.int c]∧Held H b.toD v∧je4 b∧c.natAbs < 10 ^ 20∧Q (.str (yx b c)) H
section
variable {P:Program} {w:World} {K:W.Frag} {mg:Str→Option Value} {base:Heap}
theorem jbM {f:Addr} {fd:FuncData} (F:Fun K "place_text" "place_text" qL f fd) (F_with_more:Fn P w K mg base 1 "with_more" ["named","c"] K5):FnOk P w K mg base CX0 2 f fd ["place"] JZ:=by
 have sc:FnScope ["place","x","d"] ["place"] (jk qL):=fQ
 refine F.okZ sc (fun vs H Q E h=>?_) (fun cdv A outer s H vs Q E hr h=>?_)
 ·obtain ⟨v,x,d,rfl,_⟩:=h
  rfl
 obtain ⟨v,x,d,rfl,hv,hx,hd,q⟩:=h
 refine ⟨_,(jd (j1 (zpv 0) (j6 rfl (jm (jn (i:=1) sc.nd rfl oQ) (jm (jn (i:=2) sc.nd rfl oQ) jT))))
   (jh (jl (jp F_with_more hr (ja (zpv 1) (ja (zpv 2) jb)))))),?_⟩
 obtain ⟨a,rfl,ha⟩:=yq hv
 refine jA (σ':=[some (.ref a),none,none]) rfl ?_
 refine ⟨_,rfl,a,_,rfl,SqT.of ha,rfl,_,_,rfl,_,_,rfl,rfl,?_⟩
 refine jA (σ':=[some (.ref a),some (.str x),some (.int d)]) rfl ?_
 exact ⟨_,rfl,_,rfl,x,d,rfl,Nat.le_trans hx (by decide),hd,q⟩
theorem jbZ {f:Addr} {fd:FuncData} (F:Fun K "alone_text" "alone_text" qg f fd) (F_place_text:Fn P w K mg base 2 "place_text" ["place"] JZ):FnOk P w K mg base CX0 3 f fd ["term"] J1:=by
 have sc:FnScope ["term"] ["term"] (jk qg):=fQ
 refine F.okZ sc (fun vs H Q E h=>?_) (fun cdv A outer s H vs Q E hr h=>?_)
 ·obtain ⟨v,t,rfl,_⟩:=h
  rfl
 obtain ⟨v,t,rfl,hv,ht,q⟩:=h
 have hu9:(A.deeper (PyProof.Rows.envOfC "alone_text" (jk qg) s.heap.objs.size f cdv)).units+1+8 < cLine:=by have:=hr.units;omega
 refine ⟨_,(jd (jH (jw (ja1 8 hu9) (zpv 0) (jJ (ja jc (ja jc jb))) (jE _)) (jh (jl jc)) js)
   (jd (jH (jw kr (jz jY (zpv 0) jg (fun _ _=>rfl)) jc (jE _)) (jh (jl (jz jY (zpv 0) jg (fun _ _=>rfl)))) js)
   (jh (jl (kx (jC (ke (jz jY (zpv 0) jg (fun _ _=>rfl))) (jC jc (jC (ke (jp F_place_text hr (ja (jz jY (zpv 0) jg (fun _ _=>rfl)) jb))) (jC jc qD))))))))),?_⟩
 refine jA (σ':=[some v]) rfl ?_
 obtain ⟨a,xs,rfl,ha,hL⟩:=jaw hv
 refine ⟨_,rfl,sm rfl,fun p hp=>?_⟩
 have s1:=ji hp (.tup [V.str (Str.ofString "is"),V.str (Str.ofString "")])
 refine ⟨a,p,_,_,tmL t,[.str "is",.str ""],rfl,rfl,s1 _ _ ha,jf,?_,hL.mono s1,je jq (je jq jt),_,rfl,?_⟩
 ·cases t with
  | is x=>exact Nat.le_of_ble_eq_true rfl
  | at_ r x d=>exact Nat.le_of_ble_eq_true rfl
 generalize upd H p (.tup [V.str (Str.ofString "is"),V.str (Str.ofString "")])=H1 at *
 cases t with
 | is x=>
  obtain ⟨a',e1,ha'⟩:=qB (show Held H (.tup [.str "is",.str x]) (.ref a) from hv)
  cases e1
  have q:∀ H',Same H H'→Q (.str (if x=Str.ofString "" then Str.ofString "0" else x)) H':=q
  refine kF (fun d=>?_) (fun d=>?_)
  ·have d':=of_decide_eq_true d
   injection d' with _ d'
   injection d' with d'
   injection d' with d'
   rw [if_pos d'] at q
   exact q _ s1
  ·rw [if_neg (fun h=>d (decide_eq_true (by rw [h];rfl)))] at q
   refine ⟨_,rfl,a,_,_,_,rfl,rfl,SqT.of (s1 _ _ ha'),jv (j:=0) rfl,rfl,_,rfl,kE ?_⟩
   exact ⟨_,rfl,a,_,_,_,rfl,rfl,SqT.of (s1 _ _ ha'),jv (j:=1) rfl,q _ s1⟩
 | at_ r x d=>
  obtain ⟨a',b,e1,ha',hb⟩:=jdR hv
  cases e1
  obtain ⟨h1,h2,h3⟩:=ht
  refine kF (fun z=>absurd (of_decide_eq_true z) (fun h=>by injection h with h;injection h with h;exact absurd h (by decide))) (fun _=>?_)
  refine ⟨_,rfl,a,_,_,_,rfl,rfl,SqT.of (s1 _ _ ha'),jv (j:=0) rfl,rfl,_,rfl,ku ?_⟩
  unfold YH
  dsimp only
  refine jfE (x:=r) (n:=0) (Nat.le_refl _) (Nat.le_trans h1 (by decide)) (by decide) (fun q h=>⟨_,rfl,a,_,_,_,rfl,rfl,SqT.of (s1 _ _ ha'),jv (j:=1) rfl,h⟩) fun o1=>jcE o1 (by decide +kernel) (by decide) fun o2=>jfE (x:=j0 x d) o2 (Nat.le_trans (jU h2 h3) (by decide)) (by decide) (fun q h=>⟨_,rfl,a,_,_,_,rfl,rfl,SqT.of (s1 _ _ ha'),jv (j:=2) rfl,.ref b,x,d,rfl,jB (s1 _ _ hb) (je jq (je jN jt)),h2,h3,h⟩) fun o3=>jcE o3 (by decide +kernel) (by decide) fun o4=>⟨jD (Nat.le_trans o4 (by decide)),?_⟩
  rw [j8]
  exact q _ s1
theorem jc6 {f:Addr} {fd:FuncData} (F:Fun K "term_text" "term_text" qC f fd) (F_with_more:Fn P w K mg base 1 "with_more" ["named","c"] K5) (F_alone_text:Fn P w K mg base 3 "alone_text" ["term"] J1):FnOk P w K mg base CX0 4 f fd ["term","c"] jaA:=by
 have sc:FnScope ["term","c"] ["term","c"] (jk qC):=fQ
 refine F.okZ sc (fun vs H Q E h=>?_) (fun cdv A outer s H vs Q E hr h=>?_)
 ·obtain ⟨v,t,c,rfl,_⟩:=h
  rfl
 obtain ⟨v,t,c,rfl,hv,ht,hc,q⟩:=h
 have hu9:(A.deeper (PyProof.Rows.envOfC "term_text" (jk qC) s.heap.objs.size f cdv)).units+1+8 < cLine:=by have:=hr.units;omega
 refine ⟨_,(jd (jH (jw (ja1 8 hu9) (zpv 0) (jJ (ja jc (ja jc jb))) (jE _)) (jh (jl (jp F_with_more hr (ja jc (ja (zpv 1) jb))))) js)
   (jh (jl (jp F_with_more hr (ja (jp F_alone_text hr (ja (zpv 0) jb)) (ja (zpv 1) jb)))))),?_⟩
 refine jA (σ':=[some v,some (.int c)]) rfl ?_
 obtain ⟨a,xs,rfl,ha,hL⟩:=jaw hv
 refine ⟨_,rfl,sm rfl,fun p hp=>?_⟩
 have s1:=ji hp (.tup [V.str (Str.ofString "is"),V.str (Str.ofString "")])
 refine ⟨a,p,_,_,tmL t,[.str "is",.str ""],rfl,rfl,s1 _ _ ha,jf,?_,hL.mono s1,je jq (je jq jt),_,rfl,?_⟩
 ·cases t with
  | is x=>exact Nat.le_of_ble_eq_true rfl
  | at_ r x d=>exact Nat.le_of_ble_eq_true rfl
 generalize upd H p (.tup [V.str (Str.ofString "is"),V.str (Str.ofString "")])=H1 at *
 refine kF (fun d=>?_) (fun d=>?_)
 ·have d':=of_decide_eq_true d
  cases t with
  | is x=>
   injection d' with _ d'
   injection d' with d'
   injection d' with d'
   subst d'
   exact ⟨_,rfl,_,c,rfl,by decide +kernel,hc,q _ s1⟩
  | at_ r x d0=>injection d' with d';injection d' with d';exact absurd d' (by decide)
 ·refine ⟨_,rfl,.ref a,t,rfl,hv.mono s1,ht,fun H2 s2=>⟨_,rfl,_,c,rfl,Nat.le_trans (qb ht) (by decide),hc,?_⟩⟩
  have e:j0 (zc t) c=Jp t c:=by
   cases t with
   | is x=>
    show j0 (if x=Str.ofString "" then Str.ofString "0" else x) c=j0 x c
    rw [if_neg (fun h=>d (decide_eq_true (by rw [h];rfl)))]
   | at_ r x d=>rfl
  rw [e]
  exact q _ (s1.trans s2)
theorem jbX {f:Addr} {fd:FuncData} (F:Fun K "bound_text" "bound_text" qS f fd) (F_with_more:Fn P w K mg base 1 "with_more" ["named","c"] K5):FnOk P w K mg base CX0 2 f fd ["b","c"] YQ:=by
 have sc:FnScope ["b","c"] ["b","c"] (jk qS):=fQ
 refine F.okZ sc (fun vs H Q E h=>?_) (fun cdv A outer s H vs Q E hr h=>?_)
 ·obtain ⟨v,b,c,rfl,_⟩:=h
  rfl
 obtain ⟨v,b,c,rfl,hv,hb,hc,q⟩:=h
 refine ⟨_,(jd (jH (jw kr (jz jY (zpv 0) jg (fun _ _=>rfl)) jc (jE _)) (jh (jl (jp F_with_more hr (ja (kx (jC (ke (jz jY (zpv 0) jg (fun _ _=>rfl))) (jC jc qD))) (ja (zpv 1) jb))))) js)
   (jh (jl (jp F_with_more hr (ja (jz jY (zpv 0) jg (fun _ _=>rfl)) (ja (zpv 1) jb)))))),?_⟩
 refine jA (σ':=[some v,some (.int c)]) rfl ?_
 cases b with
 | row r=>
  obtain ⟨a,rfl,ha⟩:=qB (show Held H (.tup [.str "row",.str r]) v from hv)
  have hr8:r.length≤8:=hb
  refine ⟨_,rfl,a,_,_,_,rfl,rfl,SqT.of ha,jv (j:=0) rfl,rfl,_,rfl,kE ?_⟩
  refine jfE (n:=0) (Nat.le_refl _) (Nat.le_trans hr8 (by decide)) (by decide) (fun q h=>⟨_,rfl,a,_,_,_,rfl,rfl,SqT.of ha,jv (j:=1) rfl,h⟩) fun o1=>jcE o1 (by decide +kernel) (by decide) fun o2=>⟨jD (Nat.le_trans o2 (by decide)),_,rfl,_,c,rfl,?_,hc,?_⟩
  ·rw [j8];exact Nat.le_trans (la hr8 (show (Str.ofString "[]").length≤2 by decide +kernel)) (by decide)
  ·rw [j8];exact q
 | is x=>
  obtain ⟨a,rfl,ha⟩:=qB (show Held H (.tup [.str "is",.str x]) v from hv)
  refine ⟨_,rfl,a,_,_,_,rfl,rfl,SqT.of ha,jv (j:=0) rfl,rfl,_,rfl,ku ?_⟩
  exact ⟨_,rfl,a,_,_,_,rfl,rfl,SqT.of ha,jv (j:=1) rfl,_,rfl,x,c,rfl,Nat.le_trans (show x.length≤8 from hb) (by decide),hc,q⟩
end
abbrev qQ:Stmt:=top 25
def qk (x:Str) (d:Int) (y:Str) (e:Int) (r:Str):Str:=j0 x d++Str.ofString " to "++j0 y e++Str.ofString " "++r
def Kp:Cl→Str
 | .least a b c=>zc a++Str.ofString " >= "++Jp b c
 | .rise x d y e r=>Str.ofString "rise "++qk x d y e r
 | .each x d y e r way b c=>Str.ofString "each "++qk x d y e r++Str.ofString " "++way++Str.ofString " "++yx b c
def jcm (x:Str) (d:Int) (y:Str) (e:Int) (r:Str):Prop:=x.length≤8∧d.natAbs < 10 ^ 20∧y.length≤8∧e.natAbs < 10 ^ 20∧r.length≤8
def je3:Cl→Prop
 | .least a b c=>YB a∧YB b∧c.natAbs < 10 ^ 20
 | .rise x d y e r=>jcm x d y e r
 | .each x d y e r way b c=>jcm x d y e r∧way.length≤8∧je4 b∧c.natAbs < 10 ^ 20
theorem zG {t:Tm} {c:Int} (h:YB t) (hc:c.natAbs < 10 ^ 20):(Jp t c).length≤80:=by
 cases t with
 | is x=>exact Nat.le_trans (jU (show x.length≤8 from h) hc) (by decide)
 | at_ r x d=>exact Nat.le_trans (jU (qb (t:=.at_ r x d) h) hc) (by decide)
theorem Jm {b:Bd} {c:Int} (h:je4 b) (hc:c.natAbs < 10 ^ 20):(yx b c).length≤80:=by
 cases b with
 | is x=>exact Nat.le_trans (jU (show x.length≤8 from h) hc) (by decide)
 | row r=>exact Nat.le_trans (jU (la (show r.length≤8 from h) (show (Str.ofString "[]").length≤2 by decide +kernel)) hc) (by decide)
theorem qy {x y r:Str} {d e:Int} (h:jcm x d y e r):(qk x d y e r).length≤100:=by
 obtain ⟨h1,h2,h3,h4,h5⟩:=h
 exact Nat.le_trans (la (la (la (la (jU h1 h2) (show (Str.ofString " to ").length≤4 by decide +kernel)) (jU h3 h4)) (show (Str.ofString " ").length≤1 by decide +kernel)) h5) (by decide)
def YN:Sp:=fun vs H Q _=>∃ (v:V) (C:Cl),vs=[v]∧Held H C.toD v∧je3 C∧∀ H',Same H H'→Q (.str (Kp C)) H'
section
variable {P:Program} {w:World} {K:W.Frag} {mg:Str→Option Value} {base:Heap}
theorem jbU {f:Addr} {fd:FuncData} (F:Fun K "claim_text" "claim_text" qQ f fd) (F_place_text:Fn P w K mg base 2 "place_text" ["place"] JZ) (F_alone_text:Fn P w K mg base 3 "alone_text" ["term"] J1) (F_term_text:Fn P w K mg base 4 "term_text" ["term","c"] jaA) (F_bound_text:Fn P w K mg base 2 "bound_text" ["b","c"] YQ):FnOk P w K mg base CX0 5 f fd ["claim"] YN:=by
 have sc:FnScope ["claim","a","b","c","t","u","r","reach","way"] ["claim"] (jk qQ):=fQ
 refine F.okZ sc (fun vs H Q E h=>?_) (fun cdv A outer s H vs Q E hr h=>?_)
 ·obtain ⟨v,C,rfl,_⟩:=h
  rfl
 obtain ⟨v,C,rfl,hv,hC,q⟩:=h
 refine ⟨_,(jd (jH (jw kr (jz jY (zpv 0) jg (fun _ _=>rfl)) jc (jE _)) (jd (j1 (kz ZH (zpv 0) (kD jg) qd) (j6 rfl (jm (jn (i:=1) sc.nd rfl oQ) (jm (jn (i:=2) sc.nd rfl oQ) (jm (jn (i:=3) sc.nd rfl oQ) jT)))))
   (jh (jl (kx (jC (ke (jp F_alone_text hr (ja (zpv 1) jb))) (jC jc (jC (ke (jp F_term_text hr (ja (zpv 2) (ja (zpv 3) jb)))) qD))))))) js)
   (jd (j1 (kz ZH (zpv 0) (kD jg) (kD jg)) (j6 rfl (jm (jn (i:=4) sc.nd rfl oQ) (jm (jn (i:=5) sc.nd rfl oQ) (jm (jn (i:=6) sc.nd rfl oQ) jT)))))
   (jd (ju (i:=7) sc.nd rfl oQ (kx (jC (ke (jp F_place_text hr (ja (zpv 4) jb))) (jC jc (jC (ke (jp F_place_text hr (ja (zpv 5) jb))) (jC jc (jC (ke (zpv 6)) qD)))))))
   (jd (jH (jw kr (jz jY (zpv 0) jg (fun _ _=>rfl)) jc (jE _)) (jh (jl (kx (jC jc (jC (ke (zpv 7)) qD))))) js)
   (jd (j1 (kz ZH (zpv 0) (kD jg) qd) (j6 rfl (jm (jn (i:=8) sc.nd rfl oQ) (jm (jn (i:=2) sc.nd rfl oQ) (jm (jn (i:=3) sc.nd rfl oQ) jT)))))
   (jh (jl (kx (jC jc (jC (ke (zpv 7)) (jC jc (jC (ke (zpv 8)) (jC jc (jC (ke (jp F_bound_text hr (ja (zpv 2) (ja (zpv 3) jb)))) qD)))))))))))))),?_⟩
 refine jA (σ':=[some v,none,none,none,none,none,none,none,none]) rfl ?_
 cases C with
 | least x y c=>
  obtain ⟨t,vx,vy,rfl,ht,hx,hy⟩:=KN hv
  obtain ⟨h1,h2,h3⟩:=hC
  refine ⟨_,rfl,t,_,_,_,rfl,rfl,SqT.of ht,jv (j:=0) rfl,rfl,_,rfl,kE ?_⟩
  refine ⟨_,rfl,_,rfl,t,_,rfl,SqT.of ht,(fun h=>absurd h.1 (by show ¬ (HT.sIx 4 0 (some 1)=0);decide)),fun p hp=>?_⟩
  have s1:=ji hp (.tup (cutV [.str "least",vx,vy,.int c] (some 1) none))
  have e1:upd H p (.tup (cutV [.str "least",vx,vy,.int c] (some 1) none)) p=some (.tup [vx,vy,.int c]):=jf
  generalize upd H p (.tup (cutV [.str "least",vx,vy,.int c] (some 1) none))=H1 at *
  refine ⟨p,_,rfl,SqT.of e1,rfl,_,_,rfl,_,_,rfl,_,_,rfl,rfl,?_⟩
  refine jA (σ':=[some (.ref t),some vx,some vy,some (.int c),none,none,none,none,none]) rfl ?_
  refine ⟨_,rfl,vx,x,rfl,hx.mono s1,h1,fun H2 s2=>⟨_,rfl,jD (Nat.le_trans (qb h1) (by decide)),_,rfl,jD (by rw [j8];exact Nat.le_trans (qb h1) (by decide)),?_⟩⟩
  rw [j8]
  refine jcE (n:=45) (qb h1) (by decide +kernel) (by decide) fun o1=>?_
  refine ⟨_,rfl,_,rfl,vy,y,c,rfl,hy.mono (s1.trans s2),h2,h3,fun H3 s3=>⟨_,rfl,jD (Nat.le_trans (zG h2 h3) (by decide)),_,rfl,jD (Nat.le_trans (la o1 (zG h2 h3)) (by decide)),jD (Nat.le_trans (la o1 (zG h2 h3)) (by decide)),?_⟩⟩
  exact q _ (s1.trans (s2.trans s3))
 | rise x d y e r=>
  obtain ⟨t,a,b',rfl,ht,ha,hb⟩:=YV hv
  obtain ⟨r1,r2,r3,r4,r5⟩:=hC
  have hRe:jcm x d y e r:=⟨r1,r2,r3,r4,r5⟩
  refine ⟨_,rfl,t,_,_,_,rfl,rfl,SqT.of ht,jv (j:=0) rfl,rfl,_,rfl,ku ?_⟩
  refine ⟨_,rfl,_,rfl,_,rfl,t,_,rfl,SqT.of ht,(fun h=>absurd h.1 (by show ¬ (HT.sIx 4 0 (some 1)=0);decide)),fun p hp=>?_⟩
  have s1:=ji hp (.tup (cutV [.str "rise",.ref a,.ref b',.str r] (some 1) (some 4)))
  have e1:upd H p (.tup (cutV [.str "rise",.ref a,.ref b',.str r] (some 1) (some 4))) p=some (.tup [.ref a,.ref b',.str r]):=jf
  generalize upd H p (.tup (cutV [.str "rise",.ref a,.ref b',.str r] (some 1) (some 4)))=H1 at *
  refine ⟨p,_,rfl,SqT.of e1,rfl,_,_,rfl,_,_,rfl,_,_,rfl,rfl,?_⟩
  refine jA (σ':=[some (.ref t),none,none,none,some (.ref a),some (.ref b'),some (.str r),none,none]) rfl ?_
  have ha1:Held H1 (plD x d) (.ref a):=jB (s1 _ _ ha) (je jq (je jN jt))
  have hb1:Held H1 (plD y e) (.ref b'):=jB (s1 _ _ hb) (je jq (je jN jt))
  dsimp only
  refine jfE (x:=j0 x d) (n:=0) (Nat.le_refl _) (Nat.le_trans (jU r1 r2) (by decide)) (by decide) (fun q h=>⟨_,rfl,.ref a,x,d,rfl,ha1,r1,r2,h⟩) fun o1=>jcE o1 (by decide +kernel) (by decide) fun o2=>jfE (x:=j0 y e) o2 (Nat.le_trans (jU r3 r4) (by decide)) (by decide) (fun q h=>⟨_,rfl,.ref b',y,e,rfl,hb1,r3,r4,h⟩) fun o3=>jcE o3 (by decide +kernel) (by decide) fun o4=>jfE (x:=r) o4 (Nat.le_trans r5 (by decide)) (by decide) (fun q h=>⟨_,rfl,h⟩) fun o5=>⟨jD (Nat.le_trans o5 (by decide)),?_⟩
  rw [j8]
  refine jA (σ':=[some (.ref t),none,none,none,some (.ref a),some (.ref b'),some (.str r),some (.str (qk x d y e r)),none]) rfl ?_
  refine ⟨_,rfl,t,_,_,_,rfl,rfl,SqT.of (s1 _ _ ht),jv (j:=0) rfl,rfl,_,rfl,kE ?_⟩
  refine jcE (n:=0) (Nat.le_refl _) (by decide +kernel) (by decide) fun o1=>jfE (x:=qk x d y e r) o1 (qy hRe) (by decide) (fun q h=>⟨_,rfl,h⟩) fun o2=>⟨jD (Nat.le_trans o2 (by decide)),?_⟩
  rw [j8]
  exact q _ s1
 | each x d y e r way b c=>
  obtain ⟨t,a,b',vb,rfl,ht,ha,hb,hbd0⟩:=Zm hv
  have hbd:Held H b.toD (.ref vb):=by cases b <;> exact jB hbd0 (je jq (je jq jt))
  obtain ⟨⟨r1,r2,r3,r4,r5⟩,hw,hB,hc⟩:=hC
  have hRe:jcm x d y e r:=⟨r1,r2,r3,r4,r5⟩
  refine ⟨_,rfl,t,_,_,_,rfl,rfl,SqT.of ht,jv (j:=0) rfl,rfl,_,rfl,ku ?_⟩
  refine ⟨_,rfl,_,rfl,_,rfl,t,_,rfl,SqT.of ht,(fun h=>absurd h.1 (by show ¬ (HT.sIx 7 0 (some 1)=0);decide)),fun p hp=>?_⟩
  have s1:=ji hp (.tup (cutV [.str "each",.ref a,.ref b',.str r,.str way,.ref vb,.int c] (some 1) (some 4)))
  have e1:upd H p (.tup (cutV [.str "each",.ref a,.ref b',.str r,.str way,.ref vb,.int c] (some 1) (some 4))) p=some (.tup [.ref a,.ref b',.str r]):=jf
  generalize upd H p (.tup (cutV [.str "each",.ref a,.ref b',.str r,.str way,.ref vb,.int c] (some 1) (some 4)))=H1 at *
  refine ⟨p,_,rfl,SqT.of e1,rfl,_,_,rfl,_,_,rfl,_,_,rfl,rfl,?_⟩
  refine jA (σ':=[some (.ref t),none,none,none,some (.ref a),some (.ref b'),some (.str r),none,none]) rfl ?_
  have ha1:Held H1 (plD x d) (.ref a):=jB (s1 _ _ ha) (je jq (je jN jt))
  have hb1:Held H1 (plD y e) (.ref b'):=jB (s1 _ _ hb) (je jq (je jN jt))
  dsimp only
  refine jfE (x:=j0 x d) (n:=0) (Nat.le_refl _) (Nat.le_trans (jU r1 r2) (by decide)) (by decide) (fun q h=>⟨_,rfl,.ref a,x,d,rfl,ha1,r1,r2,h⟩) fun o1=>jcE o1 (by decide +kernel) (by decide) fun o2=>jfE (x:=j0 y e) o2 (Nat.le_trans (jU r3 r4) (by decide)) (by decide) (fun q h=>⟨_,rfl,.ref b',y,e,rfl,hb1,r3,r4,h⟩) fun o3=>jcE o3 (by decide +kernel) (by decide) fun o4=>jfE (x:=r) o4 (Nat.le_trans r5 (by decide)) (by decide) (fun q h=>⟨_,rfl,h⟩) fun o5=>⟨jD (Nat.le_trans o5 (by decide)),?_⟩
  rw [j8]
  refine jA (σ':=[some (.ref t),none,none,none,some (.ref a),some (.ref b'),some (.str r),some (.str (qk x d y e r)),none]) rfl ?_
  refine ⟨_,rfl,t,_,_,_,rfl,rfl,SqT.of (s1 _ _ ht),jv (j:=0) rfl,rfl,_,rfl,ku ?_⟩
  refine ⟨_,rfl,_,rfl,t,_,rfl,SqT.of (s1 _ _ ht),(fun h=>absurd h.1 (by show ¬ (HT.sIx 7 0 (some 4)=0);decide)),fun p2 hp2=>?_⟩
  have s2:=ji hp2 (.tup (cutV [.str "each",.ref a,.ref b',.str r,.str way,.ref vb,.int c] (some 4) none))
  have e2:upd H1 p2 (.tup (cutV [.str "each",.ref a,.ref b',.str r,.str way,.ref vb,.int c] (some 4) none)) p2=some (.tup [.str way,.ref vb,.int c]):=jf
  generalize upd H1 p2 (.tup (cutV [.str "each",.ref a,.ref b',.str r,.str way,.ref vb,.int c] (some 4) none))=H2 at *
  refine ⟨p2,_,rfl,SqT.of e2,rfl,_,_,rfl,_,_,rfl,_,_,rfl,rfl,?_⟩
  refine jA (σ':=[some (.ref t),none,some (.ref vb),some (.int c),some (.ref a),some (.ref b'),some (.str r),some (.str (qk x d y e r)),some (.str way)]) rfl ?_
  have s12:=s1.trans s2
  refine jcE (n:=0) (Nat.le_refl _) (by decide +kernel) (by decide) fun o1=>jfE (x:=qk x d y e r) o1 (qy hRe) (by decide) (fun q h=>⟨_,rfl,h⟩) fun o2=>jcE o2 (by decide +kernel) (by decide) fun o3=>jfE (x:=way) o3 (Nat.le_trans hw (by decide)) (by decide) (fun q h=>⟨_,rfl,h⟩) fun o4=>jcE o4 (by decide +kernel) (by decide) fun o5=>jfE (x:=yx b c) o5 (Nat.le_trans (Jm hB hc) (by decide)) (by decide) (fun q h=>⟨_,rfl,_,rfl,.ref vb,b,c,rfl,hbd.mono s12,hB,hc,h⟩) fun o6=>⟨jD (Nat.le_trans o6 (by decide)),?_⟩
  rw [j8]
  exact q _ s12
end
abbrev jaI:Stmt:=top 43
abbrev JA:Stmt:=top 44
def lmT (d:Int):Str:=if d=0 then Str.ofString "" else (if d < 0 then Str.ofString " - " else Str.ofString " + ")++Ki (Kr d)
theorem jck (z:Str):z++Str.ofString "" = z:=qe (by rw [Str.cps_append,Array.toList_append];exact List.append_nil _)
theorem KZ (x y z:Str):x++y++z=x++(y++z):=qe (by simp only [Str.cps_append,Array.toList_append,List.append_assoc])
theorem Yl {x:Str} (h:¬ x=Str.ofString "") (d:Int):x++lmT d=j0 x d:=by
 unfold lmT j0 Kr
 rw [if_neg h]
 by_cases h0:d=0
 ·rw [if_pos h0,if_neg (by omega),if_neg (by omega),jck]
 rw [if_neg h0]
 by_cases h1:d < 0
 ·rw [if_pos h1,if_pos h1,if_neg (by omega),if_pos h1,KZ]
 ·rw [if_neg h1,if_neg h1,if_pos (by omega),KZ]
theorem jan {d:Int} (h:d.natAbs < 10 ^ 20):(Kr d).natAbs < 10 ^ 20:=by unfold Kr;split <;> omega
theorem Z3 {d:Int} (h:d.natAbs < 10 ^ 20):(lmT d).length≤24:=by
 unfold lmT
 split
 ·decide +kernel
 ·refine Nat.le_trans (la (k:=3) ?_ (zg (jan h))) (by decide)
  split <;> decide +kernel
def jfC:Sp:=fun vs H Q _=>∃ (d:Int),vs=[.int d]∧d.natAbs < 10 ^ 20∧∀ H',Same H H'→Q (.str (lmT d)) H'
def JY:Sp:=fun vs H Q _=>∃ (v:V) (x:Str) (d:Int),vs=[v]∧Held H (plD x d) v∧x.length≤8∧d.natAbs < 10 ^ 20∧∀ H',Same H H'→Q (.str (j0 x d)) H'
section
variable {P:Program} {w:World} {K:W.Frag} {mg:Str→Option Value} {base:Heap}
theorem jgO {f:Addr} {fd:FuncData} (F:Fun K "_law_more" "_law_more" jaI f fd) (B:Free0 mg):FnOk P w K mg base CX0 1 f fd ["_law_more_here"] jfC:=by
 have sc:FnScope ["_law_more_here"] ["_law_more_here"] (jk jaI):=fQ
 refine F.okZ sc (fun vs H Q E h=>?_) (fun cdv A outer s H vs Q E hr h=>?_)
 ·obtain ⟨d,rfl,_⟩:=h
  rfl
 obtain ⟨d,rfl,hd,q⟩:=h
 refine ⟨_,(jd (jH (jw kr (zpv 0) jg (jE _)) (jh (jl jc)) js)
   (jh (jl (jr jy (jz jV (kg (ja jc (ja jc jb))) (zF jci (by rfl) B.int_ yw (ja (zE Y3 (zpv 0) jg (jE _)) jb)) (fun _ _=>rfl)) (zF zz (by rfl) B.str_ Yz (ja (kh Kq (by rfl) B.abs_ jaj (ja (zpv 0) jb)) jb)))))),?_⟩
 refine jA (σ':=[some (.int d)]) rfl ?_
 unfold lmT at q
 refine ⟨_,rfl,rfl,_,rfl,kF (fun z=>?_) (fun z=>?_)⟩
 ·have z':d=0:=by have:=of_decide_eq_true z;injection this
  rw [if_pos z'] at q
  exact q _ (fun _ _ e=>e)
 ·rw [if_neg (fun h=>z (decide_eq_true (congrArg V.int h)))] at q
  refine ⟨sm rfl,fun p hp=>⟨_,rfl,_,_,rfl,rfl,.inr ⟨_,rfl,p,_,_,.str (if d < 0 then Str.ofString " - " else Str.ofString " + "),rfl,rfl,SqL.of jf,?_,?_⟩⟩⟩
  ·by_cases h:d < 0
   ·rw [decide_eq_true h,if_pos rfl,if_pos h];rfl
   ·rw [decide_eq_false h,if_neg Bool.false_ne_true,if_neg h];rfl
  ·refine ⟨_,rfl,_,rfl,_,rfl,Nat.lt_trans (log2_lt (jan hd)) (by decide),_,_,rfl,rfl,jD ?_,q _ (ji hp _)⟩
   have:=zg (jan hd)
   refine Nat.le_trans (Nat.add_le_add (show _≤3 by split <;> decide +kernel) this) (by decide)
theorem jbL {f:Addr} {fd:FuncData} (F:Fun K "_law_place_text" "_law_place_text" JA f fd) (B:Free0 mg) (F_more:Fn P w K mg base 1 "_law_more" ["_law_more_here"] jfC):FnOk P w K mg base CX0 2 f fd ["_law_place_here"] JY:=by
 have sc:FnScope ["_law_place_here","_law_x","_law_d"] ["_law_place_here"] (jk JA):=fQ
 refine F.okZ sc (fun vs H Q E h=>?_) (fun cdv A outer s H vs Q E hr h=>?_)
 ·obtain ⟨v,x,d,rfl,_⟩:=h
  rfl
 obtain ⟨v,x,d,rfl,hv,hx,hd,q⟩:=h
 refine ⟨_,(jd (j1 (zpv 0) (j6 rfl (jm (jn (i:=1) sc.nd rfl oQ) (jm (jn (i:=2) sc.nd rfl oQ) jT))))
   (jd (jH (jw kr (zpv 1) jc (jE _)) (jh (jl (zF zz (by rfl) B.str_ Yz (ja (zpv 2) jb)))) js)
   (jh (jl (jr jy (zpv 1) (jp F_more hr (ja (zpv 2) jb))))))),?_⟩
 obtain ⟨a,rfl,ha⟩:=yq hv
 refine jA (σ':=[some (.ref a),none,none]) rfl ?_
 refine ⟨_,rfl,a,_,rfl,SqT.of ha,rfl,_,_,rfl,_,_,rfl,rfl,?_⟩
 refine jA (σ':=[some (.ref a),some (.str x),some (.int d)]) rfl ?_
 refine ⟨_,rfl,rfl,_,rfl,kF (fun z=>?_) (fun z=>?_)⟩
 ·have z':x=Str.ofString "":=by have:=of_decide_eq_true z;injection this
  refine ⟨_,rfl,d,rfl,Nat.lt_trans (log2_lt hd) (by decide),?_⟩
  have q:=q _ (fun _ _ e=>e)
  rw [show j0 x d=Ki d by unfold j0;rw [if_pos z']] at q
  exact q
 ·have z':¬ x=Str.ofString "":=fun h=>z (decide_eq_true (congrArg V.str h))
  refine ⟨_,rfl,_,rfl,d,rfl,hd,fun H1 s1=>⟨_,_,rfl,rfl,jD (Nat.le_trans (Nat.add_le_add hx (Z3 hd)) (by decide)),?_⟩⟩
  rw [Yl z']
  exact q _ s1
end
abbrev K6:Stmt:=top 45
theorem Kc {z:Str} (h:0 < z.length):¬ z=Str.ofString "":=fun e=>by rw [e] at h;exact absurd h (by decide +kernel)
theorem Ye {x y:Str} (h:0 < y.length):0 < (x++y).length:=by rw [Str.length_append];omega
theorem jfn (z:Str) (h:¬ z=Str.ofString ""):j0 z 0=z:=by unfold j0;rw [if_neg h,if_neg (by decide),if_neg (by decide)]
theorem jgr (t:Tm):Jp t 0=zc t:=by
 cases t with
 | is x=>
  show j0 x 0=if x=Str.ofString "" then Str.ofString "0" else x
  by_cases h:x=Str.ofString ""
  ·rw [if_pos h,h];decide +kernel
  ·rw [if_neg h,jfn x h]
 | at_ r x d=>exact jfn _ (Kc (Ye (by decide +kernel)))
def jaz:Sp:=fun vs H Q _=>∃ (v:V) (c:Int) (z:Str),vs=[v,.int c]∧c.natAbs < 10 ^ 20∧((∃ t,Held H t.toD v∧YB t∧z=Jp t c)∨∃ b,Held H b.toD v∧je4 b∧z=yx b c)∧∀ H',Same H H'→Q (.str z) H'
section
variable {P:Program} {w:World} {K:W.Frag} {mg:Str→Option Value} {base:Heap}
theorem jc5 {f:Addr} {fd:FuncData} (F:Fun K "_law_term_text" "_law_term_text" K6 f fd) (F_more:Fn P w K mg base 1 "_law_more" ["_law_more_here"] jfC) (F_place_text:Fn P w K mg base 2 "_law_place_text" ["_law_place_here"] JY):FnOk P w K mg base CX0 3 f fd ["_law_term_here","_law_more_here"] jaz:=by
 have sc:FnScope ["_law_term_here","_law_more_here"] ["_law_term_here","_law_more_here"] (jk K6):=fQ
 refine F.okZ sc (fun vs H Q E h=>?_) (fun cdv A outer s H vs Q E hr h=>?_)
 ·obtain ⟨v,c,z,rfl,_⟩:=h
  rfl
 obtain ⟨v,c,z,rfl,hc,hv,q⟩:=h
 refine ⟨_,(jd (jH (jw kr (jz jY (zpv 0) jg (fun _ _=>rfl)) jc (jE _)) (jh (jl (jp F_place_text hr (ja (jJ (ja (jz jY (zpv 0) jg (fun _ _=>rfl)) (ja (zpv 1) jb))) jb)))) js)
   (jd (jH (jw kr (jz jY (zpv 0) jg (fun _ _=>rfl)) jc (jE _)) (jh (jl (jr jy (jr jy (jz jY (zpv 0) jg (fun _ _=>rfl)) jc) (jp F_more hr (ja (zpv 1) jb))))) js)
   (jh (jl (jr jy (jr jy (jr jy (jr jy (jz jY (zpv 0) jg (fun _ _=>rfl)) jc) (jp F_place_text hr (ja (jz jY (zpv 0) jg (fun _ _=>rfl)) jb))) jc) (jp F_more hr (ja (zpv 1) jb))))))),?_⟩
 refine jA (σ':=[some v,some (.int c)]) rfl ?_
 have l1:(Str.ofString "[").length≤1:=by decide +kernel
 have l2:(Str.ofString "]").length≤1:=by decide +kernel
 have l3:(Str.ofString "[]").length≤2:=by decide +kernel
 have isC:(∃ x:Str,Held H (.tup [.str "is",.str x]) v∧x.length≤8∧z=j0 x c)∨(∃ r:Str,Held H (.tup [.str "row",.str r]) v∧r.length≤8∧z=j0 (r++Str.ofString "[]") c)∨∃ r x d,Held H (Tm.at_ r x d).toD v∧YB (.at_ r x d)∧z=j0 (zc (.at_ r x d)) c:=by
  rcases hv with ⟨t,h1,h2,h3⟩ | ⟨b,h1,h2,h3⟩
  ·cases t with
   | is x=>exact .inl ⟨x,h1,h2,h3⟩
   | at_ r x d=>exact .inr (.inr ⟨r,x,d,h1,h2,h3⟩)
  ·cases b with
   | is x=>exact .inl ⟨x,h1,h2,h3⟩
   | row r=>exact .inr (.inl ⟨r,h1,h2,h3⟩)
 rcases isC with ⟨x,hx,hl,rfl⟩ | ⟨r,hx,hl,rfl⟩ | ⟨r,x,d,hx,hl,rfl⟩
 ·obtain ⟨a,rfl,ha⟩:=qB hx
  refine ⟨_,rfl,a,_,_,_,rfl,rfl,SqT.of ha,jv (j:=0) rfl,rfl,_,rfl,kE ?_⟩
  refine ⟨_,rfl,a,_,_,_,rfl,rfl,SqT.of ha,jv (j:=1) rfl,_,rfl,sm rfl,fun p hp=>?_⟩
  have s1:=ji hp (.tup [.str x,.int c])
  exact ⟨.ref p,x,c,rfl,jB jf (je jq (je jN jt)),hl,hc,fun H2 s2=>q _ (s1.trans s2)⟩
 ·obtain ⟨a,rfl,ha⟩:=qB hx
  refine ⟨_,rfl,a,_,_,_,rfl,rfl,SqT.of ha,jv (j:=0) rfl,rfl,_,rfl,ku ?_⟩
  refine ⟨_,rfl,a,_,_,_,rfl,rfl,SqT.of ha,jv (j:=0) rfl,rfl,_,rfl,kE ?_⟩
  refine ⟨_,rfl,a,_,_,_,rfl,rfl,SqT.of ha,jv (j:=1) rfl,_,_,rfl,rfl,jD (Nat.le_trans (Nat.add_le_add hl l3) (by decide)),_,rfl,c,rfl,hc,fun H1 s1=>⟨_,_,rfl,rfl,jD (Nat.le_trans (Nat.add_le_add (la hl l3) (Z3 hc)) (by decide)),?_⟩⟩
  rw [Yl (Kc (Ye (by decide +kernel)))]
  exact q _ s1
 ·obtain ⟨a,b,rfl,ha,hb⟩:=jdR hx
  obtain ⟨h1,h2,h3⟩:=hl
  refine ⟨_,rfl,a,_,_,_,rfl,rfl,SqT.of ha,jv (j:=0) rfl,rfl,_,rfl,ku ?_⟩
  refine ⟨_,rfl,a,_,_,_,rfl,rfl,SqT.of ha,jv (j:=0) rfl,rfl,_,rfl,ku ?_⟩
  refine ⟨_,rfl,a,_,_,_,rfl,rfl,SqT.of ha,jv (j:=1) rfl,_,_,rfl,rfl,jD (Nat.le_trans (Nat.add_le_add h1 l1) (by decide)),_,rfl,a,_,_,_,rfl,rfl,SqT.of ha,jv (j:=2) rfl,.ref b,x,d,rfl,jB hb (je jq (je jN jt)),h2,h3,fun H1 s1=>⟨_,_,rfl,rfl,jD (Nat.le_trans (Nat.add_le_add (la h1 l1) (jU h2 h3)) (by decide)),_,_,rfl,rfl,jD (Nat.le_trans (Nat.add_le_add (la (la h1 l1) (jU h2 h3)) l2) (by decide)),_,rfl,c,rfl,hc,fun H2 s2=>⟨_,_,rfl,rfl,jD (Nat.le_trans (Nat.add_le_add (la (la (la h1 l1) (jU h2 h3)) l2) (Z3 hc)) (by decide)),?_⟩⟩⟩
  rw [Yl (Kc (Ye (by decide +kernel)))]
  exact q _ (s1.trans s2)
end
abbrev JE:Stmt:=top 46
def YM:Sp:=fun vs H Q _=>∃ (v:V) (C:Cl),vs=[v]∧Held H C.toD v∧je3 C∧∀ H',Same H H'→Q (.str (Kp C)) H'
section
variable {P:Program} {w:World} {K:W.Frag} {mg:Str→Option Value} {base:Heap}
theorem jbT {f:Addr} {fd:FuncData} (F:Fun K "_law_claim_text" "_law_claim_text" JE f fd) (F_place_text:Fn P w K mg base 2 "_law_place_text" ["_law_place_here"] JY) (F_term_text:Fn P w K mg base 3 "_law_term_text" ["_law_term_here","_law_more_here"] jaz):FnOk P w K mg base CX0 4 f fd ["_law_claim_here"] YM:=by
 have sc:FnScope ["_law_claim_here","_law_span"] ["_law_claim_here"] (jk JE):=fQ
 refine F.okZ sc (fun vs H Q E h=>?_) (fun cdv A outer s H vs Q E hr h=>?_)
 ·obtain ⟨v,C,rfl,_⟩:=h
  rfl
 obtain ⟨v,C,rfl,hv,hC,q⟩:=h
 refine ⟨_,(jd (jH (jw kr (jz jY (zpv 0) jg (fun _ _=>rfl)) jc (jE _)) (jh (jl (jr jy (jr jy (jp F_term_text hr (ja (jz jY (zpv 0) jg (fun _ _=>rfl)) (ja jg jb))) jc) (jp F_term_text hr (ja (jz jY (zpv 0) jg (fun _ _=>rfl)) (ja (jz jY (zpv 0) jg (fun _ _=>rfl)) jb)))))) js)
   (jd (ju (i:=1) sc.nd rfl oQ (jr jy (jr jy (jp F_place_text hr (ja (jz jY (zpv 0) jg (fun _ _=>rfl)) jb)) jc) (jp F_place_text hr (ja (jz jY (zpv 0) jg (fun _ _=>rfl)) jb))))
   (jd (ju (i:=1) sc.nd rfl oQ (jr jy (jr jy (zpv 1) jc) (jz jY (zpv 0) jg (fun _ _=>rfl))))
   (jd (jH (jw kr (jz jY (zpv 0) jg (fun _ _=>rfl)) jc (jE _)) (jh (jl (jr jy jc (zpv 1)))) js)
   (jh (jl (jr jy (jr jy (jr jy (jr jy (jr jy jc (zpv 1)) jc) (jz jY (zpv 0) jg (fun _ _=>rfl))) jc) (jp F_term_text hr (ja (jz jY (zpv 0) jg (fun _ _=>rfl)) (ja (jz jY (zpv 0) jg (fun _ _=>rfl)) jb)))))))))),?_⟩
 refine jA (σ':=[some v,none]) rfl ?_
 have l1:(Str.ofString " >= ").length≤4:=by decide +kernel
 have l2:(Str.ofString " to ").length≤4:=by decide +kernel
 have l3:(Str.ofString " ").length≤1:=by decide +kernel
 have l4:(Str.ofString "rise ").length≤5:=by decide +kernel
 have l5:(Str.ofString "each ").length≤5:=by decide +kernel
 cases C with
 | least x y c=>
  obtain ⟨t,vx,vy,rfl,ht,hx,hy⟩:=KN hv
  obtain ⟨h1,h2,h3⟩:=hC
  have hA:=qb h1
  have hB:=zG h2 h3
  refine ⟨_,rfl,t,_,_,_,rfl,rfl,SqT.of ht,jv (j:=0) rfl,rfl,_,rfl,kE ?_⟩
  refine ⟨_,rfl,t,_,_,_,rfl,rfl,SqT.of ht,jv (j:=1) rfl,vx,0,_,rfl,by decide,.inl ⟨x,hx,h1,rfl⟩,fun H1 s1=>?_⟩
  rw [jgr]
  refine ⟨_,_,rfl,rfl,jD (Nat.le_trans (Nat.add_le_add hA l1) (by decide)),_,rfl,t,_,_,_,rfl,rfl,SqT.of (s1 _ _ ht),jv (j:=2) rfl,_,rfl,t,_,_,_,rfl,rfl,SqT.of (s1 _ _ ht),jv (j:=3) rfl,vy,c,_,rfl,h3,.inl ⟨y,hy.mono s1,h2,rfl⟩,fun H2 s2=>⟨_,_,rfl,rfl,jD (Nat.le_trans (Nat.add_le_add (la hA l1) hB) (by decide)),q _ (s1.trans s2)⟩⟩
 | rise x d y e r=>
  obtain ⟨t,a,b',rfl,ht,ha,hb⟩:=YV hv
  have hRe:jcm x d y e r:=hC
  obtain ⟨r1,r2,r3,r4,r5⟩:=hC
  have hR:=qy hRe
  have m1:=jU r1 r2
  have m2:=jU r3 r4
  refine ⟨_,rfl,t,_,_,_,rfl,rfl,SqT.of ht,jv (j:=0) rfl,rfl,_,rfl,ku ?_⟩
  refine ⟨_,rfl,t,_,_,_,rfl,rfl,SqT.of ht,jv (j:=1) rfl,.ref a,x,d,rfl,jB ha (je jq (je jN jt)),r1,r2,fun H1 s1=>⟨_,_,rfl,rfl,jD (Nat.le_trans (Nat.add_le_add m1 l2) (by decide)),_,rfl,t,_,_,_,rfl,rfl,SqT.of (s1 _ _ ht),jv (j:=2) rfl,.ref b',y,e,rfl,jB (s1 _ _ hb) (je jq (je jN jt)),r3,r4,fun H2 s2=>⟨_,_,rfl,rfl,jD (Nat.le_trans (Nat.add_le_add (la m1 l2) m2) (by decide)),?_⟩⟩⟩
  have s12:=s1.trans s2
  refine gQ ?_
  refine ⟨_,rfl,_,_,rfl,rfl,jD (Nat.le_trans (Nat.add_le_add (la (la m1 l2) m2) l3) (by decide)),_,rfl,t,_,_,_,rfl,rfl,SqT.of (s12 _ _ ht),jv (j:=3) rfl,_,_,rfl,rfl,jD (Nat.le_trans (Nat.add_le_add (la (la (la m1 l2) m2) l3) r5) (by decide)),?_⟩
  refine gQ ?_
  refine ⟨_,rfl,t,_,_,_,rfl,rfl,SqT.of (s12 _ _ ht),jv (j:=0) rfl,rfl,_,rfl,kE ?_⟩
  exact ⟨_,rfl,_,_,rfl,rfl,jD (Nat.le_trans (Nat.add_le_add l4 hR) (by decide)),q _ s12⟩
 | each x d y e r way b c=>
  obtain ⟨t,a,b',vb,rfl,ht,ha,hb,hbd0⟩:=Zm hv
  have hbd:Held H b.toD (.ref vb):=by cases b <;> exact jB hbd0 (je jq (je jq jt))
  obtain ⟨hRe,hw,hB,hc⟩:=hC
  have hRe':=hRe
  obtain ⟨r1,r2,r3,r4,r5⟩:=hRe'
  have hR:=qy hRe
  have m1:=jU r1 r2
  have m2:=jU r3 r4
  have hBl:=Jm hB hc
  refine ⟨_,rfl,t,_,_,_,rfl,rfl,SqT.of ht,jv (j:=0) rfl,rfl,_,rfl,ku ?_⟩
  refine ⟨_,rfl,t,_,_,_,rfl,rfl,SqT.of ht,jv (j:=1) rfl,.ref a,x,d,rfl,jB ha (je jq (je jN jt)),r1,r2,fun H1 s1=>⟨_,_,rfl,rfl,jD (Nat.le_trans (Nat.add_le_add m1 l2) (by decide)),_,rfl,t,_,_,_,rfl,rfl,SqT.of (s1 _ _ ht),jv (j:=2) rfl,.ref b',y,e,rfl,jB (s1 _ _ hb) (je jq (je jN jt)),r3,r4,fun H2 s2=>⟨_,_,rfl,rfl,jD (Nat.le_trans (Nat.add_le_add (la m1 l2) m2) (by decide)),?_⟩⟩⟩
  have s12:=s1.trans s2
  refine gQ ?_
  refine ⟨_,rfl,_,_,rfl,rfl,jD (Nat.le_trans (Nat.add_le_add (la (la m1 l2) m2) l3) (by decide)),_,rfl,t,_,_,_,rfl,rfl,SqT.of (s12 _ _ ht),jv (j:=3) rfl,_,_,rfl,rfl,jD (Nat.le_trans (Nat.add_le_add (la (la (la m1 l2) m2) l3) r5) (by decide)),?_⟩
  refine gQ ?_
  refine ⟨_,rfl,t,_,_,_,rfl,rfl,SqT.of (s12 _ _ ht),jv (j:=0) rfl,rfl,_,rfl,ku ?_⟩
  refine ⟨_,rfl,_,_,rfl,rfl,jD (Nat.le_trans (Nat.add_le_add l5 hR) (by decide)),_,_,rfl,rfl,jD (Nat.le_trans (Nat.add_le_add (la l5 hR) l3) (by decide)),_,rfl,t,_,_,_,rfl,rfl,SqT.of (s12 _ _ ht),jv (j:=4) rfl,_,_,rfl,rfl,jD (Nat.le_trans (Nat.add_le_add (la (la l5 hR) l3) hw) (by decide)),_,_,rfl,rfl,jD (Nat.le_trans (Nat.add_le_add (la (la (la l5 hR) l3) hw) l3) (by decide)),_,rfl,t,_,_,_,rfl,rfl,SqT.of (s12 _ _ ht),jv (j:=5) rfl,_,rfl,t,_,_,_,rfl,rfl,SqT.of (s12 _ _ ht),jv (j:=6) rfl,.ref vb,c,_,rfl,hc,.inr ⟨b,hbd.mono s12,hB,rfl⟩,fun H3 s3=>⟨_,_,rfl,rfl,jD (Nat.le_trans (Nat.add_le_add (la (la (la (la l5 hR) l3) hw) l3) hBl) (by decide)),q _ (s12.trans s3)⟩⟩
end
open PySem L2 PySem.NumText PySem.StrLaws PySem.Builtin.Str PyProof.Rows
theorem KF (z y:Str):Txt.startswith z y=(cd y).isPrefixOf (cd z):=by
 unfold Txt.startswith
 rw [subAt_eq]
 rw [Bool.eq_iff_iff,Bool.and_eq_true,decide_eq_true_eq,beq_iff_eq,List.isPrefixOf_iff_prefix,List.prefix_iff_eq_take,jI]
 constructor
 ·rintro ⟨h1,h2⟩
  exact h2.symm
 ·intro h
  have h3:=congrArg List.length h
  rw [List.length_take,jI,jI] at h3
  exact ⟨by omega,h.symm⟩
theorem jbi (z y:Str):Txt.endswith z y=(cd y).isSuffixOf (cd z):=by
 unfold Txt.endswith
 rw [subAt_eq]
 rw [Bool.eq_iff_iff,Bool.and_eq_true,decide_eq_true_eq,beq_iff_eq,List.isSuffixOf_iff_suffix,List.suffix_iff_eq_drop,jI,jI]
 constructor
 ·rintro ⟨h1,h2⟩
  rw [List.take_of_length_le (by rw [List.length_drop,show z.cps.toList.length=z.length from jI z];omega)] at h2
  exact h2.symm
 ·intro h
  have h3:=congrArg List.length h
  rw [List.length_drop,jI,jI] at h3
  refine ⟨by omega,?_⟩
  rw [List.take_of_length_le (by rw [List.length_drop,show z.cps.toList.length=z.length from jI z];omega)]
  exact h.symm
theorem Yd {c:Nat} {l:List Nat}:[c].isPrefixOf l=(l.head? == some c):=by
 cases l with
 | nil=>rfl
 | cons a l=>
  show (c == a && true)=(some a == some c)
  rw [Bool.and_true,Bool.eq_iff_iff,beq_iff_eq,beq_iff_eq,Option.some.injEq]
  exact ⟨Eq.symm,Eq.symm⟩
theorem jd2 {c:Nat} {l:List Nat}:[c].isSuffixOf l=(l.getLast? == some c):=by
 rw [List.isSuffixOf,show [c].reverse=[c] from rfl,Yd,List.head?_reverse]
theorem jgQ {x y:Str} (h:cd y≠[]):(!(occurrences x y 0 x.length 1).isEmpty)=(jZ (cd y) (cd x)).isSome:=by
 rw [jdg h]
 cases jZ (cd y) (cd x) <;> rfl
theorem jdH (z:Str):cd (zb z (some 1) none)=(cd z).tail:=by
 show (zb z (some 1) none).cps.toList=_
 rw [kZ,List.take_of_length_le]
 ·show List.drop (min 1 z.length) (cd z)=_
  rw [← List.drop_one,← jI]
  rcases Nat.lt_or_ge (cd z).length 1 with h | h
  ·rw [List.drop_of_length_le (by omega),List.drop_of_length_le (by omega)]
  ·rw [Nat.min_eq_left h]
 ·rw [List.length_drop,show z.cps.toList.length=z.length from jI z]
  exact Nat.le_refl _
theorem Zq (z:Str) (k:Nat) (hk:0 < k):cd (zb z none (some (-(k:Int))))=(cd z).take ((cd z).length - k):=by
 show (zb z none (some (-(k:Int)))).cps.toList=_
 rw [kZ]
 have:HT.sIx z.length z.length (some (-(k:Int)))=z.length - k:=by
  show (if (-(k:Int)) < 0 then ((-(k:Int))+(z.length:Int)).toNat else _)=_
  rw [if_pos (by omega)]
  omega
 rw [this]
 show List.take (z.length - k - 0) (List.drop 0 (cd z))=_
 rw [List.drop_zero,jI]
 rfl
theorem asc {z:Str}:Txt.isascii z=true↔∀ c∈cd z,c < 128:=by
 unfold Txt.isascii
 rw [← Array.all_toList,List.all_eq_true]
 exact ⟨fun h c hc=>of_decide_eq_true (h c hc),fun h c hc=>decide_eq_true (h c hc)⟩
theorem jbk:∀ c,c < 128→Unicode.isDigit c=qH c:=by decide +kernel
theorem Zw:∀ c,c < 128→(Unicode.isAlpha c && !(Unicode.isUpper c || Unicode.isTitle c))=qv c:=by decide +kernel
theorem jeE:∀ c,c < 128→qv c=true→Unicode.isLower c=true:=by decide +kernel
theorem KP (z:Str):decide (z.length > 0)=!(cd z).isEmpty:=by
 rw [← jI]
 cases cd z <;> rfl
theorem jgb (z:Str):qh (cd z)=(Txt.isascii z && (Txt.isdigit z && (decide (z.length≤19) && (decide (z=Str.ofString "0") || !Txt.startswith z (Str.ofString "0"))))):=by
 have e1:decide (z=Str.ofString "0")=(cd z == [48]):=by
  rw [Bool.eq_iff_iff,decide_eq_true_eq,beq_iff_eq]
  exact ⟨fun h=>by rw [h];rfl,fun h=>yu (by rw [h];rfl)⟩
 rw [KF,e1,show cd (Str.ofString "0")=[48] from rfl,Yd]
 unfold qh Txt.isdigit
 rw [KP,jI]
 cases ha:Txt.isascii z with
 | true=>
  have:=asc.mp ha
  have e:z.cps.all Unicode.isDigit=(cd z).all qH:=by
   rw [← Array.all_toList,Bool.eq_iff_iff,List.all_eq_true,List.all_eq_true]
   exact ⟨fun h c hc=>by rw [← jbk c (this c hc)];exact h c hc,fun h c hc=>by rw [jbk c (this c hc)];exact h c hc⟩
  rw [e]
  simp only [Bool.true_and,Bool.and_assoc]
 | false=>
  have:(cd z).all qH=false:=by
   cases e:(cd z).all qH with
   | false=>rfl
   | true=>
    have h:=List.all_eq_true.mp e
    have:Txt.isascii z=true:=asc.mpr fun c hc=>by
     have:=h c hc
     unfold qH at this
     simp only [Bool.and_eq_true,decide_eq_true_eq] at this
     omega
    rw [this] at ha
    cases ha
  rw [this]
  simp
theorem jeC (z:Str):jO (cd z)=(((Txt.isascii z && (Txt.isalpha z && Txt.islower z)) && (decide (z.length≤8) && !decide (z∈qp)))):=by
 have e1:decide (z∈qp)=(qp.map cd).contains (cd z):=by
  rw [Bool.eq_iff_iff,decide_eq_true_eq,List.contains_iff_mem,List.mem_map]
  exact ⟨fun h=>⟨z,h,rfl⟩,fun ⟨y,h,e⟩=>by rw [← yu e];exact h⟩
 rw [e1,← jI]
 unfold jO
 have e2:(!(cd z).isEmpty && (cd z).all qv)=(Txt.isascii z && (Txt.isalpha z && Txt.islower z)):=by
  unfold Txt.isalpha Txt.islower
  rw [KP]
  cases ha:Txt.isascii z with
  | true=>
   have:=asc.mp ha
   rw [← Array.all_toList,← Array.any_toList,← Array.any_toList,Bool.true_and]
   show _=(!(cd z).isEmpty && (cd z).all Unicode.isAlpha && ((cd z).any Unicode.isLower && !(cd z).any _))
   cases hl:cd z with
   | nil=>rfl
   | cons a l=>
    rw [hl] at this
    show (true && (a :: l).all qv)=(true && (a :: l).all Unicode.isAlpha && _)
    rw [Bool.true_and,Bool.true_and,Bool.eq_iff_iff,Bool.and_eq_true,Bool.and_eq_true,List.all_eq_true,List.all_eq_true,List.any_eq_true,Bool.not_eq_true',List.any_eq_false]
    constructor
    ·intro h
     have g:∀ c∈a :: l,(Unicode.isAlpha c && !(Unicode.isUpper c || Unicode.isTitle c))=true:=fun c hc=>by rw [Zw c (this c hc)];exact h c hc
     refine ⟨fun c hc=>((Bool.and_eq_true _ _).mp (g c hc)).1,⟨a,List.mem_cons_self ..,jeE a (this a (List.mem_cons_self ..)) (h a (List.mem_cons_self ..))⟩,fun c hc z=>?_⟩
     have:=((Bool.and_eq_true _ _).mp (g c hc)).2
     rw [z] at this
     cases this
    ·rintro ⟨h1,_,h3⟩ c hc
     rw [← Zw c (this c hc),h1 c hc]
     have:=h3 c hc
     cases hu:(Unicode.isUpper c || Unicode.isTitle c) with
     | false=>rfl
     | true=>exact absurd hu this
  | false=>
   have:(cd z).all qv=false:=by
    cases e:(cd z).all qv with
    | false=>rfl
    | true=>
     have h:=List.all_eq_true.mp e
     have:Txt.isascii z=true:=asc.mpr fun c hc=>by
      have:=h c hc
      unfold qv at this
      simp only [Bool.and_eq_true,decide_eq_true_eq] at this
      omega
     rw [this] at ha
     cases ha
   rw [this]
   simp
 rw [e2,Bool.and_assoc]
theorem qc {X:Cx}:qt X (.type "int") (fun xs H Q=>∃ z n,xs=[.str z]∧intText? z=some n∧z.length≤640∧Q (.int n) H):=by
 intro pins s σ H xs us Q I r h
 obtain ⟨z,n,rfl,hn,hl,q⟩:=h
 obtain ⟨u,rfl,t,rfl⟩:=qz r
 exact PySem.W.KIN.call_text hn hl ⟨.int n,H,I.tok _,⟨_,rfl⟩,q⟩
theorem JO {l:List Nat} (h:qh l=true):AllDigits l∧l≠[]∧l.length≤19:=by
 have h1:=jbf h
 refine ⟨fun c hc=>?_,?_,?_⟩
 ·have:=h1 c hc
  unfold qH at this
  simpa only [Bool.and_eq_true,decide_eq_true_eq] using this
 ·rintro rfl
  cases h
 ·unfold qh at h
  simp only [Bool.and_eq_true,decide_eq_true_eq] at h
  exact h.1.2
theorem Yp {z:Str} (h:yr (cd z)=true):intText? z=some (K2 (cd z))∧z.length≤640:=by
 unfold yr at h
 unfold K2
 split at h
 ·rename_i e
  rw [if_pos e]
  obtain ⟨h1,h2⟩:=(Bool.and_eq_true _ _).mp h
  obtain ⟨k1,k2,k3⟩:=JO h1
  have e2:cd z=45 :: (cd z).tail:=by
   cases hz:cd z with
   | nil=>rw [hz] at e;cases e
   | cons a l=>rw [hz] at e;cases e;rfl
  have hl:z.length≤20:=by rw [← jI,e2,List.length_cons];omega
  exact ⟨intText_neg e2 k1 k2 (by omega),by omega⟩
 ·rename_i e
  rw [if_neg e]
  obtain ⟨k1,k2,k3⟩:=JO h
  rw [jI] at k3
  exact ⟨intText_digits k1 k2 (by omega),by omega⟩
theorem Yr {x:Str} {cs:List Nat} (hx:cd x=43 :: cs) (h:AllDigits cs) (h1:cs≠[]) (h2:x.length≤4300):intText? x=some ((digitsVal cs:Nat):Int):=by
 have hs:∀ c∈cd x,c=43∨(48≤c∧c≤57):=by
  rw [hx]
  intro c hc
  rcases List.mem_cons.mp hc with e | hc
  ·exact Or.inl e
  ·exact Or.inr (h c hc)
 have e1:numTextOf x=cd x:=by
  refine if_pos ?_
  rw [← Array.all_toList,List.all_eq_true]
  intro c hc
  have:=hs c hc
  exact decide_eq_true (by omega)
 have e2:numSeenOf x=cd x:=by
  show (numTextOf x).takeWhile _=_
  rw [e1]
  refine NumText.takeWhile_all fun c hc=>?_
  have:=hs c hc
  exact bne_iff_ne.mpr (by omega)
 have hl:(cd x).length=x.length:=jI x
 unfold intText?
 rw [e1,e2,if_pos (beq_self_eq_true _),hx]
 rw [hx,List.length_cons] at hl
 have es:sign ((43 :: cs).dropWhile blank)=(false,cs):=by rw [dropWhile_of (by decide)];rfl
 have ec:core (43 :: cs)=cs:=by
  unfold core
  rw [es]
  show (cs.reverse.dropWhile blank).reverse=cs
  rw [dropWhile_digits h.reverse,List.reverse_reverse]
 rw [ec,es,digits_of h h1]
 have hsz:=push_size cs #[]
 have hv:=push_foldl cs #[]
 show (if _≤4300 then some (worth false _) else none)=_
 rw [if_pos (by rw [hsz];simp only [Array.size_empty];omega)]
 unfold worth digitsVal
 rw [hv]
 rfl
theorem jcS {z f:Str} (h:qh (cd f)=true) (hz:cd z=43 :: cd f):intText? z=some ((digitsVal (cd f):Nat):Int)∧z.length≤640:=by
 obtain ⟨k1,k2,k3⟩:=JO h
 have hl:z.length≤20:=by rw [← jI,hz,List.length_cons];omega
 exact ⟨Yr hz k1 k2 (by omega),by omega⟩
theorem jb3 {z f:Str} (h:qh (cd f)=true) (hz:cd z=45 :: cd f):intText? z=some (-((digitsVal (cd f):Nat):Int))∧z.length≤640:=by
 obtain ⟨k1,k2,k3⟩:=JO h
 have hl:z.length≤20:=by rw [← jI,hz,List.length_cons];omega
 exact ⟨intText_neg hz k1 k2 (by omega),by omega⟩
open PyProof.Rows hiding St
abbrev qP:Stmt:=top 23
abbrev zq:Stmt:=top 22
abbrev yN:Stmt:=top 21
theorem sz {z:Str} (h:z.length≤1000):z.length≤sizeLine:=Nat.le_trans h (by decide)
theorem jbs {ta tb:TE} {σ:L2.St} {H:Hp} {Q:VK} {b c:Bool} (ha:∀ q:VK,q (.bl b) H→ta σ H q) (hb:∀ q:VK,q (.bl c) H→tb σ H q) (h:Q (.bl (b && c)) H):jcz ta tb σ H Q:=ha _ ⟨b,rfl,by
 cases b with
 | true=>exact kE (hb _ h)
 | false=>exact ku h⟩
def jcG:Sp:=fun vs H Q _=>∃ z:Str,vs=[.str z]∧z.length≤1000∧Q (.bl (qh (cd z))) H
def jaC:Sp:=fun vs H Q _=>∃ z:Str,vs=[.str z]∧z.length≤1000∧Q (.bl (yr (cd z))) H
def YL:Sp:=fun vs H Q _=>∃ z:Str,vs=[.str z]∧z.length≤1000∧Q (.bl (jO (cd z))) H
section
variable {P:Program} {w:World} {K:W.Frag} {mg:Str→Option Value} {base:Heap}
theorem jf0 {f:Addr} {fd:FuncData} {t9:Tok} (F:Fun K "is_figures" "is_figures" qP f fd) (B:Free0 mg) (G_fig:mg "MOST_FIGURES" = some (.int 19 t9)):FnOk P w K mg base CX0 1 f fd ["text"] jcG:=by
 have sc:FnScope ["text"] ["text"] (jk qP):=fQ
 refine F.okZ sc (fun vs H Q E h=>?_) (fun cdv A outer s H vs Q E hr h=>?_)
 ·obtain ⟨z,rfl,_⟩:=h
  rfl
 obtain ⟨z,rfl,hz,q⟩:=h
 refine ⟨_,(jd (jH (JQ (qI (ko (yD PySem.F.plainAttrs_str PySem.F.slot_str_isascii PySem.F.type_str_isascii Ke (zpv 0)))) (JQ (qI (ko (yD PySem.F.plainAttrs_str PySem.F.slot_str_isdigit PySem.F.type_str_isdigit ZX (zpv 0)))) (Jy (jw KJ (kh qx (by rfl) B.len_ kj (ja (zpv 0) jb)) (JS (v:=.int 19) (by rfl) G_fig ⟨_,rfl⟩) (jE _))))).pt (jh (jl JU)) js)
   (jh (jl (jfx (zE kr (zpv 0) jc (jE _)) (Jz (jdV (kK PySem.F.plainAttrs_str PySem.F.slot_str_startswith PySem.F.type_str_startswith yj (zpv 0) (ja jc jb)))))))),?_⟩
 refine jA (σ':=[some (.str z)]) rfl ?_
 rw [jgb] at q
 refine ⟨_,rfl,rfl,z,rfl,rfl,_,rfl,?_⟩
 cases ha:Txt.isascii z with
 | false=>
  rw [ha] at q
  exact kE (kE q)
 | true=>
 rw [ha] at q
 refine ku ⟨_,rfl,rfl,z,rfl,rfl,_,rfl,?_⟩
 cases hb:Txt.isdigit z with
 | false=>
  rw [hb] at q
  exact kE (kE q)
 | true=>
 rw [hb] at q
 refine ku ⟨_,rfl,z,rfl,sz hz,_,_,rfl,rfl,_,rfl,kF (fun d=>?_) (fun d=>?_)⟩
 ·have d':=of_decide_eq_true d
  rw [decide_eq_false (show ¬ z.length≤19 by omega)] at q
  exact q
 have d':¬ ((19:Int) < (z.length:Int)):=fun h=>d (decide_eq_true h)
 rw [decide_eq_true (show z.length≤19 by omega)] at q
 refine ⟨_,rfl,rfl,_,rfl,?_⟩
 rw [show decide (V.str z=V.str (Str.ofString "0"))=decide (z=Str.ofString "0") from by rw [Bool.eq_iff_iff,decide_eq_true_eq,decide_eq_true_eq];exact ⟨fun h=>by injection h,congrArg V.str⟩]
 cases hc:decide (z=Str.ofString "0") with
 | true=>
  rw [hc] at q
  exact kE q
 | false=>
  rw [hc] at q
  exact ku ⟨_,rfl,rfl,z,_,rfl,rfl,_,rfl,q⟩
theorem jfY {f:Addr} {fd:FuncData} (F:Fun K "is_number" "is_number" zq f fd) (F_is_figures:Fn P w K mg base 1 "is_figures" ["text"] jcG):FnOk P w K mg base CX0 2 f fd ["text"] jaC:=by
 have sc:FnScope ["text"] ["text"] (jk zq):=fQ
 refine F.okZ sc (fun vs H Q E h=>?_) (fun cdv A outer s H vs Q E hr h=>?_)
 ·obtain ⟨z,rfl,_⟩:=h
  rfl
 obtain ⟨z,rfl,hz,q⟩:=h
 refine ⟨_,(jd (jH (ko (kK PySem.F.plainAttrs_str PySem.F.slot_str_startswith PySem.F.type_str_startswith yj (zpv 0) (ja jc jb))) (jh (jl (yE (jp F_is_figures hr (ja (kz Jd (zpv 0) (kD jg) qd) jb)) (Jz (zE ja0 (zpv 0) jc (jE _)))))) js)
   (jh (jl (jp F_is_figures hr (ja (zpv 0) jb))))),?_⟩
 refine jA (σ':=[some (.str z)]) rfl ?_
 unfold yr at q
 refine ⟨_,rfl,rfl,z,_,rfl,rfl,_,rfl,?_⟩
 rw [KF,show cd (Str.ofString "-")=[45] from rfl,Yd]
 refine kF (fun d=>?_) (fun d=>?_)
 ·have d':(cd z).head?=some 45:=by simpa using d
  rw [if_pos d'] at q
  refine ⟨_,rfl,_,rfl,z,rfl,sz hz,_,rfl,Nat.le_trans (yg z _ _) hz,?_⟩
  rw [jdH]
  cases hf:qh (cd z).tail with
  | false=>rw [hf] at q;exact ⟨_,rfl,ku q⟩
  | true=>
   rw [hf] at q
   refine ⟨_,rfl,kE ⟨_,rfl,rfl,?_⟩⟩
   have e:decide (V.str z=V.str (Str.ofString "-0"))=((cd z).tail == [48]):=by
    rw [Bool.eq_iff_iff,decide_eq_true_eq,beq_iff_eq]
    constructor
    ·intro h
     injection h with h
     rw [h];rfl
    ·intro h
     have:cd z=[45,48]:=by
      cases hl:cd z with
      | nil=>rw [hl] at d';cases d'
      | cons a l=>rw [hl] at d' h;cases d';cases h;rfl
     exact congrArg V.str (yu (this.trans rfl))
   rw [e]
   exact q
 ·have d':¬ (cd z).head?=some 45:=by simpa using d
  rw [if_neg d'] at q
  exact ⟨_,rfl,z,rfl,hz,q⟩
theorem jbS {f:Addr} {fd:FuncData} {t8:Tok} {aW:Addr} (F:Fun K "is_name" "is_name" yN f fd) (B:Free0 mg) (G_let:mg "MOST_LETTERS" = some (.int 8 t8)) (G_words:mg "WORDS" = some (.ref aW)) (T_words:∀ H,SqT K H aW (qp.map V.str)):FnOk P w K mg base CX0 1 f fd ["text"] YL:=by
 have sc:FnScope ["text","small"] ["text"] (jk yN):=fQ
 refine F.okZ sc (fun vs H Q E h=>?_) (fun cdv A outer s H vs Q E hr h=>?_)
 ·obtain ⟨z,rfl,_⟩:=h
  rfl
 obtain ⟨z,rfl,hz,q⟩:=h
 refine ⟨_,(jd (ju (i:=1) sc.nd rfl oQ (yE (yD PySem.F.plainAttrs_str PySem.F.slot_str_isascii PySem.F.type_str_isascii Ke (zpv 0)) (yE (yD PySem.F.plainAttrs_str PySem.F.slot_str_isalpha PySem.F.type_str_isalpha ZY (zpv 0)) (Jz (yD PySem.F.plainAttrs_str PySem.F.slot_str_islower PySem.F.type_str_islower ZW (zpv 0))))))
   (jh (jl (yE (zpv 1) (yE (zE jgL (kh qx (by rfl) B.len_ kj (ja (zpv 0) jb)) (JS (v:=.int 8) (by rfl) G_let ⟨_,rfl⟩) (jE _)) (Jz (zE Yj (zpv 0) (JS (v:=.ref aW) (by rfl) G_words rfl) rfl))))))),?_⟩
 refine jA (σ':=[some (.str z),none]) rfl ?_
 rw [jeC] at q
 refine jbs (b:=Txt.isascii z) (c:=Txt.isalpha z && Txt.islower z) (fun q h=>⟨_,rfl,rfl,z,rfl,rfl,h⟩) (fun q h=>jbs (b:=Txt.isalpha z) (c:=Txt.islower z) (fun q h=>⟨_,rfl,rfl,z,rfl,rfl,h⟩) (fun q h=>⟨_,rfl,rfl,z,rfl,rfl,h⟩) h) ?_
 generalize (Txt.isascii z && (Txt.isalpha z && Txt.islower z))=b at *
 refine jA (σ':=[some (.str z),some (.bl b)]) rfl ?_
 dsimp only
 unfold jfB
 refine jbs (b:=b) (c:=decide (z.length≤8) && !decide (z∈qp)) (fun q h=>⟨_,rfl,h⟩) (fun q h=>jbs (b:=decide (z.length≤8)) (c:=!decide (z∈qp)) (fun q h=>⟨_,rfl,z,rfl,sz hz,_,_,rfl,rfl,?_⟩) (fun q h=>⟨_,rfl,aW,_,rfl,.inr (T_words _),rfl,Jk qp,?_⟩) h) q
 ·dsimp only
  rw [show decide ((z.length:Int)≤8)=decide (z.length≤8) from by rw [Bool.eq_iff_iff,decide_eq_true_eq,decide_eq_true_eq];omega]
  exact h
 ·show q (.bl (!inV (.str z) (qp.map V.str))) H
  rw [yX]
  exact h
end
open PyProof.Rows hiding St
abbrev zW:Stmt:=top 19
def jaE:Sp:=fun vs H Q _=>∃ z:Str,vs=[.str z]∧z.length≤1000∧∀ p H',Same H H'→H' p=some (.tup [.str (mS (j9 (cd z)).1),.int (j9 (cd z)).2])→Q (.ref p) H'
theorem Yi {sep l:List Nat} {p:List Nat×List Nat} (h:sep≠[]) (e:jQ sep l=some p):p.1.length≤l.length∧p.2.length≤l.length:=by
 obtain ⟨k1,_⟩:=kN h (a:=p.1) (b:=p.2) e
 rw [k1,List.length_append,List.length_append]
 omega
def sgW:Nat→Str×Nat
 | 0=>(Str.ofString "+",43)
 | _=>(Str.ofString "-",45)
theorem jfG {i:Nat} {x:V} (h:[V.str (Str.ofString "+"),V.str (Str.ofString "-")][i]?=some x):x=.str (sgW i).1∧(i=0∨i=1):=by
 match i,h with
 | 0,h=>exact ⟨by cases h;rfl,.inl rfl⟩
 | 1,h=>exact ⟨by cases h;rfl,.inr rfl⟩
def cutV (i:Nat) (p:List Nat×List Nat):Int:=if i=0 then ((NumText.digitsVal p.2:Nat):Int) else -((NumText.digitsVal p.2:Nat):Int)
theorem jcI {i:Nat} (hi:i=0∨i=1):cd (sgW i).1=[(sgW i).2]∧(sgW i).1.length≤1:=by rcases hi with rfl | rfl <;> exact ⟨rfl,by decide⟩
theorem jfD {i:Nat} (hi:i=0∨i=1) {p:List Nat×List Nat} (hf:qh p.2=true):intText? ((sgW i).1++mS p.2)=some (cutV i p)∧((sgW i).1++mS p.2).length≤640:=by
 rcases hi with rfl | rfl
 ·exact jcS (z:=Str.ofString "+"++mS p.2) (f:=mS p.2) hf (by rw [jS];rfl)
 ·exact jb3 (z:=Str.ofString "-"++mS p.2) (f:=mS p.2) hf (by rw [jS];rfl)
theorem jfF {i:Nat} (hi:i=0∨i=1) {l:List Nat} {p:List Nat×List Nat} (hn:∀ j,j < i→qj (sgW j).2 l=none) (e:qj (sgW i).2 l=some p):j9 l=(p.1,cutV i p):=by
 unfold j9
 rcases hi with rfl | rfl
 ·have e:qj 43 l=some p:=e
  rw [e]
  rfl
 ·have e:qj 45 l=some p:=e
  have e0:qj 43 l=none:=hn 0 (by decide)
  rw [e,e0]
  rfl
theorem jd4 {l:List Nat} (hn:∀ j,j < 2→qj (sgW j).2 l=none):j9 l=(l,0):=by
 have e0:qj 43 l=none:=hn 0 (by decide)
 have e1:qj 45 l=none:=hn 1 (by decide)
 unfold j9
 rw [e0,e1]
section
variable {P:Program} {w:World} {K:W.Frag} {mg:Str→Option Value} {base:Heap}
theorem jf1 {f:Addr} {fd:FuncData} (F:Fun K "more_cut" "more_cut" zW f fd) (B:Free0 mg) (F_is_figures:Fn P w K mg base 1 "is_figures" ["text"] jcG):FnOk P w K mg base CX0 2 f fd ["text"] jaE:=by
 have sc:FnScope ["text","sign","ahead","blanks","figures"] ["text"] (jk zW):=fQ
 refine F.okZ sc (fun vs H Q E h=>?_) (fun cdv A outer s H vs Q E hr h=>?_)
 ·obtain ⟨z,rfl,_⟩:=h
  rfl
 obtain ⟨z,rfl,hz,q⟩:=h
 refine ⟨_,(jd (jaq PassesOwn.never rfl (jdU (jJ (ja jc (ja jc jb)))) (jn (i:=1) sc.nd rfl oQ) (jd (j1 (kK PySem.F.plainAttrs_str PySem.F.slot_str_rpartition PySem.F.type_str_rpartition yk (zpv 0) (ja (kx (jC jc (jC (ke (zpv 1)) (jC jc qD)))) jb)) (j6 rfl (jm (jn (i:=2) sc.nd rfl oQ) (jm (jn (i:=3) sc.nd rfl oQ) (jm (jn (i:=4) sc.nd rfl oQ) jT)))))
   (jh (jH (yB (jw ja0 (zpv 3) jc (jE _)) (yB (ko (jp F_is_figures hr (ja (zpv 4) jb))) (yA (jw ja0 (zpv 4) jc (jE _))))).pt (jh (jl (jJ (ja (zpv 2) (ja (zF qc (by rfl) B.int_ yw (ja (jr jy (zpv 1) (zpv 4)) jb)) jb))))) js))))
   (jh (jl (jJ (ja (zpv 0) (ja jg jb)))))),?_⟩
 refine jA (σ':=[some (.str z),none,none,none,none]) rfl ?_
 refine ⟨sm rfl,fun t ht=>?_⟩
 have s0:=ji ht (.tup [V.str (Str.ofString "+"),V.str (Str.ofString "-")])
 have e0:upd H t (.tup [V.str (Str.ofString "+"),V.str (Str.ofString "-")]) t=some (.tup [V.str (Str.ofString "+"),V.str (Str.ofString "-")]):=jf
 generalize upd H t (.tup [V.str (Str.ofString "+"),V.str (Str.ofString "-")])=H0 at *
 refine ⟨t,rfl,⟨_,SqT.of e0⟩,?_⟩
 let Pv:Nat→L2.St→Hp→Prop:=fun i σ G=>∃ u1 u2 u3 u4,σ=[some (.str z),u1,u2,u3,u4]∧Same H0 G∧∀ j,j < i→qj (sgW j).2 (cd z)=none
 refine jeL (xs:=[V.str (Str.ofString "+"),V.str (Str.ofString "-")]) Pv ⟨none,none,none,none,rfl,Same.refl _,fun j hj=>absurd hj (Nat.not_lt_zero j)⟩ ?_ ?_ ?_
 ·rintro i σ G _ ⟨u1,u2,u3,u4,rfl,sG,-⟩
  exact SqT.of (sG _ _ e0)
 ·rintro i x σ G hx ⟨u1,u2,u3,u4,rfl,sG,hn⟩
  obtain ⟨rfl,hi⟩:=jfG hx
  obtain ⟨c1,c2⟩:=jcI hi
  refine gQ ?_
  refine ⟨_,rfl,rfl,?_⟩
  refine jcE (n:=0) (Nat.le_refl _) (by decide +kernel) (by decide) fun o1=>jfE (x:=(sgW i).1) o1 (Nat.le_trans c2 (by decide)) (by decide) (fun q h=>⟨_,rfl,h⟩) fun o2=>jcE o2 (by decide +kernel) (by decide) fun o3=>⟨jD (Nat.le_trans o3 (by decide)),?_⟩
  rw [j8]
  have hs:cd (Str.ofString " "++(sgW i).1++Str.ofString " ")=[32,(sgW i).2,32]:=by
   rw [jS,jS,c1]
   rfl
  have hl:(Str.ofString " "++(sgW i).1++Str.ofString " ").length=3:=by rw [← jI,hs];rfl
  generalize hsep:Str.ofString " "++(sgW i).1++Str.ofString " " = sep at *
  refine ⟨z,sep,rfl,rfl,by rw [hl];rfl,sz hz,fun p hp=>?_⟩
  rw [YU (by rw [hs];simp),hs]
  cases e:jQ [32,(sgW i).2,32] (cd z) with
  | none=>
   dsimp only
   have s1:=ji hp (.tup [V.str Str.empty,V.str Str.empty,V.str z])
   have e1:upd G p (.tup [V.str Str.empty,V.str Str.empty,V.str z]) p=some (.tup [V.str Str.empty,V.str Str.empty,V.str z]):=jf
   generalize upd G p (.tup [V.str Str.empty,V.str Str.empty,V.str z])=G1 at *
   refine ⟨p,_,rfl,SqT.of e1,rfl,_,_,rfl,_,_,rfl,_,_,rfl,rfl,?_⟩
   refine jA (σ':=[some (.str z),some (.str (sgW i).1),some (.str Str.empty),some (.str Str.empty),some (.str z)]) rfl ?_
   refine ⟨_,rfl,rfl,_,rfl,kF (fun d=>absurd d (by decide +kernel)) (fun _=>ku ?_)⟩
   refine ⟨_,_,_,_,rfl,sG.trans s1,fun j hj=>?_⟩
   rcases Nat.lt_or_ge j i with h | h
   ·exact hn j h
   ·have:j=i:=by omega
    subst this
    unfold qj
    rw [e]
  | some r=>
   dsimp only
   have s1:=ji hp (.tup [V.str (mS r.1),V.str sep,V.str (mS r.2)])
   have e1:upd G p (.tup [V.str (mS r.1),V.str sep,V.str (mS r.2)]) p=some (.tup [V.str (mS r.1),V.str sep,V.str (mS r.2)]):=jf
   generalize upd G p (.tup [V.str (mS r.1),V.str sep,V.str (mS r.2)])=G1 at *
   refine ⟨p,_,rfl,SqT.of e1,rfl,_,_,rfl,_,_,rfl,_,_,rfl,rfl,?_⟩
   refine jA (σ':=[some (.str z),some (.str (sgW i).1),some (.str (mS r.1)),some (.str sep),some (.str (mS r.2))]) rfl ?_
   obtain ⟨l1,l2⟩:=Yi (by simp) e
   rw [jI] at l1 l2
   have next:qj (sgW i).2 (cd z)=none→Pv (i+1) [some (.str z),some (.str (sgW i).1),some (.str (mS r.1)),some (.str sep),some (.str (mS r.2))] G1:=fun hno=>⟨_,_,_,_,rfl,sG.trans s1,fun j hj=>by
    rcases Nat.lt_or_ge j i with h | h
    ·exact hn j h
    ·have:j=i:=by omega
     subst this
     exact hno⟩
   have es:qj (sgW i).2 (cd z)=if qh r.2 && !(r.2 == [48]) then some r else none:=by
    unfold qj
    rw [e]
   refine ⟨_,rfl,rfl,_,rfl,kF (fun _=>?_) (fun d=>absurd ?_ d)⟩
   ·refine ⟨_,rfl,mS r.2,rfl,by rw [kU];omega,_,rfl,?_⟩
    rw [kt]
    cases hf:qh r.2 with
    | false=>
     rw [hf] at es
     exact ku (ku (next es))
    | true=>
    rw [hf] at es
    refine kE ⟨_,rfl,rfl,_,rfl,?_⟩
    have e4:decide (V.str (mS r.2)=V.str (Str.ofString "0"))=(r.2 == [48]):=by
     rw [Bool.eq_iff_iff,decide_eq_true_eq,beq_iff_eq]
     constructor
     ·intro h
      injection h with h
      have:=congrArg cd h
      rwa [kt] at this
     ·intro h
      rw [h]
      rfl
    rw [e4]
    cases h0:r.2 == [48] with
    | true=>
     rw [h0] at es
     exact ku (next es)
    | false=>
    rw [h0] at es
    have ec:=jfF hi hn es
    obtain ⟨n1,n2⟩:=jfD hi hf
    rw [ec] at q
    refine kE ⟨_,rfl,_,rfl,_,rfl,_,_,rfl,rfl,?_,_,_,rfl,n1,n2,sm rfl,fun p2 hp2=>?_⟩
    ·rw [← Str.length_append]
     exact Nat.le_trans n2 (by decide)
    ·exact q _ _ (s0.trans (sG.trans (s1.trans (ji hp2 _)))) jf
   ·rw [Bool.not_eq_true',decide_eq_false_iff_not]
    intro h
    injection h with h
    rw [h] at hl
    exact absurd hl (by decide)
 ·rintro σ G ⟨u1,u2,u3,u4,rfl,sG,hn⟩
  rw [jd4 hn,qr] at q
  exact ⟨_,rfl,sm rfl,fun p hp=>q _ _ (s0.trans (sG.trans (ji hp _))) jf⟩
end
end LW
namespace L2
open PySem PySem.Spec PyProof.Rows
theorem Kj {M:Model} {A:Around} {E:Value→Shared→Prop} {nm q:Str} {C N:Addr} {bs bm:List Value} {hdct:Bool} {sn:List Str} {sub:List Value} {ab:Bool} {col:Option Bool} {dd:Option Addr} {k0 k1 k2 k3 k5:Option Value} {newId:String}
  {nm' q':Str} {C' N':Addr} {bs' bm':List Value} {hdct':Bool} {sn':List Str} {sub':List Value} {ab':Bool} {col':Option Bool} {dd':Option Addr} {k0' k1' k2' k3' k5':Option Value} {newId':String} {h:Heap} {g:Array GenState} {d:Drawn} {t:Nat} {os:OsState} {e:Addr} {oe:Obj} {Q:Bool→Shared→Prop}
  (hC:h.get? C=some (excClassObj nm q C N bs bm hdct sn sub ab col dd k0 k1 k2 k3 k5 newId)) (hD:h.get? C'=some (excClassObj nm' q' C' N' bs' bm' hdct' sn' sub' ab' col' dd' k0' k1' k2' k3' k5' newId')) (he:h.get? e=some oe) (hc:oe.cls=.ref C') (hb:bm.contains (.type "BaseException")=true) (hin:(Value.ref C' :: bm').contains (.ref C)=true)
  (q:Q true { heap:=h,gens:=g,drawn:=d,toks:=t,os:=os }):wpAny M A (excMatches (.ref e) (.ref C)) Q E { heap:=h,gens:=g,drawn:=d,toks:=t,os:=os }:=by
 unfold excMatches
 refine wpAny_bind ?_
 unfold isInstance
 refine wpAny_bind (wpAny_typeOf_ref hC ?_)
 have e1:isSubtype (.type "type") (.type "tuple")=pure false:=by rw [isSubtype_type];rfl
 show wpAny M A (isSubtype (.type "type") (.type "tuple")) _ E _
 rw [e1]
 refine wpAny_pure ?_
 show wpAny M A (pure [Value.ref C] >>= _) Q E _
 refine wpAny_bind (wpAny_pure ?_)
 refine wpAny_bind ?_
 rw [List.forIn_cons]
 refine wpAny_bind (wpAny_bind ?_)
 unfold isExcClass
 refine wpAny_bind (ks_wpAny_isType_cls hC rfl ?_)
 refine wpAny_isSubtype_exc hC ?_
 rw [show (Value.ref C :: bm).contains (.type "BaseException")=true by rw [List.contains_cons,hb,Bool.or_true]]
 refine wpAny_pure ?_
 dsimp only
 rw [List.forIn_nil]
 refine wpAny_pure ?_
 refine wpAny_bind (wpAny_typeOf_ref he ?_)
 refine wpAny_bind ?_
 rw [List.forIn_cons]
 refine wpAny_bind (wpAny_bind ?_)
 rw [hc]
 refine wpAny_isSubtype_exc hD ?_
 rw [hin]
 refine wpAny_pure ?_
 refine wpAny_pure ?_
 exact wpAny_pure q
theorem YJ {K:W.Frag} {M:Model} {A:Around} {E:Value→Shared→Prop} {s:Shared} {C e fI:Addr} {oe:Obj} {name:Str} {args:List Value} {Q:Option Value→Shared→Prop} (X:K.In s.heap) (he:s.heap.get? e=some oe) (hc:oe.cls=.ref C) (hi:W.findIn K (.ref C) name=some (some (.ref fI))) (hf:W.typeIn K (.ref fI)=some (.type "function"))
  (h:wpAny M A (call (.ref fI) (.ref e :: args)) (fun v=>Q (some v)) E s):wpAny M A (callSpecial? (.ref e) name args) Q E s:=by
 unfold callSpecial?
 refine wpAny_bind ?_
 unfold specialOf
 refine wpAny_bind (wpAny_typeOf_ref he ?_)
 rw [hc]
 refine W.looks_findIn X hi A _ E s (fun _ _ e=>e) ?_
 dsimp only
 refine wpAny_holding ?_
 refine wpAny_bind (W.bind_fn X (.ref e) hf A _ E s (fun _ _ e=>e) ?_)
 dsimp only
 refine wpAny_bind ?_
 exact wpAny_mono h (fun v s' q=>wpAny_pure q) fun _ _ z=>z
theorem Jt {prog:Program} {w:World} {A:Around} {E:Value→Shared→Prop} {h:Heap} {g:Array GenState} {d:Drawn} {t:Nat} {os:OsState} {nm q:Str} {C N:Addr} {bs bm bmB:List Value} {hdct:Bool} {sn:List Str} {sub:List Value} {ab:Bool} {col:Option Bool} {dd:Option Addr} {k0 k1 k2 k3 k5:Option Value} {B Bn newId nid initId inN:String} {bmN:List Value}
  (f1:ExcBaseFacts Bn newId inN bmN) (f2:bmB.contains (.type Bn)=true) (f3:ExcBaseFacts B nid initId bmB) (ot:OwnTail h bmB bm) {j3:List Value} {fI:Addr} {Q:PySem.Fin→Shared→Prop}
  (hC:h.get? C=some (excClassObj nm q C N bs bm hdct sn sub ab col dd k0 k1 k2 k3 k5 newId))
  (hz:j3.length≤sizeLine) (hq:∀ a,(Code.builtin newId a).quiet=true)
  (hi:∀ (h':Heap) (e:Addr),h.MadeExcOf h' e (.ref C) j3→wpAny (model prog w) A (callSpecial? (.ref e) "__init__" j3) (fun r s'=>r=some .none∧Q (Fin.done (Flow.ret (.ref e))) s') E { heap:=h',gens:=g,drawn:=d,toks:=t,os:=os }) :
  wpAny (model prog w) A (Builtin.«type.__call__» { pos:=.ref C :: j3 }) Q E { heap:=h,gens:=g,drawn:=d,toks:=t,os:=os }:=by
 unfold Builtin.«type.__call__»
 dsimp only
 rw [if_neg (show ¬ (Value.ref C == Value.type "type")=true from fun z=>by cases z)]
 refine wpAny_bind (wpAny_mroOf_exc hC ?_)
 rw [if_neg (by simp)]
 refine wpAny_bind (wpAny_madeBy_exc hC ?_)
 dsimp only
 refine wpAny_bind (wpAny_pure ?_)
 refine wpAny_bind (wpAny_holding ?_)
 refine wpAny_call (codeAny_call_builtin_code (hq _) (wpAny_check_new_subU f1 f2 ot hC (codeAny_exc_new_subU f1 f2 f3 ot hC ?_ hz)))
 dsimp only
 have me:h.MadeExcOf ((h.push { cls:=.type "tuple",data:=.seq j3.toArray }).push { cls:=.ref C,data:=.fields #[.ref h.objs.size,.none,.none,.none,.bool false,.none] }) (h.objs.size+1) (.ref C) j3:=⟨fun b o e=>Heap.get?_push_of_some _ (Heap.get?_push_of_some _ e),by simp [Heap.get?],h.objs.size,Heap.get?_push_at (by simp [Heap.push]) rfl,by simp [Heap.get?],Heap.get?_push_of_some _ (Heap.get?_push_at rfl rfl)⟩
 obtain ⟨t9,e1,-,-⟩:=me.there
 have hC':=me.keeps _ _ hC
 have hi':=hi _ _ me
 generalize (h.push { cls:=.type "tuple",data:=.seq j3.toArray }).push { cls:=.ref C,data:=.fields #[.ref h.objs.size,.none,.none,.none,.bool false,.none] }=h2 at *
 refine wpAny_bind ?_
 unfold isInstance
 refine wpAny_bind (wpAny_typeOf_ref e1 ?_)
 refine wpAny_isSubtype_exc hC' ?_
 rw [show (Value.ref C :: bm).contains (.ref C)=true by rw [List.contains_cons];simp]
 rw [if_neg (by decide)]
 refine wpAny_bind (wpAny_holding ?_)
 refine wpAny_mono hi' (fun r s' hr=>?_) fun _ _ z=>z
 obtain ⟨rfl,q⟩:=hr
 dsimp only
 rw [if_neg (by decide)]
 exact wpAny_pure q
def DictStay (h h':Heap):Prop:=∀ b o,h.get? b=some o→∃ o',h'.get? b=some o'∧o'.dict=o.dict
theorem DictStay.refl (h:Heap):DictStay h h:=fun b o e=>⟨o,e,rfl⟩
theorem DictStay.trans {a b c:Heap} (x:DictStay a b) (y:DictStay b c):DictStay a c:=fun e o h=>by
 obtain ⟨o1,h1,d1⟩:=x e o h
 obtain ⟨o2,h2,d2⟩:=y e o1 h1
 exact ⟨o2,h2,d2.trans d1⟩
inductive Tame {α:Type}:Sem α→Prop where
 | pure (a:α):Tame (.pure a)
 | raise (e:Value):Tame (.raise e)
 | unsup (x:String):Tame (.unsupported x)
 | rule (t:String) (k:Unit→Sem α) (h:Tame (k ())):Tame (.rule t k)
 | load (a:Addr) (p:Option Value) (k:Obj→Sem α) (h:∀ o,Tame (k o)):Tame (.load a p k)
 | update (a:Addr) (p:Option Value) (f:Obj→Obj) (k:Unit→Sem α) (hf:∀ o,(f o).dict=o.dict∧(o.data≠.freed→(f o).data≠.freed)) (h:Tame (k ())):Tame (.update a p f k)
 | alloc (o:Obj) (k:Addr→Sem α) (h:∀ a,Tame (k a)):Tame (.alloc o k)
 | stack (k:List (Code×Pos)→Sem α) (h:∀ l,Tame (k l)):Tame (.stack k)
theorem Tame.bind {α β:Type} {m:Sem α} {f:α→Sem β} (h:Tame m) (hf:∀ a,Tame (f a)):Tame (m >>= f):=by
 show Tame (Sem.bind m f)
 induction h with
 | pure a=>exact hf a
 | raise e=>exact .raise e
 | unsup x=>exact .unsup x
 | rule t k _ ih=>exact .rule t _ ih
 | load a p k _ ih=>exact .load a p _ ih
 | update a p g k hg _ ih=>exact .update a p g _ hg ih
 | alloc o k _ ih=>exact .alloc o _ ih
 | stack k _ ih=>exact .stack _ ih
theorem Jv {h:Heap} {a:Addr} {f:Obj→Obj} (hf:∀ o,(f o).dict=o.dict∧(o.data≠.freed→(f o).data≠.freed)):DictStay h (h.update a f):=fun b o e=>by
 by_cases z:a=b
 ·subst z
  have nf:o.data≠.freed:=fun q=>by
   have:=(Heap.get?_some_iff.mp e).2
   obtain ⟨_,_,od,_⟩:=o
   cases q
   cases this
  refine ⟨f o,Heap.get?_update_self f e ?_,(hf o).1⟩
  have:=(hf o).2 nf
  revert this
  generalize f o=u
  obtain ⟨_,_,od,_⟩:=u
  intro nf
  cases od <;> first | rfl | exact absurd rfl nf
 ·exact ⟨o,(Heap.get?_update_other _ _ z).trans e,rfl⟩
theorem jd1 {α:Type} {M:Model} {Γ:PySem.Ctx} {t:Sem α} (ht:Tame t):∀ {Q:α→Pos→Shared→Prop} {E:Value→Pos→Shared→Prop} {p:Pos} {s:Shared},Sem.wp M Γ t Q E p s→Sem.wp M Γ t (fun a p' s'=>Q a p' s'∧DictStay s.heap s'.heap) E p s:=by
 induction ht with
 | pure a=>intro Q E p s h;rw [Sem.wp] at h ⊢;exact ⟨h,.refl _⟩
 | raise e=>intro Q E p s h;rw [Sem.wp] at h ⊢;exact h
 | unsup x=>intro Q E p s h;rw [Sem.wp] at h;exact h.elim
 | rule t k _ ih=>intro Q E p s h;rw [Sem.wp] at h ⊢;exact ih h
 | load a q k _ ih=>intro Q E p s h;rw [Sem.wp] at h ⊢;obtain ⟨o,e,h⟩:=h;exact ⟨o,e,ih o h⟩
 | update a q f k hf _ ih=>
  intro Q E p s h
  rw [Sem.wp] at h ⊢
  obtain ⟨e,h⟩:=h
  refine ⟨e,Sem.wp_mono M Γ _ (fun x p' s' hx=>⟨hx.1,(Jv hf).trans hx.2⟩) (fun _ _ _ z=>z) _ _ (ih h)⟩
 | alloc o k _ ih=>
  intro Q E p s h
  rw [Sem.wp] at h ⊢
  exact Sem.wp_mono M Γ _ (fun x p' s' hx=>⟨hx.1,DictStay.trans (fun b u e=>⟨u,Heap.get?_push_of_some _ e,rfl⟩) hx.2⟩) (fun _ _ _ z=>z) _ _ (ih _ h)
 | stack k _ ih=>intro Q E p s h;rw [Sem.wp] at h ⊢;exact ih _ h
theorem zI {α:Type} {M:Model} {A:Around} {t:Sem α} {Q:α→Shared→Prop} {E:Value→Shared→Prop} {s:Shared} (ht:Tame t) (h:wpAny M A t Q E s):wpAny M A t (fun a s'=>Q a s'∧DictStay s.heap s'.heap) E s:=
 fun Γ p hΓ=>jd1 ht (h Γ p hΓ)
theorem zk (v:Value) (i:Nat):Tame (field v i):=by
 unfold field fieldsOf
 refine .bind ?_ fun x=>?_
 ·cases v <;> first | exact .unsup _ | skip
  refine .bind (.load _ _ _ fun o=>.pure o) fun o=>?_
  cases o.data <;> first | exact .pure _ | exact .unsup _
 ·cases x[i]? with
  | none=>exact .unsup _
  | some y=>exact .pure y
theorem Kf (f:Array Value→Array Value) (o:Obj):(Obj.mapFields f o).dict=o.dict∧(o.data≠.freed→(Obj.mapFields f o).data≠.freed):=by
 obtain ⟨c,d,od,sl⟩:=o
 cases od <;> exact ⟨rfl,fun h=>by first | exact h | (intro z;cases z)⟩
theorem Tame.ite {α:Type} {c:Prop} [Decidable c] {a b:Sem α} (h1:Tame a) (h2:Tame b):Tame (if c then a else b):=by
 split <;> assumption
theorem qX (v:Value) (i:Nat) (x:Value):Tame (setField v i x):=by
 unfold setField updateField
 cases v <;> first | exact .unsup _ | skip
 refine .bind (.load _ _ _ fun o=>.pure o) fun o=>?_
 cases o.data <;> first | exact .unsup _ | skip
 exact .ite (.update _ _ _ _ (Kf _) (.pure _)) (.unsup _)
theorem zd:∀ l:List Env,Tame (readyFrames l)
 | []=>.pure ()
 | env :: outer=>by
  unfold readyFrames
  cases env.frame with
  | none=>exact .unsup _
  | some f=>
   refine .bind (.load _ _ _ fun o=>.pure o) fun o=>?_
   split
   ·exact .pure ()
   ·refine .bind ?_ fun im=>.bind ?_ fun bk=>.bind (.update _ _ _ _ (fun o=>⟨rfl,fun h=>h⟩) (.pure ())) fun _=>zd outer
    ·unfold behindIsImport
     split
     ·exact .pure _
     ·split
      ·exact .pure _
      ·exact .bind (zk _ _) fun _=>.pure _
    ·unfold keptBack
     split
     ·split
      ·exact .pure _
      ·unfold underTheClaimsCaller
       exact .bind (.bind (.stack _ fun l=>.pure l) fun _=>.pure _) fun _=>.pure _
     ·exact .pure _
theorem K3 (env:Env):Tame (PySem.frameOf env):=by
 unfold PySem.frameOf frameEnvs
 refine .bind (.bind (.stack _ fun l=>.pure l) fun _=>.pure _) fun l=>.bind ?_ fun x=>?_
 ·unfold frameObject
  split
  ·exact .pure _
  ·exact .bind (zd _) fun _=>.pure _
 ·cases x <;> first | exact .pure _ | exact .unsup _
theorem zH (e:Value) (env:Env):Tame (noteFrame e env):=by
 unfold noteFrame
 cases env.frame with
 | none=>exact .unsup _
 | some f=>
  refine .bind (zk _ _) fun hd=>?_
  have tl:Tame (do setField e 1 (← EntryCells.newEntry hd (← PySem.frameOf env) .none (rawInt f) .none (← entryPlaceOf f (hd != .none)))):=by
   refine .bind (K3 env) fun a=>.bind ?_ fun pl=>.bind ?_ fun b=>qX _ _ _
   ·unfold entryPlaceOf
    refine .bind (.stack _ fun l=>.pure l) fun acts=>?_
    split <;> exact .pure _
   ·unfold EntryCells.newEntry newFields newObj
    refine .ite (.unsup _) ?_
    exact .bind (.alloc _ _ fun a=>.pure a) fun a=>.pure _
  split
  ·refine .bind (zk _ _) fun x=>?_
   split
   ·exact .pure _
   ·exact .bind (qX _ _ _) fun _=>tl
  ·exact tl
theorem qA (e:Value) (fr:Option Addr):Tame (setFlight e fr):=by
 unfold setFlight
 refine .bind (zk _ _) fun x=>?_
 split
 ·exact qX _ _ _
 ·exact .pure _
theorem yH (env:Env) (e:Value):Tame (leaving env e):=.bind (zH e env) fun _=>qA e none
structure FlyD (h0:Heap) (H:Hp) (cls:Value) (dd:Option Addr) (e:Addr) (h:Heap):Prop where
 fly:Fly h0 H cls e h
 dic:∃ oe,h.get? e=some oe∧oe.dict=dd
theorem FlyD.stay {h0 h h':Heap} {H:Hp} {cls:Value} {dd:Option Addr} {e:Addr} (f:FlyD h0 H cls dd e h) (g:Fly h0 H cls e h') (d:DictStay h h'):FlyD h0 H cls dd e h':=by
 obtain ⟨oe,e1,e2⟩:=f.dic
 obtain ⟨o',e3,e4⟩:=d e oe e1
 exact ⟨g,o',e3,e4.trans e2⟩
section
variable {M:Model} {A:Around} {E:Value→Shared→Prop} {s:Shared} {base h0:Heap} {env:Env} {outer:List Env} {L e:Addr} {cls:Value} {dd:Option Addr} {H:Hp} {Q:Unit→Shared→Prop}
theorem Zc (hA:A.frames=some (env :: outer)) (hfr:s.heap.FunFrames base (env :: outer)) (hL:env.frame=some L) (hF:FlyD h0 H cls dd e s.heap) (hff:∀ b∈frs (env :: outer),H b=none) (hH:∀ b,s.heap.get? b=none→H b=none∧h0.get? b=none)
  (hQ:∀ h',Left (frs (env :: outer)) h0 H s.heap h'→FlyD h0 H cls dd e h'→h'.FunFrames base (env :: outer)→Q () { s with heap:=h' }) (hbs:∀ b o,base.get? b=some o→b ∉ frs (env :: outer)∧∃ u,h0.get? b=some u):wpAny M A (leaving env (.ref e)) Q E s:=by
 refine wpAny_mono (zI (yH env (.ref e)) (Z4 (Q:=fun _ s'=>∃ h',s'={ s with heap:=h' }∧Left (frs (env :: outer)) h0 H s.heap h'∧Fly h0 H cls e h'∧h'.FunFrames base (env :: outer)) hA hfr hL hF.fly hff hH (fun h' l f r=>⟨h',rfl,l,f,r⟩) hbs)) (fun _ s' q=>?_) fun _ _ z=>z
 obtain ⟨⟨h',rfl,l,f,r⟩,d⟩:=q
 exact hQ h' l (hF.stay f d) r
theorem Ym {oe:Obj} {vs:Array Value} {a0:Value} (hA:A.frames=some (env :: outer)) (hfr:s.heap.FunFrames base (env :: outer)) (hL:env.frame=some L) (he:H e=none) (ne:h0.get? e=none) (ho:s.heap.get? e=some oe) (hc:oe.cls=cls) (hdd:oe.dict=dd) (hd:oe.data=.fields vs) (h1:vs[1]?=some .none) (ha:vs[0]?=some a0) (hff:∀ b∈frs (env :: outer),H b=none) (hH:∀ b,s.heap.get? b=none→H b=none∧h0.get? b=none)
  (hQ:∀ h',Left (frs (env :: outer)) h0 H s.heap h'→FlyD h0 H cls dd e h'→h'.FunFrames base (env :: outer)→Q () { s with heap:=h' }) (hbs:∀ b o,base.get? b=some o→b ∉ frs (env :: outer)∧∃ u,h0.get? b=some u):wpAny M A (leaving env (.ref e)) Q E s:=by
 refine wpAny_mono (zI (yH env (.ref e)) (Zd (Q:=fun _ s'=>∃ h',s'={ s with heap:=h' }∧Left (frs (env :: outer)) h0 H s.heap h'∧Fly h0 H cls e h'∧h'.FunFrames base (env :: outer)) hA hfr hL he ne ho hc hd h1 ha hff hH (fun h' l f r=>⟨h',rfl,l,f,r⟩) hbs)) (fun _ s' q=>?_) fun _ _ z=>z
 obtain ⟨⟨h',rfl,l,f,r⟩,d⟩:=q
 obtain ⟨o',e3,e4⟩:=d e oe ho
 exact hQ h' l ⟨f,o',e3,e4.trans hdd⟩ r
theorem Z5 (hA:A.frames=some (env :: outer)) (hfr:s.heap.FunFrames base (env :: outer)) (hL:env.frame=some L) (hF:FlyD h0 H cls dd e s.heap) (hff:∀ b∈frs (env :: outer),H b=none) (hH:∀ b,s.heap.get? b=none→H b=none∧h0.get? b=none)
  (hQ:∀ h',Left (frs (env :: outer)) h0 H s.heap h'→FlyD h0 H cls dd e h'→h'.FunFrames base (env :: outer)→Q () { s with heap:=h' }) (hbs:∀ b o,base.get? b=some o→b ∉ frs (env :: outer)∧∃ u,h0.get? b=some u) :
  wpAny M A (noteFrame (.ref e) env) (fun _ s2=>wpAny M A (setFlight (.ref e) none) Q E s2) E s:=by
 have k:=jb4 (Q:=fun _ s'=>∃ h',s'={ s with heap:=h' }∧Left (frs (env :: outer)) h0 H s.heap h'∧Fly h0 H cls e h'∧h'.FunFrames base (env :: outer)) (M:=M) (A:=A) (E:=E) hA hfr hL hF.fly hff hH (fun h' l f r=>⟨h',rfl,l,f,r⟩) hbs
 refine wpAny_mono (zI (zH (.ref e) env) k) (fun _ s2 q=>?_) fun _ _ z=>z
 obtain ⟨q,d1⟩:=q
 refine wpAny_mono (zI (qA (.ref e) none) q) (fun _ s' q=>?_) fun _ _ z=>z
 obtain ⟨⟨h',rfl,l,f,r⟩,d⟩:=q
 exact hQ h' l (hF.stay f (d1.trans d)) r
theorem Ze (hfr:s.heap.FunFrames base (env :: outer)) (hF:FlyD h0 H cls dd e s.heap) (hff:∀ b∈frs (env :: outer),H b=none) (hH:∀ b,s.heap.get? b=none→H b=none∧h0.get? b=none)
  (hQ:∀ h',Left (frs (env :: outer)) h0 H s.heap h'→FlyD h0 H cls dd e h'→h'.FunFrames base (env :: outer)→Q () { s with heap:=h' }) (hbs:∀ b o,base.get? b=some o→b ∉ frs (env :: outer)∧∃ u,h0.get? b=some u) :
  wpAny M A (setFlight (.ref e) none) Q E s:=by
 refine wpAny_mono (zI (qA (.ref e) none) (Z6 (Q:=fun _ s'=>∃ h',s'={ s with heap:=h' }∧Left (frs (env :: outer)) h0 H s.heap h'∧Fly h0 H cls e h'∧h'.FunFrames base (env :: outer)) hfr hF.fly hff hH (fun h' l f r=>⟨h',rfl,l,f,r⟩) hbs)) (fun _ s' q=>?_) fun _ _ z=>z
 obtain ⟨⟨h',rfl,l,f,r⟩,d⟩:=q
 exact hQ h' l (hF.stay f d) r
end
def CX2 (P:Program) (w:World):CXT:=fun outer H s E e s'=>∃ ea cls dd H',e=.ref ea∧s'.os=s.os∧AllBare s'.gens∧Un (frs outer) [] H H' s.heap s'.heap∧HOk P w H' s'.heap∧FlyD s.heap H' cls dd ea s'.heap∧E cls dd H'
section
variable {X:Cx} {pins:List (Addr×Obj)} {σ:St} {H:Hp} {s:Shared} {cls:Value} {dd:Option Addr} {e:Addr}
structure XD (X:Cx) (E:XK):Prop where
 env:X.stack=X.env :: X.outer
 fr:X.env.frame=some X.env.locals
 ex:X.ex=[]
 xe:X.xe=fun e s'=>wpAny (model X.prog X.w) X.A (leaving X.env e) (fun _ s''=>CX2 X.prog X.w X.outer X.H₀ X.s₀ E e s'') (fun e' s''=>CX2 X.prog X.w X.outer X.H₀ X.s₀ E e' s'') s'
theorem XD.left {E:XK} (W:XD X E) (I:Inv X pins σ H s) {h':Heap} (l:Left (frs (X.env :: X.outer)) X.s₀.heap H s.heap h') (f:FlyD X.s₀.heap H cls dd e h') (hE:E cls dd H):CX2 X.prog X.w X.outer X.H₀ X.s₀ E (.ref e) { s with heap:=h' }:=by
 have hb:=I.base
 rw [W.ex] at hb
 have nL:∀ b o,X.s₀.heap.get? b=some o→b ∉ frs X.outer→b ∉ frs (X.env :: X.outer):=fun b o e hn hm=>by
  unfold frs at hm
  rw [List.filterMap_cons,W.fr] at hm
  rcases List.mem_cons.mp hm with rfl | hm
  ·exact absurd (Heap.lt_size e) (Nat.not_lt.mpr I.ok.above)
  ·exact hn hm
 have inO:∀ b,b∈frs X.outer→b∈frs (X.env :: X.outer):=fun b hm=>by
  unfold frs at hm ⊢
  rw [List.filterMap_cons,W.fr]
  exact List.mem_cons_of_mem _ hm
 have stk:=I.stkFree
 rw [W.env] at stk
 refine ⟨e,cls,dd,H,rfl,I.os,I.bare,⟨fun b o h1 h2 h3 h4=>?_,fun b o h1 h2 h3 h4=>?_,fun b o h1 h2 h3=>hb.free b o h1 h2 h3,fun b o h1 h2=>?_,hb.tups,hb.frzs,hb.tbls⟩,fun a o ho=>?_,f,hE⟩
 ·exact l.keep b o (hb.keep b o h1 h2 h3 h4) (nL b o h1 h3) (.inr ⟨o,h1⟩)
 ·obtain ⟨sl,h5⟩:=hb.slot b o h1 h2 h3 h4
  obtain ⟨sl',h6⟩:=l.slot b _ h5 (inO b h3)
  exact ⟨sl',h6⟩
 ·obtain ⟨o',h5⟩:=hb.there b o h1 h2
  by_cases hm:b∈frs (X.env :: X.outer)
  ·obtain ⟨sl',h6⟩:=l.slot b _ h5 hm
   exact ⟨_,h6⟩
  ·exact ⟨o',l.keep b o' h5 hm (.inr ⟨o,h1⟩)⟩
 ·refine (I.hok a o ho).stay (fun b u hbu q=>?_) (fun _ q=>q) fun _ _ q=>q
  have hne:H b≠none:=by
   rcases hbu with rfl | hbu
   ·rw [ho];simp
   ·rw [hbu];simp
  exact l.keep b u q (fun hm=>hne (stk b hm)) (.inl hne)
theorem XD.hH {E:XK} (W:XD X E) (I:Inv X pins σ H s):∀ b,s.heap.get? b=none→H b=none∧X.s₀.heap.get? b=none:=fun b hb=>by
 refine ⟨?_,?_⟩
 ·rcases hh:H b with _ | o
  ·rfl
  ·obtain ⟨u,hu⟩:=(I.hok b o hh).ex
   rw [hu] at hb;cases hb
 ·rcases hh:X.s₀.heap.get? b with _ | o
  ·rfl
  ·have hbase:=I.base
   rw [W.ex] at hbase
   obtain ⟨o',h5⟩:=hbase.there b o hh (by simp)
   rw [h5] at hb;cases hb
theorem XD.hbs {E:XK} (W:XD X E) (I:Inv X pins σ H s):∀ b o,X.base.get? b=some o→b ∉ frs (X.env :: X.outer)∧∃ u,X.s₀.heap.get? b=some u:=fun b o hb=>by
 refine ⟨fun hm=>?_,⟨o,(I.ok.bs b o hb).1⟩⟩
 have hs:=I.stack
 rw [W.env] at hs
 have:∀ {l:List Env},s.heap.FunFrames X.base l→b∈frs l→False:=by
  intro l
  induction l with
  | nil=>intro _ h;cases h
  | cons env l ih=>
   intro hf hm
   obtain ⟨_,⟨L,o',e1,e2,_,_⟩,hr⟩:=hf
   unfold frs at hm
   rw [List.filterMap_cons,e1] at hm
   rcases List.mem_cons.mp hm with rfl | hm
   ·rw [e2] at hb;cases hb
   ·exact ih hr hm
 exact this hs hm
theorem XD.next {E:XK} (W:XD X E) (I:Inv X pins σ H s) (F:FlyD X.s₀.heap H cls dd e s.heap) (hE:E cls dd H):X.xe (.ref e) s:=by
 have stk:=I.stkFree
 have hs:=I.stack
 have hf:=I.ok.frames
 rw [W.env] at stk hs hf
 rw [W.xe]
 exact Zc hf hs W.fr F stk (W.hH I) (fun h' l f _=>W.left I l f hE) (W.hbs I)
theorem XD.first {E:XK} (W:XD X E) (I:Inv X pins σ H s) {oe:Obj} {vs:Array Value} {a0:Value} (he:H e=none) (ne:X.s₀.heap.get? e=none) (ho:s.heap.get? e=some oe) (hc:oe.cls=cls) (hdd:oe.dict=dd) (hd:oe.data=.fields vs) (h1:vs[1]?=some .none) (ha:vs[0]?=some a0) (hE:E cls dd H):X.xe (.ref e) s:=by
 have stk:=I.stkFree
 have hs:=I.stack
 have hf:=I.ok.frames
 rw [W.env] at stk hs hf
 rw [W.xe]
 exact Ym hf hs W.fr he ne ho hc hdd hd h1 ha stk (W.hH I) (fun h' l f _=>W.left I l f hE) (W.hbs I)
theorem Inv.raisedD {E:XK} {s':Shared} {ev:Value} (I:Inv X pins σ H s) (h:CX2 X.prog X.w X.stack H s E ev s'):∃ ea cls dd H',ev=.ref ea∧Inv X pins σ H' s'∧FlyD s.heap H' cls dd ea s'.heap∧E cls dd H':=by
 obtain ⟨ea,cls,dd,H',rfl,os,bare,un,hok,fly,hE⟩:=h
 obtain ⟨hh,g,d,t,os'⟩:=s'
 obtain rfl:os'=s.os:=os
 exact ⟨ea,cls,dd,H',rfl,I.call (h':=hh) (g':=g) (d':=d) (t':=t) (ch:=[]) un hok bare (fun b z=>absurd z (by simp)),fly,hE⟩
theorem FlyD.back {E:XK} {s':Shared} (W:XD X E) (I:Inv X pins σ H s) {H':Hp} (F:FlyD s.heap H' cls dd e s'.heap):FlyD X.s₀.heap H' cls dd e s'.heap:=by
 obtain ⟨oe,vs,T,oT,ts,a0,t1,t2,t3,t4,t5,t6,t7,t8,t9,t10,t11⟩:=F.fly.tr
 exact ⟨⟨F.fly.he,(W.hH I e F.fly.ne).2,oe,vs,T,oT,ts,a0,t1,t2,t3,t4,t5,t6,t7,t8,t9,t10,(W.hH I T t11).2⟩,F.dic⟩
theorem XD.passes {E:XK} (W:XD X E):Ks (CX2 X.prog X.w) X E:=fun pins σ H s ev s' I h=>by
 obtain ⟨ea,cls,dd,H',rfl,I',F,hE⟩:=I.raisedD h
 exact W.next I' (FlyD.back W I F) hE
end
structure FnD (P:Program) (w:World) (K:W.Frag) (mg:Str→Option Value) (base:Heap) (k:Nat) (x:Str) (ps:List Str) (sp:Sp):Prop where
 ex:∃ f fd,FnOk P w K mg base (CX2 P w) k f fd ps sp∧Binds K fd ps []∧W.keepIn K (.ref f)=true∧mg x=some (.ref f)
theorem FnD.mk' {P:Program} {w:World} {K:W.Frag} {mg:Str→Option Value} {base:Heap} {k:Nat} {x:Str} {ps:List Str} {sp:Sp} {st:Stmt} {f:Addr} {fd:FuncData} (F:Fun K x x st f fd) (b:Binds K fd ps []) (m:mg x=some (.ref f)) (G:FnOk P w K mg base (CX2 P w) k f fd ps sp):FnD P w K mg base k x ps sp:=⟨f,fd,G,b,F.kp,m⟩
theorem jfV {X:Cx} {k k':Nat} {x:Str} {ps:List Str} {sp:Sp} {E:XK} {e:Expr} {es:List Expr} {t:TA} {p pos:Pos} (F:FnD X.prog X.w X.K X.mg X.base k x ps sp) (W:XD X E) (hr:Room k' X.A) (ha:PA X (e :: es) t) (hk:k≤k':=by decide) (hg:Gl X x:=by rfl)
  (hd:(x == ("__debug__" : Str))=false:=by decide) (hp:(e :: es).all kA=true:=by rfl):PE X (.Call (.Name x p) (e :: es) [] pos) (KB sp [] E t):=by
 obtain ⟨f,fd,G,b,kp,m⟩:=F.ex
 rw [List.all_cons,Bool.and_eq_true] at hp
 exact jaY G (hr.mono hk) hg m kp b .nil W.passes ha hd (qf hp.1 es X.env) (yp pos X.env es hp.2)
theorem Fun.okD {P:Program} {w:World} {K:W.Frag} {mg:Str→Option Value} {base:Heap} {x qual:Str} {st:Stmt} {f:Addr} {fd:FuncData} {N ps:List Str} {k:Nat} {sp:Sp} (F:Fun K x qual st f fd) (S:FnScope N ps (jk st)) (len:∀ vs H Q E,sp vs H Q E→vs.length=ps.length)
  (hbody:∀ (cdv:Value) (A:Around) (outer:List Env) (s:Shared) (H:Hp) (vs:List V) (Q:VK) (E:XK),Room k (A.deeper (envOfC qual (jk st) s.heap.objs.size f cdv))→XD (Jw (CX2 P w) P w K mg base N qual (jk st) f cdv A outer s H E) E→sp vs H Q E→
   ∃ t,QSs (Jw (CX2 P w) P w K mg base N qual (jk st) f cdv A outer s H E) (qw st) t∧t { nx:=fun _ H'=>Q .non H',rt:=Q } (yh N vs) H):FnOk P w K mg base (CX2 P w) (k+1) f fd ps sp:=by
 obtain ⟨oc,od,kV,doc,pm,an,cdv,ct,osl,rfl,lk,hcd⟩:=F.ex
 refine jfv lk hcd S len fun A outer s H vs Q E hr hsp=>?_
 obtain ⟨t,h,q⟩:=hbody cdv A outer s H vs Q E hr ⟨rfl,rfl,rfl,rfl⟩ hsp
 exact ⟨t,h.h,q⟩
section
variable {M:Model} {A:Around} {E:Value→Shared→Prop} {env:Env}
variable {nm q:Str} {C N:Addr} {bs bm:List Value} {hdct:Bool} {sn:List Str} {sub:List Value} {ab:Bool} {col:Option Bool} {dd:Option Addr} {k0 k1 k2 k3 k5:Option Value} {newId:String}
theorem ZK {s:Shared} {x:Sem Value} {Q:Flow→Shared→Prop} (hbase:bm.contains (.type "BaseException")=true) (hh:A.handled=none)
  (h:wpAny M A x (fun v s₁=>∃ e dx vs sl,v=.ref e∧s₁.heap.get? C=some (excClassObj nm q C N bs bm hdct sn sub ab col dd k0 k1 k2 k3 k5 newId)∧
   s₁.heap.get? e=some { cls:=.ref C,dict:=dx,data:=.fields vs,slots:=sl }∧vs[1]?=some .none∧E (.ref e) s₁) E s) :
  wpAny M A (raiseStmt env (some x) none) Q E s:=by
 have hcB:(Value.ref C :: bm).contains (.type "BaseException")=true:=by rw [List.contains_cons,hbase,Bool.or_true]
 unfold raiseStmt
 refine wpAny_bind (wpAny_mono h (fun v s₁ h₁=>?_) fun _ _ x=>x)
 obtain ⟨e,dx,vs,sl,rfl,hC,he,h1,hE⟩:=h₁
 obtain ⟨hp,g,d,tk,os⟩:=s₁
 repeat (first | with_reducible refine wpAny_field he rfl h1 ?_ | with_reducible refine wpAny_loadPart_at he ?_ | with_reducible refine wpAny_loadPart_at hC ?_ | (with_reducible refine wpAny_isSubtype_exc hC ?_;rw [hcB]) | wp_step)
 exact wpAny_raiseNew_none hh hE
end
theorem jai {prog:Program} {w:World} {A:Around} {E:Value→Shared→Prop} {h:Heap} {g:Array GenState} {d:Drawn} {t:Nat} {os:OsState} {nm q:Str} {C N:Addr} {bs bm bmB:List Value} {hdct:Bool} {sn:List Str} {sub:List Value} {ab:Bool} {col:Option Bool} {dd:Option Addr} {k0 k1 k2 k3 k5:Option Value} {B Bn newId nid initId inN:String} {bmN:List Value}
  (f1:ExcBaseFacts Bn newId inN bmN) (f2:bmB.contains (.type Bn)=true) (f3:ExcBaseFacts B nid initId bmB) (ot:OwnTail h bmB bm) {j3:List Value} {Q:Value→Shared→Prop}
  (hC:h.get? C=some (excClassObj nm q C N bs bm hdct sn sub ab col dd k0 k1 k2 k3 k5 newId)) (hz:j3.length≤sizeLine) (hq:∀ a,(Code.builtin newId a).quiet=true)
  (hi:∀ (h':Heap) (e:Addr),h.MadeExcOf h' e (.ref C) j3→wpAny (model prog w) (A.under (.builtin "type.__call__" ⟨.ref C :: j3,[]⟩)) (callSpecial? (.ref e) "__init__" j3) (fun r s'=>r=some .none∧Q (.ref e) s') E { heap:=h',gens:=g,drawn:=d,toks:=t,os:=os }) :
  wpAny (model prog w) A (call (.ref C) j3) Q E { heap:=h,gens:=g,drawn:=d,toks:=t,os:=os }:=by
 have g1:=tc_lookup
 have g2:=tc_bind (.ref C)
 have hT:(⟨h,g,d,t,os⟩:Shared).TypeIs (.ref C) "type":=⟨_,hC,rfl⟩
 refine wpAny_call (codeAny_of_tree ?_)
 show wpAny _ _ (callAny (.ref C) _) _ _ _
 repeat (any_goals (first | assumption | with_reducible refine wpAny_loadPart_at hC ?_ | wp_step))
 refine ⟨rfl,?_⟩
 refine codeAny_call_builtin_at (Code.quiet_builtin _ (by decide +kernel)) entry_typeCall (wpAny_check_type_call_sub hC (Jt (fI:=0) f1 f2 f3 ot hC hz hq fun h' e hm=>?_))
 exact hi h' e hm
def xIn (K:W.Frag) (C:Addr) (bmB:List Value) (newId:String):Bool:=match K.lookup C with
 | some ⟨.type "type",_,.cls cd,sl⟩=>(match cd.mro,sl.toList with
  | .ref C' :: bm,[_,_,_,_,some (.builtin n),_]=>C' == C && n == newId && !cd.hasDel && W.tailIn K bmB bm
  | _,_=>false)
 | _=>false
theorem xObj_of_in {K:W.Frag} {h:Heap} {C:Addr} {bmB:List Value} {newId:String} (X:K.In h) (e:xIn K C bmB newId=true):∃ bm N nm q bs hdct sn sub ab col dd k0 k1 k2 k3 k5,
  h.get? C=some (excClassObj nm q C N bs bm hdct sn sub ab col dd k0 k1 k2 k3 k5 newId)∧OwnTail h bmB bm:=by
 unfold xIn at e
 split at e
 ·rename_i dct cd sl hl
  split at e
  ·rename_i C' bm a0 a1 a2 a3 n a5 hm hs
   simp only [Bool.and_eq_true,beq_iff_eq,Bool.not_eq_true'] at e
   obtain ⟨⟨⟨e1,e2⟩,e3⟩,e4⟩:=e
   subst e1 e2
   have hs':sl=#[a0,a1,a2,a3,some (.builtin n),a5]:=by
    apply Array.toList_inj.mp
    rw [hs]
   obtain ⟨c1,c2,c3,c4,c5,c6,c7,c8,c9,c10,c11⟩:=cd
   dsimp only at hm e3 e4
   subst hm hs' e3
   exact ⟨bm,c4,_,_,_,_,_,_,_,_,_,_,_,_,_,_,X _ _ hl,W.tail_of_in X e4⟩
  ·cases e
 ·cases e
def YC (C e:Addr):HO:=.ext fun h=>∃ vs sl,h.get? e=some { cls:=.ref C,dict:=none,data:=.fields vs,slots:=sl }∧vs[1]?=some .none∧6≤vs.size
def Ku (C e dx:Addr):HO:=.ext fun h=>∃ vs sl,h.get? e=some { cls:=.ref C,dict:=some dx,data:=.fields vs,slots:=sl }∧vs[1]?=some .none∧6≤vs.size
theorem Zl {P:Program} {w:World} {H:Hp} {h:Heap} {C e:Addr} (k:HOk P w H h) (he:H e=some (YC C e)):∃ vs sl,h.get? e=some { cls:=.ref C,dict:=none,data:=.fields vs,slots:=sl }∧vs[1]?=some .none∧6≤vs.size:=
 (show ObjOk P w H h e (YC C e) from k e _ he).1
theorem jcb {P:Program} {w:World} {H:Hp} {h:Heap} {C e dx:Addr} (k:HOk P w H h) (he:H e=some (Ku C e dx)):∃ vs sl,h.get? e=some { cls:=.ref C,dict:=some dx,data:=.fields vs,slots:=sl }∧vs[1]?=some .none∧6≤vs.size:=
 (show ObjOk P w H h e (Ku C e dx) from k e _ he).1
theorem jbh {P:Program} {w:World} {H:Hp} {h:Heap} {C e:Addr} {vs:Array Value} {sl:Array (Option Value)} (he:h.get? e=some { cls:=.ref C,dict:=none,data:=.fields vs,slots:=sl }) (h1:vs[1]?=some .none) (h2:6≤vs.size):ObjOk P w H h e (YC C e):=
 ⟨⟨vs,sl,he,h1,h2⟩,⟨_,he⟩,fun h1 h2 ⟨v,sl',q1,q2⟩ k=>⟨v,sl',k _ q1,q2⟩⟩
theorem jdz {P:Program} {w:World} {H:Hp} {h:Heap} {C e dx:Addr} {vs:Array Value} {sl:Array (Option Value)} (he:h.get? e=some { cls:=.ref C,dict:=some dx,data:=.fields vs,slots:=sl }) (h1:vs[1]?=some .none) (h2:6≤vs.size):ObjOk P w H h e (Ku C e dx):=
 ⟨⟨vs,sl,he,h1,h2⟩,⟨_,he⟩,fun h1 h2 ⟨v,sl',q1,q2⟩ k=>⟨v,sl',k _ q1,q2⟩⟩
theorem Inv.track {X:Cx} {pins:List (Addr×Obj)} {σ:St} {H:Hp} {s:Shared} {h':Heap} {e:Addr} {o:HO} {t':Nat} (I:Inv X pins σ H s) (k:∀ b u,s.heap.get? b=some u→h'.get? b=some u) (he:s.heap.get? e=none) (hn:H e=none) (ho:ObjOk X.prog X.w (upd H e o) h' e o):Inv X pins σ (upd H e o) { s with heap:=h',toks:=t' }:=
 I.un ((Un.kept k).track hn he) ((I.hok.kept k).track hn ho)
theorem Inv.drop {X:Cx} {pins:List (Addr×Obj)} {σ:St} {H:Hp} {s:Shared} {e:Addr} {φ:Heap→Prop} (I:Inv X pins σ (upd H e (.ext φ)) s) (hn:H e=none):Inv X pins σ H s:=by
 have g:∀ b,b≠e→upd H e (.ext φ) b=H b:=fun b z=>jx z
 refine I.un (t':=s.toks) ⟨fun b o q _ _ _=>q,fun b o q _ _ _=>⟨o.slots,q⟩,fun b o q n _=>?_,fun b o q _=>⟨o,q⟩,fun b xs q=>?_,fun b o xs q=>?_,fun b ps q=>?_⟩ fun a o ho=>?_
 ·by_cases z:b=e
  ·rw [z];exact hn
  ·rw [g b z] at n;exact n
 ·by_cases z:b=e
  ·subst z;rw [jf] at q;cases q
  ·rw [g b z] at q;exact q
 ·by_cases z:b=e
  ·subst z;rw [jf] at q;cases q
  ·rw [g b z] at q;exact q
 ·by_cases z:b=e
  ·subst z;rw [jf] at q;cases q
  ·rw [g b z] at q;exact ⟨#[],by rw [q];simp⟩
 ·have z:a≠e:=fun z=>by rw [z,hn] at ho;cases ho
  refine (I.hok a o (by rw [g a z];exact ho)).stay (fun b u _ q=>q) (fun b q=>?_) fun b xs q=>?_
  ·by_cases y:b=e
   ·subst y;rw [jf] at q;cases q
   ·rw [g b y] at q;exact q
  ·by_cases y:b=e
   ·subst y;rw [jf] at q;cases q
   ·rw [g b y] at q;exact q
def jax (C:Addr) (sp:Sp) (E:XK) (t:TA):TS:=fun _ σ H=>t σ H fun vs H1=>vs.length≤1000∧∀ e,H1 e=none→sp (.ref e :: (vs++[])) (upd H1 e (YC C e)) (fun v H2=>v=.non∧∃ dx H3,H2=upd H3 e (Ku C e dx)∧H3 e=none∧E (.ref C) (some dx) H3) E0
theorem jbE {X:Cx} {E:XK} {C f:Addr} {fd:FuncData} {k:Nat} {ps:List Str} {sp:Sp} {x:Str} {np cpos pos:Pos} {e:Expr} {es:List Expr} {t:TA} (Wd:XD X E) (hc:X.calm=true) (hg:Gl X x) (hm:X.mg x=some (.ref C)) (hx:xIn X.K C valB "ValueError.__new__" = true)
  (hi:W.findIn X.K (.ref C) "__init__" = some (some (.ref f))) (hf:W.typeIn X.K (.ref f)=some (.type "function")) (F:FnOk X.prog X.w X.K X.mg X.base CX0 k f fd ps sp) (hb:Binds X.K fd ps []) (hr:Room (k+1) X.A) (ha:PA X (e :: es) t) (hd:(x == ("__debug__" : Str))=false:=by decide) (hp:(e :: es).all kA=true:=by rfl) :
  PS X (.Raise (some (.Call (.Name x np) (e :: es) [] cpos)) none pos) (jax C sp E t):=by
 intro pins s σ H D I h
 rw [List.all_cons,Bool.and_eq_true] at hp
 have he:=qf hp.1 es X.env
 have hpl:=yp cpos X.env es hp.2
 have hplain:(backTo cpos (starEach (e :: es) X.env)).any (·.1)=false:=by rw [he];exact hpl
 obtain ⟨bm,N,nm,q,bs,hdct,sn,sub,ab,col,dd,k0,k1,k2,k3,k5,o1,o4⟩:=xObj_of_in I.mod.kin hx
 have hbm:bm.contains (.type "BaseException")=true:=OwnTail.hasType o4 PySem.F.excBase_ValueError.hasBase
 rw [arm_exec_Raise]
 refine wpAny_bind (wpAny_standAt (ZK (C:=C) (nm:=nm) (q:=q) (N:=N) (bs:=bs) (bm:=bm) (hdct:=hdct) (sn:=sn) (sub:=sub) (ab:=ab) (col:=col) (dd:=dd) (k0:=k0) (k1:=k1) (k2:=k2) (k3:=k3) (k5:=k5) (newId:="ValueError.__new__") hbm (I.ok.hd hc) (wpAny_bind (wpAny_mono (wpAny_Call_ofName (zw I hg hm ?_ hd)) (fun v s₃ h₃=>wpAny_bind (wpAny_standAt (wpAny_pure h₃))) fun _ _ x=>x))))
 unfold callWith
 have ha':=ha cpos pins s σ H _ I h
 rw [he] at ha' ⊢
 refine wpAny_bind (wpAny_holding (Calls.evalArgs_plain (thn ha' fun us s2 ⟨vs,H2,I2,r,hlen,hE⟩=>wpAny_bind (wpAny_standAt ?_))))
 have hplain2:(backTo cpos ((false,eval e X.env) :: starEach es X.env)).any (·.1)=false:=hpl
 simp only [hplain2]
 obtain ⟨hp2,g2,d2,t2,os2⟩:=s2
 refine wpAny_bind (wpAny_keeperOf_exc (I2.bk _ _ o1) ?_)
 refine wpAny_bind (jai PySem.F.excBase_ValueError (show valB.contains (.type "ValueError")=true from PySem.F.excBase_ValueError.hasB) PySem.F.excBase_ValueError (Kx I2.bk o4) (I2.bk _ _ o1) ?_ (fun a=>Code.quiet_builtin _ PySem.F.excBase_ValueError.quiet) fun h' ea me=>?_)
 ·show us.length≤sizeLine
  rw [← r.length]
  exact Nat.le_of_lt (km hlen)
 obtain ⟨tt,m1,m2,m3⟩:=me.there
 obtain ⟨n1,n2⟩:=Wd.hH I2 ea me.new
 have I3:Inv X pins σ (upd H2 ea (YC C ea)) ⟨h',g2,d2,t2,os2⟩:=I2.track (t':=t2) me.keeps me.new n1 (jbh m1 rfl (Nat.le_refl _))
 have hq:=hE ea n1
 have r2:Vals (V.ref ea :: (vs++[])) (Value.ref ea :: us):=.cons rfl (by rw [List.append_nil];exact r)
 have hl:((Value.ref ea :: us)++[]).length=ps.length:=by
  have e:=r2.length
  rw [F.len _ _ _ _ hq] at e
  rw [List.append_nil]
  exact e.symm
 have hb':=hb ⟨h',g2,d2,t2,os2⟩ (Value.ref ea :: us) I3.kIn hl
 rw [List.append_nil] at hb'
 refine YJ I3.kIn m1 rfl hi hf ?_
 refine wpAny_call (codeAny_mono (F.run _ X.stack _ _ ⟨Value.ref ea :: us,[]⟩ (Value.ref ea :: us) _ _ E0 (hr.make C us []) (I3.env0.make C us []) hb' r2 hq) fun rr s' hq'=>?_)
 cases rr with
 | error e=>exact hq'.elim
 | ok fl=>
  cases fl with
  | ret u=>
   obtain ⟨v,H',I4,rv,ev,dx,H3,rfl,h3,q3⟩:=I3.after hq'
   subst ev
   cases rv
   refine ⟨rfl,?_⟩
   obtain ⟨ws,sl,w1,w2,w3⟩:=jcb I4.hok jf
   have I5:=I4.drop h3
   refine wpAny_bind (wpAny_holding (wpAny_point (wpAny_pure ⟨ea,some dx,ws,sl,rfl,I4.bk _ _ o1,w1,w2,?_⟩)))
   obtain ⟨a0,ha0⟩:∃ a0,ws[0]?=some a0:=⟨_,Array.getElem?_eq_getElem (by omega)⟩
   exact Wd.first I5 h3 n2 w1 rfl rfl rfl w2 ha0 q3
  | next=>exact False.elim hq'
  | brk=>exact False.elim hq'
  | cont=>exact False.elim hq'
end L2
namespace PySem.W
open PySem PySem.Spec PySem.Calls PyProof.Rows Builtin Builtin.ObjectAttr
theorem YW {h:Heap} {bmB:List Value} {self:Value} {what:Str}:∀ {l:List Value},OwnTail h bmB l→refuseLoop self what l=refuseLoop self what bmB:=by
 intro l t
 induction t with
 | base=>rfl
 | own _ _ _ _ ih=>rw [refuseLoop_ref];exact ih
theorem xset {prog:Program} {w:World} {A:Around} {E:Value→Shared→Prop} {K:Frag} {s:Shared} {x C:Addr} {vs:Array Value} {sl:Array (Option Value)} {name:Str} {v:Value} {Q:Unit→Shared→Prop} (X:K.In s.heap)
  (ex:L2.xIn K C L2.valB "ValueError.__new__" = true) (ob:mroIn K C (.type "object")=some true) (hs:findIn K (.ref C) "__setattr__" = some (some (.builtin "object.__setattr__"))) (hn:findIn K (.ref C) name=some none) (hh:hasDictIn K C=true)
  (hx:s.heap.get? x=some { cls:=.ref C,dict:=none,data:=.fields vs,slots:=sl })
  (hq:∀ h' t',h'.get? x=some { cls:=.ref C,dict:=some s.heap.objs.size,data:=.fields vs,slots:=sl }→h'.Ns1 s.heap.objs.size (fun y=>if y=name then some v else none)→(∀ b o,b≠x→s.heap.get? b=some o→h'.get? b=some o)→Q () { s with heap:=h',toks:=t' }) :
  wpAny (model prog w) A (setAttr (.ref x) name v) Q E s:=by
 have I:InstAt s.heap x { cls:=.ref C,dict:=none,data:=.fields vs,slots:=sl } C none:=⟨hx,rfl,rfl,True.intro⟩
 refine set_plain X I hs ?_
 have SF:=PySem.F.store_object
 have sub:Looks (model prog w) s.heap (isInstance (.ref x) (.type "object")) true:=I.type.andThen (looks_mroIn X ob)
 refine codeAny_call_builtin SF.slot.plain SF.entry (@check_slot (model prog w) _ _ { s with toks:=s.toks+1 } "object.__setattr__" "object" "__setattr__" (.ref x) [.str name s.toks,v] [] _ SF.kind SF.split sub (SF.args (.ref x) (.str name s.toks) v) ?_)
 obtain ⟨bm,N,nm,q,bs,hdct,sn,sub',ab,col,dd,k0,k1,k2,k3,k5,o1,o4⟩:=L2.xObj_of_in X ex
 have hC:=o1
 rw [osa_eq,refuse_eq]
 obtain ⟨hp,g,d,t,os⟩:=s
 refine wpAny_bind (wpAny_bind (I.type.at (wpAny_bind (wpAny_mroOf_exc o1 ?_))))
 rw [refuseLoop_ref,YW o4,show refuseLoop (.ref x) "__setattr__" L2.valB=pure () from PySem.F.store_ValueError.passes _]
 refine wpAny_pure (wpAny_bind (I.type.at (wpAny_bind ((looks_findIn X hn).at (wpAny_bind (wpAny_pure ?_))))))
 obtain ⟨cd,hc,hd'⟩:=any_some hh
 refine wpAny_bind (wpAny_pure (wpAny_bind (wpAny_bind (wpAny_loadPart hx (wpAny_bind ((looks_clsIn X hc).at ?_))))))
 rw [hd']
 show wpAny _ _ (alloc { cls:=.type "dict",data:=.dict #[] } >>= _) _ _ _
 have hx1:(hp.push { cls:=.type "dict",data:=.dict #[] }).get? x=some { cls:=.ref C,dict:=none,data:=.fields vs,slots:=sl }:=Heap.get?_push_of_some _ hx
 have hxs:x≠hp.objs.size:=Nat.ne_of_lt (Heap.lt_size hx)
 refine wpAny_bind (wpAny_alloc' ?_)
 refine wpAny_bind (wpAny_update' hx1 ?_)
 refine wpAny_pure ?_
 have hx2:=Heap.get?_update_self (fun o:Obj=>{ cls:=o.cls,dict:=some hp.objs.size,data:=o.data,slots:=o.slots }) hx1 rfl
 have hgd:((hp.push { cls:=.type "dict",data:=.dict #[] }).update x fun o=>{ cls:=o.cls,dict:=some hp.objs.size,data:=o.data,slots:=o.slots }).get? hp.objs.size=some { cls:=.type "dict",data:=.dict #[] }:=
  (Heap.get?_update_ne _ _ _ _ hxs.symm).trans (Heap.get?_push_at rfl rfl)
 have hnd:((hp.push { cls:=.type "dict",data:=.dict #[] }).update x fun o=>{ cls:=o.cls,dict:=some hp.objs.size,data:=o.data,slots:=o.slots }).Ns hp.objs.size (fun _=>none):=
  ⟨_,#[],_,hgd,rfl,fun e he=>absurd he (by simp),fun _=>rfl⟩
 show wpAny _ _ (storeInDict hp.objs.size (.str name t) name v) _ _ _
 unfold storeInDict newKeyGuard
 refine wpAny_bind (wpAny_pure (wpAny_bind (wpAny_nsSet1 (Heap.Ns1.of_empty hnd) fun h' hn' hs'=>?_)))
 obtain ⟨oD,esD,epD,hoD,hdD,hcD⟩:=hn'.count (Within.cons name v Within.nil)
 refine wpAny_bind (wpAny_lookBehind hoD (by rw [hdD];exact pastItsLine_dict (Nat.le_trans hcD (by rw [List.length_cons,List.length_nil,sizeLine_eq];omega))) ?_)
 refine wpAny_pure ?_
 refine hq h' _ ((hs'.2 x hxs).trans hx2) hn' fun b ob hb e=>?_
 exact (hs'.2 b (Nat.ne_of_lt (Heap.lt_size e))).trans ((Heap.get?_update_ne _ _ _ _ hb).trans (Heap.get?_push_of_some _ e))
section
variable {prog:Program} {w:World} {A:Around} {E:Value→Shared→Prop} {h:Heap} {g:Array GenState} {d:Drawn} {t:Nat} {os:OsState} {a C:Addr} {o:Obj} {K:Frag} {name:Str} {od:Option Obj} {v:Value}
theorem jcr {tk:Tok} {Q:Fin→Shared→Prop} (X:K.In h) (I:InstAt h a o C od) (hf:findObj K C od name=some (.value v)) (hq:Q (.done (.ret v)) ⟨h,g,d,t,os⟩) :
  wpAny (model prog w) A (Builtin.«object.__getattribute__» ⟨[.ref a,.str name tk],[]⟩) Q E ⟨h,g,d,t,os⟩:=by
 have L0:=I.type (M:=model prog w)
 have L1:=looks_find (M:=model prog w) X I hf
 unfold Builtin.«object.__getattribute__»
 refine wpAny_bind (wpAny_pure ?_)
 refine wpAny_bind (wpAny_pure (wpAny_bind (L0.at (wpAny_bind (L1.at ?_)))))
 exact wpAny_pure hq
theorem jgq {tk:Tok} {fill expr:Bool} {Q:Value→Shared→Prop} (Z:XCls K C) (X:K.In h) (I:InstAt h a o C od) (hf:findObj K C od name=some (.value v)) (hh:handedIn v=true) (hq:Q v ⟨h,g,d,t,os⟩) :
  wpAny (model prog w) A (getAttrBy (.ref a) (.str name tk) fill expr) Q E ⟨h,g,d,t,os⟩:=by
 have f3:=PySem.F.attr_ValueError.ga.bind (.ref a)
 have hx0:(expr && onTheHeap (Value.builtin "BaseException.__getattribute__"))=false:=by cases expr <;> rfl
 have hx2:(Value.builtin "BaseException.__getattribute__" == Value.builtin "object.__getattribute__")=false:=by decide +kernel
 have hx1:(onTheHeap (Value.ref C) && Value.builtin "BaseException.__getattribute__" == Value.builtin "object.__getattribute__")=false:=by rw [hx2];rfl
 have L1:=looks_findIn (M:=model prog w) X Z.ga
 have L2:=looks_findIn (M:=model prog w) X Z.gt
 have hx:=I.at_
 have hc:=I.cls
 repeat (any_goals (first | assumption | (with_reducible refine wpAny_loadPart_at hx ?_;rw [hc]) | with_reducible refine L1.at ?_ | with_reducible refine L2.at ?_ | wp_step))
 refine codeAny_call_builtin PySem.F.attr_ValueError.ga.plain F.entry_bexc_ga (jcs Z X hx hc (jcr X I hf ?_))
 have ho:handedOut v=pure v:=handedOut_of hh
 repeat (any_goals (first | assumption | rw [ho] | wp_step))
theorem xget {s:Shared} {expr:Bool} {Q:Value→Shared→Prop} (Z:XCls K C) (X:K.In s.heap) (I:InstAt s.heap a o C od) (hf:findObj K C od name=some (.value v)) (hh:handedIn v=true) (hq:Q v { s with toks:=s.toks+1 }) :
  wpAny (model prog w) A (getAttr (.ref a) name expr) Q E s:=by
 obtain ⟨hp,g,d,t,os⟩:=s
 unfold getAttr
 repeat (any_goals (first | assumption | with_reducible apply jgq Z X I hf hh | wp_step))
end
end PySem.W
namespace L2
open PySem PySem.Spec PyProof.Rows
theorem jfy {H:Hp} {a:Addr} {o:HO} (h:H a=some o):upd H a o=H:=funext fun b=>by
 by_cases z:b=a
 ·rw [z,jf,h]
 ·rw [jx z]
theorem jcj {prog:Program} {w:World} {A:Around} {E:Value→Shared→Prop} {s:Shared} {K:W.Frag} {C e:Addr} {dd:Option Addr} {vs:Array Value} {sl:Array (Option Value)} {j3:List Value} {Q:Value→Shared→Prop} (X:K.In s.heap) (hx:xIn K C valB "ValueError.__new__" = true)
  (he:s.heap.get? e=some { cls:=.ref C,dict:=dd,data:=.fields vs,slots:=sl }) (hz:6≤vs.size) (hr:j3.length≤sizeLine)
  (h:∀ h',h'.get? e=some { cls:=.ref C,dict:=dd,data:=.fields (vs.setIfInBounds 0 (.ref s.heap.objs.size)),slots:=sl }→(∀ b o,b≠e→s.heap.get? b=some o→h'.get? b=some o)→Q .none { s with heap:=h' }) :
  wpAny (model prog w) A (call (.builtin "ValueError.__init__") (.ref e :: j3)) Q E s:=by
 obtain ⟨bm,N,nm,q,bs,hdct,sn,sub,ab,col,dd',k0,k1,k2,k3,k5,o1,o4⟩:=xObj_of_in X hx
 have FF:=PySem.F.excBase_ValueError
 refine wpAny_call (codeAny_call_builtin FF.init.plain FF.initEntry (wpAny_check_init_subU FF o4 o1 he rfl ?_))
 unfold Builtin.«BaseException.__init__»
 dsimp only
 rw [if_neg (by simp)]
 unfold newTuple Builtin.BaseException.bexcPut
 have hsz:0 < vs.size:=by omega
 obtain ⟨a0,ha0⟩:∃ a0,vs[0]?=some a0:=⟨_,Array.getElem?_eq_getElem (by omega)⟩
 have he₁:=Heap.get?_push_of_some (h:=s.heap) { cls:=.type "tuple",data:=.seq j3.toArray } he
 refine wpAny_bind (wpAny_newObj_type (wpAny_bind (wpAny_bind (wpAny_field he₁ rfl ha0 (wpAny_bind (wpAny_setField he₁ rfl hsz ?_))))) (by show j3.toArray.size≤sizeLine;rw [List.size_toArray];exact hr))
 have hh:=h ((s.heap.push { cls:=.type "tuple",data:=.seq j3.toArray }).update e (Obj.mapFields (·.setIfInBounds 0 (.ref s.heap.objs.size)))) ?_ fun b o hb q=>?_
 ·cases a0 <;> first | exact wpAny_letGo (wpAny_pure hh) | exact wpAny_pure (wpAny_pure hh)
 ·exact Heap.get?_update_self _ he₁ rfl
 ·rw [Heap.get?_update_other _ _ (Ne.symm hb)]
  exact Heap.get?_push_of_some _ q
def KC (K:W.Frag) (t:TA):TE:=fun σ H Q=>t σ H fun vs H1=>∃ a C v,vs=[.ref a,v]∧H1 a=some (YC C a)∧xIn K C valB "ValueError.__new__" = true∧Q .non H1
theorem Y1 {X:Cx} {pl:Sem Bool} {C1:Addr} {x:Str} {np apos pos:Pos} {e:Expr} {es:List Expr} {t:TA} (hg:Gl X x) (hm:X.mg x=some (.ref C1)) (hr:W.readsIn X.K C1 (.type "type")=true) (hf:W.findCls X.K (.ref C1) (.type "type") "__init__" = some (.val (.builtin "ValueError.__init__"))) (hty:W.typeIn X.K (.ref C1)=some (.type "type")) (ha:PA X (e :: es) t) (hd:(x == ("__debug__" : Str))=false:=by decide)
  (hst:starEach (e :: es) X.env=(false,eval e X.env) :: starEach es X.env:=by rfl) (hpl:(backTo pos (starEach es X.env)).any (·.1)=false:=by rfl)
  (ht:eval (.Call (.Attribute (.Name x np) "__init__" apos) (e :: es) [] pos) X.env=(do
   let ov ← eval (.Name x np) X.env
   standAt apos.atName
   let (f,first) ← holding [ov] (getMethod ov "__init__" pl)
   callWith pos f first (backTo pos (starEach (e :: es) X.env)) (backToKw pos (keywordEach [] X.env))):=by rfl) :
  PE X (.Call (.Attribute (.Name x np) "__init__" apos) (e :: es) [] pos) (KC X.K t):=by
 intro pins s σ H Q I h
 refine W.methodCall_KW (pl:=pl) (zw I hg hm ?_ hd) ht
 have L0:=W.looks_typeIn (M:=model X.prog X.w) I.kIn hty
 have L1:=W.looks_findIn (M:=model X.prog X.w) I.kIn (show W.findIn X.K (.type "type") "__getattribute__" = some (some (.builtin "type.__getattribute__")) from W.type_tga)
 unfold getMethod specialOf
 refine wpAny_bind (wpAny_bind (L0.here (L1.here ?_)))
 dsimp only
 rw [if_pos W.canon_tga]
 refine wpAny_bind (wpAny_mono (Q:=fun v s'=>wpAny _ _ (callWith pos v [] (backTo pos (starEach (e :: es) X.env)) (backToKw pos (keywordEach [] X.env))) _ _ s') (E:=X.xe) ?_ (fun _ _ z=>wpAny_pure z) fun _ _ z=>z)
 refine W.cls_value I.kIn hr hf rfl ?_
 have I1:Inv X pins σ H { s with toks:=s.toks+1 }:=I.tok _
 have hA:=ha pos pins _ σ H _ I1 h
 rw [hst] at hA ⊢
 refine Calls.callWith_builtin (by show (false || (backTo pos (starEach es X.env)).any (·.1))=false;rw [hpl] <;> rfl) (Calls.evalArgs_plain ?_)
 refine thn hA fun us s2 ⟨vs,H2,I2,r2,q0⟩=>?_
 obtain ⟨a,C,v,rfl,hH,hx,q⟩:=q0
 obtain ⟨u1,u2,rfl,r1,r3⟩:=jat r2
 cases r1
 obtain ⟨ws,sl,w1,w2,w3⟩:=Zl I2.hok hH
 refine jcj I2.kIn hx w1 w3 (by show 1≤sizeLine;exact Nat.le_of_lt (km (by omega:1≤1000))) fun h' e1 e2=>?_
 have I3:=I2.write (x:=a) (e:=a) (o:=YC C a) (t':=s2.toks) (by rw [hH];exact True.intro) (.inl rfl) e2 ⟨_,e1⟩ (jbh e1 (by rw [Array.getElem?_setIfInBounds_ne (by decide)];exact w2) (by rw [Array.size_setIfInBounds];exact w3))
 rw [jfy hH] at I3
 exact ⟨.non,H2,I3,rfl,q⟩
theorem K0 {X:Cx} {pl:Sem Bool} {C1:Addr} {x:Str} {np apos pos:Pos} {e:Expr} {es:List Expr} {t:TA} (hg:Gl X x) (hm:X.mg x=some (.ref C1)) (hr:W.readsIn X.K C1 (.type "type")=true) (hf:W.findCls X.K (.ref C1) (.type "type") "__init__" = some (.val (.builtin "ValueError.__init__"))) (hty:W.typeIn X.K (.ref C1)=some (.type "type")) (ha:QA X (e :: es) t) (hd:(x == ("__debug__" : Str))=false:=by decide)
  (hst:starEach (e :: es) X.env=(false,eval e X.env) :: starEach es X.env:=by rfl) (hpl:(backTo pos (starEach es X.env)).any (·.1)=false:=by rfl)
  (ht:eval (.Call (.Attribute (.Name x np) "__init__" apos) (e :: es) [] pos) X.env=(do
   let ov ← eval (.Name x np) X.env
   standAt apos.atName
   let (f,first) ← holding [ov] (getMethod ov "__init__" pl)
   callWith pos f first (backTo pos (starEach (e :: es) X.env)) (backToKw pos (keywordEach [] X.env))):=by rfl) :
  QE X (.Call (.Attribute (.Name x np) "__init__" apos) (e :: es) [] pos) (KC X.K t):=⟨Y1 hg hm hr hf hty ha.h hd hst hpl ht⟩
structure XFld (K:W.Frag) (C:Addr) (f:Str):Prop where
 ex:xIn K C valB "ValueError.__new__" = true
 cl:PySem.W.XCls K C
 sa:W.findIn K (.ref C) "__setattr__" = some (some (.builtin "object.__setattr__"))
 no:W.findIn K (.ref C) f=some none
 hd:W.hasDictIn K C=true
def jff (K:W.Frag) (ta tv:TE) (f:Str):TS:=fun D σ H=>tv σ H fun y H1=>ta σ H1 fun x H2=>∃ a C,x=.ref a∧H2 a=some (YC C a)∧XFld K C f∧∀ dx,H2 dx=none→D.nx σ (upd (upd H2 a (Ku C a dx)) dx (.xd [(f,y)]))
theorem jee {X:Cx} {o value:Expr} {f:Str} {pos pos':Pos} {ta tv:TE} (ha:PE X o ta) (hv:PE X value tv) (hs:swapsWith value (some (.Attribute o f pos')) pos.line X.env=pure false):PS X (.Assign [.Attribute o f pos'] value pos) (jff X.K ta tv f):=by
 intro pins s σ H D I h
 refine plainObj_wpAny_Assign_Attribute (thn (hv pins s σ H _ I h) fun u s1 ⟨y,H1,I1,ry,q⟩=>thn (ha pins s1 σ H1 _ I1 q) fun ov s2 ⟨x,H2,I2,rx,a,C,ex,ea,c,q2⟩=>?_) hs
 subst ex
 obtain rfl:ov=Value.ref a:=rx
 obtain ⟨ws,sl,w1,w2,w3⟩:=Zl I2.hok ea
 refine W.xset I2.kIn c.ex c.cl.ob c.sa c.no c.hd w1 fun h' t' e1 e2 e3=>?_
 have fr:H2 s2.heap.objs.size=none:=I2.hok.fresh (Nat.le_refl _)
 have na:s2.heap.objs.size≠a:=fun z=>by rw [z,ea] at fr;cases fr
 refine ⟨σ,_,?_,q2 s2.heap.objs.size fr⟩
 have mu:Mut (H2 a):=by rw [ea];exact True.intro
 have k:∀ b u,b≠a→s2.heap.get? b=some u→h'.get? b=some u:=e3
 have n2:upd H2 a (Ku C a s2.heap.objs.size) s2.heap.objs.size=none:=by rw [jx na];exact fr
 refine I2.un ((Un.write mu (.inl rfl) k ⟨_,e1⟩).track n2 (by simp [Heap.get?])) ((I2.hok.write mu (.inl rfl) k ⟨_,e1⟩ (jdz e1 w2 w3)).track n2 ⟨_,e2,fun g=>?_⟩)
 by_cases z:g=f
 ·subst z
  rw [if_pos rfl]
  show RelO (List.lookup g [(g,y)]) (some u)
  rw [List.lookup_cons_self]
  exact ry
 ·rw [if_neg z]
  show RelO (List.lookup g [(f,y)]) none
  rw [List.lookup_cons,show (g == f)=false from beq_eq_false_iff_ne.mpr z]
  exact True.intro
theorem jcn {X:Cx} {o value:Expr} {f:Str} {pos pos':Pos} {ta tv:TE} (ha:QE X o ta) (hv:QE X value tv) (hs:swapsWith value (some (.Attribute o f pos')) pos.line X.env=pure false):QS X (.Assign [.Attribute o f pos'] value pos) (jff X.K ta tv f):=⟨jee ha.h hv.h hs⟩
theorem Zy {X:Cx} {E:XK} {C f:Addr} {fd:FuncData} {k:Nat} {ps:List Str} {sp:Sp} {x:Str} {np cpos pos:Pos} {e:Expr} {es:List Expr} {t:TA} (Wd:XD X E) (hc:X.calm=true) (hg:Gl X x) (hm:X.mg x=some (.ref C)) (hx:xIn X.K C valB "ValueError.__new__" = true)
  (hi:W.findIn X.K (.ref C) "__init__" = some (some (.ref f))) (hf:W.typeIn X.K (.ref f)=some (.type "function")) (F:FnOk X.prog X.w X.K X.mg X.base CX0 k f fd ps sp) (hb:Binds X.K fd ps []) (hr:Room (k+1) X.A) (ha:QA X (e :: es) t) (hd:(x == ("__debug__" : Str))=false:=by decide) (hp:(e :: es).all kA=true:=by rfl) :
  QS X (.Raise (some (.Call (.Name x np) (e :: es) [] cpos)) none pos) (jax C sp E t):=⟨jbE Wd hc hg hm hx hi hf F hb hr ha.h hd hp⟩
def zS (C e dx:Addr):HO:=.ext fun h=>∃ oe vs,h.get? e=some oe∧oe.cls=.ref C∧oe.dict=some dx∧oe.data=.fields vs
theorem jdy {P:Program} {w:World} {H:Hp} {h0 h:Heap} {e C dx:Addr} (F:FlyD h0 H (.ref C) (some dx) e h):ObjOk P w (upd H e (zS C e dx)) h e (zS C e dx):=by
 obtain ⟨oe,vs,T,oT,ts,a0,t1,t2,t3,_⟩:=F.fly.tr
 obtain ⟨oe',t1',t4⟩:=F.dic
 obtain rfl:oe=oe':=Option.some.inj (t1.symm.trans t1')
 exact ⟨⟨oe,vs,t1,t2,t4,t3⟩,⟨oe,t1⟩,fun h1 h2 ⟨o,v,q1,q2⟩ k=>⟨o,v,k o q1,q2⟩⟩
def jcw (K:W.Frag) (ta:TE) (f:Str):TE:=fun σ H Q=>ta σ H fun x H1=>∃ a C dx fs v,x=.ref a∧H1 a=some (zS C a dx)∧H1 dx=some (.xd fs)∧XFld K C f∧fs.lookup f=some v∧Q v H1
theorem jem {X:Cx} {e:Expr} {f:Str} {pos:Pos} {ta:TE} (he:PE X e ta) (hb:attributeBase e f X.env (eval e X.env)=eval e X.env):PE X (.Attribute e f pos) (jcw X.K ta f):=by
 intro pins s σ H Q I h
 refine jeY hb (thn (he pins s σ H _ I h) fun u s1 ⟨x,H1,I1,rx,a,C,dx,fs,v,ex,ea,ed,c,l,q⟩=>?_)
 subst ex
 obtain rfl:u=Value.ref a:=rx
 obtain ⟨oe,vs,t1,t2,t3,t4⟩:=(show ObjOk X.prog X.w H1 s1.heap a (zS C a dx) from I1.hok a _ ea).1
 obtain ⟨mA,hn,hr⟩:=(show ObjOk X.prog X.w H1 s1.heap dx (.xd fs) from I1.hok dx _ ed)
 obtain ⟨od,ho,hl⟩:=KM hn
 obtain ⟨u,hu,ru⟩:=RelO.some_of (v:=v) (o:=mA f) (by rw [← l];exact hr f)
 refine W.xget (o:=oe) (od:=some od) c.cl I1.kIn ⟨t1,t2,by unfold W.notCls;rw [t4],by rw [t3];exact ho⟩ (W.findObj_own c.hd c.no rfl (by rw [hl,hu])) (jb8 ru) ⟨v,H1,I1.tok _,ru,q⟩
theorem jcq {X:Cx} {e:Expr} {f:Str} {pos:Pos} {ta:TE} (he:QE X e ta) (hb:attributeBase e f X.env (eval e X.env)=eval e X.env):QE X (.Attribute e f pos) (jcw X.K ta f):=⟨jem he.h hb⟩
theorem XD.own {X:Cx} {E:XK} (W:XD X E):PassesOwn (model X.prog X.w) X.A X.env X.xe:=by
 rw [W.xe]
 exact PassesOwn.leaving
theorem jX {X:Cx} {k k':Nat} {x:Str} {ps:List Str} {sp:Sp} {E:XK} {e:Expr} {es:List Expr} {t:TA} {p pos:Pos} (F:FnD X.prog X.w X.K X.mg X.base k x ps sp) (W:XD X E) (hr:Room k' X.A) (ha:QA X (e :: es) t) (hk:k≤k':=by first | decide | omega) (hg:Gl X x:=by rfl)
  (hd:(x == ("__debug__" : Str))=false:=by decide) (hp:(e :: es).all kA=true:=by rfl):QE X (.Call (.Name x p) (e :: es) [] pos) (KB sp [] E t):=⟨jfV F W hr ha.h hk hg hd hp⟩
def je7 (sp:Sp) (C:Addr) (i:Nat) (t:TA) (ts:TS):TS:=fun D σ H=>t σ H fun vs H1=>sp (vs++[]) H1 (fun v H2=>D.nx σ H2) fun cls dd H2=>cls=.ref C∧∃ dx,dd=some dx∧∀ e,H2 e=none→ts (D.gone i) (σ.set i (some (.ref e))) (upd H2 e (zS C e dx))
theorem jef {X:Cx} {k k':Nat} {x c n:Str} {ps:List Str} {sp:Sp} {C:Addr} {e:Expr} {es:List Expr} {t:TA} {ts:TS} {i:Nat} {p cp np ap hp pos:Pos} {b0:Stmt} {suite:List Stmt}
  (F:FnD X.prog X.w X.K X.mg X.base k x ps sp) (hst:X.stack=X.env :: X.outer) (hfr:X.env.frame=some X.env.locals) (hr:Room k' X.A) (ha:PA X.nox (e :: es) t) (hs:∀ e,PSs (X.hush e) (b0 :: suite) ts)
  (hN:X.N.Nodup) (hi:X.N[i]?=some n) (hn:X.env.scope.names.lookup n=some .local)
  (hgc:Gl X c) (hmc:X.mg c=some (.ref C)) (hx:xIn X.K C valB "ValueError.__new__" = true)
  (hk:k≤k':=by decide) (hg:Gl X x:=by rfl)
  (hd:(x == ("__debug__" : Str))=false:=by decide) (hdc:(c == ("__debug__" : Str))=false:=by decide) (hpp:(e :: es).all kA=true:=by rfl) (hsw:swapsWith (.Call (.Name x p) (e :: es) [] cp) none ap.line X.env=pure false:=by rfl) :
  PS X (.Try [.Expr (.Call (.Name x p) (e :: es) [] cp) ap] [.ExceptHandler (some (.Name c np)) (some n) (b0 :: suite) hp] [] [] pos) (je7 sp C i t ts):=by
 obtain ⟨f,fd,G,b,kp,m⟩:=F.ex
 rw [List.all_cons,Bool.and_eq_true] at hpp
 have he:=qf hpp.1 es X.env
 have hpl:=yp cp X.env es hpp.2
 intro pins s σ H D I h
 refine wpAny_Try_except (wpAny_execs_cons ?_)
 refine wpAny_Expr_any (wpAny_Call_Name_kw (zw I hg m ?_ hd)) I.quiet hsw
 refine W.callWith_K (h₀:=X.base) I.ok.mod.kin kp (wpAny_mono (ha cp pins s σ H _ (I.wish _) h) (fun us s1 ⟨vs,H1,I1,r,q⟩=>⟨I1.unwish.kIn,?_⟩) fun _ _ z=>z.elim) he hpl
 replace I1:=I1.unwish
 refine wpAny_mono (jd7 G (hr.mono hk) b .nil I1 r q) (fun u s2 ⟨v,H2,I2,rv,q2⟩=>?_) fun ev s2 hx2=>?_
 ·exact wpAny_execs_nil (wpAny_execs_nil ⟨_,H2,I2,q2⟩)
 ·obtain ⟨ea,cls,dd,H',rfl,os,bare,un,hok,fly,rfl,dx,rfl,hE⟩:=hx2
  have I2:Inv X pins σ H' s2:=I1.call' os un hok bare (fun b z=>absurd z (by simp))
  have stk:=I2.stkFree
  rw [hst] at stk un
  have hbs:∀ b o,X.base.get? b=some o→b ∉ frs (X.env :: X.outer)∧∃ u,s1.heap.get? b=some u:=fun b o hb=>by
   refine ⟨fun hm=>?_,⟨o,I1.bk b o hb⟩⟩
   have hs:=I1.stack
   rw [hst] at hs
   have:∀ {l:List Env},s1.heap.FunFrames X.base l→b∈frs l→False:=by
    intro l
    induction l with
    | nil=>intro _ h;cases h
    | cons env l ih=>
     intro hf hm
     obtain ⟨_,⟨L,o',e1,e2,_,_⟩,hr⟩:=hf
     unfold frs at hm
     rw [List.filterMap_cons,e1] at hm
     rcases List.mem_cons.mp hm with rfl | hm
     ·rw [e2] at hb;cases hb
     ·exact ih hr hm
   exact this hs hm
  have hH:∀ {h2:Heap},Un (frs (X.env :: X.outer)) [] H1 H' s1.heap h2→HOk X.prog X.w H' h2→∀ b,h2.get? b=none→H' b=none∧s1.heap.get? b=none:=fun {h2} u k b hb=>by
   refine ⟨?_,?_⟩
   ·rcases hh:H' b with _ | o
    ·rfl
    ·obtain ⟨u,hu⟩:=(k b o hh).ex
     rw [hu] at hb;cases hb
   ·rcases hh:s1.heap.get? b with _ | o
    ·rfl
    ·obtain ⟨o',h5⟩:=u.there b o hh (by simp)
     rw [h5] at hb;cases hb
  have fs2:=I2.stack
  rw [hst] at fs2
  refine Z5 (by rw [I2.ok.frames,hst]) fs2 hfr fly stk (hH un hok) (fun h3 l3 fly3 fs3=>?_) hbs
  have un3:=un.left (P:=X.prog) (w:=X.w) l3
  have hok3:=hok.left stk l3
  have I3:Inv X pins σ H' { s2 with heap:=h3 }:=I1.call' os (by rw [hst];exact un3) hok3 bare (fun b z=>absurd z (by simp))
  refine wpAny_handleBy_cons (codeAny_handlers_test (zw (I3.hush ea) hgc hmc ?_ hdc)) (by intro q;cases q)
  obtain ⟨bm,N,nm,qn,bs,hdct,sn,sub,ab,col,dd,k0,k1,k2,k3,k5,o1,o4⟩:=xObj_of_in I3.mod.kin hx
  have hbm:bm.contains (.type "BaseException")=true:=OwnTail.hasType o4 PySem.F.excBase_ValueError.hasBase
  obtain ⟨oe,ves,T,oT,tts,a0,t1,t2,t3,_⟩:=fly3.fly.tr
  refine Kj (I3.bk _ _ o1) (I3.bk _ _ o1) t1 t2 hbm (by rw [List.contains_cons];simp) (codeAny_handlers_suite_as ?_)
  refine Ze fs3 fly3 stk (hH un3 hok3) (fun h4 l4 fly4 fs4=>?_) hbs
  have un4:=(un3.left (P:=X.prog) (w:=X.w) l4).track (o:=zS C ea dx) fly4.fly.he fly4.fly.ne
  have hok4:=(hok3.left stk l4).track fly4.fly.he (jdy fly4)
  have I4:Inv X pins σ (upd H' ea (zS C ea dx)) { s2 with heap:=h4 }:=I1.call' os (by rw [hst];exact un4) hok4 bare (fun b z=>absurd z (by simp))
  refine yJ (v:=.ref ea) I4 hN hi (.inl hn) rfl (fun s5 I5=>?_) (.inr hn)
  refine wpAny_mono (hs ea pins s5 _ _ (D.gone i) (I5.hush ea) (hE ea fly4.fly.he)) (fun fl s6 h6=>?_) fun _ _ z=>z.elim
  cases fl with
  | next=>
   obtain ⟨σ',H6,I6,q6⟩:=h6
   exact JN (v:=.non) (I6.unhush I5.ok) hN hi hn fun s7 I7=>⟨_,H6,I7,q6⟩
  | brk=>
   obtain ⟨σ',H6,I6,q6⟩:=h6
   exact JN (v:=.non) (I6.unhush I5.ok) hN hi hn fun s7 I7=>⟨_,H6,I7,q6⟩
  | cont=>
   obtain ⟨σ',H6,I6,q6⟩:=h6
   exact JN (v:=.non) (I6.unhush I5.ok) hN hi hn fun s7 I7=>⟨_,H6,I7,q6⟩
  | ret u=>
   obtain ⟨v,σ',H6,I6,r6,q6⟩:=h6
   exact JN (v:=.non) (I6.unhush I5.ok) hN hi hn fun s7 I7=>⟨v,_,H6,I7,r6,q6⟩
theorem jco {X:Cx} {k k':Nat} {x c n:Str} {ps:List Str} {sp:Sp} {C:Addr} {e:Expr} {es:List Expr} {t:TA} {ts:TS} {i:Nat} {p cp np ap hp pos:Pos} {b0:Stmt} {suite:List Stmt}
  (F:FnD X.prog X.w X.K X.mg X.base k x ps sp) (hst:X.stack=X.env :: X.outer) (hfr:X.env.frame=some X.env.locals) (hr:Room k' X.A) (ha:QA X.nox (e :: es) t) (hs:∀ e,QSs (X.hush e) (b0 :: suite) ts)
  (hN:X.N.Nodup) (hi:X.N[i]?=some n) (hn:X.env.scope.names.lookup n=some .local)
  (hgc:Gl X c) (hmc:X.mg c=some (.ref C)) (hx:xIn X.K C valB "ValueError.__new__" = true)
  (hk:k≤k':=by decide) (hg:Gl X x:=by rfl)
  (hd:(x == ("__debug__" : Str))=false:=by decide) (hdc:(c == ("__debug__" : Str))=false:=by decide) (hpp:(e :: es).all kA=true:=by rfl) (hsw:swapsWith (.Call (.Name x p) (e :: es) [] cp) none ap.line X.env=pure false:=by rfl) :
  QS X (.Try [.Expr (.Call (.Name x p) (e :: es) [] cp) ap] [.ExceptHandler (some (.Name c np)) (some n) (b0 :: suite) hp] [] [] pos) (je7 sp C i t ts):=
 ⟨jef F hst hfr hr ha.h (fun e=>(hs e).h) hN hi hn hgc hmc hx hk hg hd hdc hpp hsw⟩
theorem jbw {X:Cx} {K:W.Frag} {e:Expr} {f:Str} {pos:Pos} {ta:TE} (he:QE X e ta) (hb:attributeBase e f X.env (eval e X.env)=eval e X.env:=by rfl) (hK:X.K=K:=by rfl):QE X (.Attribute e f pos) (jcw K ta f):=by subst hK;exact jcq he hb
end L2
namespace LW
open PySem L2
open PyProof.Rows hiding St
abbrev kJ:Stmt:=jeJ (top 2) 0
abbrev kR:Stmt:=top 8
abbrev zp:Stmt:=top 20
abbrev qM:Stmt:=top 14
structure NoT (K:W.Frag) (mg:Str→Option Value) (C C1 f:Addr):Prop where
 gn:mg "NoText" = some (.ref C)
 go:mg "OutlineError" = some (.ref C1)
 fi:W.findIn K (.ref C) "__init__" = some (some (.ref f))
 ty:W.typeIn K (.ref f)=some (.type "function")
 rd:W.readsIn K C1 (.type "type")=true
 fc:W.findCls K (.ref C1) (.type "type") "__init__" = some (.val (.builtin "ValueError.__init__"))
 tc:W.typeIn K (.ref C1)=some (.type "type")
 fl:XFld K C "line"
def RdE (C:Addr) (n:Int) (E:XK) (H:Hp):Prop:=∀ H' dx,Same H H'→H' dx=some (.xd [("line",.int n)])→E (.ref C) (some dx) H'
theorem RdE.mono {C:Addr} {n:Int} {E:XK} {H H':Hp} (h:RdE C n E H) (s:Same H H'):RdE C n E H':=fun G dx sG e=>h G dx (s.trans sG) e
def spR {α:Type} (C:Addr) (g:List Nat→Option α) (hd:α→D):Sp:=fun vs H Q E=>∃ (z:Str) (n:Int),vs=[.str z,.int n]∧z.length≤1000∧n.natAbs < 10 ^ 20∧(∀ d,g (cd z)=some d→∀ v H',Same H H'→Held H' (hd d) v→Q v H')∧(g (cd z)=none→RdE C n E H)
def jcF (C:Addr):Sp:=fun vs H Q _=>∃ (e:Addr) (n:Int),vs=[.ref e,.int n]∧H e=some (YC C e)∧n.natAbs < 10 ^ 20∧∀ dx,H dx=none→Q .non (upd (upd H e (Ku C e dx)) dx (.xd [("line",.int n)]))
def jcB (C:Addr):Sp:=fun vs H Q E=>∃ (b:Bool) (n:Int),vs=[.bl b,.int n]∧n.natAbs < 10 ^ 20∧(b=true→Q .non H)∧(b=false→RdE C n E H)
def zM (l:List Nat):Option (List Nat):=if jO l then some l else none
def Kd (l:List Nat):D:=.str (mS l)
def ZN (p:Str×Int):D:=plD p.1 p.2
section
variable {P:Program} {w:World} {K:W.Frag} {mg:Str→Option Value} {base:Heap} {C C1 fi:Addr}
theorem jev {f:Addr} {fd:FuncData} (F:Fun K "__init__" "NoText.__init__" kJ f fd) (Z:NoT K mg C C1 fi):FnOk P w K mg base CX0 1 f fd ["self","line"] (jcF C):=by
 have sc:FnScope ["self","line"] ["self","line"] (jk kJ):=fQ
 refine F.okZ sc (fun vs H Q E h=>?_) (fun cdv A outer s H vs Q E hr h=>?_)
 ·obtain ⟨e,n,rfl,_⟩:=h
  rfl
 obtain ⟨e,n,rfl,he,hn,q⟩:=h
 refine ⟨_,(jd (yC (K0 (by rfl) Z.go Z.rd Z.fc Z.tc (ja (zpv 0) (ja (kx (jC jc (jC (JT (zpv 1)) (jC jc qD)))) jb))))
   (jh (jcn (zpv 0) (zpv 1) rfl))),?_⟩
 refine jA (σ':=[some (.ref e),some (.int n)]) rfl ?_
 refine ⟨_,rfl,?_⟩
 refine jcE (n:=0) (Nat.le_refl _) (by decide +kernel) (by decide) fun o1=>jiE (i:=n) o1 hn (by decide) (fun q h=>⟨_,rfl,h⟩) fun o2=>jcE o2 (by decide +kernel) (by decide) fun o3=>⟨jD (Nat.le_trans o3 (by decide)),?_⟩
 refine ⟨e,C,_,rfl,he,Z.fl.ex,?_⟩
 exact ⟨_,rfl,_,rfl,e,C,rfl,he,Z.fl,q⟩
theorem jbK {f fi:Addr} {fd fdi:FuncData} (F:Fun K "refuse_unless" "refuse_unless" kR f fd) (Z:NoT K mg C C1 fi) (I:FnOk P w K mg base CX0 1 fi fdi ["self","line"] (jcF C)) (hb:Binds K fdi ["self","line"] []):FnOk P w K mg base (CX2 P w) 3 f fd ["fits","line"] (jcB C):=by
 have sc:FnScope ["fits","line"] ["fits","line"] (jk kR):=fQ
 refine F.okD sc (fun vs H Q E h=>?_) (fun cdv A outer s H vs Q E hr W h=>?_)
 ·obtain ⟨b,n,rfl,_⟩:=h
  rfl
 obtain ⟨b,n,rfl,hn,q1,q2⟩:=h
 refine ⟨_,(jh (jH (qI (ko (zpv 0))) (jh (Zy W rfl (by rfl) Z.gn Z.fl.ex Z.fi Z.ty I hb hr (ja (zpv 1) jb))) js)),?_⟩
 refine jA (σ':=[some (.bl b),some (.int n)]) rfl ?_
 refine ⟨_,rfl,_,rfl,?_⟩
 cases b with
 | true=>exact ku (q1 rfl)
 | false=>
  refine kE ⟨_,rfl,(show 1≤1000 by decide),fun e he=>⟨e,n,rfl,jf,hn,fun dx hdx=>⟨rfl,dx,upd H dx (.xd [("line",.int n)]),?_,?_,?_⟩⟩⟩
  all_goals have hne:dx≠e:=fun z=>by rw [z,jf] at hdx;cases hdx
  ·funext b
   unfold upd
   by_cases h1:b=dx
   ·subst h1
    rw [if_pos rfl,if_neg hne,if_pos rfl]
   ·by_cases h2:b=e
    ·subst h2
     rw [if_neg h1,if_pos rfl,if_pos rfl]
    ·rw [if_neg h1,if_neg h2,if_neg h2,if_neg h2,if_neg h1]
  ·rw [jx hne.symm]
   exact he
  ·have hd:H dx=none:=by rw [jx hne] at hdx;exact hdx
   exact q2 rfl _ _ (ji hd _) jf
theorem rd {α:Type} {g:List Nat→Option α} {hd:α→D} {z:Str} {n:Int} {H:Hp} {Q:VK} {E:XK} (hz:z.length≤1000) (hn:n.natAbs < 10 ^ 20) (h1:∀ d,g (cd z)=some d→∀ v H',Same H H'→Held H' (hd d) v→Q v H') (h2:g (cd z)=none→RdE C n E H):spR C g hd [.str z,.int n] H Q E:=⟨z,n,rfl,hz,hn,h1,h2⟩
theorem jdd {f:Addr} {fd:FuncData} (F:Fun K "name_read" "name_read" zp f fd) (F_is_name:Fn P w K mg base 1 "is_name" ["text"] YL) (F_refuse_unless:FnD P w K mg base 3 "refuse_unless" ["fits","line"] (jcB C)):FnOk P w K mg base (CX2 P w) 4 f fd ["text","line"] (spR C zM Kd):=by
 have sc:FnScope ["text","line"] ["text","line"] (jk zp):=fQ
 refine F.okD sc (fun vs H Q E h=>?_) (fun cdv A outer s H vs Q E hr W h=>?_)
 ·obtain ⟨z,n,rfl,_⟩:=h
  rfl
 obtain ⟨z,n,rfl,hz,hn,q1,q2⟩:=h
 refine ⟨_,(jd (yC (jX F_refuse_unless W hr (ja (jp F_is_name hr (ja (zpv 0) jb)) (ja (zpv 1) jb))))
   (jh (jl (zpv 0)))),?_⟩
 refine jA (σ':=[some (.str z),some (.int n)]) rfl ?_
 unfold zM at q1 q2
 refine ⟨_,rfl,z,rfl,hz,_,rfl,_,n,rfl,hn,fun e=>?_,fun e=>?_⟩
 ·rw [if_pos e] at q1
  exact ⟨_,rfl,q1 _ rfl _ _ (Same.refl H) (by unfold Kd;rw [qr];exact jq)⟩
 ·rw [e] at q2
  exact q2 rfl
end
open PyProof.Rows hiding St
abbrev qN:Stmt:=top 18
abbrev qU:Stmt:=top 17
abbrev zn:Stmt:=top 15
abbrev qT:Stmt:=top 16
theorem Y2 {sep l:List Nat} {p:List Nat×List Nat} (e:jZ sep l=some p):p.1.length≤l.length∧p.2.length≤l.length:=by
 obtain ⟨k1,_⟩:=kM (a:=p.1) (b:=p.2) e
 rw [k1,List.length_append,List.length_append]
 omega
theorem YS {q:Nat} {l:List Nat} {p:List Nat×List Nat} (h:qj q l=some p):p.1.length≤l.length:=by
 unfold qj at h
 cases e:jQ [32,q,32] l with
 | none=>rw [e] at h;cases h
 | some r=>
  rw [e] at h
  dsimp only at h
  split at h
  ·cases h
   exact (Yi (by simp) e).1
  ·cases h
theorem jeR (l:List Nat):(j9 l).1.length≤l.length:=by
 unfold j9
 cases e:qj 43 l with
 | some p=>exact YS e
 | none=>
  dsimp only
  cases e2:qj 45 l with
  | some p=>exact YS e2
  | none=>exact Nat.le_refl _
theorem jgh {z:Str} (hz:z.length≤1000):(mS (j9 (cd z)).1).length≤1000:=by
 rw [kU]
 exact Nat.le_trans (jeR _) (by rw [jI];exact hz)
def je6 (p:Tm×Int):D:=.tup [p.1.toD,.int p.2]
def jdO (p:Bd×Int):D:=.tup [p.1.toD,.int p.2]
theorem jbc {H:Hp} {p:Addr} {x:Str} {d:Int} (h:H p=some (.tup [.str x,.int d])):Held H (plD x d) (.ref p):=jB h (je jq (je jN jt))
theorem yc {H:Hp} {p:Addr} {a x:Str} (h:H p=some (.tup [.str a,.str x])):Held H (.tup [.str a,.str x]) (.ref p):=jB h (je jq (je jq jt))
section
variable {P:Program} {w:World} {K:W.Frag} {mg:Str→Option Value} {base:Heap} {C:Addr}
theorem jbN {f:Addr} {fd:FuncData} (F:Fun K "place_read" "place_read" qM f fd) (B:Free0 mg) (F_is_number:Fn P w K mg base 2 "is_number" ["text"] jaC) (F_more_cut:Fn P w K mg base 2 "more_cut" ["text"] jaE) (F_name_read:FnD P w K mg base 4 "name_read" ["text","line"] (spR C zM Kd)):FnOk P w K mg base (CX2 P w) 5 f fd ["text","line"] (spR C ql ZN):=by
 have sc:FnScope ["text","line","x","d"] ["text","line"] (jk qM):=fQ
 refine F.okD sc (fun vs H Q E h=>?_) (fun cdv A outer s H vs Q E hr W h=>?_)
 ·obtain ⟨z,n,rfl,_⟩:=h
  rfl
 obtain ⟨z,n,rfl,hz,hn,q1,q2⟩:=h
 refine ⟨_,(jd (jH (ko (jp F_is_number hr (ja (zpv 0) jb))) (jh (jl (jJ (ja jc (ja (zF qc (by rfl) B.int_ yw (ja (zpv 0) jb)) jb))))) js)
   (jd (j1 (jp F_more_cut hr (ja (zpv 0) jb)) (j6 rfl (jm (jn (i:=2) sc.nd rfl oQ) (jm (jn (i:=3) sc.nd rfl oQ) jT))))
   (jh (jl (jJ (ja (jX F_name_read W hr (ja (zpv 2) (ja (zpv 1) jb))) (ja (zpv 3) jb))))))),?_⟩
 refine jA (σ':=[some (.str z),some (.int n),none,none]) rfl ?_
 refine ⟨_,rfl,z,rfl,hz,_,rfl,?_⟩
 unfold ql at q1 q2
 cases hnum:yr (cd z) with
 | true=>
  rw [hnum,if_pos rfl] at q1
  obtain ⟨i1,i2⟩:=Yp hnum
  refine kE ⟨_,rfl,z,_,rfl,i1,i2,sm rfl,fun p hp=>?_⟩
  exact q1 _ rfl _ _ (ji hp _) (jbc jf)
 | false=>
  rw [hnum,if_neg Bool.false_ne_true] at q1 q2
  refine ku ⟨_,rfl,z,rfl,hz,fun p H1 s1 hp=>⟨p,_,rfl,SqT.of hp,rfl,_,_,rfl,_,_,rfl,rfl,?_⟩⟩
  refine jA (σ':=[some (.str z),some (.int n),some (.str (mS (j9 (cd z)).1)),some (.int (j9 (cd z)).2)]) rfl ?_
  refine ⟨_,rfl,_,rfl,rd (jgh hz) hn (fun d e v H2 s2 hv=>?_) (fun e=>?_)⟩
  ·unfold zM at e
   rw [kt] at e
   split at e
   ·rename_i hnm
    cases e
    rw [if_pos hnm] at q1
    cases (show v=.str (mS (j9 (cd z)).1) from hv)
    refine ⟨_,rfl,sm rfl,fun p2 hp2=>?_⟩
    exact q1 _ rfl _ _ (s1.trans (s2.trans (ji hp2 _))) (jbc jf)
   ·cases e
  ·unfold zM at e
   rw [kt] at e
   split at e
   ·cases e
   ·rename_i hnm
    rw [if_neg hnm] at q2
    exact (q2 rfl).mono s1
theorem rdN {z:Str} {n:Int} {H:Hp} {Q:VK} {E:XK} (hz:z.length≤1000) (hn:n.natAbs < 10 ^ 20) (h1:jO (cd z)=true→∀ H',Same H H'→Q (.str z) H') (h2:jO (cd z)=false→RdE C n E H):spR C zM Kd [.str z,.int n] H Q E:=by
 refine rd hz hn (fun d e v H1 s1 hv=>?_) (fun e=>?_)
 ·unfold zM at e
  split at e
  ·rename_i hnm
   cases e
   have:v=.str (mS (cd z)):=hv
   rw [this,qr]
   exact h1 hnm H1 s1
  ·cases e
 ·unfold zM at e
  split at e
  ·cases e
  ·rename_i hnm
   exact h2 (by simpa using hnm)
theorem jdc {f:Addr} {fd:FuncData} (F:Fun K "named_term" "named_term" qN f fd) (F_refuse_unless:FnD P w K mg base 3 "refuse_unless" ["fits","line"] (jcB C)) (F_name_read:FnD P w K mg base 4 "name_read" ["text","line"] (spR C zM Kd)) (F_place_read:FnD P w K mg base 5 "place_read" ["text","line"] (spR C ql ZN)):FnOk P w K mg base (CX2 P w) 6 f fd ["text","line"] (spR C qo Tm.toD):=by
 have sc:FnScope ["text","line","r","bracket","inside"] ["text","line"] (jk qN):=fQ
 refine F.okD sc (fun vs H Q E h=>?_) (fun cdv A outer s H vs Q E hr W h=>?_)
 ·obtain ⟨z,n,rfl,_⟩:=h
  rfl
 obtain ⟨z,n,rfl,hz,hn,q1,q2⟩:=h
 refine ⟨_,(jd (j1 (kK PySem.F.plainAttrs_str PySem.F.slot_str_partition PySem.F.type_str_partition kT (zpv 0) (ja jc jb)) (j6 rfl (jm (jn (i:=2) sc.nd rfl oQ) (jm (jn (i:=3) sc.nd rfl oQ) (jm (jn (i:=4) sc.nd rfl oQ) jT)))))
   (jd (jH (jw kr (zpv 3) jc (jE _)) (jh (jl (jJ (ja jc (ja (jX F_name_read W hr (ja (zpv 0) (ja (zpv 1) jb))) jb))))) js)
   (jd (yC (jX F_refuse_unless W hr (ja (kK PySem.F.plainAttrs_str PySem.F.slot_str_endswith PySem.F.type_str_endswith Jq (zpv 4) (ja jc jb)) (ja (zpv 1) jb))))
   (jh (jl (jJ (ja jc (ja (jX F_name_read W hr (ja (zpv 2) (ja (zpv 1) jb))) (ja (jX F_place_read W hr (ja (kz Jd (zpv 4) qd (kD (ym yn jg))) (ja (zpv 1) jb))) jb))))))))),?_⟩
 refine jA (σ':=[some (.str z),some (.int n),none,none,none]) rfl ?_
 refine ⟨_,rfl,rfl,z,Str.ofString "[",rfl,rfl,rfl,sz hz,fun p hp=>?_⟩
 rw [jaZ (show cd (Str.ofString "[")≠[] by decide +kernel),show cd (Str.ofString "[")=[91] from rfl]
 unfold qo at q1 q2
 cases e:jZ [91] (cd z) with
 | none=>
  rw [e] at q1 q2
  dsimp only at q1 q2 ⊢
  have s1:=ji hp (.tup [V.str z,V.str Str.empty,V.str Str.empty])
  have e1:upd H p (.tup [V.str z,V.str Str.empty,V.str Str.empty]) p=some (.tup [V.str z,V.str Str.empty,V.str Str.empty]):=jf
  generalize upd H p (.tup [V.str z,V.str Str.empty,V.str Str.empty])=H1 at *
  refine ⟨p,_,rfl,SqT.of e1,rfl,_,_,rfl,_,_,rfl,_,_,rfl,rfl,?_⟩
  refine jA (σ':=[some (.str z),some (.int n),some (.str z),some (.str Str.empty),some (.str Str.empty)]) rfl ?_
  refine ⟨_,rfl,rfl,_,rfl,kF (fun _=>?_) (fun d=>absurd (by decide +kernel) d)⟩
  refine ⟨_,rfl,_,rfl,rdN hz hn (fun hnm H2 s2=>⟨sm rfl,fun p2 hp2=>?_⟩) (fun hnm=>?_)⟩
  ·rw [if_pos hnm] at q1
   exact q1 _ rfl _ _ (s1.trans (s2.trans (ji hp2 _))) (by rw [qr];exact yc jf)
  ·rw [if_neg (by rw [hnm];exact Bool.false_ne_true)] at q2
   exact (q2 rfl).mono s1
 | some r=>
  rw [e] at q1 q2
  dsimp only at q1 q2 ⊢
  obtain ⟨l1,l2⟩:=Y2 e
  rw [jI] at l1 l2
  have s1:=ji hp (.tup [V.str (mS r.1),V.str (Str.ofString "["),V.str (mS r.2)])
  have e1:upd H p (.tup [V.str (mS r.1),V.str (Str.ofString "["),V.str (mS r.2)]) p=some (.tup [V.str (mS r.1),V.str (Str.ofString "["),V.str (mS r.2)]):=jf
  generalize upd H p (.tup [V.str (mS r.1),V.str (Str.ofString "["),V.str (mS r.2)])=H1 at *
  refine ⟨p,_,rfl,SqT.of e1,rfl,_,_,rfl,_,_,rfl,_,_,rfl,rfl,?_⟩
  refine jA (σ':=[some (.str z),some (.int n),some (.str (mS r.1)),some (.str (Str.ofString "[")),some (.str (mS r.2))]) rfl ?_
  refine ⟨_,rfl,rfl,_,rfl,kF (fun d=>absurd d (by decide +kernel)) (fun _=>?_)⟩
  have m1:(mS r.1).length≤1000:=by rw [kU];omega
  refine ⟨_,rfl,rfl,mS r.2,_,rfl,rfl,_,rfl,_,n,rfl,hn,fun hb=>?_,fun hb=>?_⟩
  all_goals rw [jbi,show cd (Str.ofString "]")=[93] from rfl,jd2,kt] at hb
  ·rw [if_pos hb] at q1 q2
   refine ⟨_,rfl,_,rfl,rdN m1 hn (fun hnm H2 s2=>?_) (fun hnm=>?_)⟩
   ·rw [kt] at hnm
    rw [if_pos hnm] at q1 q2
    have hc:cd (zb (mS r.2) none (some (-1)))=r.2.dropLast:=by
     rw [show (-1:Int)=-((1:Nat):Int) from rfl,Zq _ 1 (by decide),kt,List.dropLast_eq_take]
    refine ⟨_,rfl,_,rfl,_,rfl,mS r.2,rfl,sz (by rw [kU];omega),_,rfl,rd (by rw [← jI,hc,List.length_dropLast];omega) hn (fun d ed v H3 s3 hv=>⟨sm rfl,fun p2 hp2=>?_⟩) (fun ed=>?_)⟩
    ·rw [hc] at ed
     rw [ed] at q1
     have s4:=ji hp2 (.tup [V.str (Str.ofString "at"),V.str (mS r.1),v])
     exact q1 _ rfl _ _ (s1.trans (s2.trans (s3.trans s4))) (jB jf (je jq (je jq (je (hv.mono s4) jt))))
    ·rw [hc] at ed
     rw [ed] at q2
     exact (q2 rfl).mono (s1.trans s2)
   ·rw [kt] at hnm
    rw [if_neg (by rw [hnm];exact Bool.false_ne_true)] at q2
    exact (q2 rfl).mono s1
  ·rw [if_neg (by rw [hb];exact Bool.false_ne_true)] at q2
   exact (q2 rfl).mono s1
theorem jb0 {f:Addr} {fd:FuncData} (F:Fun K "alone_read" "alone_read" qU f fd) (F_named_term:FnD P w K mg base 6 "named_term" ["text","line"] (spR C qo Tm.toD)):FnOk P w K mg base (CX2 P w) 7 f fd ["text","line"] (spR C Jo Tm.toD):=by
 have sc:FnScope ["text","line"] ["text","line"] (jk qU):=fQ
 refine F.okD sc (fun vs H Q E h=>?_) (fun cdv A outer s H vs Q E hr W h=>?_)
 ·obtain ⟨z,n,rfl,_⟩:=h
  rfl
 obtain ⟨z,n,rfl,hz,hn,q1,q2⟩:=h
 refine ⟨_,(jd (jH (jw kr (zpv 0) jc (jE _)) (jh (jl (jJ (ja jc (ja jc jb))))) js)
   (jh (jl (jX F_named_term W hr (ja (zpv 0) (ja (zpv 1) jb)))))),?_⟩
 refine jA (σ':=[some (.str z),some (.int n)]) rfl ?_
 unfold Jo at q1 q2
 refine ⟨_,rfl,rfl,_,rfl,kF (fun d=>?_) (fun d=>?_)⟩
 ·have d':cd z=[48]:=by
   have:=of_decide_eq_true d
   injection this with this
   rw [this];rfl
  rw [if_pos d'] at q1
  exact ⟨sm rfl,fun p hp=>q1 _ rfl _ _ (ji hp _) (yc jf)⟩
 ·rw [if_neg (fun h=>d (decide_eq_true (congrArg V.str (yu (h.trans rfl)))))] at q1 q2
  exact ⟨_,rfl,_,rfl,rd hz hn q1 q2⟩
theorem jc7 {f:Addr} {fd:FuncData} (F:Fun K "term_read" "term_read" zn f fd) (B:Free0 mg) (F_is_number:Fn P w K mg base 2 "is_number" ["text"] jaC) (F_more_cut:Fn P w K mg base 2 "more_cut" ["text"] jaE) (F_named_term:FnD P w K mg base 6 "named_term" ["text","line"] (spR C qo Tm.toD)):FnOk P w K mg base (CX2 P w) 7 f fd ["text","line"] (spR C yG je6):=by
 have sc:FnScope ["text","line","term","c"] ["text","line"] (jk zn):=fQ
 refine F.okD sc (fun vs H Q E h=>?_) (fun cdv A outer s H vs Q E hr W h=>?_)
 ·obtain ⟨z,n,rfl,_⟩:=h
  rfl
 obtain ⟨z,n,rfl,hz,hn,q1,q2⟩:=h
 refine ⟨_,(jd (jH (ko (jp F_is_number hr (ja (zpv 0) jb))) (jh (jl (jJ (ja (jJ (ja jc (ja jc jb))) (ja (zF qc (by rfl) B.int_ yw (ja (zpv 0) jb)) jb))))) js)
   (jd (j1 (jp F_more_cut hr (ja (zpv 0) jb)) (j6 rfl (jm (jn (i:=2) sc.nd rfl oQ) (jm (jn (i:=3) sc.nd rfl oQ) jT))))
   (jh (jl (jJ (ja (jX F_named_term W hr (ja (zpv 2) (ja (zpv 1) jb))) (ja (zpv 3) jb))))))),?_⟩
 refine jA (σ':=[some (.str z),some (.int n),none,none]) rfl ?_
 refine ⟨_,rfl,z,rfl,hz,_,rfl,?_⟩
 unfold yG at q1 q2
 cases hnum:yr (cd z) with
 | true=>
  rw [hnum,if_pos rfl] at q1
  obtain ⟨i1,i2⟩:=Yp hnum
  refine kE ⟨sm rfl,fun p hp=>⟨_,rfl,z,_,rfl,i1,i2,sm rfl,fun p2 hp2=>?_⟩⟩
  have s1:=ji hp (.tup [V.str (Str.ofString "is"),V.str (Str.ofString "")])
  have s2:=ji hp2 (.tup [V.ref p,V.int (K2 (cd z))])
  exact q1 _ rfl _ _ (s1.trans s2) (jB jf (je (yc (s2 _ _ jf)) (je jN jt)))
 | false=>
  rw [hnum,if_neg Bool.false_ne_true] at q1 q2
  refine ku ⟨_,rfl,z,rfl,hz,fun p H1 s1 hp=>⟨p,_,rfl,SqT.of hp,rfl,_,_,rfl,_,_,rfl,rfl,?_⟩⟩
  refine jA (σ':=[some (.str z),some (.int n),some (.str (mS (j9 (cd z)).1)),some (.int (j9 (cd z)).2)]) rfl ?_
  refine ⟨_,rfl,_,rfl,rd (jgh hz) hn (fun d e v H2 s2 hv=>⟨_,rfl,sm rfl,fun p2 hp2=>?_⟩) (fun e=>?_)⟩
  ·rw [kt] at e
   rw [e] at q1
   have s3:=ji hp2 (.tup [v,V.int (j9 (cd z)).2])
   exact q1 _ rfl _ _ (s1.trans (s2.trans s3)) (jB jf (je (hv.mono s3) (je jN jt)))
  ·rw [kt] at e
   rw [e] at q2
   exact (q2 rfl).mono s1
theorem jbY {f:Addr} {fd:FuncData} (F:Fun K "bound_read" "bound_read" qT f fd) (B:Free0 mg) (F_is_number:Fn P w K mg base 2 "is_number" ["text"] jaC) (F_more_cut:Fn P w K mg base 2 "more_cut" ["text"] jaE) (F_name_read:FnD P w K mg base 4 "name_read" ["text","line"] (spR C zM Kd)):FnOk P w K mg base (CX2 P w) 5 f fd ["text","line"] (spR C zA jdO):=by
 have sc:FnScope ["text","line","b","c"] ["text","line"] (jk qT):=fQ
 refine F.okD sc (fun vs H Q E h=>?_) (fun cdv A outer s H vs Q E hr W h=>?_)
 ·obtain ⟨z,n,rfl,_⟩:=h
  rfl
 obtain ⟨z,n,rfl,hz,hn,q1,q2⟩:=h
 refine ⟨_,(jd (jH (ko (jp F_is_number hr (ja (zpv 0) jb))) (jh (jl (jJ (ja (jJ (ja jc (ja jc jb))) (ja (zF qc (by rfl) B.int_ yw (ja (zpv 0) jb)) jb))))) js)
   (jd (j1 (jp F_more_cut hr (ja (zpv 0) jb)) (j6 rfl (jm (jn (i:=2) sc.nd rfl oQ) (jm (jn (i:=3) sc.nd rfl oQ) jT))))
   (jd (jH (ko (kK PySem.F.plainAttrs_str PySem.F.slot_str_endswith PySem.F.type_str_endswith Jq (zpv 2) (ja jc jb))) (jh (jl (jJ (ja (jJ (ja jc (ja (jX F_name_read W hr (ja (kz Jd (zpv 2) qd (kD (ym yn jg))) (ja (zpv 1) jb))) jb))) (ja (zpv 3) jb))))) js)
   (jh (jl (jJ (ja (jJ (ja jc (ja (jX F_name_read W hr (ja (zpv 2) (ja (zpv 1) jb))) jb))) (ja (zpv 3) jb)))))))),?_⟩
 refine jA (σ':=[some (.str z),some (.int n),none,none]) rfl ?_
 refine ⟨_,rfl,z,rfl,hz,_,rfl,?_⟩
 unfold zA at q1 q2
 cases hnum:yr (cd z) with
 | true=>
  rw [hnum,if_pos rfl] at q1
  obtain ⟨i1,i2⟩:=Yp hnum
  refine kE ⟨sm rfl,fun p hp=>⟨_,rfl,z,_,rfl,i1,i2,sm rfl,fun p2 hp2=>?_⟩⟩
  have s1:=ji hp (.tup [V.str (Str.ofString "is"),V.str (Str.ofString "")])
  have s2:=ji hp2 (.tup [V.ref p,V.int (K2 (cd z))])
  exact q1 _ rfl _ _ (s1.trans s2) (jB jf (je (yc (s2 _ _ jf)) (je jN jt)))
 | false=>
  rw [hnum,if_neg Bool.false_ne_true] at q1 q2
  refine ku ⟨_,rfl,z,rfl,hz,fun p H1 s1 hp=>⟨p,_,rfl,SqT.of hp,rfl,_,_,rfl,_,_,rfl,rfl,?_⟩⟩
  refine jA (σ':=[some (.str z),some (.int n),some (.str (mS (j9 (cd z)).1)),some (.int (j9 (cd z)).2)]) rfl ?_
  have hl:=jgh hz
  refine ⟨_,rfl,rfl,_,_,rfl,rfl,_,rfl,?_⟩
  rw [jbi,kt,show cd (Str.ofString "[]")=[91,93] from rfl]
  refine kF (fun d=>?_) (fun d=>?_)
  ·rw [if_pos d] at q1 q2
   have hc:cd (zb (mS (j9 (cd z)).1) none (some (-2)))=(j9 (cd z)).1.take ((j9 (cd z)).1.length - 2):=by
    rw [show (-2:Int)=-((2:Nat):Int) from rfl,Zq _ 2 (by decide),kt]
   refine ⟨_,rfl,_,rfl,_,rfl,_,rfl,sz hl,_,rfl,rdN (Nat.le_trans (yg _ _ _) hl) hn (fun hnm H2 s2=>⟨sm rfl,fun p2 hp2=>⟨_,rfl,sm rfl,fun p3 hp3=>?_⟩⟩) (fun hnm=>?_)⟩
   all_goals rw [hc] at hnm
   ·rw [if_pos hnm] at q1
    have s3:=ji hp2 (.tup [V.str (Str.ofString "row"),V.str (zb (mS (j9 (cd z)).1) none (some (-2)))])
    have s4:=ji hp3 (.tup [V.ref p2,V.int (j9 (cd z)).2])
    refine q1 _ rfl _ _ (s1.trans (s2.trans (s3.trans s4))) ?_
    rw [← hc,qr]
    exact jB jf (je (yc (s4 _ _ jf)) (je jN jt))
   ·rw [if_neg (by rw [hnm];exact Bool.false_ne_true)] at q2
    exact (q2 rfl).mono s1
  ·rw [if_neg d] at q1 q2
   refine ⟨_,rfl,_,rfl,rdN hl hn (fun hnm H2 s2=>⟨sm rfl,fun p2 hp2=>⟨_,rfl,sm rfl,fun p3 hp3=>?_⟩⟩) (fun hnm=>?_)⟩
   all_goals rw [kt] at hnm
   ·rw [if_pos hnm] at q1
    have s3:=ji hp2 (.tup [V.str (Str.ofString "is"),V.str (mS (j9 (cd z)).1)])
    have s4:=ji hp3 (.tup [V.ref p2,V.int (j9 (cd z)).2])
    exact q1 _ rfl _ _ (s1.trans (s2.trans (s3.trans s4))) (jB jf (je (yc (s4 _ _ jf)) (je jN jt)))
   ·rw [if_neg (by rw [hnm];exact Bool.false_ne_true)] at q2
    exact (q2 rfl).mono s1
end
open PyProof.Rows hiding St
abbrev qK:Stmt:=top 13
abbrev zo:Stmt:=top 12
abbrev zr:Stmt:=top 11
abbrev qO:Stmt:=top 10
abbrev qR:Stmt:=top 9
abbrev qJ:Stmt:=top 7
theorem Yc {x y:Str} (h:cd y≠[]):∃ b,Txt.partition x y=(mS (prt (cd y) (cd x)).1,b,mS (prt (cd y) (cd x)).2):=by
 rw [jaZ h]
 unfold prt
 cases e:jZ (cd y) (cd x) with
 | none=>exact ⟨Str.empty,by show (x,_,_)=(mS (cd x),_,mS []);rw [qr];rfl⟩
 | some p=>exact ⟨y,rfl⟩
theorem jd8 {x y:Str} (h:cd y≠[]):∃ b,Txt.rpartition x y=(mS (yO (cd y) (cd x)).1,b,mS (yO (cd y) (cd x)).2):=by
 rw [YU h]
 unfold yO
 cases e:jQ (cd y) (cd x) with
 | none=>exact ⟨Str.empty,by show (_,_,x)=(mS [],_,mS (cd x));rw [qr];rfl⟩
 | some p=>exact ⟨y,rfl⟩
theorem JI {sep l:List Nat} {n:Nat} (h:l.length≤n):(prt sep l).1.length≤n∧(prt sep l).2.length≤n:=by
 unfold prt
 cases e:jZ sep l with
 | none=>exact ⟨h,Nat.zero_le _⟩
 | some p=>
  obtain ⟨h1,h2⟩:=Y2 e
  exact ⟨Nat.le_trans h1 h,Nat.le_trans h2 h⟩
theorem jcL {sep l:List Nat} {n:Nat} (hs:sep≠[]) (h:l.length≤n):(yO sep l).1.length≤n∧(yO sep l).2.length≤n:=by
 unfold yO
 cases e:jQ sep l with
 | none=>exact ⟨Nat.zero_le _,h⟩
 | some p=>
  obtain ⟨h1,h2⟩:=Yi hs e
  exact ⟨Nat.le_trans h1 h,Nat.le_trans h2 h⟩
def jea (k:Rch):D:=.tup [plD k.t.1 k.t.2,plD k.u.1 k.u.2,.str k.r]
theorem jaN {H:Hp} {k:Rch} {v:V} (h:Held H (jea k) v):∃ a vt vu,v=.ref a∧H a=some (.tup [vt,vu,.str k.r])∧Held H (plD k.t.1 k.t.2) vt∧Held H (plD k.u.1 k.u.2) vu:=by
 obtain ⟨t,xs,rfl,ht,h1⟩:=j2 h
 obtain ⟨v1,r1,rfl,e1,h2⟩:=jo h1
 obtain ⟨v2,r2,rfl,e2,h3⟩:=jo h2
 obtain ⟨v3,r3,rfl,e3,h4⟩:=jo h3
 cases j7 h4
 cases (show v3=.str k.r from e3)
 exact ⟨t,v1,v2,rfl,ht,e1,e2⟩
theorem jau {H:Hp} {d:D} {c:Int} {v:V} (h:Held H (.tup [d,.int c]) v):∃ a vd,v=.ref a∧H a=some (.tup [vd,.int c])∧Held H d vd:=by
 obtain ⟨t,xs,rfl,ht,h1⟩:=j2 h
 obtain ⟨v1,r1,rfl,e1,h2⟩:=jo h1
 obtain ⟨v2,r2,rfl,e2,h3⟩:=jo h2
 cases j7 h3
 cases (show v2=.int c from e2)
 exact ⟨t,v1,rfl,ht,e1⟩
section
variable {P:Program} {w:World} {K:W.Frag} {mg:Str→Option Value} {base:Heap} {C:Addr}
theorem jdb {f:Addr} {fd:FuncData} (F:Fun K "reach_read" "reach_read" qK f fd) (F_name_read:FnD P w K mg base 4 "name_read" ["text","line"] (spR C zM Kd)) (F_place_read:FnD P w K mg base 5 "place_read" ["text","line"] (spR C ql ZN)):FnOk P w K mg base (CX2 P w) 6 f fd ["text","line"] (spR C qY jea):=by
 have sc:FnScope ["text","line","t","word","behind","u","blank","r"] ["text","line"] (jk qK):=fQ
 refine F.okD sc (fun vs H Q E h=>?_) (fun cdv A outer s H vs Q E hr W h=>?_)
 ·obtain ⟨z,n,rfl,_⟩:=h
  rfl
 obtain ⟨z,n,rfl,hz,hn,q1,q2⟩:=h
 refine ⟨_,(jd (j1 (kK PySem.F.plainAttrs_str PySem.F.slot_str_partition PySem.F.type_str_partition kT (zpv 0) (ja jc jb)) (j6 rfl (jm (jn (i:=2) sc.nd rfl oQ) (jm (jn (i:=3) sc.nd rfl oQ) (jm (jn (i:=4) sc.nd rfl oQ) jT)))))
   (jd (j1 (kK PySem.F.plainAttrs_str PySem.F.slot_str_rpartition PySem.F.type_str_rpartition yk (zpv 4) (ja jc jb)) (j6 rfl (jm (jn (i:=5) sc.nd rfl oQ) (jm (jn (i:=6) sc.nd rfl oQ) (jm (jn (i:=7) sc.nd rfl oQ) jT)))))
   (jh (jl (jJ (ja (jX F_place_read W hr (ja (zpv 2) (ja (zpv 1) jb))) (ja (jX F_place_read W hr (ja (zpv 5) (ja (zpv 1) jb))) (ja (jX F_name_read W hr (ja (zpv 7) (ja (zpv 1) jb))) jb)))))))),?_⟩
 refine jA (σ':=[some (.str z),some (.int n),none,none,none,none,none,none]) rfl ?_
 obtain ⟨b1,w1⟩:=Yc (x:=z) (y:=Str.ofString " to ") (by decide +kernel)
 rw [show cd (Str.ofString " to ")=[32,116,111,32] from rfl] at w1
 unfold qY at q1 q2
 have l1:=JI (sep:=[32,116,111,32]) (show (cd z).length≤1000 by rw [jI];exact hz)
 generalize prt [32,116,111,32] (cd z)=a at *
 refine ⟨_,rfl,rfl,z,Str.ofString " to ",rfl,rfl,rfl,sz hz,fun p hp=>?_⟩
 rw [w1]
 have s1:=ji hp (.tup [V.str (mS a.1),V.str b1,V.str (mS a.2)])
 have e1:upd H p (.tup [V.str (mS a.1),V.str b1,V.str (mS a.2)]) p=some (.tup [V.str (mS a.1),V.str b1,V.str (mS a.2)]):=jf
 dsimp only
 generalize upd H p (.tup [V.str (mS a.1),V.str b1,V.str (mS a.2)])=H1 at *
 refine ⟨p,_,rfl,SqT.of e1,rfl,_,_,rfl,_,_,rfl,_,_,rfl,rfl,?_⟩
 refine jA (σ':=[some (.str z),some (.int n),some (.str (mS a.1)),some (.str b1),some (.str (mS a.2)),none,none,none]) rfl ?_
 obtain ⟨b2,w2⟩:=jd8 (x:=mS a.2) (y:=Str.ofString " ") (by decide +kernel)
 rw [show cd (Str.ofString " ")=[32] from rfl,kt] at w2
 have l2:=jcL (sep:=[32]) (by simp) l1.2
 generalize yO [32] a.2=b at *
 refine ⟨_,rfl,rfl,mS a.2,Str.ofString " ",rfl,rfl,rfl,sz (by rw [kU];exact l1.2),fun p2 hp2=>?_⟩
 rw [w2]
 have s2:=ji hp2 (.tup [V.str (mS b.1),V.str b2,V.str (mS b.2)])
 have e2:upd H1 p2 (.tup [V.str (mS b.1),V.str b2,V.str (mS b.2)]) p2=some (.tup [V.str (mS b.1),V.str b2,V.str (mS b.2)]):=jf
 dsimp only
 generalize upd H1 p2 (.tup [V.str (mS b.1),V.str b2,V.str (mS b.2)])=H2 at *
 refine ⟨p2,_,rfl,SqT.of e2,rfl,_,_,rfl,_,_,rfl,_,_,rfl,rfl,?_⟩
 refine jA (σ':=[some (.str z),some (.int n),some (.str (mS a.1)),some (.str b1),some (.str (mS a.2)),some (.str (mS b.1)),some (.str b2),some (.str (mS b.2))]) rfl ?_
 have s12:=s1.trans s2
 refine ⟨_,rfl,_,rfl,rd (by rw [kU];exact l1.1) hn (fun t et vt H3 s3 ht=>?_) (fun et=>?_)⟩
 all_goals rw [kt] at et;rw [et] at q1 q2
 ·refine ⟨_,rfl,_,rfl,rd (by rw [kU];exact l2.1) hn (fun u eu vu H4 s4 hu=>?_) (fun eu=>?_)⟩
  all_goals rw [kt] at eu;dsimp only at q1 q2;rw [eu] at q1 q2
  ·refine ⟨_,rfl,_,rfl,rdN (by rw [kU];exact l2.2) hn (fun hnm H5 s5=>⟨sm rfl,fun p3 hp3=>?_⟩) (fun hnm=>?_)⟩
   all_goals rw [kt] at hnm;dsimp only at q1 q2
   ·rw [if_pos hnm] at q1
    have s6:=ji hp3 (.tup [vt,vu,V.str (mS b.2)])
    exact q1 _ rfl _ _ (s12.trans (s3.trans (s4.trans (s5.trans s6)))) (jB jf (je (ht.mono (s4.trans (s5.trans s6))) (je (hu.mono (s5.trans s6)) (je jq jt))))
   ·rw [if_neg (by rw [hnm];exact Bool.false_ne_true)] at q2
    exact (q2 rfl).mono (s12.trans (s3.trans s4))
  ·exact (q2 rfl).mono (s12.trans s3)
 ·exact (q2 rfl).mono s12
theorem jda {f:Addr} {fd:FuncData} (F:Fun K "rise_read" "rise_read" zo f fd) (F_reach_read:FnD P w K mg base 6 "reach_read" ["text","line"] (spR C qY jea)):FnOk P w K mg base (CX2 P w) 7 f fd ["text","line"] (spR C J5 Cl.toD):=by
 have sc:FnScope ["text","line","t","u","r"] ["text","line"] (jk zo):=fQ
 refine F.okD sc (fun vs H Q E h=>?_) (fun cdv A outer s H vs Q E hr W h=>?_)
 ·obtain ⟨z,n,rfl,_⟩:=h
  rfl
 obtain ⟨z,n,rfl,hz,hn,q1,q2⟩:=h
 refine ⟨_,(jd (j1 (jX F_reach_read W hr (ja (zpv 0) (ja (zpv 1) jb))) (j6 rfl (jm (jn (i:=2) sc.nd rfl oQ) (jm (jn (i:=3) sc.nd rfl oQ) (jm (jn (i:=4) sc.nd rfl oQ) jT)))))
   (jh (jl (jJ (ja jc (ja (zpv 2) (ja (zpv 3) (ja (zpv 4) jb)))))))),?_⟩
 refine jA (σ':=[some (.str z),some (.int n),none,none,none]) rfl ?_
 unfold J5 at q1 q2
 refine ⟨_,rfl,_,rfl,rd hz hn (fun k ek v H1 s1 hv=>?_) (fun ek=>?_)⟩
 all_goals rw [ek] at q1 q2
 ·obtain ⟨a,vt,vu,rfl,ha,ht,hu⟩:=jaN hv
  refine ⟨a,_,rfl,SqT.of ha,rfl,_,_,rfl,_,_,rfl,_,_,rfl,rfl,?_⟩
  refine jA (σ':=[some (.str z),some (.int n),some vt,some vu,some (.str k.r)]) rfl ?_
  refine ⟨_,rfl,_,rfl,_,rfl,sm rfl,fun p hp=>?_⟩
  have s2:=ji hp (.tup [V.str (Str.ofString "rise"),vt,vu,V.str k.r])
  exact q1 _ rfl _ _ (s1.trans s2) (jB jf (je jq (je (ht.mono s2) (je (hu.mono s2) (je jq jt)))))
 ·exact q2 rfl
theorem jde {f:Addr} {fd:FuncData} (F:Fun K "each_read" "each_read" zr f fd) (F_reach_read:FnD P w K mg base 6 "reach_read" ["text","line"] (spR C qY jea)) (F_bound_read:FnD P w K mg base 5 "bound_read" ["text","line"] (spR C zA jdO)):FnOk P w K mg base (CX2 P w) 7 f fd ["text","line"] (spR C Zn Cl.toD):=by
 have sc:FnScope ["text","line","way","reach","sign","right","t","u","r","b","c"] ["text","line"] (jk zr):=fQ
 refine F.okD sc (fun vs H Q E h=>?_) (fun cdv A outer s H vs Q E hr W h=>?_)
 ·obtain ⟨z,n,rfl,_⟩:=h
  rfl
 obtain ⟨z,n,rfl,hz,hn,q1,q2⟩:=h
 refine ⟨_,(jd (ju (i:=2) sc.nd rfl oQ jc)
   (jd (jcp (jH (jw jbI jc (zpv 0) rfl) (jh (ju (i:=2) sc.nd rfl oQ jc)) js))
   (jd (j1 (kK PySem.F.plainAttrs_str PySem.F.slot_str_partition PySem.F.type_str_partition kT (zpv 0) (ja (kx (jC jc (jC (ke (zpv 2)) (jC jc qD)))) jb)) (j6 rfl (jm (jn (i:=3) sc.nd rfl oQ) (jm (jn (i:=4) sc.nd rfl oQ) (jm (jn (i:=5) sc.nd rfl oQ) jT)))))
   (jd (j1 (jX F_reach_read W hr (ja (zpv 3) (ja (zpv 1) jb))) (j6 rfl (jm (jn (i:=6) sc.nd rfl oQ) (jm (jn (i:=7) sc.nd rfl oQ) (jm (jn (i:=8) sc.nd rfl oQ) jT)))))
   (jd (j1 (jX F_bound_read W hr (ja (zpv 5) (ja (zpv 1) jb))) (j6 rfl (jm (jn (i:=9) sc.nd rfl oQ) (jm (jn (i:=10) sc.nd rfl oQ) jT))))
   (jh (jl (jJ (ja jc (ja (zpv 6) (ja (zpv 7) (ja (zpv 8) (ja (zpv 2) (ja (zpv 9) (ja (zpv 10) jb))))))))))))))),?_⟩
 refine jA (σ':=[some (.str z),some (.int n),none,none,none,none,none,none,none,none,none]) rfl ?_
 refine gQ ?_
 refine ⟨fun σ G=>σ=[some (.str z),some (.int n),some (.str (Kv (cd z))),none,none,none,none,none,none,none,none]∧G=H,⟨_,rfl,_,_,rfl,rfl,_,rfl,?_⟩,?_⟩
 ·rw [jgQ (by decide +kernel),show cd (Str.ofString " <= ")=[32,60,61,32] from rfl]
  unfold Kv
  refine kF (fun d=>?_) (fun d=>?_)
  ·rw [if_pos d]
   exact ⟨rfl,rfl⟩
  ·rw [if_neg d]
   exact ⟨rfl,rfl⟩
 rintro σ G ⟨rfl,rfl⟩
 unfold Zn at q1 q2
 have hw:(Kv (cd z)).length≤2:=by
  unfold Kv
  split <;> decide
 generalize Kv (cd z)=way at *
 refine ⟨_,rfl,rfl,?_⟩
 refine jcE (n:=0) (Nat.le_refl _) (by decide +kernel) (by decide) fun o1=>jfE (x:=way) o1 (Nat.le_trans hw (by decide)) (by decide) (fun q h=>⟨_,rfl,h⟩) fun o2=>jcE o2 (by decide +kernel) (by decide) fun o3=>⟨jD (Nat.le_trans o3 (by decide)),?_⟩
 rw [j8]
 have hs:cd (Str.ofString " "++way++Str.ofString " ")=32 :: (cd way++[32]):=by
  rw [jS,jS]
  rfl
 generalize Str.ofString " "++way++Str.ofString " " = sep at *
 have hse:cd sep≠[]:=by rw [hs];simp
 obtain ⟨b1,w1⟩:=Yc (x:=z) hse
 rw [hs] at w1
 have l1:=JI (sep:=32 :: (cd way++[32])) (show (cd z).length≤1000 by rw [jI];exact hz)
 generalize prt (32 :: (cd way++[32])) (cd z)=a at *
 refine ⟨z,sep,rfl,rfl,?_,sz hz,fun p hp=>?_⟩
 ·rw [← jI,hs]
  rfl
 rw [w1]
 dsimp only
 have s1:=ji hp (.tup [V.str (mS a.1),V.str b1,V.str (mS a.2)])
 have e1:upd G p (.tup [V.str (mS a.1),V.str b1,V.str (mS a.2)]) p=some (.tup [V.str (mS a.1),V.str b1,V.str (mS a.2)]):=jf
 generalize upd G p (.tup [V.str (mS a.1),V.str b1,V.str (mS a.2)])=H1 at *
 refine ⟨p,_,rfl,SqT.of e1,rfl,_,_,rfl,_,_,rfl,_,_,rfl,rfl,?_⟩
 refine jA (σ':=[some (.str z),some (.int n),some (.str way),some (.str (mS a.1)),some (.str b1),some (.str (mS a.2)),none,none,none,none,none]) rfl ?_
 refine ⟨_,rfl,_,rfl,rd (by rw [kU];exact l1.1) hn (fun k ek v H2 s2 hv=>?_) (fun ek=>?_)⟩
 all_goals rw [kt] at ek;rw [ek] at q1 q2
 ·obtain ⟨c,vt,vu,rfl,hc,ht,hu⟩:=jaN hv
  refine ⟨c,_,rfl,SqT.of hc,rfl,_,_,rfl,_,_,rfl,_,_,rfl,rfl,?_⟩
  refine jA (σ':=[some (.str z),some (.int n),some (.str way),some (.str (mS a.1)),some (.str b1),some (.str (mS a.2)),some vt,some vu,some (.str k.r),none,none]) rfl ?_
  dsimp only at q1 q2
  refine ⟨_,rfl,_,rfl,rd (by rw [kU];exact l1.2) hn (fun b eb v2 H3 s3 hv2=>?_) (fun eb=>?_)⟩
  all_goals rw [kt] at eb;rw [eb] at q1 q2
  ·obtain ⟨c2,vb,rfl,hc2,hb⟩:=jau hv2
   refine ⟨c2,_,rfl,SqT.of hc2,rfl,_,_,rfl,_,_,rfl,rfl,?_⟩
   refine jA (σ':=[some (.str z),some (.int n),some (.str way),some (.str (mS a.1)),some (.str b1),some (.str (mS a.2)),some vt,some vu,some (.str k.r),some vb,some (.int b.2)]) rfl ?_
   refine ⟨_,rfl,_,rfl,_,rfl,_,rfl,_,rfl,_,rfl,sm rfl,fun p3 hp3=>?_⟩
   have s4:=ji hp3 (.tup [V.str (Str.ofString "each"),vt,vu,V.str k.r,V.str way,vb,V.int b.2])
   exact q1 _ rfl _ _ (s1.trans (s2.trans (s3.trans s4))) (jB jf (je jq (je (ht.mono (s3.trans s4)) (je (hu.mono (s3.trans s4)) (je jq (je jq (je (hb.mono s4) (je jN jt))))))))
  ·exact (q2 rfl).mono (s1.trans s2)
 ·exact (q2 rfl).mono s1
theorem jbQ {f:Addr} {fd:FuncData} (F:Fun K "least_read" "least_read" qO f fd) (F_term_read:FnD P w K mg base 7 "term_read" ["text","line"] (spR C yG je6)) (F_alone_read:FnD P w K mg base 7 "alone_read" ["text","line"] (spR C Jo Tm.toD)):FnOk P w K mg base (CX2 P w) 8 f fd ["text","line"] (spR C Kg Cl.toD):=by
 have sc:FnScope ["text","line","left","sign","right","term","c"] ["text","line"] (jk qO):=fQ
 refine F.okD sc (fun vs H Q E h=>?_) (fun cdv A outer s H vs Q E hr W h=>?_)
 ·obtain ⟨z,n,rfl,_⟩:=h
  rfl
 obtain ⟨z,n,rfl,hz,hn,q1,q2⟩:=h
 refine ⟨_,(jd (j1 (kK PySem.F.plainAttrs_str PySem.F.slot_str_partition PySem.F.type_str_partition kT (zpv 0) (ja jc jb)) (j6 rfl (jm (jn (i:=2) sc.nd rfl oQ) (jm (jn (i:=3) sc.nd rfl oQ) (jm (jn (i:=4) sc.nd rfl oQ) jT)))))
   (jd (j1 (jX F_term_read W hr (ja (zpv 4) (ja (zpv 1) jb))) (j6 rfl (jm (jn (i:=5) sc.nd rfl oQ) (jm (jn (i:=6) sc.nd rfl oQ) jT))))
   (jh (jl (jJ (ja jc (ja (jX F_alone_read W hr (ja (zpv 2) (ja (zpv 1) jb))) (ja (zpv 5) (ja (zpv 6) jb))))))))),?_⟩
 refine jA (σ':=[some (.str z),some (.int n),none,none,none,none,none]) rfl ?_
 obtain ⟨b1,w1⟩:=Yc (x:=z) (y:=Str.ofString " >= ") (by decide +kernel)
 rw [show cd (Str.ofString " >= ")=[32,62,61,32] from rfl] at w1
 unfold Kg at q1 q2
 have l1:=JI (sep:=[32,62,61,32]) (show (cd z).length≤1000 by rw [jI];exact hz)
 generalize prt [32,62,61,32] (cd z)=a at *
 refine ⟨_,rfl,rfl,z,Str.ofString " >= ",rfl,rfl,rfl,sz hz,fun p hp=>?_⟩
 rw [w1]
 have s1:=ji hp (.tup [V.str (mS a.1),V.str b1,V.str (mS a.2)])
 have e1:upd H p (.tup [V.str (mS a.1),V.str b1,V.str (mS a.2)]) p=some (.tup [V.str (mS a.1),V.str b1,V.str (mS a.2)]):=jf
 dsimp only
 generalize upd H p (.tup [V.str (mS a.1),V.str b1,V.str (mS a.2)])=H1 at *
 refine ⟨p,_,rfl,SqT.of e1,rfl,_,_,rfl,_,_,rfl,_,_,rfl,rfl,?_⟩
 refine jA (σ':=[some (.str z),some (.int n),some (.str (mS a.1)),some (.str b1),some (.str (mS a.2)),none,none]) rfl ?_
 refine ⟨_,rfl,_,rfl,rd (by rw [kU];exact l1.2) hn (fun t et v H2 s2 hv=>?_) (fun et=>?_)⟩
 all_goals rw [kt] at et;rw [et] at q1 q2
 ·obtain ⟨c2,vb,rfl,hc2,hb⟩:=jau hv
  refine ⟨c2,_,rfl,SqT.of hc2,rfl,_,_,rfl,_,_,rfl,rfl,?_⟩
  refine jA (σ':=[some (.str z),some (.int n),some (.str (mS a.1)),some (.str b1),some (.str (mS a.2)),some vb,some (.int t.2)]) rfl ?_
  dsimp only at q1 q2
  refine ⟨_,rfl,_,rfl,rd (by rw [kU];exact l1.1) hn (fun x ex v2 H3 s3 hv2=>?_) (fun ex=>?_)⟩
  all_goals rw [kt] at ex;rw [ex] at q1 q2
  ·refine ⟨_,rfl,_,rfl,sm rfl,fun p3 hp3=>?_⟩
   have s4:=ji hp3 (.tup [V.str (Str.ofString "least"),v2,vb,V.int t.2])
   exact q1 _ rfl _ _ (s1.trans (s2.trans (s3.trans s4))) (jB jf (je jq (je (hv2.mono s4) (je (hb.mono (s3.trans s4)) (je jN jt)))))
  ·exact (q2 rfl).mono (s1.trans s2)
 ·exact (q2 rfl).mono s1
theorem jbV {f:Addr} {fd:FuncData} (F:Fun K "claim_read" "claim_read" qR f fd) (F_each_read:FnD P w K mg base 7 "each_read" ["text","line"] (spR C Zn Cl.toD)) (F_rise_read:FnD P w K mg base 7 "rise_read" ["text","line"] (spR C J5 Cl.toD)) (F_least_read:FnD P w K mg base 8 "least_read" ["text","line"] (spR C Kg Cl.toD)):FnOk P w K mg base (CX2 P w) 9 f fd ["text","line"] (spR C kC Cl.toD):=by
 have sc:FnScope ["text","line","word","blank","rest"] ["text","line"] (jk qR):=fQ
 refine F.okD sc (fun vs H Q E h=>?_) (fun cdv A outer s H vs Q E hr W h=>?_)
 ·obtain ⟨z,n,rfl,_⟩:=h
  rfl
 obtain ⟨z,n,rfl,hz,hn,q1,q2⟩:=h
 refine ⟨_,(jd (j1 (kK PySem.F.plainAttrs_str PySem.F.slot_str_partition PySem.F.type_str_partition kT (zpv 0) (ja jc jb)) (j6 rfl (jm (jn (i:=2) sc.nd rfl oQ) (jm (jn (i:=3) sc.nd rfl oQ) (jm (jn (i:=4) sc.nd rfl oQ) jT)))))
   (jd (jH (jw kr (zpv 2) jc (jE _)) (jh (jl (jX F_each_read W hr (ja (zpv 4) (ja (zpv 1) jb))))) js)
   (jd (jH (jw kr (zpv 2) jc (jE _)) (jh (jl (jX F_rise_read W hr (ja (zpv 4) (ja (zpv 1) jb))))) js)
   (jh (jl (jX F_least_read W hr (ja (zpv 0) (ja (zpv 1) jb)))))))),?_⟩
 refine jA (σ':=[some (.str z),some (.int n),none,none,none]) rfl ?_
 obtain ⟨b1,w1⟩:=Yc (x:=z) (y:=Str.ofString " ") (by decide +kernel)
 rw [show cd (Str.ofString " ")=[32] from rfl] at w1
 unfold kC at q1 q2
 have l1:=JI (sep:=[32]) (show (cd z).length≤1000 by rw [jI];exact hz)
 generalize prt [32] (cd z)=a at *
 refine ⟨_,rfl,rfl,z,Str.ofString " ",rfl,rfl,rfl,sz hz,fun p hp=>?_⟩
 rw [w1]
 have s1:=ji hp (.tup [V.str (mS a.1),V.str b1,V.str (mS a.2)])
 have e1:upd H p (.tup [V.str (mS a.1),V.str b1,V.str (mS a.2)]) p=some (.tup [V.str (mS a.1),V.str b1,V.str (mS a.2)]):=jf
 dsimp only
 generalize upd H p (.tup [V.str (mS a.1),V.str b1,V.str (mS a.2)])=H1 at *
 refine ⟨p,_,rfl,SqT.of e1,rfl,_,_,rfl,_,_,rfl,_,_,rfl,rfl,?_⟩
 refine jA (σ':=[some (.str z),some (.int n),some (.str (mS a.1)),some (.str b1),some (.str (mS a.2))]) rfl ?_
 have hw:∀ y:Str,decide (V.str (mS a.1)=V.str y)=true↔a.1=cd y:=fun y=>by
  rw [decide_eq_true_eq]
  exact ⟨fun h=>by injection h with h;rw [← h,kt],fun h=>by rw [h,qr]⟩
 have le:(mS a.2).length≤1000:=by rw [kU];exact l1.2
 refine ⟨_,rfl,rfl,_,rfl,kF (fun d=>?_) (fun d=>?_)⟩
 ·have d':a.1=[101,97,99,104]:=(hw _).mp d
  rw [if_pos d'] at q1 q2
  exact ⟨_,rfl,_,rfl,rd le hn (fun x ex v H2 s2 hv=>q1 x ex v H2 (s1.trans s2) hv) fun ex=>(q2 ex).mono s1⟩
 have d':¬ a.1=[101,97,99,104]:=fun h=>d ((hw _).mpr h)
 rw [if_neg d'] at q1 q2
 refine ⟨_,rfl,rfl,_,rfl,kF (fun d=>?_) (fun d=>?_)⟩
 ·have d':a.1=[114,105,115,101]:=(hw _).mp d
  rw [if_pos d'] at q1 q2
  exact ⟨_,rfl,_,rfl,rd le hn (fun x ex v H2 s2 hv=>q1 x ex v H2 (s1.trans s2) hv) fun ex=>(q2 ex).mono s1⟩
 have d':¬ a.1=[114,105,115,101]:=fun h=>d ((hw _).mpr h)
 rw [if_neg d'] at q1 q2
 exact ⟨_,rfl,_,rfl,rd hz hn (fun x ex v H2 s2 hv=>q1 x ex v H2 (s1.trans s2) hv) fun ex=>(q2 ex).mono s1⟩
def ZF (C:Addr):Sp:=fun vs H Q E=>∃ (z:Str),vs=[.str z]∧z.length≤1000∧(∀ d,kC (qi (cd z))=some d→∀ v H',Same H H'→Held H' d.toD v→Q v H')∧(kC (qi (cd z))=none→RdE C 1 E H)
theorem jbC (l:List Nat):(qi l).length≤l.length:=by
 unfold qi
 rw [List.length_reverse]
 exact Nat.le_trans ((List.dropWhile_sublist _).length_le) (by rw [List.length_reverse];exact (List.dropWhile_sublist _).length_le)
theorem jeq {f:Addr} {fd:FuncData} (F:Fun K "read_claim" "read_claim" qJ f fd) (F_claim_read:FnD P w K mg base 9 "claim_read" ["text","line"] (spR C kC Cl.toD)):FnOk P w K mg base (CX2 P w) 10 f fd ["text"] (ZF C):=by
 have sc:FnScope ["text"] ["text"] (jk qJ):=fQ
 refine F.okD sc (fun vs H Q E h=>?_) (fun cdv A outer s H vs Q E hr W h=>?_)
 ·obtain ⟨z,rfl,_⟩:=h
  rfl
 obtain ⟨z,rfl,hz,q1,q2⟩:=h
 refine ⟨_,(jh (jl (jX F_claim_read W hr (ja (kK PySem.F.plainAttrs_str PySem.F.slot_str_strip PySem.F.type_str_strip jb2 (zpv 0) (ja jc jb)) (ja jg jb))))),?_⟩
 refine jA (σ':=[some (.str z)]) rfl ?_
 refine ⟨_,rfl,rfl,z,_,rfl,rfl,sz hz,?_⟩
 rw [jcA]
 exact rd (by rw [kU];exact Nat.le_trans (jbC _) (by rw [jI];exact hz)) (by decide) (by rw [kt];exact q1) (by rw [kt];exact q2)
end
theorem Z7 (i:Int):cd (Ki i)=zP i:=by
 unfold cd
 rw [show (Ki i).cps.toList=(toString i).toList.map Char.toNat from jaF i]
 unfold zP dg
 cases i with
 | ofNat m=>
  rw [if_neg (show ¬ Int.ofNat m < 0 from Int.not_lt.mpr (Int.natCast_nonneg m))]
  show (Nat.repr m).toList.map Char.toNat=_
  rw [Nat.toList_repr]
  rfl
 | negSucc m=>
  rw [if_pos (by omega)]
  show ("-"++m.succ.repr).toList.map Char.toNat=_
  rw [String.toList_append,List.map_append,Nat.toList_repr]
  rfl
theorem jba {c:Int} (h:0 < c):zP c=dg c.natAbs:=by
 unfold zP
 rw [if_neg (by omega)]
theorem Yy {z:Str}:z=Str.ofString ""↔cd z=[]:=⟨fun h=>by rw [h];rfl,fun h=>yu (by rw [h];rfl)⟩
theorem zv (z:Str) (c:Int):cd (j0 z c)=jP (cd z) c:=by
 unfold j0 jP
 by_cases h:z=Str.ofString ""
 ·rw [if_pos h,if_pos (Yy.mp h),Z7]
 rw [if_neg h,if_neg (fun k=>h (Yy.mpr k))]
 split
 ·rename_i h0
  rw [jS,jS,Z7,jba h0,List.append_assoc]
  rfl
 split
 ·rename_i h0
  rw [jS,jS,Z7,jba (by omega),List.append_assoc,Int.natAbs_neg]
  rfl
 ·rfl
theorem Zx (t:Tm):cd (zc t)=kc t:=by
 cases t with
 | is x=>
  show cd (if x=Str.ofString "" then Str.ofString "0" else x)=if cd x=[] then [48] else cd x
  by_cases h:x=Str.ofString ""
  ·rw [if_pos h,if_pos (Yy.mp h)];rfl
  ·rw [if_neg h,if_neg (fun k=>h (Yy.mpr k))]
 | at_ r x d=>
  show cd (r++Str.ofString "["++j0 x d++Str.ofString "]")=cd r++91 :: (jP (cd x) d++[93])
  rw [jS,jS,jS,zv,List.append_assoc,List.append_assoc]
  rfl
theorem jd0 (t:Tm) (c:Int):cd (Jp t c)=zC t c:=by
 cases t with
 | is x=>exact zv x c
 | at_ r x d=>
  show cd (j0 (zc (.at_ r x d)) c)=_
  rw [zv,Zx]
  rfl
theorem jdN (b:Bd) (c:Int):cd (yx b c)=qa b c:=by
 cases b with
 | is x=>exact zv x c
 | row r=>
  show cd (j0 (r++Str.ofString "[]") c)=_
  rw [zv,jS]
  rfl
theorem YX (x:Str) (d:Int) (y:Str) (e:Int) (r:Str):cd (qk x d y e r)=j5 x d y e r:=by
 unfold qk j5
 rw [jS,jS,jS,jS,zv,zv,List.append_assoc,List.append_assoc,List.append_assoc]
 rfl
theorem jdJ (C:Cl):cd (Kp C)=qq C:=by
 cases C with
 | least a b c=>
  show cd (zc a++Str.ofString " >= "++Jp b c)=kc a++32 :: 62 :: 61 :: 32 :: zC b c
  rw [jS,jS,Zx,jd0,List.append_assoc]
  rfl
 | rise x d y e r=>
  show cd (Str.ofString "rise "++qk x d y e r)=114 :: 105 :: 115 :: 101 :: 32 :: j5 x d y e r
  rw [jS,YX]
  rfl
 | each x d y e r way b c=>
  show cd (Str.ofString "each "++qk x d y e r++Str.ofString " "++way++Str.ofString " "++yx b c)=101 :: 97 :: 99 :: 104 :: 32 :: (j5 x d y e r++32 :: (cd way++32 :: qa b c))
  rw [jS,jS,jS,jS,jS,YX,jdN]
  simp only [List.append_assoc]
  rfl
def je2 (l:List Nat):Prop:=(∃ c m,l=c :: m∧c≠32)∧∃ c m,l=m++[c]∧c≠32
theorem Kl {l:List Nat}:∀ k:Nat,(∃ c m,l=c :: m∧c≠32)→(List.replicate k 32++l).dropWhile (· == 32)=l
 | 0,⟨c,m,e,h⟩=>by
  rw [e]
  show (c :: m).dropWhile _=_
  rw [List.dropWhile_cons,if_neg (by simpa using h)]
 | k+1,h=>by
  rw [List.replicate_succ]
  show (32 :: (List.replicate k 32++l)).dropWhile _=_
  rw [List.dropWhile_cons,if_pos (show ((32:Nat) == 32)=true from rfl),Kl k h]
theorem yI {l:List Nat} (h:je2 l) (a b:Nat):qi (List.replicate a 32++(l++List.replicate b 32))=l:=by
 unfold qi
 obtain ⟨⟨c,m,e,hc⟩,⟨c2,m2,e2,hc2⟩⟩:=h
 rw [Kl a ⟨c,m++List.replicate b 32,by rw [e];rfl,hc⟩,List.reverse_append,List.reverse_replicate,Kl b ⟨c2,m2.reverse,by rw [e2];simp,hc2⟩,List.reverse_reverse]
theorem JX {l:List Nat} (h:je2 l):qi l=l:=by
 have:=yI h 0 0
 simpa using this
def EndL (l:List Nat):Prop:=∃ c m,l=m++[c]∧c≠32
theorem EndL.app {l:List Nat} (a:List Nat) (h:EndL l):EndL (a++l):=by
 obtain ⟨c,m,e,hc⟩:=h
 exact ⟨c,a++m,by rw [e,List.append_assoc],hc⟩
theorem EndL.cons {l:List Nat} {x:Nat} (h:EndL l):EndL (x :: l):=h.app [x]
theorem jaa {l:List Nat} (hn:l≠[]) (h:32 ∉ l):EndL l:=⟨l.getLast hn,l.dropLast,(List.dropLast_concat_getLast hn).symm,fun z=>h (z ▸ List.getLast_mem hn)⟩
theorem jeO (i:Int):EndL (zP i):=by
 refine jaa ?_ (JM rfl (by decide))
 unfold zP
 split
 ·simp
 ·exact jbl _
theorem yZ {x:List Nat} (h:x=[]∨EndL x) (c:Int):EndL (jP x c):=by
 unfold jP
 split
 ·exact jeO c
 ·rename_i hx
  have hd:EndL (dg c.natAbs):=jaa (jbl _) (za rfl)
  split
  ·exact hd.cons.cons.cons.app x
  split
  ·exact hd.cons.cons.cons.app x
  ·exact h.resolve_left hx
theorem jdC {l:List Nat} (h:jO l=true):EndL l:=jaa (Kb h) (kS h rfl)
theorem jfw {x:Str} (h:NmE x):cd x=[]∨EndL (cd x):=by
 rcases h with rfl | h
 ·exact .inl rfl
 ·exact .inr (jdC h)
theorem jdB {t:Tm} (h:TmF t) (c:Int):EndL (zC t c):=by
 cases t with
 | is x=>exact yZ (jfw h) c
 | at_ r x d=>exact yZ (.inr ⟨93,cd r++91 :: jP (cd x) d,by show cd r++91 :: (jP (cd x) d++[93])=_;simp,by decide⟩) c
theorem jcc {b:Bd} (h:BdF b) (c:Int):EndL (qa b c):=by
 cases b with
 | is x=>exact yZ (jfw h) c
 | row r=>exact yZ (.inr ⟨93,cd r++[91],by simp,by decide⟩) c
theorem jft {l:List Nat} (h:jO l=true) (m:List Nat):∃ c k,l++m=c :: k∧c≠32:=by
 cases l with
 | nil=>exact absurd rfl (Kb h)
 | cons a l=>exact ⟨a,l++m,rfl,Z2 (ZU h a (List.mem_cons_self ..)) rfl⟩
theorem Ko {C:Cl} (h:ClF C):je2 (qq C):=by
 cases C with
 | least a b c=>
  obtain ⟨h1,h2,h3⟩:=h
  refine ⟨?_,(jdB h2 c).cons.cons.cons.cons.app _⟩
  show ∃ k m,kc a++32 :: 62 :: 61 :: 32 :: zC b c=k :: m∧k≠32
  cases a with
  | is x=>
   rcases (show NmE x from h1) with rfl | hx
   ·exact ⟨48,_,rfl,by decide⟩
   ·rw [show kc (.is x)=cd x from if_neg (Kb hx)]
    exact jft hx _
  | at_ r x d=>
   show ∃ k m,(cd r++91 :: (jP (cd x) d++[93]))++32 :: 62 :: 61 :: 32 :: zC b c=k :: m∧k≠32
   rw [List.append_assoc]
   exact jft h1.1 _
 | rise x d y e r=>
  obtain ⟨h1,h2,h3,h4,h5⟩:=h
  exact ⟨⟨114,_,rfl,by decide⟩,((((jdC h5).cons.app _).cons.cons.cons.cons.app _).cons.cons.cons.cons.cons)⟩
 | each x d y e r way b c=>
  obtain ⟨_,_,h7,_⟩:=h
  exact ⟨⟨101,_,rfl,by decide⟩,((((jcc h7 c).cons.app _).cons.app _).cons.cons.cons.cons.cons)⟩
theorem Zs {C:Cl} (h:ClF C):je2 (qq C++[32,120]):=by
 obtain ⟨⟨c,m,e,hc⟩,_⟩:=Ko h
 exact ⟨⟨c,m++[32,120],by rw [e];rfl,hc⟩,⟨120,qq C++[32],by simp,by decide⟩⟩
def LowS (z:Str):Prop:=∀ c∈cd z,qv c=true
theorem LowS.app {a b:Str} (h:LowS a) (k:LowS b):LowS (a++b):=fun c hc=>by
 rw [jS] at hc
 exact (List.mem_append.mp hc).elim (h c) (k c)
theorem LowS.cut {a:Str} (h:LowS a) (lo hi:Option Int):LowS (zb a lo hi):=fun c hc=>by
 have hc:c∈(zb a lo hi).cps.toList:=hc
 rw [kZ] at hc
 exact h c (List.mem_of_mem_drop (List.mem_of_mem_take hc))
theorem jdp {i:Nat} (h:i < 26):qv (i+97)=true:=by
 unfold qv
 rw [decide_eq_true (show 97≤i+97 by omega),decide_eq_true (show i+97≤122 by omega)]
 rfl
theorem ja5 {i:Nat} (h:i < 26):LowS (wdS [i+97]):=fun c hc=>by
 rw [List.mem_singleton.mp (show c∈[i+97] from hc)]
 exact jdp h
theorem Za (w:Int) (n:Dl):∀ i,∀ c∈(ky w n i).1,qv c=true
 | 0,c,h=>nomatch h
 | i+1,c,h=>by
  rcases List.mem_append.mp (show c∈(ky w n i).1++[_] from h) with h | h
  ·exact Za w n i c h
  ·rw [List.mem_singleton.mp h]
   have:=jL w (ky w n i).2 (m:=26) (by decide)
   have:=jM w (ky w n i).2 (m:=26) (by decide)
   exact jdp (by omega)
theorem jeF {z:Str} (h:NmW z):LowS (wdS [ch0 z]):=by
 obtain ⟨i,r,rfl,hi,_⟩:=h
 rw [jah]
 exact ja5 hi
theorem Zb {tk:List Str}:∀ (k:Nat) {z:Str},LowS z→LowS (zh tk k z)
 | 0,_,h=>h
 | k+1,z,h=>by
  unfold zh
  split
  ·refine Zb k ?_
   exact (ja5 (Nat.mod_lt _ (by decide))).app (h.cut _ _)
  ·exact h
theorem jdo (w:Int) (n:Dl) {tk:List Str} (hl:LowS (j4 tk)) (hn:NmW (j4 tk)):LowS (zD w n tk).1:=by
 unfold zD
 dsimp only
 refine Zb 26 ?_
 have h1:LowS (zf w n).1:=Za _ _ _
 have h1':=nm1 w n
 generalize zf w n=a at *
 have h2:LowS (ze w a.2 (j4 tk) a.1).1:=by
  unfold ze
  dsimp only
  split
  ·exact ((hl.cut _ _).app (jeF h1')).app (hl.cut _ _)
  ·exact h1
 generalize ze w a.2 (j4 tk) a.1=b at *
 unfold yV
 dsimp only
 split
 ·have lo:=jL w (jj w b.2 6).2 (m:=10) (by decide)
  have hi:=jM w (jj w b.2 6).2 (m:=10) (by decide)
  exact (by decide +kernel:∀ x∈YG,∀ c∈cd x,qv c=true) _ (zL lo (by exact hi))
 ·exact h2
structure TkOk (tk:List Str):Prop where
 nm:∀ z∈tk,NmW z
 low:∀ z∈tk,LowS z
 kw:∀ z∈kL,z∈tk
theorem tk0:TkOk kL:=⟨jdj,by
 have:∀ z∈kL,∀ c∈cd z,qv c=true:=by decide +kernel
 exact this,fun _ h=>h⟩
theorem TkOk.ne {tk:List Str} (h:TkOk tk):tk≠[]:=by
 rintro rfl
 exact absurd (h.kw "out" (by decide)) (by simp)
theorem TkOk.last {tk:List Str} (h:TkOk tk):j4 tk∈tk:=by
 unfold j4
 rw [List.getLastD_eq_getLast?,List.getLast?_eq_some_getLast h.ne]
 exact List.getLast_mem h.ne
theorem TkOk.name {tk:List Str} (h:TkOk tk) (ht:tk.length≤25) (w:Int) (n:Dl):jO (cd (zD w n tk).1)=true∧TkOk (tk++[(zD w n tk).1]):=by
 obtain ⟨h1,h2⟩:=jdl w n h.ne ht h.nm
 have h3:=jdo w n (h.low _ h.last) (h.nm _ h.last)
 generalize (zD w n tk).1=z at *
 have hx:∀ {p:Str→Prop},(∀ y∈tk,p y)→p z→∀ y∈tk++[z],p y:=fun hp hz y hy=>(List.mem_append.mp hy).elim (hp y) fun k=>by rw [List.mem_singleton.mp k];exact hz
 refine ⟨?_,⟨hx h.nm h1,hx h.low h3,fun y hy=>List.mem_append_left _ (h.kw y hy)⟩⟩
 have hl:=ZV h1
 have hne:cd z≠[]:=by
  obtain ⟨i,r,rfl,_⟩:=h1
  exact List.cons_ne_nil _ _
 have hk:∀ y∈qp,y∈kL:=by decide +kernel
 have hw:(qp.map cd).contains (cd z)=false:=by
  rw [← Bool.not_eq_true,List.contains_iff_mem,List.mem_map]
  rintro ⟨y,hy,e⟩
  rw [yu e] at hy
  exact h2 (h.kw z (hk z hy))
 unfold jO
 rw [List.all_eq_true.mpr h3,decide_eq_true (show (cd z).length≤8 by rw [jI];exact hl),hw]
 rw [show (cd z).isEmpty=false from by rw [List.isEmpty_eq_false_iff];exact hne]
 rfl
theorem Yk (w:Int) (n:Dl):Sml (J9 w n).1:=by
 unfold J9 Sml
 dsimp only
 have lo:=jL w n (m:=4) (by decide)
 have hi:=jM w n (m:=4) (by decide)
 generalize jj w n 4=a at *
 split
 ·have:0 < (if a.1=0 then (1:Int) else 10):=by split <;> decide
  have l1:=jL w a.2 this
  have l2:=jM w a.2 this
  have:(if a.1=0 then (1:Int) else 10)≤10:=by split <;> decide
  omega
 ·have l1:=jL w a.2 (m:=10 ^ 18+1) (by decide)
  have l2:=jM w a.2 (m:=10 ^ 18+1) (by decide)
  dsimp only
  generalize (jj w a.2 (10 ^ 18+1)).1=x at *
  have:a.1=2∨a.1=3:=by omega
  rcases this with e | e
  ·rw [e];omega
  ·rw [e];omega
def Nms (xs:List Str):Prop:=∀ x∈xs,jO (cd x)=true
theorem jbj {xs:List Str} (h:Nms xs) (w:Int) (n:Dl):NmE (q5 (em xs) (jj w n (((em xs).length:Nat):Int)).1):=by
 have hp:0 < (((em xs).length:Nat):Int):=by show (0:Int) < ((xs.length+1:Nat):Int);omega
 have:=zL (xs:=em xs) (jL w n hp) (jM w n hp)
 rcases List.mem_cons.mp (show _∈(Str.ofString "") :: xs from this) with h0 | h0
 ·exact .inl h0
 ·exact .inr (h _ h0)
theorem yP {rs:List Str} (h:Nms rs) (h0:0 < rs.length) (w:Int) (n:Dl):jO (cd (q5 rs (jj w n ((rs.length:Nat):Int)).1))=true:=by
 have hp:0 < ((rs.length:Nat):Int):=by omega
 exact h _ (zL (jL w n hp) (jM w n hp))
theorem qu {xs:List Str} (h:Nms xs) (w:Int) (n:Dl):NmE (qZ w n xs).1.1∧Sml (qZ w n xs).1.2:=⟨jbj h w n,Yk w _⟩
theorem ZC {xs rs:List Str} (h:Nms xs) (hr:Nms rs) (w:Int) (n:Dl):TmF (kQ w n xs rs).1:=by
 unfold kQ
 dsimp only
 split
 ·rename_i c
  exact ⟨yP hr c.2 w _,qu h w _⟩
 ·exact jbj h w _
theorem jeG {xs rs:List Str} (h:Nms xs) (hr:Nms rs) (w:Int) (n:Dl):ClF (Yn w n xs rs).1:=⟨ZC h hr w _,ZC h hr w _,Yk w _⟩
theorem jg8 {xs rs:List Str} (h:Nms xs) (hr:Nms rs) (h0:0 < rs.length) (w:Int) (n:Dl):BdF (bdN w n xs rs).1:=by
 unfold bdN
 dsimp only
 split
 ·exact yP hr h0 w _
 ·have:=ZC (rs:=[]) h (fun _ z=>nomatch z) w n
  generalize (kQ w n xs []).1=t at *
  cases t with
  | is x=>exact this
  | at_ r x d=>exact this.2.1
theorem jeU {xs rs:List Str} (h:Nms xs) (hr:Nms rs) (w:Int) (n:Dl):ClF (Jl w n xs rs).1:=by
 unfold Jl
 dsimp only
 split
 ·exact jeG h hr w _
 rename_i c
 have h0:0 < rs.length:=by omega
 split
 ·exact ⟨(qu h w _).1,(qu h w _).2,(qu h w _).1,(qu h w _).2,yP hr h0 w _⟩
 ·refine ⟨⟨(qu h w _).1,(qu h w _).2,(qu h w _).1,(qu h w _).2,yP hr h0 w _⟩,?_,jg8 h hr h0 w _,Yk w _⟩
  show jby _=_∨jby _=_
  unfold jby
  split
  ·exact .inl rfl
  ·exact .inr rfl
theorem yT {x:Str} (h:jO (cd x)=true):x.length≤8:=by
 unfold jO at h
 simp only [Bool.and_eq_true,decide_eq_true_eq] at h
 rw [← jI]
 exact h.1.2
theorem yt {x:Str} (h:NmE x):x.length≤8:=by
 rcases h with rfl | h
 ·decide
 ·exact yT h
theorem J2 {d:Int} (h:Sml d):d.natAbs < 10 ^ 20:=Nat.lt_trans h (by decide)
theorem je5 {t:Tm} (h:TmF t):YB t:=by
 cases t with
 | is x=>exact yt h
 | at_ r x d=>exact ⟨yT h.1,yt h.2.1,J2 h.2.2⟩
theorem jgY {C:Cl} (h:ClF C):je3 C:=by
 cases C with
 | least a b c=>exact ⟨je5 h.1,je5 h.2.1,J2 h.2.2⟩
 | rise x d y e r=>exact ⟨yt h.1,J2 h.2.1,yt h.2.2.1,J2 h.2.2.2.1,yT h.2.2.2.2⟩
 | each x d y e r way b c=>
  obtain ⟨⟨h1,h2,h3,h4,h5⟩,hw,hb,hc⟩:=h
  refine ⟨⟨yt h1,J2 h2,yt h3,J2 h4,yT h5⟩,by rcases hw with rfl | rfl <;> decide,?_,J2 hc⟩
  cases b with
  | is x=>exact yt hb
  | row r=>exact yT hb
theorem jcg {C:Cl} (h:je3 C):(Kp C).length≤400:=by
 have l1:(Str.ofString " >= ").length≤4:=by decide +kernel
 have l3:(Str.ofString " ").length≤1:=by decide +kernel
 have l4:(Str.ofString "rise ").length≤5:=by decide +kernel
 have l5:(Str.ofString "each ").length≤5:=by decide +kernel
 cases C with
 | least a b c=>exact Nat.le_trans (la (la (qb h.1) l1) (zG h.2.1 h.2.2)) (by decide)
 | rise x d y e r=>exact Nat.le_trans (la l4 (qy h)) (by decide)
 | each x d y e r way b c=>exact Nat.le_trans (la (la (la (la (la l5 (qy h.1)) l3) h.2.1) l3) (Jm h.2.2.1 h.2.2.2)) (by decide)
def kf:List Str:=["","x","x >=","5 >= x","x + 1 >= y","x >= 01","x >= y + 0","each 0 to 5 r > x","rise 0 5 r"]
def kl:List Str:=["each 0 r >= 1","each 0 to 5 r[] >= 1","x >= s[]","x  >= 1","rise 0 to 5 r >= 1","x >= 3 - 1"]
def kO:List Str:=["r[0 + 1] >= x","each 0 + 1 to 5 r >= 0","to >= x","x >= end","rise 0 to 5 each","0 - 0 >= x"]
def qF:List Str:=["x >= +1","x >= 1_0","x >= 5 5","x >=  1","x => 1","x >= y y","each 0 to 5 r r >= 1","x>=1"]
def yi:List Str:=["each 0 to 5 r >= x + 1_0","rise 0 to +5 r","r[x + +1] >= 0","each 0 to 5 r <= -0","rise x to y"]
def Y5:List Str:=kf++kl++kO++qF++yi
theorem jez:∀ z∈Y5,kC (qi (cd z))=none∧z.length≤1000:=by
 have:∀ z∈Y5,(kC (qi (cd z))).isNone=true∧z.length≤1000:=by decide +kernel
 exact fun z hz=>⟨Option.isNone_iff_eq_none.mp (this z hz).1,(this z hz).2⟩
end LW
namespace Tim
open PySem PyProof.Rows
section
variable {prog:Program} {w:World} {A:Around} {E:Value→Shared→Prop} {s:Shared} {κ:KeyKind}
def kq (κ:KeyKind) (p:Keyed):κ.α:=(κ.keyOf p.1).getD κ.dflt
def Kt (κ:KeyKind) (p:Keyed):Prop:=∃ a,κ.keyOf p.1=some a
end
abbrev SL (κ:KeyKind) (l:List Keyed):Prop:=l.Pairwise fun p q=>κ.kle (kq κ p) (kq κ q)
abbrev Le (κ:KeyKind) (p q:Keyed):Prop:=κ.kle (kq κ p) (kq κ q)
section
variable {κ:KeyKind} {A B L:List Keyed} {ia ib:Nat}
structure LoI (κ:KeyKind) (A B L:List Keyed) (ia ib:Nat):Prop where
 perm:L.Perm (A.take ia++B.take ib)
 srt:SL κ L
 ba:∀ x∈L,∀ y∈A.drop ia,Le κ x y
 bb:∀ x∈L,∀ y∈B.drop ib,Le κ x y
def jbu (κ:KeyKind) (A B M:List Keyed):Prop:=M.Perm (A++B)∧SL κ M
theorem LoI.done (I:LoI κ A B L ia ib) (sa:SL κ A) (sb:SL κ B) (h:∀ x∈A.drop ia,∀ y∈B.drop ib,Le κ x y):jbu κ A B (L++A.drop ia++B.drop ib):=by
 refine ⟨?_,?_⟩
 ·have e1:=List.take_append_drop ia A
  have e2:=List.take_append_drop ib B
  have h1:(L++A.drop ia++B.drop ib).Perm ((A.take ia++B.take ib)++(A.drop ia++B.drop ib)):=by
   rw [List.append_assoc]
   exact I.perm.append_right _
  refine h1.trans ?_
  have h2:((A.take ia++B.take ib)++(A.drop ia++B.drop ib)).Perm ((A.take ia++A.drop ia)++(B.take ib++B.drop ib)):=by
   rw [List.append_assoc,List.append_assoc]
   refine List.Perm.append_left _ ?_
   rw [← List.append_assoc,← List.append_assoc]
   exact List.perm_append_comm.append_right _
  rw [e1,e2] at h2
  exact h2
 ·refine List.pairwise_append.mpr ⟨List.pairwise_append.mpr ⟨I.srt,sa.drop,I.ba⟩,sb.drop,fun x hx y hy=>?_⟩
  rcases List.mem_append.mp hx with hx | hx
  ·exact I.bb x hx y hy
  ·exact h x hx y hy
end
theorem Zk {a:Array Keyed} {i j:Nat}:(a.extract i j).toList=(a.toList.drop i).take (j - i):=by
 simp
theorem jbg {a:Array Keyed} {i:Nat}:(a.extract i a.size).toList=a.toList.drop i:=by
 rw [Zk,List.take_of_length_le (by rw [List.length_drop];simp)]
abbrev jab (a b out:Array Keyed) (ia ib:Nat):Array Keyed:=out++a.extract ia a.size++b.extract ib b.size
section
variable {prog:Program} {w:World} {A:Around} {E:Value→Shared→Prop} {s:Shared} {κ:KeyKind} {a b:Array Keyed}
structure MC (κ:KeyKind) (a b:Array Keyed):Prop where
 ka:∀ i (h:i < a.size),Kt κ a[i]
 kb:∀ i (h:i < b.size),Kt κ b[i]
 sa:SL κ a.toList
 sb:SL κ b.toList
 last:∀ j (h:j < b.size) (h':a.size - 1 < a.size),Le κ b[j] a[a.size - 1]
structure Alive (κ:KeyKind) (a b:Array Keyed) (N:Nat) (out:Array Keyed) (ia ib:Nat):Prop where
 inv:LoI κ a.toList b.toList out.toList ia ib
 la:ia+1 < a.size
 lb:ib < b.size
 many:N≤ia+ib
theorem jcd {out:Array Keyed} {ia ib:Nat}:(jab a b out ia ib).toList=out.toList++a.toList.drop ia++b.toList.drop ib:=by
 unfold jab
 rw [Array.toList_append,Array.toList_append,jbg,jbg]
theorem MC.fin {out:Array Keyed} {ia ib:Nat} (C:MC κ a b) (I:LoI κ a.toList b.toList out.toList ia ib) (h:ia=a.size∨ib=b.size):jbu κ a.toList b.toList (jab a b out ia ib).toList:=by
 rw [jcd]
 refine I.done C.sa C.sb fun x hx y hy=>?_
 rcases h with rfl | rfl
 ·rw [List.drop_eq_nil_of_le (by simp)] at hx;cases hx
 ·rw [List.drop_eq_nil_of_le (by simp)] at hy;cases hy
variable {st:SortSt} {N:Nat}
theorem Alive.le {M:Nat} {out:Array Keyed} {ia ib:Nat} (h:Alive κ a b N out ia ib) (hm:M≤N):Alive κ a b M out ia ib:=⟨h.inv,h.la,h.lb,Nat.le_trans hm h.many⟩
end
section
variable {κ:KeyKind} {A B L:List Keyed} {na nb:Nat}
structure HiI (κ:KeyKind) (A B L:List Keyed) (na nb:Nat):Prop where
 perm:L.Perm (A.drop na++B.drop nb)
 srt:L.Pairwise fun p q=>Le κ q p
 ba:∀ x∈L,∀ y∈A.take na,Le κ y x
 bb:∀ x∈L,∀ y∈B.take nb,Le κ y x
theorem HiI.done (I:HiI κ A B L na nb) (sa:SL κ A) (sb:SL κ B) (h:∀ x∈A.take na,∀ y∈B.take nb,Le κ x y):jbu κ A B (A.take na++B.take nb++L.reverse):=by
 refine ⟨?_,?_⟩
 ·have e1:=List.take_append_drop na A
  have e2:=List.take_append_drop nb B
  have h1:(A.take na++B.take nb++L.reverse).Perm ((A.take na++B.take nb)++(A.drop na++B.drop nb)):=((List.reverse_perm L).trans I.perm).append_left _
  refine h1.trans ?_
  have h2:((A.take na++B.take nb)++(A.drop na++B.drop nb)).Perm ((A.take na++A.drop na)++(B.take nb++B.drop nb)):=by
   rw [List.append_assoc,List.append_assoc]
   refine List.Perm.append_left _ ?_
   rw [← List.append_assoc,← List.append_assoc]
   exact List.perm_append_comm.append_right _
  rw [e1,e2] at h2
  exact h2
 ·refine List.pairwise_append.mpr ⟨List.pairwise_append.mpr ⟨sa.take,sb.take,h⟩,List.pairwise_reverse.mpr I.srt,fun x hx y hy=>?_⟩
  have hy':=List.mem_reverse.mp hy
  rcases List.mem_append.mp hx with hx | hx
  ·exact I.ba y hy' x hx
  ·exact I.bb y hy' x hx
end
abbrev jac (a b out:Array Keyed) (na nb:Nat):Array Keyed:=a.extract 0 na++b.extract 0 nb++out.reverse
section
variable {prog:Program} {w:World} {A:Around} {E:Value→Shared→Prop} {s:Shared} {κ:KeyKind} {a b:Array Keyed}
theorem Zj {l:Array Keyed} {n:Nat}:(l.extract 0 n).toList=l.toList.take n:=by
 rw [Zk,List.drop_zero,Nat.sub_zero]
theorem Zo {out:Array Keyed} {na nb:Nat}:(jac a b out na nb).toList=a.toList.take na++b.toList.take nb++out.toList.reverse:=by
 unfold jac
 rw [Array.toList_append,Array.toList_append,Zj,Zj,Array.toList_reverse]
structure MD (κ:KeyKind) (a b:Array Keyed):Prop where
 ka:∀ i (h:i < a.size),Kt κ a[i]
 kb:∀ i (h:i < b.size),Kt κ b[i]
 sa:SL κ a.toList
 sb:SL κ b.toList
 first:∀ i (h:i < a.size) (h':0 < b.size),Le κ b[0] a[i]
structure AliveH (κ:KeyKind) (a b:Array Keyed) (N:Nat) (out:Array Keyed) (na nb:Nat):Prop where
 inv:HiI κ a.toList b.toList out.toList na nb
 la:0 < na
 la2:na≤a.size
 lb:1 < nb
 lb2:nb≤b.size
 many:N+na+nb≤a.size+b.size
theorem MD.fin {out:Array Keyed} {na nb:Nat} (C:MD κ a b) (I:HiI κ a.toList b.toList out.toList na nb) (h:na=0∨nb=0):jbu κ a.toList b.toList (jac a b out na nb).toList:=by
 rw [Zo]
 refine I.done C.sa C.sb fun x hx y hy=>?_
 rcases h with rfl | rfl
 ·cases hx
 ·cases hy
variable {st:SortSt} {N:Nat}
theorem AliveH.le {M:Nat} {out:Array Keyed} {na nb:Nat} (h:AliveH κ a b N out na nb) (hm:M≤N):AliveH κ a b M out na nb:=⟨h.inv,h.la,h.la2,h.lb,h.lb2,by have:=h.many;omega⟩
end
section
variable {prog:Program} {w:World} {A:Around} {E:Value→Shared→Prop} {s:Shared} {κ:KeyKind} {st:SortSt} {arr:Array Keyed}
def Seg (κ:KeyKind) (arr:Array Keyed) (lo hi:Nat):Prop:=∀ i j,lo≤i→i≤j→j < hi→κ.kle (KK κ arr i) (KK κ arr j)
end
section
variable {prog:Program} {w:World} {A:Around} {E:Value→Shared→Prop} {s:Shared} {a₀ ar0:Array Keyed} {κ:KeyKind} {P:Array (Nat×Nat×Nat)} {lo:Nat}
structure TB (a₀:Array Keyed) (P:Array (Nat×Nat×Nat)) (lo:Nat) (ar0:Array Keyed) (st:SortSt):Prop where
 perm:(arrOf st).Perm a₀
 kind:kindOf st=oneType'
 failed:failedOf st=none
 pend:pendingOf st=P
 low:∀ k,k < lo→(arrOf st)[k]?=ar0[k]?
theorem TB.size {st:SortSt} (h:TB a₀ P lo ar0 st):(arrOf st).size=a₀.size:=h.perm.size_eq
theorem TB.key {st:SortSt} (T:TB a₀ P lo ar0 st) (keys:KeysOf κ a₀) {i:Nat} (below:i < a₀.size):∃ li:i < (arrOf st).size,Kt κ ((arrOf st)[i]):=
 ⟨by rw [T.size];exact below,keys _ ((Array.perm_iff_toList_perm.mp T.perm).mem_iff.mp (Array.getElem_mem_toList _))⟩
end
section
variable {prog:Program} {w:World} {A:Around} {E:Value→Shared→Prop} {s:Shared} {a₀:Array Keyed} {κ:KeyKind}
def zT (κ:KeyKind) (arr:Array Keyed):Nat→List (Nat×Nat×Nat)→Nat→Prop
 | lo,[],hi=>lo=hi
 | lo,p :: r,hi=>p.1=lo∧0 < p.2.1∧Seg κ arr lo (lo+p.2.1)∧zT κ arr (lo+p.2.1) r hi
theorem y9 {arr:Array Keyed}:∀ {p q:List (Nat×Nat×Nat)} {lo hi:Nat},zT κ arr lo (p++q) hi↔∃ mid,zT κ arr lo p mid∧zT κ arr mid q hi
 | [],q,lo,hi=>by
  show zT κ arr lo q hi↔∃ mid,lo=mid∧zT κ arr mid q hi
  constructor
  ·intro h;exact ⟨lo,rfl,h⟩
  ·rintro ⟨_,rfl,h⟩;exact h
 | x :: p,q,lo,hi=>by
  have ih:=y9 (arr:=arr) (p:=p) (q:=q) (lo:=lo+x.2.1) (hi:=hi)
  show (x.1=lo∧0 < x.2.1∧Seg κ arr lo (lo+x.2.1)∧zT κ arr (lo+x.2.1) (p++q) hi)↔∃ mid,(x.1=lo∧0 < x.2.1∧Seg κ arr lo (lo+x.2.1)∧zT κ arr (lo+x.2.1) p mid)∧zT κ arr mid q hi
  rw [ih]
  constructor
  ·rintro ⟨h1,h2,h3,mid,h4,h5⟩;exact ⟨mid,⟨h1,h2,h3,h4⟩,h5⟩
  ·rintro ⟨mid,⟨h1,h2,h3,h4⟩,h5⟩;exact ⟨h1,h2,h3,mid,h4,h5⟩
structure SInv (κ:KeyKind) (a₀:Array Keyed) (hi:Nat) (st:SortSt):Prop where
 perm:(arrOf st).Perm a₀
 kind:kindOf st=oneType'
 failed:failedOf st=none
 chain:zT κ (arrOf st) 0 (pendingOf st).toList hi
theorem SInv.push {st:SortSt} {lo n:Nat} (S:SInv κ a₀ lo st) (h:Seg κ (arrOf st) lo (lo+n)) (hn:0 < n):SInv κ a₀ (lo+n) (setPending st ((pendingOf st).push (lo,n,0))):=by
 refine ⟨S.perm,S.kind,S.failed,?_⟩
 show zT κ (arrOf st) 0 ((pendingOf st).push (lo,n,0)).toList (lo+n)
 rw [Array.toList_push]
 exact y9.mpr ⟨lo,S.chain,rfl,hn,h,rfl⟩
end
end Tim
namespace LW
open PySem L2
abbrev jaH:Stmt:=top 48
abbrev yM:Stmt:=top 47
abbrev Je:Stmt:=top 42
def jao:Nat→D→Prop
 | 0,_=>False
 | n+1,.tup ds=>ds.length≤1000∧∀ d∈ds,jao n d
 | _+1,_=>True
def zV (n:Nat):Sp:=fun vs H Q _=>∃ (x y:V) (d:D),vs=[x,y]∧Held H d x∧Held H d y∧jao n d∧∀ H',Same H H'→Q (.bl true) H'
section
variable {P:Program} {w:World} {K:W.Frag} {mg:Str→Option Value} {base:Heap}
theorem jd6:FnScope ["_law_found","_law_due"] ["_law_found","_law_due"] (jk Je):=fQ
theorem jdf {f:Addr} {fd:FuncData} {n:Nat} (F:Fun K "_law_alike" "_law_alike" Je f fd) (B:Free0 mg) (F_alike:Fn P w K mg base n "_law_alike" ["_law_found","_law_due"] (zV n)):FnOk P w K mg base CX0 (n+1) f fd ["_law_found","_law_due"] (zV (n+1)):=by
 have sc:=jd6
 refine F.ok sc (fun vs H Q E h=>?_) (fun cdv A outer s H vs Q E hr h=>?_)
 ·obtain ⟨x,y,d,rfl,_⟩:=h
  rfl
 obtain ⟨x,y,d,rfl,hx,hy,hd,q⟩:=h
 refine ⟨_,(yR (jaR (Ya (qV kP (by rfl) B.isinstance_ kn (qm (pv 1) (qm (ya (v:=.ty "tuple") (by rfl) B.tuple_ Zu (by rfl)) kB)))) (yR (jaR (jfh (jcQ (Ya (qV kP (by rfl) B.isinstance_ kn (qm (pv 0) (qm (ya (v:=.ty "tuple") (by rfl) B.tuple_ Zu (by rfl)) kB))))) (jcO (jaQ ja0 (qV jK (by rfl) B.len_ kj (qm (pv 0) kB)) (qV jK (by rfl) B.len_ kj (qm (pv 1) kB)) (jE _)))).pt (zY (Jg jfk)) JH)
   (zY (Jg (qV (jdL rfl) (by rfl) B.all_ jgj (qm (jaX ["_law_k"] [0,1] rfl (JP (sc:=jk Je) (N:=["_law_found","_law_due"]) rfl rfl (by decide +kernel)) (KI (by rfl) B.range_ (qm (qV jK (by rfl) B.len_ kj (qm (pv 1) kB)) kB)) (fun s H ex=>⟨(jaW (i:=0) (show List.Nodup (["_law_k","_law_found","_law_due"]:List Str) by decide +kernel) rfl oQ),jaO,(jfj F_alike hr (qm (jc0 (ja7 (K:=K)) (pv 1) (pv 0) (fun _ _=>rfl)) (qm (jc0 (ja7 (K:=K)) (pv 2) (pv 0) (fun _ _=>rfl)) kB)) (Nat.le_refl _))⟩)) kB))))) JH)
   (yR (jaR (Ya (qV kP (by rfl) B.isinstance_ kn (qm (pv 1) (qm (ya (v:=.ty "int") (by rfl) B.int_ yw (by rfl)) kB)))) (zY (Jg (Yh (qV kP (by rfl) B.isinstance_ kn (qm (pv 0) (qm (ya (v:=.ty "int") (by rfl) B.int_ yw (by rfl)) kB))) (Yh (jcZ (qV kP (by rfl) B.isinstance_ kn (qm (pv 0) (qm (ya (v:=.ty "bool") (by rfl) B.bool_ jeW (by rfl)) kB)))) (ZO (Yg kr (pv 0) (pv 1) (jE _))))))) JH)
   (zY (Jg (Yh (qV kP (by rfl) B.isinstance_ kn (qm (pv 0) (qm (ya (v:=.ty "str") (by rfl) B.str_ Yz (by rfl)) kB))) (ZO (Yg kr (pv 0) (pv 1) (jE _)))))))),?_⟩
 cases d with
 | int i=>
  unfold Held at hx hy
  subst hx hy
  refine ⟨_,rfl,_,_,_,_,rfl,TyOf.int i,jf5 K,_,rfl,ku ?_⟩
  refine ⟨_,rfl,_,_,_,_,rfl,TyOf.int i,jds K,_,rfl,kE ?_⟩
  refine ⟨_,rfl,_,_,_,_,rfl,TyOf.int i,jds K,_,rfl,kE ?_⟩
  refine ⟨_,rfl,_,_,_,_,rfl,TyOf.int i,jf6 K,_,rfl,_,rfl,kE ?_⟩
  refine ⟨_,rfl,_,rfl,rfl,?_⟩
  rw [decide_eq_true rfl]
  exact q H (Same.refl H)
 | str z=>
  unfold Held at hx hy
  subst hx hy
  refine ⟨_,rfl,_,_,_,_,rfl,TyOf.str z,jf2 K,_,rfl,ku ?_⟩
  refine ⟨_,rfl,_,_,_,_,rfl,TyOf.str z,jf4 K,_,rfl,ku ?_⟩
  refine ⟨_,rfl,_,_,_,_,rfl,TyOf.str z,jf3 K,_,rfl,kE ?_⟩
  refine ⟨_,rfl,_,rfl,rfl,?_⟩
  rw [decide_eq_true rfl]
  exact q H (Same.refl H)
 | tup ds=>
  unfold Held at hx hy
  obtain ⟨a,xs,rfl,ha,hxs⟩:=hx
  obtain ⟨b,ys,rfl,hb,hys⟩:=hy
  have lx:=hxs.length
  have ly:=hys.length
  refine ⟨_,rfl,_,_,_,_,rfl,TyOf.tup hb,jdr K,_,rfl,kE ?_⟩
  refine ⟨_,rfl,_,_,_,_,rfl,TyOf.tup ha,jdr K,_,rfl,ku ?_⟩
  refine ⟨_,rfl,a,_,rfl,.inr (SqT.of ha),_,rfl,b,_,rfl,.inr (SqT.of hb),rfl,_,rfl,jgP (by rw [← lx,← ly]) ?_⟩
  obtain ⟨hw,hd⟩:=(show ds.length≤1000∧∀ d∈ds,jao n d from hd)
  refine ⟨_,rfl,b,_,rfl,.inr (SqT.of hb),_,rfl,(by omega),(by omega),fun p hp=>?_⟩
  have en:((ys.length:Nat):Int).toNat=ds.length:=by omega
  rw [en]
  refine zy (fun i σ' H'=>∃ v,σ'=[v,some (.ref a),some (.ref b)]∧Same H H'∧H' p=some (.lst (List.replicate i (V.bl true)))) ?_ ?_ ?_
  ·exact ⟨none,rfl,ji hp _,jf⟩
  ·rintro i σ' H1 hi ⟨v,rfl,sm1,hp1⟩
   have ej:ds[i]?=some ds[i]:=List.getElem?_eq_getElem hi
   obtain ⟨x',hx',gx⟩:=hxs.get ej
   obtain ⟨y',hy',gy⟩:=hys.get ej
   have ax:atI xs (0+(i:Int))=some x':=by rw [Int.zero_add];exact jv hx'
   have ay:atI ys (0+(i:Int))=some y':=by rw [Int.zero_add];exact jv hy'
   unfold kW jbA
   refine kE ?_
   refine ⟨_,rfl,_,rfl,a,_,_,_,rfl,rfl,SqT.of (sm1 _ _ ha),ax,_,rfl,_,rfl,b,_,_,_,rfl,rfl,SqT.of (sm1 _ _ hb),ay,?_⟩
   refine ⟨x',y',ds[i],rfl,gx.mono sm1,gy.mono sm1,hd _ (List.getElem_mem hi),fun H2 sm2=>?_⟩
   refine ⟨_,sm2 _ _ hp1,(by rw [List.length_replicate];exact km (by omega)),_,rfl,?_,?_⟩
   ·intro c o e
    rw [jx (jF e hp)]
    exact sm2 _ _ (sm1 _ _ e)
   ·rw [jf,List.replicate_succ']
  ·rintro σ' H1 ⟨v,rfl,sm1,hp1⟩
   refine ⟨p,List.replicate ds.length true,rfl,SqL.of (by rw [List.map_replicate];exact hp1),?_⟩
   have e:(List.replicate ds.length true).all id=true:=by
    rw [List.all_eq_true]
    intro z hz
    rw [(List.mem_replicate.mp hz).2]
    rfl
   rw [e]
   exact q H1 sm1
theorem Zi {f:Addr} {fd:FuncData} (F:Fun K "_law_alike" "_law_alike" Je f fd) (b:Binds K fd ["_law_found","_law_due"] []) (m:mg "_law_alike" = some (.ref f)) (B:Free0 mg):∀ n:Nat,Fn P w K mg base n "_law_alike" ["_law_found","_law_due"] (zV n)
 | 0=>by
  have no:∀ vs H Q E,¬ zV 0 vs H Q E:=fun vs H Q E h=>by
   obtain ⟨x,y,d,_,_,_,z,_⟩:=h
   exact z
  exact Fn.mk' F b m ⟨fun vs H Q E h=>absurd h (no vs H Q E),fun A outer s H args us vs Q E _ _ _ _ h=>absurd h (no vs H Q E)⟩
 | n+1=>Fn.mk' F b m (jdf F B (Zi F b m B n))
def jcC:Sp:=fun vs H Q _=>∃ c:Int,vs=[.int c]∧∀ z H',z∈Y5→Same H H'→Q (.str z) H'
theorem jer {f:Addr} {fd:FuncData} (F:Fun K "_law_none" "_law_none" jaH f fd) (B:Free0 mg):FnOk P w K mg base CX0 1 f fd ["_law_cell"] jcC:=by
 have sc:FnScope ["_law_cell","_law_some"] ["_law_cell"] (jk jaH):=fQ
 refine F.okZ sc (fun vs H Q E h=>?_) (fun cdv A outer s H vs Q E hr h=>?_)
 ·obtain ⟨c,rfl,_⟩:=h
  rfl
 obtain ⟨c,rfl,q⟩:=h
 refine ⟨_,(jd (ju (i:=1) sc.nd rfl oQ (kg (ja jc (ja jc (ja jc (ja jc (ja jc (ja jc (ja jc (ja jc (ja jc jb)))))))))))
   (jd (ju (i:=1) sc.nd rfl oQ (jr qW (zpv 1) (kg (ja jc (ja jc (ja jc (ja jc (ja jc (ja jc jb)))))))))
   (jd (ju (i:=1) sc.nd rfl oQ (jr qW (zpv 1) (kg (ja jc (ja jc (ja jc (ja jc (ja jc (ja jc jb)))))))))
   (jd (ju (i:=1) sc.nd rfl oQ (jr qW (zpv 1) (kg (ja jc (ja jc (ja jc (ja jc (ja jc (ja jc (ja jc (ja jc jb)))))))))))
   (jd (ju (i:=1) sc.nd rfl oQ (jr qW (zpv 1) (kg (ja jc (ja jc (ja jc (ja jc (ja jc jb))))))))
   (jh (jl (jz jV (zpv 1) (jr q8 (zpv 0) (kh jK (by rfl) B.len_ kj (ja (zpv 1) jb))) (fun _ _=>rfl))))))))),?_⟩
 refine jA (σ':=[some (.int c),none]) rfl ?_
 refine ⟨sm rfl,fun a1 h1=>?_⟩
 have s1:=ji h1 (.lst (kf.map V.str))
 have e1:upd H a1 (.lst (kf.map V.str)) a1=some (.lst (kf.map V.str)):=jf
 refine (?_:kW 1 (V.ref a1) [some (.int c),none] (upd H a1 (.lst (kf.map V.str))) _)
 generalize upd H a1 (.lst (kf.map V.str))=H1 at *
 refine gQ ?_
 refine ⟨_,rfl,sm rfl,fun p2 hp2=>⟨a1,p2,_,_,rfl,rfl,SqL.of (ji hp2 _ _ _ e1),SqL.of jf,sm rfl,fun a2 ha2=>?_⟩⟩
 have s2:Same H1 (upd (upd H1 p2 (.lst (kl.map V.str))) a2 (.lst ((kf++kl).map V.str))):=(ji hp2 _).trans (ji ha2 _)
 have e2:upd (upd H1 p2 (.lst (kl.map V.str))) a2 (.lst ((kf++kl).map V.str)) a2=some (.lst ((kf++kl).map V.str)):=jf
 refine (?_:kW 1 (V.ref a2) [some (.int c),some (.ref a1)] (upd (upd H1 p2 (.lst (kl.map V.str))) a2 (.lst ((kf++kl).map V.str))) _)
 generalize upd (upd H1 p2 (.lst (kl.map V.str))) a2 (.lst ((kf++kl).map V.str))=H2 at *
 refine gQ ?_
 refine ⟨_,rfl,sm rfl,fun p3 hp3=>⟨a2,p3,_,_,rfl,rfl,SqL.of (ji hp3 _ _ _ e2),SqL.of jf,sm rfl,fun a3 ha3=>?_⟩⟩
 have s3:Same H2 (upd (upd H2 p3 (.lst (kO.map V.str))) a3 (.lst (((kf++kl)++kO).map V.str))):=(ji hp3 _).trans (ji ha3 _)
 have e3:upd (upd H2 p3 (.lst (kO.map V.str))) a3 (.lst (((kf++kl)++kO).map V.str)) a3=some (.lst (((kf++kl)++kO).map V.str)):=jf
 refine (?_:kW 1 (V.ref a3) [some (.int c),some (.ref a2)] (upd (upd H2 p3 (.lst (kO.map V.str))) a3 (.lst (((kf++kl)++kO).map V.str))) _)
 generalize upd (upd H2 p3 (.lst (kO.map V.str))) a3 (.lst (((kf++kl)++kO).map V.str))=H3 at *
 refine gQ ?_
 refine ⟨_,rfl,sm rfl,fun p4 hp4=>⟨a3,p4,_,_,rfl,rfl,SqL.of (ji hp4 _ _ _ e3),SqL.of jf,sm rfl,fun a4 ha4=>?_⟩⟩
 have s4:Same H3 (upd (upd H3 p4 (.lst (qF.map V.str))) a4 (.lst ((((kf++kl)++kO)++qF).map V.str))):=(ji hp4 _).trans (ji ha4 _)
 have e4:upd (upd H3 p4 (.lst (qF.map V.str))) a4 (.lst ((((kf++kl)++kO)++qF).map V.str)) a4=some (.lst ((((kf++kl)++kO)++qF).map V.str)):=jf
 refine (?_:kW 1 (V.ref a4) [some (.int c),some (.ref a3)] (upd (upd H3 p4 (.lst (qF.map V.str))) a4 (.lst ((((kf++kl)++kO)++qF).map V.str))) _)
 generalize upd (upd H3 p4 (.lst (qF.map V.str))) a4 (.lst ((((kf++kl)++kO)++qF).map V.str))=H4 at *
 refine gQ ?_
 refine ⟨_,rfl,sm rfl,fun p5 hp5=>⟨a4,p5,_,_,rfl,rfl,SqL.of (ji hp5 _ _ _ e4),SqL.of jf,sm rfl,fun a5 ha5=>?_⟩⟩
 have s5:Same H4 (upd (upd H4 p5 (.lst (yi.map V.str))) a5 (.lst (((((kf++kl)++kO)++qF)++yi).map V.str))):=(ji hp5 _).trans (ji ha5 _)
 have e5:upd (upd H4 p5 (.lst (yi.map V.str))) a5 (.lst (((((kf++kl)++kO)++qF)++yi).map V.str)) a5=some (.lst (((((kf++kl)++kO)++qF)++yi).map V.str)):=jf
 refine (?_:kW 1 (V.ref a5) [some (.int c),some (.ref a4)] (upd (upd H4 p5 (.lst (yi.map V.str))) a5 (.lst (((((kf++kl)++kO)++qF)++yi).map V.str))) _)
 generalize upd (upd H4 p5 (.lst (yi.map V.str))) a5 (.lst (((((kf++kl)++kO)++qF)++yi).map V.str))=H5 at *
 refine gQ ?_
 have hl:(Y5.map V.str).length=34:=by rw [List.length_map];rfl
 have e5:H5 a5=some (.lst (Y5.map V.str)):=e5
 have b0:0≤c % 34:=Int.emod_nonneg _ (by decide)
 have b1:c % 34 < 34:=Int.emod_lt_of_pos _ (by decide)
 refine ⟨_,rfl,_,rfl,_,rfl,a5,_,rfl,.inl (SqL.of e5),_,_,rfl,rfl,(by rw [hl];show (0:Int) < 34;decide),a5,_,_,_,rfl,rfl,SqL.of e5,(by rw [hl];exact zB b0 b1),?_⟩
 exact q _ _ (zL b0 b1) (s1.trans (s2.trans (s3.trans (s4.trans s5))))
def KG:Sp:=fun vs H Q _=>∃ z:Str,vs=[.str z]∧z.length≤1000∧kC (qi (cd z))=none∧∀ H',Same H H'→Q (.bl true) H'
theorem ZS {C C1 fi:Addr} {f:Addr} {fd:FuncData} (F:Fun K "_law_refused" "_law_refused" yM f fd) (Z:NoT K mg C C1 fi) (F_read_claim:FnD P w K mg base 10 "read_claim" ["text"] (ZF C)) (F_alike:Fn P w K mg base 5 "_law_alike" ["_law_found","_law_due"] (zV 5)):FnOk P w K mg base CX0 11 f fd ["_law_text"] KG:=by
 have sc:FnScope ["_law_text","_law_line","e"] ["_law_text"] (jk yM):=fQ
 refine F.ok sc (fun vs H Q E h=>?_) (fun cdv A outer s H vs Q E hr h=>?_)
 ·obtain ⟨z,rfl,_⟩:=h
  rfl
 obtain ⟨z,rfl,hz,hno,q⟩:=h
 refine ⟨_,QSs.h (jd (ju (i:=1) sc.nd rfl oQ jdW)
   (jd (jco (i:=2) F_read_claim rfl rfl hr (ja (zpv 0) jb) (fun e=>jh (ju (i:=1) sc.nd rfl oQ (jbw (K:=K) (zpv 2)))) sc.nd rfl rfl (by rfl) Z.gn Z.fl.ex (by omega))
   (jh (jl (jp F_alike hr (ja (zpv 1) (ja jg jb))))))),?_⟩
 refine jA (σ':=[some (.str z),none,none]) rfl ?_
 refine gQ ?_
 refine ⟨_,rfl,z,rfl,hz,fun d e=>?_,fun _ H1 dx s1 hdx=>?_⟩
 ·rw [hno] at e
  cases e
 refine ⟨rfl,dx,rfl,fun e he=>?_⟩
 have s2:=ji he (zS C e dx)
 have e2:upd H1 e (zS C e dx) e=some (zS C e dx):=jf
 generalize upd H1 e (zS C e dx)=H2 at *
 refine jA (σ':=[some (.str z),some V.non,some (.ref e)]) rfl ?_
 refine ⟨_,rfl,e,C,dx,_,_,rfl,e2,s2 _ _ hdx,Z.fl,rfl,?_⟩
 refine gQ ?_
 unfold Ends.gone
 dsimp only
 refine jA (σ':=[some (.str z),some (.int 1),none]) rfl ?_
 exact ⟨_,rfl,.int 1,.int 1,.int 1,rfl,jN,jN,True.intro,fun H3 s3=>q _ (s1.trans (s2.trans s3))⟩
end
abbrev K9:Stmt:=top 49
def jaD (K:W.Frag):Sp:=fun vs H Q _=>∃ (a:Addr) (ns:List Int),vs=[.ref a]∧SqL K H a (ns.map V.int)∧ns.length≤63∧∀ H',Q (.bl true) H'
theorem jdw {P:Program} {w:World} {K:W.Frag} {mg:Str→Option Value} {base:Heap} {k:Nat} {x:Str} {ps:List Str} {sp:Sp} (F:FnD P w K mg base k x ps sp):Fn P w K mg base k x ps (fun vs H Q _=>sp vs H Q E0):=by
 obtain ⟨f,fd,G,b,kp,m⟩:=F.ex
 refine ⟨f,fd,⟨fun vs H Q E h=>G.len vs H Q E0 h,fun A outer s H args us vs Q E hr he hb hv hs=>codeAny_mono (G.run A outer s H args us vs Q E0 hr he hb hv hs) fun r s' h=>?_⟩,b,kp,m⟩
 cases r with
 | error e=>
  obtain ⟨_,_,_,_,_,_,_,_,_,_,z⟩:=h
  exact z.elim
 | ok fl=>cases fl <;> exact h
theorem jdX {X:Cx} {k k':Nat} {x:Str} {ps:List Str} {sp:Sp} {p pos:Pos} (F:Fn X.prog X.w X.K X.mg X.base k x ps sp) (hr:Room k' X.A) (hk:k≤k':=by omega) (hg:Gl X x:=by rfl) (hd:(x == ("__debug__" : Str))=false:=by decide):QE X (.Call (.Name x p) [] [] pos) (fun σ H Q=>sp [] H Q E0):=by
 obtain ⟨f,fd,G,b,kp,m⟩:=F.ex
 exact ⟨jc2 G (hr.mono hk) hg m kp b .nil jfl hd⟩
theorem Jn {j:Int} (h0:0≤j) (h1:j < 4):cd (Txt.mul (Str.ofString " ") j)=List.replicate j.toNat 32:=by
 have:∀ n < 4,cd (Txt.mul (Str.ofString " ") ((n:Nat):Int))=List.replicate n 32:=by decide +kernel
 have:=this j.toNat (by omega)
 rwa [show ((j.toNat:Nat):Int)=j by omega] at this
structure NmR (H0:Hp) (d l p:Addr) (tk:List Str) (i:Nat) (ys:List Str) (G:Hp):Prop where
 hd:∃ m,G d=some (dlO 0 m)
 hl:G l=some (.lst ((tk++ys).map V.str))
 hp:G p=some (.lst (ys.map V.str))
 n:ys.length=i
 nm:Nms ys
 tk:TkOk (tk++ys)
 s:∀ b o,b≠d→b≠l→H0 b=some o→G b=some o
theorem NmR.zero {H0:Hp} {d l p:Addr} {tk:List Str} {m:Dl} (hd:H0 d=some (dlO 0 m)) (hl:H0 l=some (.lst (tk.map V.str))) (hp:H0 p=none) (ht:TkOk tk):NmR H0 d l p tk 0 [] (upd H0 p (.lst [])):=
 ⟨⟨m,(ji hp _) _ _ hd⟩,by rw [List.append_nil];exact (ji hp _) _ _ hl,jf,rfl,(fun _ h=>nomatch h),by rw [List.append_nil];exact ht,fun b o _ _ e=>(ji hp _) _ _ e⟩
theorem NmR.step {H0:Hp} {d l p:Addr} {tk ys:List Str} {i:Nat} {G:Hp} (N:NmR H0 d l p tk i ys G) (hd0:∃ o,H0 d=some o) (hl0:∃ o,H0 l=some o) (hp0:H0 p=none) (hi:tk.length+i≤25) {Q:VK}
  (q:∀ (z:Str) G',G' p=some (.lst (ys.map V.str))→NmR H0 d l p tk (i+1) (ys++[z]) (upd G' p (.lst (ys.map V.str++[.str z])))→Q (.str z) G'):ZG [.ref d,.ref l] G Q E0:=by
 obtain ⟨od,hd0⟩:=hd0
 obtain ⟨ol,hl0⟩:=hl0
 have pd:p≠d:=(jF hd0 hp0).symm
 have pl:p≠l:=(jF hl0 hp0).symm
 obtain ⟨m,hm⟩:=N.hd
 have hl:(tk++ys).length≤25:=by rw [List.length_append,N.n];exact hi
 obtain ⟨t1,t2⟩:=N.tk.name hl 0 m
 refine ⟨d,l,0,m,tk++ys,rfl,hm,N.hl,N.tk.ne,hl,N.tk.nm,fun G' k e1 e2=>q _ G' (k _ _ pd pl N.hp) ?_⟩
 refine ⟨⟨_,by rw [jx pd.symm];exact e1⟩,by rw [jx pl.symm,e2,List.append_assoc],by rw [jf,List.map_append];rfl,by rw [List.length_append,N.n];rfl,?_,by rw [← List.append_assoc];exact t2,fun b o hb hb2 e=>?_⟩
 ·intro x hx
  rcases List.mem_append.mp hx with hx | hx
  ·exact N.nm x hx
  ·rw [List.mem_singleton.mp hx];exact t1
 ·rw [jx (jF e hp0)]
  exact k _ _ hb hb2 (N.s _ _ hb hb2 e)
theorem jeK {tt:TT} {ta tb:TS} {D:Ends} {σ:St} {H:Hp} (C:Bool→Hp→Prop) (k:∀ b G,C b G→if b=true then ta D σ G else tb D σ G) (h:(∀ b G,C b G→if b=true then ta D σ G else tb D σ G)→Kw tt ta tb D σ H):Kw tt ta tb D σ H:=h k
theorem Yu {x:Str} {d:Int} {n:Nat}:jao (n+2) (plD x d):=⟨by show 2≤1000;decide,by intro e he;simp only [List.mem_cons,List.not_mem_nil,or_false] at he;rcases he with rfl | rfl <;> exact True.intro⟩
theorem jbd {x y:Str} {n:Nat}:jao (n+2) (.tup [.str x,.str y]):=⟨by show 2≤1000;decide,by intro e he;simp only [List.mem_cons,List.not_mem_nil,or_false] at he;rcases he with rfl | rfl <;> exact True.intro⟩
theorem jeM {t:Tm} {n:Nat}:jao (n+3) t.toD:=by
 cases t with
 | is x=>exact jbd
 | at_ r x d=>exact ⟨by show 3≤1000;decide,by intro e he;simp only [List.mem_cons,List.not_mem_nil,or_false] at he;rcases he with rfl | rfl | rfl <;> first | exact True.intro | exact Yu⟩
theorem jbe {C:Cl} {n:Nat}:jao (n+4) C.toD:=by
 cases C with
 | least a b c=>exact ⟨by show 4≤1000;decide,by intro e he;simp only [List.mem_cons,List.not_mem_nil,or_false] at he;rcases he with rfl | rfl | rfl | rfl <;> first | exact True.intro | exact jeM⟩
 | rise x d y e r=>exact ⟨by show 4≤1000;decide,by intro e he;simp only [List.mem_cons,List.not_mem_nil,or_false] at he;rcases he with rfl | rfl | rfl | rfl <;> first | exact True.intro | exact Yu⟩
 | each x d y e r way b c=>exact ⟨by show 7≤1000;decide,by intro e he;simp only [List.mem_cons,List.not_mem_nil,or_false] at he;rcases he with rfl | rfl | rfl | rfl | rfl | rfl | rfl <;> first | exact True.intro | exact Yu | (cases b <;> exact jbd)⟩
section
variable {P:Program} {w:World} {K:W.Frag} {mg:Str→Option Value} {base:Heap} {C:Addr}
theorem jfZ {f:Addr} {fd:FuncData} (F:Fun K "law" "law" K9 f fd) (B:Free0 mg) (F_many:Fn P w K mg base 1 "_law_many" ["_law_script"] (jcD K)) (F_taken:Fn P w K mg base 1 "_law_taken" [] jaB) (F_deal:Fn P w K mg base 1 "_law_deal" ["_law_script","_law_k"] (jcH K)) (F_name:Fn P w K mg base 2 "_law_name" ["_law_deal_here","_law_taken_here"] ZG) (F_draw:Fn P w K mg base 1 "_law_draw" ["_law_deal_here","_law_many_here"] yo) (F_claim:Fn P w K mg base 6 "_law_claim" ["_law_deal_here","_law_numbers","_law_rows"] YO) (F_claim_text:Fn P w K mg base 4 "_law_claim_text" ["_law_claim_here"] YM) (F_textP:Fn P w K mg base 5 "claim_text" ["claim"] YN) (F_read:FnD P w K mg base 10 "read_claim" ["text"] (ZF C)) (F_alike:Fn P w K mg base 5 "_law_alike" ["_law_found","_law_due"] (zV 5)) (F_refused:Fn P w K mg base 11 "_law_refused" ["_law_text"] KG) (F_none:Fn P w K mg base 1 "_law_none" ["_law_cell"] jcC):FnOk P w K mg base CX0 12 f fd ["_law_script"] (jaD K):=by
 have sc:FnScope ["_law_script","_law_deal_here","_law_taken_here","_law_numbers","_law_rows","_law_k","_law_claim_here","_law_text"] ["_law_script"] (jk K9):=fQ
 have F_read_claim:=jdw F_read
 refine F.okZ sc (fun vs H Q E h=>?_) (fun cdv A outer s H vs Q E hr h=>?_)
 ·obtain ⟨a,ns,rfl,_⟩:=h
  rfl
 obtain ⟨a,ns,rfl,hS,hn,q⟩:=h
 refine ⟨_,(jd (ju (i:=1) sc.nd rfl oQ (jp F_deal hr (ja (zpv 0) (ja jg jb))))
   (jd (ju (i:=2) sc.nd rfl oQ (jdX F_taken hr))
   (jd (ju (i:=3) sc.nd rfl oQ (jr ZR (YE ["_law_k"] [1,2] rfl (JP (sc:=jk K9) (N:=["_law_script","_law_deal_here","_law_taken_here","_law_numbers","_law_rows","_law_k","_law_claim_here","_law_text"]) rfl rfl (by decide +kernel)) (yl (by rfl) B.range_ (ja jg jb)) (fun s H ex=>⟨(jn (i:=0) (show List.Nodup (["_law_k","_law_deal_here","_law_taken_here"]:List Str) by decide +kernel) rfl oQ),JR,(jp F_name hr (ja (zpv 1) (ja (zpv 2) jb)))⟩)) (kg (ja jc jb))))
   (jd (YD (i:=4) sc.nd rfl oQ ["_law_k"] [1,2] rfl (JP (sc:=jk K9) (N:=["_law_script","_law_deal_here","_law_taken_here","_law_numbers","_law_rows","_law_k","_law_claim_here","_law_text"]) rfl rfl (by decide +kernel)) (yl (by rfl) B.range_ (ja jg jb)) (fun s H ex=>⟨(jn (i:=0) (show List.Nodup (["_law_k","_law_deal_here","_law_taken_here"]:List Str) by decide +kernel) rfl oQ),JR,(jp F_name hr (ja (zpv 1) (ja (zpv 2) jb)))⟩))
   (jd (jaq PassesOwn.never rfl (Zz (by rfl) B.range_ (ja jg (ja (kh (KR rfl) (by rfl) B.max_ jdM (ja jg (ja (jp F_many hr (ja (zpv 0) jb)) jb))) jb))) (jn (i:=5) sc.nd rfl oQ) (jd (ju (i:=1) sc.nd rfl oQ (jp F_deal hr (ja (zpv 0) (ja (zpv 5) jb))))
   (jd (ju (i:=6) sc.nd rfl oQ (jp F_claim hr (ja (zpv 1) (ja (zpv 3) (ja (zpv 4) jb)))))
   (jd (ju (i:=7) sc.nd rfl oQ (jp F_claim_text hr (ja (zpv 6) jb)))
   (jd (jH (JQ (qI (ko (jp F_alike hr (ja (jp F_textP hr (ja (zpv 6) jb)) (ja (zpv 7) jb))))) (Jy (qI (ko (jp F_alike hr (ja (jp F_read_claim hr (ja (zpv 7) jb)) (ja (zpv 6) jb))))))).pt (jh (jl JU)) js)
   (jd (jH (qI (ko (jp F_alike hr (ja (jp F_read_claim hr (ja (jr jy (jr jy (jr J8 jc (jp F_draw hr (ja (zpv 1) (ja jg jb)))) (zpv 7)) (jr J8 jc (jp F_draw hr (ja (zpv 1) (ja jg jb))))) jb)) (ja (zpv 6) jb))))) (jh (jl JU)) js)
   (jh (jH (JQ (qI (ko (jp F_refused hr (ja (jr jy (zpv 7) jc) jb)))) (Jy (qI (ko (jp F_refused hr (ja (jp F_none hr (ja (jp F_draw hr (ja (zpv 1) (ja jg jb))) jb)) jb)))))).pt (jh (jl JU)) js))))))))
   (jh (jl JU))))))),?_⟩
 try dsimp only [Jw]
 refine jA (σ':=[some (.ref a),none,none,none,none,none,none,none]) rfl ?_
 refine jfs ?_
 intro _ _ _ _ _
 refine ⟨_,rfl,a,ns,0,rfl,hS,hn,by decide,by decide,fun d H1 hd0 s1 e1=>?_⟩
 have e1:H1 d=some (dlO 0 (Km ns 0).2):=e1
 generalize (Km ns 0).2=n0 at *
 refine gQ ?_
 refine ⟨rfl,fun tl htl=>?_⟩
 have s2:=ji htl (.lst (kL.map V.str))
 have e2:upd H1 tl (.lst (kL.map V.str)) tl=some (.lst (kL.map V.str)):=jf
 have d2:=s2 _ _ e1
 have s12:=s1.trans s2
 generalize upd H1 tl (.lst (kL.map V.str))=H2 at *
 have ntl:H tl=none:=by
  cases e:H tl with
  | none=>rfl
  | some o=>rw [s1 _ _ e] at htl;cases htl
 have t16:kL.length=16:=rfl
 refine gQ ?_
 refine ⟨5,rfl,by decide,by decide,fun p hp=>?_⟩
 rw [show (5:Int).toNat=5 from rfl]
 refine zy (fun i σ' G=>∃ u ys,σ'=[u,some (.ref d),some (.ref tl)]∧NmR H2 d tl p kL i ys G) ⟨none,[],rfl,NmR.zero d2 e2 hp tk0⟩ ?_ ?_
 ·rintro i σ' G hi ⟨u,ys,rfl,N⟩
  unfold kW jbA
  refine kE ?_
  refine ⟨_,rfl,_,rfl,?_⟩
  unfold jcx
  dsimp only
  refine N.step ⟨_,d2⟩ ⟨_,e2⟩ hp (by omega) fun z G' g1 g2=>?_
  exact ⟨_,g1,km (by rw [List.length_map,N.n];omega),_,_,rfl,g2⟩
 rintro σ' G ⟨u,ys,rfl,N⟩
 refine ⟨sm rfl,fun o ho=>⟨p,o,_,_,rfl,rfl,ji ho _ _ _ N.hp,jf,km (by rw [List.length_map,N.n];decide),fun xl hxl=>?_⟩⟩
 have s3:Same G (upd (upd G o (.lst [V.str (Str.ofString "out")])) xl (.lst (ys.map V.str++[V.str (Str.ofString "out")]))):=(ji ho _).trans (ji hxl _)
 have hx:upd (upd G o (.lst [V.str (Str.ofString "out")])) xl (.lst (ys.map V.str++[V.str (Str.ofString "out")])) xl=some (.lst ((ys++[Str.ofString "out"]).map V.str)):=by rw [jf,List.map_append];rfl
 have nxl:G xl=none:=by
  cases e:G xl with
  | none=>rfl
  | some o'=>rw [ji ho _ _ _ e] at hxl;cases hxl
 generalize upd (upd G o (.lst [V.str (Str.ofString "out")])) xl (.lst (ys.map V.str++[V.str (Str.ofString "out")]))=H3 at *
 obtain ⟨m3,d3⟩:=N.hd
 have xd:xl≠d:=(jF d3 nxl).symm
 have xt:xl≠tl:=(jF N.hl nxl).symm
 have t3:=s3 _ _ N.hl
 have d3:=s3 _ _ d3
 have hk3:=N.tk
 have hNx:Nms (ys++[Str.ofString "out"]):=fun x hx=>(List.mem_append.mp hx).elim (N.nm x) fun h=>by rw [List.mem_singleton.mp h];decide +kernel
 have hlx:(ys++[Str.ofString "out"]).length=6:=by rw [List.length_append,N.n];rfl
 have hly:(kL++ys).length=21:=by rw [List.length_append,N.n];rfl
 have sH3:Same H H3:=fun b o' e=>s3 _ _ (N.s _ _ (jF e hd0) (jF e ntl) (s12 _ _ e))
 clear N s3 hxl nxl ho hp
 generalize ys++[Str.ofString "out"]=xs at *
 generalize kL++ys=tk at *
 refine gQ ?_
 refine ⟨3,rfl,by decide,by decide,fun r hr0=>?_⟩
 rw [show (3:Int).toNat=3 from rfl]
 refine zy (fun i σ' G=>∃ u zs,σ'=[u,some (.ref d),some (.ref tl)]∧NmR H3 d tl r tk i zs G) ⟨none,[],rfl,NmR.zero d3 t3 hr0 hk3⟩ ?_ ?_
 ·rintro i σ' G hi ⟨u,zs,rfl,N⟩
  unfold kW jbA
  refine kE ?_
  refine ⟨_,rfl,_,rfl,?_⟩
  unfold jcx
  dsimp only
  refine N.step ⟨_,d3⟩ ⟨_,t3⟩ hr0 (by omega) fun z G' g1 g2=>?_
  exact ⟨_,g1,km (by rw [List.length_map,N.n];omega),_,_,rfl,g2⟩
 rintro σ' G ⟨u,rs,rfl,N⟩
 have hx4:=N.s _ _ xd xt hx
 have hr4:=N.hp
 have hNr:=N.nm
 have hlr:=N.n
 have sH4:Same H G:=fun b o' e=>N.s _ _ (jF e hd0) (jF e ntl) (sH3 _ _ e)
 clear N hx t3 d3 hk3 hly sH3 hr0 xd xt
 refine gQ ?_
 have hM:∃ M:Nat,(if (if ns.length=0 then 1 else ((ns.length:Nat):Int)) > 2 then (if ns.length=0 then 1 else ((ns.length:Nat):Int)) else 2)=(M:Int)∧M≤63:=by
  have h0:0≤(if ns.length=0 then 1 else ((ns.length:Nat):Int))∧(if ns.length=0 then 1 else ((ns.length:Nat):Int))≤63:=by split <;> omega
  generalize (if ns.length=0 then 1 else ((ns.length:Nat):Int))=m0 at *
  exact ⟨(if m0 > 2 then m0 else 2).toNat,by split <;> omega,by split <;> omega⟩
 obtain ⟨M,eM,hM⟩:=hM
 refine ⟨_,rfl,a,ns,rfl,sH4.seq hS,hn,2,_,rfl,1,_,rfl,⟨by decide,by decide,by rw [eM];omega,by rw [eM];omega⟩,?_⟩
 rw [eM]
 have blk:∀ {j:Int},0≤j→j < 4→(Txt.mul (Str.ofString " ") j).length≤3:=fun h0 h1=>by rw [← jI,Jn h0 h1,List.length_replicate];omega
 refine jca (fun i σ G=>∃ u1 u2 u5 u6 u7,σ=[some (.ref a),u1,u2,some (.ref xl),some (.ref r),u5,u6,u7]∧Same H G∧G xl=some (.lst (xs.map V.str))∧G r=some (.lst (rs.map V.str))) ⟨_,_,_,_,_,rfl,sH4,hx4,hr4⟩ ?_ ?_
 ·rintro i σ G hi ⟨u1,u2,u5,u6,u7,rfl,sG,hx,hr'⟩
  refine gQ ?_
  refine jfs ?_
  intro _ _ _ _ _
  refine ⟨_,rfl,_,rfl,a,ns,_,rfl,sG.seq hS,hn,by omega,by omega,fun d G1 hd s1 e1=>?_⟩
  generalize (Km ns (1+(i:Int))).2=n1 at *
  generalize (Km ns (1+(i:Int))).1=w at *
  have nd:H d=none:=by
   cases e:H d with
   | none=>rfl
   | some o'=>rw [sG _ _ e] at hd;cases hd
  refine gQ ?_
  refine ⟨_,rfl,_,rfl,_,rfl,d,xl,r,w,n1,xs,rs,rfl,e1,s1 _ _ hx,s1 _ _ hr',by omega,by omega,fun u G2 k2 e2 h2=>?_⟩
  have fC:=jeU hNx hNr w n1
  generalize Jl w n1 xs rs=cn at *
  obtain ⟨cl,n2⟩:=cn
  dsimp only at fC e2 h2
  have hx2:=k2.strs e1 (s1 _ _ hx)
  have hr2:=k2.strs e1 (s1 _ _ hr')
  have sG2:Same H G2:=fun b o e=>k2 _ _ (jF e nd) (s1 _ _ (sG _ _ e))
  have hsh:=jgY fC
  have hlen:=jcg hsh
  have hb:=jae fC
  have hE:=Ko fC
  have hX:=jeT fC
  have hEX:=Zs fC
  rw [← jdJ] at hb hE hX hEX
  clear k2 e1 s1 hd sG hx hr'
  refine gQ ?_
  refine ⟨_,rfl,u,cl,rfl,h2,hsh,fun G3 s3=>?_⟩
  generalize hT:Kp cl=T at *
  refine gQ ?_
  dsimp only
  refine yL (fun b G=>b=false∧Same G3 G) (fun b G4 hb4=>?_) (fun kk=>?_)
  rotate_left
  ·refine ⟨_,rfl,u,cl,rfl,h2.mono s3,hsh,fun G4 s4=>?_⟩
   rw [hT]
   refine ⟨_,rfl,.str T,.str T,.str T,rfl,jq,jq,True.intro,fun G5 s5=>⟨_,rfl,ku ?_⟩⟩
   refine ⟨_,rfl,T,rfl,by omega,fun dd ed v G6 s6 hv=>?_,fun ed=>?_⟩
   all_goals rw [JX hE,hb] at ed;cases ed
   refine ⟨_,rfl,v,u,cl.toD,rfl,hv,h2.mono (s3.trans (s4.trans (s5.trans s6))),jbe,fun G7 s7=>⟨_,rfl,kk _ _ ⟨rfl,s4.trans (s5.trans (s6.trans s7))⟩⟩⟩
  obtain ⟨rfl,s4⟩:=hb4
  refine ku ?_
  have s34:=s3.trans s4
  have e4:=s34 _ _ e2
  have h4:=h2.mono s34
  have hx4:=s34 _ _ hx2
  have hr4:=s34 _ _ hr2
  have sG4:=sG2.trans s34
  clear s34 s3 s4 e2 h2 hx2 hr2 sG2
  unfold YH
  dsimp only
  refine yL (fun b G=>b=false∧∃ n3,G d=some (dlO w n3)∧Same H G∧G xl=some (.lst (xs.map V.str))∧G r=some (.lst (rs.map V.str))) (fun b G5 hb5=>?_) (fun kk=>?_)
  rotate_left
  ·have lo1:=jL w n2 (m:=4) (by decide)
   have hi1:=jM w n2 (m:=4) (by decide)
   have lo2:=jL w (jj w n2 4).2 (m:=4) (by decide)
   have hi2:=jM w (jj w n2 4).2 (m:=4) (by decide)
   have k5:=Keep.upd d G4 (dlO w (jj w n2 4).2)
   have e5:upd G4 d (dlO w (jj w n2 4).2) d=some (dlO w (jj w n2 4).2):=jf
   refine ⟨_,rfl,d,w,n2,4,rfl,e4,by decide,by decide,_,_,rfl,rfl,by decide,lo1,by omega,_,rfl,_,_,rfl,rfl,?_,_,rfl,d,w,_,4,rfl,e5,by decide,by decide,_,_,rfl,rfl,by decide,lo2,by omega,_,_,rfl,rfl,?_,?_⟩
   ·have:=blk lo1 hi1
    exact jD (by omega)
   ·have:=blk lo1 hi1
    have:=blk lo2 hi2
    rw [Str.length_append]
    exact jD (by omega)
   have k6:=k5.trans (Keep.upd d _ (dlO w (jj w (jj w n2 4).2 4).2))
   have e6:upd (upd G4 d (dlO w (jj w n2 4).2)) d (dlO w (jj w (jj w n2 4).2 4).2) d=some (dlO w (jj w (jj w n2 4).2 4).2):=jf
   have hc:cd (Txt.mul (Str.ofString " ") (jj w n2 4).1++T++Txt.mul (Str.ofString " ") (jj w (jj w n2 4).2 4).1)=List.replicate (jj w n2 4).1.toNat 32++(cd T++List.replicate (jj w (jj w n2 4).2 4).1.toNat 32):=by
    rw [jS,jS,Jn lo1 hi1,Jn lo2 hi2,List.append_assoc]
   have hcl:(Txt.mul (Str.ofString " ") (jj w n2 4).1++T++Txt.mul (Str.ofString " ") (jj w (jj w n2 4).2 4).1).length≤1000:=by
    have:=blk lo1 hi1
    have:=blk lo2 hi2
    rw [Str.length_append,Str.length_append]
    omega
   generalize Txt.mul (Str.ofString " ") (jj w n2 4).1++T++Txt.mul (Str.ofString " ") (jj w (jj w n2 4).2 4).1=T2 at *
   have h6:=(k6.tk e4).held h4
   have hx6:=k6.strs e4 hx4
   have hr6:=k6.strs e4 hr4
   have sG6:Same H _:=fun b o e=>k6 _ _ (jF e nd) (sG4 _ _ e)
   refine ⟨T2,rfl,hcl,fun dd ed v G7 s7 hv=>?_,fun ed=>?_⟩
   all_goals rw [hc,yI hE,hb] at ed;cases ed
   refine ⟨_,rfl,v,u,cl.toD,rfl,hv,h6.mono s7,jbe,fun G8 s8=>⟨_,rfl,kk _ _ ⟨rfl,_,(s7.trans s8) _ _ e6,sG6.trans (s7.trans s8),(s7.trans s8) _ _ hx6,(s7.trans s8) _ _ hr6⟩⟩⟩
  obtain ⟨rfl,n3,e5,sG5,hx5,hr5⟩:=hb5
  refine ku ?_
  clear e4 h4 hx4 hr4 sG4
  unfold YH
  dsimp only
  refine jeK (fun b G=>b=false∧Same H G∧G xl=some (.lst (xs.map V.str))∧G r=some (.lst (rs.map V.str))) (fun b G6 hb6=>?_) (fun kk=>?_)
  rotate_left
  ·have hx1:(Str.ofString " x").length≤2:=by decide +kernel
   refine ⟨_,rfl,_,_,rfl,rfl,jD (by omega),T++Str.ofString " x",rfl,by rw [Str.length_append];omega,?_,fun G6 s6=>⟨_,rfl,ku ?_⟩⟩
   ·rw [jS,show cd (Str.ofString " x")=[32,120] from rfl,JX hEX]
    exact hX
   have e6:=s6 _ _ e5
   have k7:=Keep.upd d G6 (dlO w (jj w n3 34).2)
   refine ⟨_,rfl,d,w,n3,34,rfl,e6,by decide,by decide,_,rfl,fun z G8 hz s8=>?_⟩
   obtain ⟨z1,z2⟩:=jez z hz
   refine ⟨z,rfl,z2,z1,fun G9 s9=>⟨_,rfl,kk _ _ ⟨rfl,fun b o e=>(s8.trans s9) _ _ (k7 _ _ (jF e nd) (s6 _ _ (sG5 _ _ e))),(s8.trans s9) _ _ (k7.strs e6 (s6 _ _ hx5)),(s8.trans s9) _ _ (k7.strs e6 (s6 _ _ hr5))⟩⟩⟩
  obtain ⟨rfl,sG6,hx6,hr6⟩:=hb6
  exact ku ⟨_,_,_,_,_,rfl,sG6,hx6,hr6⟩
 ·rintro σ G ⟨u1,u2,u5,u6,u7,rfl,-,-,-⟩
  exact q _
end
theorem el0 {P:List Value→Prop} (h:P []):∀ us:List Value,us.length=0→P us
 | [],_=>h
theorem el1 {P:List Value→Prop} (h:∀ a0,P [a0]):∀ us:List Value,us.length=1→P us
 | a :: v,e=>el0 (P:=fun v=>P (a :: v)) (h a) v (Nat.succ.inj e)
theorem el2 {P:List Value→Prop} (h:∀ a0 a1,P [a0,a1]):∀ us:List Value,us.length=2→P us
 | a :: v,e=>el1 (P:=fun v=>P (a :: v)) (h a) v (Nat.succ.inj e)
theorem el3 {P:List Value→Prop} (h:∀ a0 a1 a2,P [a0,a1,a2]):∀ us:List Value,us.length=3→P us
 | a :: v,e=>el2 (P:=fun v=>P (a :: v)) (h a) v (Nat.succ.inj e)
abbrev LkF (K:W.Frag) (f:Addr) (x n:Str) (st:Stmt) (oc:Value) (od:Option Addr) (kV dc pm:Value) (an:Option Addr) (cd ct:Value) (sl:Array (Option Value)):Prop:=K.lookup f=some ⟨oc,od,.func (W.fnOf x n (ye st) (qw st) (jk st) .none kV dc pm an cd ct),sl⟩
set_option autoImplicit true in
theorem all_mk {l:PySem.W.OpenLaw} {w:World} {K:W.Frag} {h:Heap} {mg:Str→Option Value} {fa:Addr} (X:K.In h) (G:h.Ns mainGlobals mg) (hfa:mg "law" = some (.ref fa))
  (a0:W.nsIn K mainGlobals "is_figures" = some (some (.ref f0)))
  (l0:LkF K f0 "is_figures" "is_figures" qP oc0 od0 kV0 dc0 pm0 an0 cd0 ct0 sl0) (c0:W.codeIn K cd0 "is_figures" = true) (k0:W.keepIn K (.ref f0)=true)
  (a1:W.nsIn K mainGlobals "is_number" = some (some (.ref f1)))
  (l1:LkF K f1 "is_number" "is_number" zq oc1 od1 kV1 dc1 pm1 an1 cd1 ct1 sl1) (c1:W.codeIn K cd1 "is_number" = true) (k1:W.keepIn K (.ref f1)=true)
  (a2:W.nsIn K mainGlobals "is_name" = some (some (.ref f2)))
  (l2:LkF K f2 "is_name" "is_name" yN oc2 od2 kV2 dc2 pm2 an2 cd2 ct2 sl2) (c2:W.codeIn K cd2 "is_name" = true) (k2:W.keepIn K (.ref f2)=true)
  (a3:W.nsIn K mainGlobals "more_cut" = some (some (.ref f3)))
  (l3:LkF K f3 "more_cut" "more_cut" zW oc3 od3 kV3 dc3 pm3 an3 cd3 ct3 sl3) (c3:W.codeIn K cd3 "more_cut" = true) (k3:W.keepIn K (.ref f3)=true)
  (a4:W.nsIn K mainGlobals "refuse_unless" = some (some (.ref f4)))
  (l4:LkF K f4 "refuse_unless" "refuse_unless" kR oc4 od4 kV4 dc4 pm4 an4 cd4 ct4 sl4) (c4:W.codeIn K cd4 "refuse_unless" = true) (k4:W.keepIn K (.ref f4)=true)
  (a5:W.nsIn K mainGlobals "name_read" = some (some (.ref f5)))
  (l5:LkF K f5 "name_read" "name_read" zp oc5 od5 kV5 dc5 pm5 an5 cd5 ct5 sl5) (c5:W.codeIn K cd5 "name_read" = true) (k5:W.keepIn K (.ref f5)=true)
  (a6:W.nsIn K mainGlobals "place_read" = some (some (.ref f6)))
  (l6:LkF K f6 "place_read" "place_read" qM oc6 od6 kV6 dc6 pm6 an6 cd6 ct6 sl6) (c6:W.codeIn K cd6 "place_read" = true) (k6:W.keepIn K (.ref f6)=true)
  (a7:W.nsIn K mainGlobals "named_term" = some (some (.ref f7)))
  (l7:LkF K f7 "named_term" "named_term" qN oc7 od7 kV7 dc7 pm7 an7 cd7 ct7 sl7) (c7:W.codeIn K cd7 "named_term" = true) (k7:W.keepIn K (.ref f7)=true)
  (a8:W.nsIn K mainGlobals "alone_read" = some (some (.ref f8)))
  (l8:LkF K f8 "alone_read" "alone_read" qU oc8 od8 kV8 dc8 pm8 an8 cd8 ct8 sl8) (c8:W.codeIn K cd8 "alone_read" = true) (k8:W.keepIn K (.ref f8)=true)
  (a9:W.nsIn K mainGlobals "term_read" = some (some (.ref f9)))
  (l9:LkF K f9 "term_read" "term_read" zn oc9 od9 kV9 dc9 pm9 an9 cd9 ct9 sl9) (c9:W.codeIn K cd9 "term_read" = true) (k9:W.keepIn K (.ref f9)=true)
  (a10:W.nsIn K mainGlobals "bound_read" = some (some (.ref f10)))
  (l10:LkF K f10 "bound_read" "bound_read" qT oc10 od10 kV10 dc10 pm10 an10 cd10 ct10 sl10) (c10:W.codeIn K cd10 "bound_read" = true) (k10:W.keepIn K (.ref f10)=true)
  (a11:W.nsIn K mainGlobals "reach_read" = some (some (.ref f11)))
  (l11:LkF K f11 "reach_read" "reach_read" qK oc11 od11 kV11 dc11 pm11 an11 cd11 ct11 sl11) (c11:W.codeIn K cd11 "reach_read" = true) (k11:W.keepIn K (.ref f11)=true)
  (a12:W.nsIn K mainGlobals "rise_read" = some (some (.ref f12)))
  (l12:LkF K f12 "rise_read" "rise_read" zo oc12 od12 kV12 dc12 pm12 an12 cd12 ct12 sl12) (c12:W.codeIn K cd12 "rise_read" = true) (k12:W.keepIn K (.ref f12)=true)
  (a13:W.nsIn K mainGlobals "each_read" = some (some (.ref f13)))
  (l13:LkF K f13 "each_read" "each_read" zr oc13 od13 kV13 dc13 pm13 an13 cd13 ct13 sl13) (c13:W.codeIn K cd13 "each_read" = true) (k13:W.keepIn K (.ref f13)=true)
  (a14:W.nsIn K mainGlobals "least_read" = some (some (.ref f14)))
  (l14:LkF K f14 "least_read" "least_read" qO oc14 od14 kV14 dc14 pm14 an14 cd14 ct14 sl14) (c14:W.codeIn K cd14 "least_read" = true) (k14:W.keepIn K (.ref f14)=true)
  (a15:W.nsIn K mainGlobals "claim_read" = some (some (.ref f15)))
  (l15:LkF K f15 "claim_read" "claim_read" qR oc15 od15 kV15 dc15 pm15 an15 cd15 ct15 sl15) (c15:W.codeIn K cd15 "claim_read" = true) (k15:W.keepIn K (.ref f15)=true)
  (a16:W.nsIn K mainGlobals "read_claim" = some (some (.ref f16)))
  (l16:LkF K f16 "read_claim" "read_claim" qJ oc16 od16 kV16 dc16 pm16 an16 cd16 ct16 sl16) (c16:W.codeIn K cd16 "read_claim" = true) (k16:W.keepIn K (.ref f16)=true)
  (a17:W.nsIn K mainGlobals "with_more" = some (some (.ref f17)))
  (l17:LkF K f17 "with_more" "with_more" zm oc17 od17 kV17 dc17 pm17 an17 cd17 ct17 sl17) (c17:W.codeIn K cd17 "with_more" = true) (k17:W.keepIn K (.ref f17)=true)
  (a18:W.nsIn K mainGlobals "place_text" = some (some (.ref f18)))
  (l18:LkF K f18 "place_text" "place_text" qL oc18 od18 kV18 dc18 pm18 an18 cd18 ct18 sl18) (c18:W.codeIn K cd18 "place_text" = true) (k18:W.keepIn K (.ref f18)=true)
  (a19:W.nsIn K mainGlobals "alone_text" = some (some (.ref f19)))
  (l19:LkF K f19 "alone_text" "alone_text" qg oc19 od19 kV19 dc19 pm19 an19 cd19 ct19 sl19) (c19:W.codeIn K cd19 "alone_text" = true) (k19:W.keepIn K (.ref f19)=true)
  (a20:W.nsIn K mainGlobals "term_text" = some (some (.ref f20)))
  (l20:LkF K f20 "term_text" "term_text" qC oc20 od20 kV20 dc20 pm20 an20 cd20 ct20 sl20) (c20:W.codeIn K cd20 "term_text" = true) (k20:W.keepIn K (.ref f20)=true)
  (a21:W.nsIn K mainGlobals "bound_text" = some (some (.ref f21)))
  (l21:LkF K f21 "bound_text" "bound_text" qS oc21 od21 kV21 dc21 pm21 an21 cd21 ct21 sl21) (c21:W.codeIn K cd21 "bound_text" = true) (k21:W.keepIn K (.ref f21)=true)
  (a22:W.nsIn K mainGlobals "claim_text" = some (some (.ref f22)))
  (l22:LkF K f22 "claim_text" "claim_text" qQ oc22 od22 kV22 dc22 pm22 an22 cd22 ct22 sl22) (c22:W.codeIn K cd22 "claim_text" = true) (k22:W.keepIn K (.ref f22)=true)
  (a23:W.nsIn K mainGlobals "_law_deal" = some (some (.ref f23)))
  (l23:LkF K f23 "_law_deal" "_law_deal" jaL oc23 od23 kV23 dc23 pm23 an23 cd23 ct23 sl23) (c23:W.codeIn K cd23 "_law_deal" = true) (k23:W.keepIn K (.ref f23)=true)
  (a24:W.nsIn K mainGlobals "_law_draw" = some (some (.ref f24)))
  (l24:LkF K f24 "_law_draw" "_law_draw" jaK oc24 od24 kV24 dc24 pm24 an24 cd24 ct24 sl24) (c24:W.codeIn K cd24 "_law_draw" = true) (k24:W.keepIn K (.ref f24)=true)
  (a25:W.nsIn K mainGlobals "_law_many" = some (some (.ref f25)))
  (l25:LkF K f25 "_law_many" "_law_many" jaJ oc25 od25 kV25 dc25 pm25 an25 cd25 ct25 sl25) (c25:W.codeIn K cd25 "_law_many" = true) (k25:W.keepIn K (.ref f25)=true)
  (a26:W.nsIn K mainGlobals "_law_taken" = some (some (.ref f26)))
  (l26:LkF K f26 "_law_taken" "_law_taken" K8 oc26 od26 kV26 dc26 pm26 an26 cd26 ct26 sl26) (c26:W.codeIn K cd26 "_law_taken" = true) (k26:W.keepIn K (.ref f26)=true)
  (a27:W.nsIn K mainGlobals "_law_name" = some (some (.ref f27)))
  (l27:LkF K f27 "_law_name" "_law_name" YT oc27 od27 kV27 dc27 pm27 an27 cd27 ct27 sl27) (c27:W.codeIn K cd27 "_law_name" = true) (k27:W.keepIn K (.ref f27)=true)
  (a28:W.nsIn K mainGlobals "_law_number" = some (some (.ref f28)))
  (l28:LkF K f28 "_law_number" "_law_number" JC oc28 od28 kV28 dc28 pm28 an28 cd28 ct28 sl28) (c28:W.codeIn K cd28 "_law_number" = true) (k28:W.keepIn K (.ref f28)=true)
  (a29:W.nsIn K mainGlobals "_law_place" = some (some (.ref f29)))
  (l29:LkF K f29 "_law_place" "_law_place" JB oc29 od29 kV29 dc29 pm29 an29 cd29 ct29 sl29) (c29:W.codeIn K cd29 "_law_place" = true) (k29:W.keepIn K (.ref f29)=true)
  (a30:W.nsIn K mainGlobals "_law_term" = some (some (.ref f30)))
  (l30:LkF K f30 "_law_term" "_law_term" K7 oc30 od30 kV30 dc30 pm30 an30 cd30 ct30 sl30) (c30:W.codeIn K cd30 "_law_term" = true) (k30:W.keepIn K (.ref f30)=true)
  (a31:W.nsIn K mainGlobals "_law_least" = some (some (.ref f31)))
  (l31:LkF K f31 "_law_least" "_law_least" JD oc31 od31 kV31 dc31 pm31 an31 cd31 ct31 sl31) (c31:W.codeIn K cd31 "_law_least" = true) (k31:W.keepIn K (.ref f31)=true)
  (a32:W.nsIn K mainGlobals "_law_claim" = some (some (.ref f32)))
  (l32:LkF K f32 "_law_claim" "_law_claim" JF oc32 od32 kV32 dc32 pm32 an32 cd32 ct32 sl32) (c32:W.codeIn K cd32 "_law_claim" = true) (k32:W.keepIn K (.ref f32)=true)
  (a33:W.nsIn K mainGlobals "_law_alike" = some (some (.ref f33)))
  (l33:LkF K f33 "_law_alike" "_law_alike" Je oc33 od33 kV33 dc33 pm33 an33 cd33 ct33 sl33) (c33:W.codeIn K cd33 "_law_alike" = true) (k33:W.keepIn K (.ref f33)=true)
  (a34:W.nsIn K mainGlobals "_law_refused" = some (some (.ref f34)))
  (l34:LkF K f34 "_law_refused" "_law_refused" yM oc34 od34 kV34 dc34 pm34 an34 cd34 ct34 sl34) (c34:W.codeIn K cd34 "_law_refused" = true) (k34:W.keepIn K (.ref f34)=true)
  (a35:W.nsIn K mainGlobals "_law_none" = some (some (.ref f35)))
  (l35:LkF K f35 "_law_none" "_law_none" jaH oc35 od35 kV35 dc35 pm35 an35 cd35 ct35 sl35) (c35:W.codeIn K cd35 "_law_none" = true) (k35:W.keepIn K (.ref f35)=true)
  (a36:W.nsIn K mainGlobals "_law_more" = some (some (.ref f36)))
  (l36:LkF K f36 "_law_more" "_law_more" jaI oc36 od36 kV36 dc36 pm36 an36 cd36 ct36 sl36) (c36:W.codeIn K cd36 "_law_more" = true) (k36:W.keepIn K (.ref f36)=true)
  (a37:W.nsIn K mainGlobals "_law_place_text" = some (some (.ref f37)))
  (l37:LkF K f37 "_law_place_text" "_law_place_text" JA oc37 od37 kV37 dc37 pm37 an37 cd37 ct37 sl37) (c37:W.codeIn K cd37 "_law_place_text" = true) (k37:W.keepIn K (.ref f37)=true)
  (a38:W.nsIn K mainGlobals "_law_term_text" = some (some (.ref f38)))
  (l38:LkF K f38 "_law_term_text" "_law_term_text" K6 oc38 od38 kV38 dc38 pm38 an38 cd38 ct38 sl38) (c38:W.codeIn K cd38 "_law_term_text" = true) (k38:W.keepIn K (.ref f38)=true)
  (a39:W.nsIn K mainGlobals "_law_claim_text" = some (some (.ref f39)))
  (l39:LkF K f39 "_law_claim_text" "_law_claim_text" JE oc39 od39 kV39 dc39 pm39 an39 cd39 ct39 sl39) (c39:W.codeIn K cd39 "_law_claim_text" = true) (k39:W.keepIn K (.ref f39)=true)
  (a40:W.nsIn K mainGlobals "law" = some (some (.ref f40)))
  (l40:LkF K f40 "law" "law" K9 oc40 od40 kV40 dc40 pm40 an40 cd40 ct40 sl40) (c40:W.codeIn K cd40 "law" = true) (k40:W.keepIn K (.ref f40)=true)
  (dN:W.nsIn K mainGlobals "NoText" = some (some (.ref CN))) (dO:W.nsIn K mainGlobals "OutlineError" = some (some (.ref CO))) (dF:W.nsIn K mainGlobals "MOST_FIGURES" = some (some (.int 19 tkF))) (dL:W.nsIn K mainGlobals "MOST_LETTERS" = some (some (.int 8 tkL))) (dW:W.nsIn K mainGlobals "WORDS" = some (some (.ref aW))) (lW:K.lookup aW=some ⟨.type "tuple",odW,.seq #[.str "each" tw0,.str "rise" tw1,.str "to" tw2,.str "proc" tw3,.str "need" tw4,.str "give" tw5,.str "back" tw6,.str "any" tw7,.str "claim" tw8,.str "if" tw9,.str "else" tw10,.str "end" tw11,.str "while" tw12,.str "keep" tw13,.str "call" tw14] nW,slW⟩) (aI:W.findIn K (.ref CN) "__init__" = some (some (.ref fI))) (lI:LkF K fI "__init__" "NoText.__init__" kJ ocI odI kVI dcI pmI anI cdI ctI slI) (cI:W.codeIn K cdI "NoText.__init__" = true) (kI:W.keepIn K (.ref fI)=true) (tI:W.typeIn K (.ref fI)=some (.type "function")) (rO:W.readsIn K CO (.type "type")=true) (gO:W.findCls K (.ref CO) (.type "type") "__init__" = some (.val (.builtin "ValueError.__init__"))) (uO:W.typeIn K (.ref CO)=some (.type "type")) (y1:W.isClsIn K CN=true) (y2:W.findIn K (.ref CN) "__getattribute__" = some (some (.builtin "BaseException.__getattribute__"))) (y3:W.findIn K (.ref CN) "__getattr__" = some none) (y4:W.findIn K (.ref CN) "__class__" = some (some (.builtin "object.__class__"))) (y5:W.mroIn K CN (.type "object")=some true) (y6:W.mroIn K CN (.type "BaseException")=some true) (saN:W.findIn K (.ref CN) "__setattr__" = some (some (.builtin "object.__setattr__"))) (noN:W.findIn K (.ref CN) "line" = some none) (hdN:W.hasDictIn K CN=true) (xN:xIn K CN valB "ValueError.__new__" = true)
  (z0:W.nsIn K mainGlobals "len" = some none) (z1:W.nsIn K mainGlobals "max" = some none) (z2:W.nsIn K mainGlobals "min" = some none) (z3:W.nsIn K mainGlobals "all" = some none) (z4:W.nsIn K mainGlobals "isinstance" = some none) (z5:W.nsIn K mainGlobals "abs" = some none) (z6:W.nsIn K mainGlobals "sorted" = some none) (z7:W.nsIn K mainGlobals "int" = some none) (z8:W.nsIn K mainGlobals "str" = some none) (z9:W.nsIn K mainGlobals "bool" = some none) (z10:W.nsIn K mainGlobals "tuple" = some none) (z11:W.nsIn K mainGlobals "list" = some none) (z12:W.nsIn K mainGlobals "dict" = some none) (z13:W.nsIn K mainGlobals "range" = some none) (z14:W.nsIn K mainGlobals "set" = some none) :
  ∃ fd:FuncData,(∀ (s:Shared) (v:Value),BindsTo s fd ⟨[v],[]⟩ [("_law_script",v)])∧∀ base:Heap,K.In base→base.Ns mainGlobals mg→FnOk l.prog w K mg base CX0 12 fa fd ["_law_script"] (jaD K):=by
 have e:=hfa.symm.trans (W.mg_of X G a40)
 cases e
 have B:Free0 mg:=⟨W.mg_none_of X G z0,W.mg_none_of X G z1,W.mg_none_of X G z2,W.mg_none_of X G z3,W.mg_none_of X G z4,W.mg_none_of X G z5,W.mg_none_of X G z6,W.mg_none_of X G z7,W.mg_none_of X G z8,W.mg_none_of X G z9,W.mg_none_of X G z10,W.mg_none_of X G z11,W.mg_none_of X G z12,W.mg_none_of X G z13,W.mg_none_of X G z14⟩
 have G_fig:=W.mg_of X G dF
 have G_let:=W.mg_of X G dL
 have G_words:=W.mg_of X G dW
 have T_words:∀ H,SqT K H aW (qp.map V.str):=fun H=>.inr ⟨_,_,_,lW,rfl,rfl,sm rfl,(.cons ⟨tw0,rfl⟩ (.cons ⟨tw1,rfl⟩ (.cons ⟨tw2,rfl⟩ (.cons ⟨tw3,rfl⟩ (.cons ⟨tw4,rfl⟩ (.cons ⟨tw5,rfl⟩ (.cons ⟨tw6,rfl⟩ (.cons ⟨tw7,rfl⟩ (.cons ⟨tw8,rfl⟩ (.cons ⟨tw9,rfl⟩ (.cons ⟨tw10,rfl⟩ (.cons ⟨tw11,rfl⟩ (.cons ⟨tw12,rfl⟩ (.cons ⟨tw13,rfl⟩ (.cons ⟨tw14,rfl⟩ .nil)))))))))))))))⟩
 have UI:=jG (st:=kJ) lI cI kI
 have bI:=UI.binds (ps:=["self","line"]) fun _ _ _ _ _ _=>el2 (fun _ _=>rfl)
 have Z:NoT K mg CN CO fI:=⟨W.mg_of X G dN,W.mg_of X G dO,aI,tI,rO,gO,uO,⟨xN,⟨y1,y2,y3,y4,y5,y6⟩,saN,noN,hdN⟩⟩
 have U0:=jG (st:=qP) l0 c0 k0
 have b0:=U0.binds (ps:=["text"]) fun _ _ _ _ _ _=>el1 (fun _=>rfl)
 have U1:=jG (st:=zq) l1 c1 k1
 have b1:=U1.binds (ps:=["text"]) fun _ _ _ _ _ _=>el1 (fun _=>rfl)
 have U2:=jG (st:=yN) l2 c2 k2
 have b2:=U2.binds (ps:=["text"]) fun _ _ _ _ _ _=>el1 (fun _=>rfl)
 have U3:=jG (st:=zW) l3 c3 k3
 have b3:=U3.binds (ps:=["text"]) fun _ _ _ _ _ _=>el1 (fun _=>rfl)
 have U4:=jG (st:=kR) l4 c4 k4
 have b4:=U4.binds (ps:=["fits","line"]) fun _ _ _ _ _ _=>el2 (fun _ _=>rfl)
 have U5:=jG (st:=zp) l5 c5 k5
 have b5:=U5.binds (ps:=["text","line"]) fun _ _ _ _ _ _=>el2 (fun _ _=>rfl)
 have U6:=jG (st:=qM) l6 c6 k6
 have b6:=U6.binds (ps:=["text","line"]) fun _ _ _ _ _ _=>el2 (fun _ _=>rfl)
 have U7:=jG (st:=qN) l7 c7 k7
 have b7:=U7.binds (ps:=["text","line"]) fun _ _ _ _ _ _=>el2 (fun _ _=>rfl)
 have U8:=jG (st:=qU) l8 c8 k8
 have b8:=U8.binds (ps:=["text","line"]) fun _ _ _ _ _ _=>el2 (fun _ _=>rfl)
 have U9:=jG (st:=zn) l9 c9 k9
 have b9:=U9.binds (ps:=["text","line"]) fun _ _ _ _ _ _=>el2 (fun _ _=>rfl)
 have U10:=jG (st:=qT) l10 c10 k10
 have b10:=U10.binds (ps:=["text","line"]) fun _ _ _ _ _ _=>el2 (fun _ _=>rfl)
 have U11:=jG (st:=qK) l11 c11 k11
 have b11:=U11.binds (ps:=["text","line"]) fun _ _ _ _ _ _=>el2 (fun _ _=>rfl)
 have U12:=jG (st:=zo) l12 c12 k12
 have b12:=U12.binds (ps:=["text","line"]) fun _ _ _ _ _ _=>el2 (fun _ _=>rfl)
 have U13:=jG (st:=zr) l13 c13 k13
 have b13:=U13.binds (ps:=["text","line"]) fun _ _ _ _ _ _=>el2 (fun _ _=>rfl)
 have U14:=jG (st:=qO) l14 c14 k14
 have b14:=U14.binds (ps:=["text","line"]) fun _ _ _ _ _ _=>el2 (fun _ _=>rfl)
 have U15:=jG (st:=qR) l15 c15 k15
 have b15:=U15.binds (ps:=["text","line"]) fun _ _ _ _ _ _=>el2 (fun _ _=>rfl)
 have U16:=jG (st:=qJ) l16 c16 k16
 have b16:=U16.binds (ps:=["text"]) fun _ _ _ _ _ _=>el1 (fun _=>rfl)
 have U17:=jG (st:=zm) l17 c17 k17
 have b17:=U17.binds (ps:=["named","c"]) fun _ _ _ _ _ _=>el2 (fun _ _=>rfl)
 have U18:=jG (st:=qL) l18 c18 k18
 have b18:=U18.binds (ps:=["place"]) fun _ _ _ _ _ _=>el1 (fun _=>rfl)
 have U19:=jG (st:=qg) l19 c19 k19
 have b19:=U19.binds (ps:=["term"]) fun _ _ _ _ _ _=>el1 (fun _=>rfl)
 have U20:=jG (st:=qC) l20 c20 k20
 have b20:=U20.binds (ps:=["term","c"]) fun _ _ _ _ _ _=>el2 (fun _ _=>rfl)
 have U21:=jG (st:=qS) l21 c21 k21
 have b21:=U21.binds (ps:=["b","c"]) fun _ _ _ _ _ _=>el2 (fun _ _=>rfl)
 have U22:=jG (st:=qQ) l22 c22 k22
 have b22:=U22.binds (ps:=["claim"]) fun _ _ _ _ _ _=>el1 (fun _=>rfl)
 have U23:=jG (st:=jaL) l23 c23 k23
 have b23:=U23.binds (ps:=["_law_script","_law_k"]) fun _ _ _ _ _ _=>el2 (fun _ _=>rfl)
 have U24:=jG (st:=jaK) l24 c24 k24
 have b24:=U24.binds (ps:=["_law_deal_here","_law_many_here"]) fun _ _ _ _ _ _=>el2 (fun _ _=>rfl)
 have U25:=jG (st:=jaJ) l25 c25 k25
 have b25:=U25.binds (ps:=["_law_script"]) fun _ _ _ _ _ _=>el1 (fun _=>rfl)
 have U26:=jG (st:=K8) l26 c26 k26
 have b26:=U26.binds (ps:=[]) fun _ _ _ _ _ _=>el0 rfl
 have U27:=jG (st:=YT) l27 c27 k27
 have b27:=U27.binds (ps:=["_law_deal_here","_law_taken_here"]) fun _ _ _ _ _ _=>el2 (fun _ _=>rfl)
 have U28:=jG (st:=JC) l28 c28 k28
 have b28:=U28.binds (ps:=["_law_deal_here"]) fun _ _ _ _ _ _=>el1 (fun _=>rfl)
 have U29:=jG (st:=JB) l29 c29 k29
 have b29:=U29.binds (ps:=["_law_deal_here","_law_numbers"]) fun _ _ _ _ _ _=>el2 (fun _ _=>rfl)
 have U30:=jG (st:=K7) l30 c30 k30
 have b30:=U30.binds (ps:=["_law_deal_here","_law_numbers","_law_rows"]) fun _ _ _ _ _ _=>el3 (fun _ _ _=>rfl)
 have U31:=jG (st:=JD) l31 c31 k31
 have b31:=U31.binds (ps:=["_law_deal_here","_law_numbers","_law_rows"]) fun _ _ _ _ _ _=>el3 (fun _ _ _=>rfl)
 have U32:=jG (st:=JF) l32 c32 k32
 have b32:=U32.binds (ps:=["_law_deal_here","_law_numbers","_law_rows"]) fun _ _ _ _ _ _=>el3 (fun _ _ _=>rfl)
 have U33:=jG (st:=Je) l33 c33 k33
 have b33:=U33.binds (ps:=["_law_found","_law_due"]) fun _ _ _ _ _ _=>el2 (fun _ _=>rfl)
 have U34:=jG (st:=yM) l34 c34 k34
 have b34:=U34.binds (ps:=["_law_text"]) fun _ _ _ _ _ _=>el1 (fun _=>rfl)
 have U35:=jG (st:=jaH) l35 c35 k35
 have b35:=U35.binds (ps:=["_law_cell"]) fun _ _ _ _ _ _=>el1 (fun _=>rfl)
 have U36:=jG (st:=jaI) l36 c36 k36
 have b36:=U36.binds (ps:=["_law_more_here"]) fun _ _ _ _ _ _=>el1 (fun _=>rfl)
 have U37:=jG (st:=JA) l37 c37 k37
 have b37:=U37.binds (ps:=["_law_place_here"]) fun _ _ _ _ _ _=>el1 (fun _=>rfl)
 have U38:=jG (st:=K6) l38 c38 k38
 have b38:=U38.binds (ps:=["_law_term_here","_law_more_here"]) fun _ _ _ _ _ _=>el2 (fun _ _=>rfl)
 have U39:=jG (st:=JE) l39 c39 k39
 have b39:=U39.binds (ps:=["_law_claim_here"]) fun _ _ _ _ _ _=>el1 (fun _=>rfl)
 have U40:=jG (st:=K9) l40 c40 k40
 refine ⟨W.fnOf "law" "law" (ye K9) (qw K9) (jk K9) .none kV40 dc40 pm40 an40 cd40 ct40,fun s v=>.of_eq rfl,fun base _ _=>?_⟩
 have F_is_figures:=Fn.mk' U0 b0 (W.mg_of X G a0) (jf0 (P:=l.prog) (w:=w) (base:=base) U0 B G_fig)
 have F_is_number:=Fn.mk' U1 b1 (W.mg_of X G a1) (jfY (P:=l.prog) (w:=w) (base:=base) U1 F_is_figures)
 have F_is_name:=Fn.mk' U2 b2 (W.mg_of X G a2) (jbS (P:=l.prog) (w:=w) (base:=base) U2 B G_let G_words T_words)
 have F_more_cut:=Fn.mk' U3 b3 (W.mg_of X G a3) (jf1 (P:=l.prog) (w:=w) (base:=base) U3 B F_is_figures)
 have F_refuse_unless:=FnD.mk' U4 b4 (W.mg_of X G a4) (jbK (P:=l.prog) (w:=w) (base:=base) U4 Z (jev (P:=l.prog) (w:=w) (base:=base) UI Z) bI)
 have F_name_read:=FnD.mk' U5 b5 (W.mg_of X G a5) (jdd (P:=l.prog) (w:=w) (base:=base) U5 F_is_name F_refuse_unless)
 have F_place_read:=FnD.mk' U6 b6 (W.mg_of X G a6) (jbN (P:=l.prog) (w:=w) (base:=base) U6 B F_is_number F_more_cut F_name_read)
 have F_named_term:=FnD.mk' U7 b7 (W.mg_of X G a7) (jdc (P:=l.prog) (w:=w) (base:=base) U7 F_refuse_unless F_name_read F_place_read)
 have F_alone_read:=FnD.mk' U8 b8 (W.mg_of X G a8) (jb0 (P:=l.prog) (w:=w) (base:=base) U8 F_named_term)
 have F_term_read:=FnD.mk' U9 b9 (W.mg_of X G a9) (jc7 (P:=l.prog) (w:=w) (base:=base) U9 B F_is_number F_more_cut F_named_term)
 have F_bound_read:=FnD.mk' U10 b10 (W.mg_of X G a10) (jbY (P:=l.prog) (w:=w) (base:=base) U10 B F_is_number F_more_cut F_name_read)
 have F_reach_read:=FnD.mk' U11 b11 (W.mg_of X G a11) (jdb (P:=l.prog) (w:=w) (base:=base) U11 F_name_read F_place_read)
 have F_rise_read:=FnD.mk' U12 b12 (W.mg_of X G a12) (jda (P:=l.prog) (w:=w) (base:=base) U12 F_reach_read)
 have F_each_read:=FnD.mk' U13 b13 (W.mg_of X G a13) (jde (P:=l.prog) (w:=w) (base:=base) U13 F_reach_read F_bound_read)
 have F_least_read:=FnD.mk' U14 b14 (W.mg_of X G a14) (jbQ (P:=l.prog) (w:=w) (base:=base) U14 F_term_read F_alone_read)
 have F_claim_read:=FnD.mk' U15 b15 (W.mg_of X G a15) (jbV (P:=l.prog) (w:=w) (base:=base) U15 F_each_read F_rise_read F_least_read)
 have F_read_claim:=FnD.mk' U16 b16 (W.mg_of X G a16) (jeq (P:=l.prog) (w:=w) (base:=base) U16 F_claim_read)
 have F_with_more:=Fn.mk' U17 b17 (W.mg_of X G a17) (jet (P:=l.prog) (w:=w) (base:=base) U17 B)
 have F_place_text:=Fn.mk' U18 b18 (W.mg_of X G a18) (jbM (P:=l.prog) (w:=w) (base:=base) U18 F_with_more)
 have F_alone_text:=Fn.mk' U19 b19 (W.mg_of X G a19) (jbZ (P:=l.prog) (w:=w) (base:=base) U19 F_place_text)
 have F_term_text:=Fn.mk' U20 b20 (W.mg_of X G a20) (jc6 (P:=l.prog) (w:=w) (base:=base) U20 F_with_more F_alone_text)
 have F_bound_text:=Fn.mk' U21 b21 (W.mg_of X G a21) (jbX (P:=l.prog) (w:=w) (base:=base) U21 F_with_more)
 have F_textP:=Fn.mk' U22 b22 (W.mg_of X G a22) (jbU (P:=l.prog) (w:=w) (base:=base) U22 F_place_text F_alone_text F_term_text F_bound_text)
 have F_deal:=Fn.mk' U23 b23 (W.mg_of X G a23) (jex (P:=l.prog) (w:=w) (base:=base) U23 B)
 have F_draw:=Fn.mk' U24 b24 (W.mg_of X G a24) (jew (P:=l.prog) (w:=w) (base:=base) U24)
 have F_many:=Fn.mk' U25 b25 (W.mg_of X G a25) (jeu (P:=l.prog) (w:=w) (base:=base) U25 B)
 have F_taken:=Fn.mk' U26 b26 (W.mg_of X G a26) (jc9 (P:=l.prog) (w:=w) (base:=base) U26)
 have F_name:=Fn.mk' U27 b27 (W.mg_of X G a27) (jes (P:=l.prog) (w:=w) (base:=base) U27 B F_draw)
 have F_number:=Fn.mk' U28 b28 (W.mg_of X G a28) (jbP (P:=l.prog) (w:=w) (base:=base) U28 F_draw)
 have F_place:=Fn.mk' U29 b29 (W.mg_of X G a29) (jbO (P:=l.prog) (w:=w) (base:=base) U29 B F_draw F_number)
 have F_term:=Fn.mk' U30 b30 (W.mg_of X G a30) (jc8 (P:=l.prog) (w:=w) (base:=base) U30 B F_draw F_place)
 have F_least:=Fn.mk' U31 b31 (W.mg_of X G a31) (jbR (P:=l.prog) (w:=w) (base:=base) U31 F_term F_number)
 have F_claim:=Fn.mk' U32 b32 (W.mg_of X G a32) (jbW (P:=l.prog) (w:=w) (base:=base) U32 B F_draw F_number F_place F_term F_least)
 have F_alike:=Zi (P:=l.prog) (w:=w) (base:=base) U33 b33 (W.mg_of X G a33) B 5
 have F_refused:=Fn.mk' U34 b34 (W.mg_of X G a34) (ZS (P:=l.prog) (w:=w) (base:=base) U34 Z F_read_claim F_alike)
 have F_none:=Fn.mk' U35 b35 (W.mg_of X G a35) (jer (P:=l.prog) (w:=w) (base:=base) U35 B)
 have F_more:=Fn.mk' U36 b36 (W.mg_of X G a36) (jgO (P:=l.prog) (w:=w) (base:=base) U36 B)
 have F_place_text:=Fn.mk' U37 b37 (W.mg_of X G a37) (jbL (P:=l.prog) (w:=w) (base:=base) U37 B F_more)
 have F_term_text:=Fn.mk' U38 b38 (W.mg_of X G a38) (jc5 (P:=l.prog) (w:=w) (base:=base) U38 F_more F_place_text)
 have F_claim_text:=Fn.mk' U39 b39 (W.mg_of X G a39) (jbT (P:=l.prog) (w:=w) (base:=base) U39 F_place_text F_term_text)
 exact jfZ U40 B F_many F_taken F_deal F_name F_draw F_claim F_claim_text F_textP F_read_claim F_alike F_refused F_none
theorem walk {l:PySem.W.OpenLaw} {q:Program} {loose:List Str} {XP:(Str→Option Value)→Heap→Prop} {YP:World→Heap→Prop} {d:DefRec} {K:Params→W.Frag} (hn:l.most=some 63) (hdf:d.params.defaults=[])
  (hY:∀ (w:World) (h:Heap),YP w h→(K w.params).In h)
  (F:∀ (w:World) (mg:Str→Option Value) (fa:Addr) (h:Heap),(K w.params).In h→h.Ns mainGlobals mg→mg d.name=some (.ref fa)→
   ∃ fd:FuncData,(∀ (s:Shared) (u:Value),BindsTo s fd ⟨[u],[]⟩ [("_law_script",u)])∧∀ base:Heap,(K w.params).In base→base.Ns mainGlobals mg→FnOk l.prog w (K w.params) mg base CX0 12 fa fd ["_law_script"] (jaD (K w.params))) :
  PySem.W.WalkO q loose XP YP l.row.toRowW d [] (fun f vs=>PySem.call f vs):=
 L2.walk_of (n:=63) (k:=12) (x:="_law_script") (CX:=fun _=>CX0) (sp:=fun w=>jaD (K w.params)) hn (by decide) hdf ⟨rfl,by decide,by decide,rfl⟩ hY F (fun _ _ a ns hl _ hS=>⟨a,ns,rfl,hS,hl,fun _=>rfl⟩) fun _ _ _ _ _ z=>z
end LW
namespace PySem.W.Fast
def tw10196438151624473600:=()
def tw10592352614250658155:=()
def tw10607246981744662618:=()
def tw10640244987202062670:=()
def tw10697523523801871143:=()
def tw10737699625194318085:=()
def tw10846557406989804:=()
def tw11114178947856976633:=()
def tw11178906495116316213:=()
def tw11222910251951429218:=()
def tw11458284085881136643:=()
def tw11511610950181863028:=()
def tw11693226533332869759:=()
def tw11700830899734710750:=()
def tw11754018462734610238:=()
def tw11969442496688004912:=()
def tw12148231892734881060:=()
def tw12254642053450307139:=()
def tw12333716672899810476:=()
def tw12371253918836050696:=()
def tw12590930940750152538:=()
def tw12601062312178226519:=()
def tw12791911197662578277:=()
def tw12825712875817798508:=()
def tw12909727314626215929:=()
def tw12983168074572248042:=()
def tw13040915763513224099:=()
def tw13089818264657243621:=()
def tw13184229824205622581:=()
def tw13190080770881364563:=()
def tw13448430061392422300:=()
def tw13519919701110167461:=()
def tw13646721231866302588:=()
def tw13792121632172316388:=()
def tw13932041676534823674:=()
def tw1415041368620580782:=()
def tw1421393301102436318:=()
def tw14684903901769575911:=()
def tw14696929821770753030:=()
def tw1470656976493967213:=()
def tw14783383109658857547:=()
def tw14955041175664988924:=()
def tw14978405443923208585:=()
def tw15020924407412785956:=()
def tw15021341151897105280:=()
def tw15073605745568919920:=()
def tw15242441202264681011:=()
def tw15487427536374199065:=()
def tw15803455758430444699:=()
def tw15825122443193282258:=()
def tw15935445126862498611:=()
def tw16144052104856152036:=()
def tw16195524815446489455:=()
def tw16324463113772950733:=()
def tw16576060910933396909:=()
def tw1673602796797456024:=()
def tw17150888524083948793:=()
def tw17268549109408477738:=()
def tw17639432165190622230:=()
def tw17694506379645861824:=()
def tw1789709805460794149:=()
def tw18062265611809042860:=()
def tw1808865312013671486:=()
def tw18117901120049537691:=()
def tw18144201479912535276:=()
def tw18419382102266145773:=()
def tw2070639699890822129:=()
def tw2435714231137881091:=()
def tw2512779025541780884:=()
def tw2613729524625115335:=()
def tw2646431526636515325:=()
def tw2804860777821060272:=()
def tw2930051519048030332:=()
def tw3309815833400977038:=()
def tw3377389176066147668:=()
def tw3784474590296243674:=()
def tw4061807778937514670:=()
def tw4069497405175591268:=()
def tw413388752896715978:=()
def tw4220930453736498159:=()
def tw4233793512500153237:=()
def tw43064735933029082:=()
def tw4504684279821555813:=()
def tw4703150031403584752:=()
def tw4865977752719421245:=()
def tw521372890887592694:=()
def tw5330336214351993578:=()
def tw5349732619994640613:=()
def tw5529988254444963334:=()
def tw5548344804205307223:=()
def tw5672985899540437337:=()
def tw5946180476305394563:=()
def tw5971834630375549241:=()
def tw643241311994088832:=()
def tw647703201511307875:=()
def tw6529490853856239501:=()
def tw6563291223770106183:=()
def tw6749311327518957482:=()
def tw696673573440369276:=()
def tw7059216454547883460:=()
def tw707320385833652484:=()
def tw7189550684344548042:=()
def tw7275515191122431134:=()
def tw7371450250172348787:=()
def tw7556671489527849481:=()
def tw7778640281503031830:=()
def tw7939318148432514965:=()
def tw8180661583725977140:=()
def tw823046703677593579:=()
def tw823484306370512720:=()
def tw8275378012564533657:=()
def tw8398309138657517233:=()
def tw8491175244655896739:=()
def tw85739454037812932:=()
def tw8663259201820702853:=()
def tw8762830994282152403:=()
def tw8933898195830947082:=()
def tw9086683781225343860:=()
def tw9938128639514861991:=()
end PySem.W.Fast
open PySem PySem.W PyProof.Rows
set_option maxRecDepth 100000 in
set_option maxHeartbeats 0 in
theorem PySem.Challenge.cw_outlineward_k23_claims_written_and_read_holds : PySem.Challenge.rw_outlineward_k23_claims_written_and_read.Holds := by
 w_on;o_law;k_head;(case hw=>w_witness2)
 k_fill
 refine LW.walk (l:=PySem.Challenge.rw_outlineward_k23_claims_written_and_read) rfl rfl (fun w h Y=>W.kIn_of Y) ?F
 case F=>
  intro w mg fa h KX G hmg
  refine' LW.all_mk KX G hmg ?_ ?_ ?_ ?_ ?_ ?_ ?_ ?_ ?_ ?_ ?_ ?_ ?_ ?_ ?_ ?_ ?_ ?_ ?_ ?_ ?_ ?_ ?_ ?_ ?_ ?_ ?_ ?_ ?_ ?_ ?_ ?_ ?_ ?_ ?_ ?_ ?_ ?_ ?_ ?_ ?_ ?_ ?_ ?_ ?_ ?_ ?_ ?_ ?_ ?_ ?_ ?_ ?_ ?_ ?_ ?_ ?_ ?_ ?_ ?_ ?_ ?_ ?_ ?_ ?_ ?_ ?_ ?_ ?_ ?_ ?_ ?_ ?_ ?_ ?_ ?_ ?_ ?_ ?_ ?_ ?_ ?_ ?_ ?_ ?_ ?_ ?_ ?_ ?_ ?_ ?_ ?_ ?_ ?_ ?_ ?_ ?_ ?_ ?_ ?_ ?_ ?_ ?_ ?_ ?_ ?_ ?_ ?_ ?_ ?_ ?_ ?_ ?_ ?_ ?_ ?_ ?_ ?_ ?_ ?_ ?_ ?_ ?_ ?_ ?_ ?_ ?_ ?_ ?_ ?_ ?_ ?_ ?_ ?_ ?_ ?_ ?_ ?_ ?_ ?_ ?_ ?_ ?_ ?_ ?_ ?_ ?_ ?_ ?_ ?_ ?_ ?_ ?_ ?_ ?_ ?_ ?_ ?_ ?_ ?_ ?_ ?_ ?_ ?_ ?_ ?_ ?_ ?_ ?_ ?_ ?_ ?_ ?_ ?_ ?_ ?_ ?_ ?_ ?_ ?_ ?_ ?_ ?_ ?_ ?_ ?_ ?_ ?_ ?_ ?_ ?_ ?_ ?_ ?_ ?_ ?_ ?_ ?_ ?_ ?_ ?_ ?_ ?_
  all_goals try ((try unfold LW.LkF);first | k_is | kit_is | (unfold L2.valB;k_exc) | rfl | kernel_rfl)
