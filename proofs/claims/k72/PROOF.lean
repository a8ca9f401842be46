import PyProof.Rows.All
import Wide.All
import OpenK.AllK
import Wide.FinOn
import Lean
import PyProof.EqAt
import PyProof.EqKinds
import PyProof.TupleCall
import PyProof.NeKinds
import KE.KEqDict
import KE.KDictSum
import PyProof.Rows.StrMul
import PyProof.Rows.SortStr
import PyProof.Rows.SortWalk
import KE.KSortTup
import PyProof.IsiH_list
import KE.KDictOf
import KE.KItemsList
import PyProof.SetKind
import PyProof.Rows.SetFrom
import PyProof.IsRules
import PyProof.EnumStmt
import PyProof.EnumFor
import PyProof.EnumMake
import PyProof.Rows.StrJoin2
import KE.KDictList
import PyProof.StrLawsJoin
import PyProof.ZipIter
import PyProof.DictCompW
import PyProof.DictUpdate
import PyProof.Rows.SortShellK
import PyProof.TupleKey
import KE.KRevIter
import PySem.Challenge.RW_outlineward_k72_loops_that_look
set_option Elab.async false
set_option linter.all false
set_option maxRecDepth 100000
set_option maxHeartbeats 4000000
namespace L2
open PySem PySem.Spec PyProof.Rows
abbrev Key:=Sum Int Str
def YR:Key→Value→Bool
 | .inl k,v=>Value.isInt k v
 | .inr x,v=>Value.isStrOf x v
def jiq (w:World):Key→Int
 | .inl k=>hashInt k
 | .inr x=>hashStr w x
theorem kK:∀ {k:Key} {v:Value},YR k v=true→(∃ i t,k=Sum.inl i∧v=Value.int i t)∨(∃ x t,k=Sum.inr x∧v=Value.str x t)
 | .inl i,v,h=>by
  obtain ⟨t,e⟩:=Value.isInt_shape (k:=i) (v:=v) h
  exact .inl ⟨i,t,rfl,e⟩
 | .inr x,v,h=>by
  obtain ⟨t,e⟩:=Value.isStrOf_shape (x:=x) (v:=v) h
  exact .inr ⟨x,t,rfl,e⟩
theorem jc6 (i:Int) (t:Tok):YR (.inl i) (.int i t)=true:=by simp [YR,Value.isInt]
theorem jc5 (x:Str) (t:Tok):YR (.inr x) (.str x t)=true:=by simp [YR,Value.isStrOf]
theorem jhc (a b:Int):decide ((Sum.inl a:Key)=Sum.inl b)=(a == b):=by
 by_cases e:a=b
 ·subst e;simp
 ·have h:¬ (Sum.inl a:Key)=Sum.inl b:=fun q=>e (Sum.inl.inj q)
  rw [decide_eq_false h]
  exact (beq_eq_false_iff_ne.mpr e).symm
theorem jg9 (a b:Str):decide ((Sum.inr a:Key)=Sum.inr b)=decide (a=b):=by
 by_cases e:a=b
 ·subst e;simp
 ·have h:¬ (Sum.inr a:Key)=Sum.inr b:=fun q=>e (Sum.inr.inj q)
  rw [decide_eq_false h,decide_eq_false e]
theorem jhb (a:Int) (b:Str):decide ((Sum.inl a:Key)=Sum.inr b)=false:=decide_eq_false (fun q=>nomatch q)
theorem jha (a:Str) (b:Int):decide ((Sum.inr a:Key)=Sum.inl b)=false:=decide_eq_false (fun q=>nomatch q)
def ko (prog:Program) (w:World):PySem.KeyKind prog w Key where
 is:=YR
 hash:=jiq w
 inj:=fun v a b ha hb=>by
  rcases kK ha with ⟨i,t,rfl,rfl⟩ | ⟨x,t,rfl,rfl⟩
  ·rcases kK hb with ⟨j,u,rfl,e⟩ | ⟨y,u,rfl,e⟩
   ·injection e with e1 _;rw [e1]
   ·exact nomatch e
  ·rcases kK hb with ⟨j,u,rfl,e⟩ | ⟨y,u,rfl,e⟩
   ·exact nomatch e
   ·injection e with e1 _;rw [e1]
 byValue:=fun k v h=>by
  rcases kK h with ⟨i,t,rfl,rfl⟩ | ⟨x,t,rfl,rfl⟩ <;> rfl
 pyHash:=fun hv h=>by
  rcases kK hv with ⟨i,t,rfl,rfl⟩ | ⟨x,t,rfl,rfl⟩
  ·exact wpAny_pyHash_int h
  ·exact wpAny_pyHash_str h
 eqBool:=fun hu hv h=>by
  rcases kK hu with ⟨i,t,rfl,rfl⟩ | ⟨x,t,rfl,rfl⟩
  ·rcases kK hv with ⟨j,u,rfl,rfl⟩ | ⟨y,u,rfl,rfl⟩
   ·rw [jhc] at h;exact wpAny_eqBool_int h
   ·rw [jhb] at h;exact SeqAt.EqAt.int_str i t y u _ _ _ _ h
  ·rcases kK hv with ⟨j,u,rfl,rfl⟩ | ⟨y,u,rfl,rfl⟩
   ·rw [jha] at h;exact SeqAt.EqAt.str_int x t j u _ _ _ _ h
   ·rw [jg9] at h;exact wpAny_eqBool_str h
 «strs»:=fun k x t v h=>by
  rcases kK h with ⟨i,u,rfl,e⟩ | ⟨y,u,rfl,e⟩
  ·exact nomatch e
  ·injection e with e1 _
   subst e1
   cases v <;> rfl
theorem jaA (prog:Program) (w:World) (i:Int) (t:Tok):(ko prog w).is (.inl i) (.int i t)=true:=jc6 i t
theorem jaz (prog:Program) (w:World) (x:Str) (t:Tok):(ko prog w).is (.inr x) (.str x t)=true:=jc5 x t
inductive V where
 | non | bl (b:Bool) | int (i:Int) | str (x:Str) | byt (b:Array UInt8) | flt (b:UInt64) | ref (a:Addr) | ty (n:String)
 deriving DecidableEq
def RelV:V→Value→Prop
 | .non,u=>u=Value.none
 | .bl b,u=>u=Value.bool b
 | .int i,u=>∃ t,u=Value.int i t
 | .str x,u=>∃ t,u=Value.str x t
 | .byt b,u=>∃ t,u=Value.bytes b t
 | .flt b,u=>∃ t,u=Value.float b t
 | .ref a,u=>u=Value.ref a
 | .ty n,u=>u=Value.type n
abbrev Vals:List V→List Value→Prop:=Paired RelV
theorem Vals.length {xs:List V} {us:List Value} (r:Vals xs us):xs.length=us.length:=Paired.length r
theorem Vals.get:∀ {xs:List V} {us:List Value} {i:Nat} {x:V},Vals xs us→xs[i]?=some x→∃ u,us[i]?=some u∧RelV x u
 | _,_,_,_,.nil,e=>by simp at e
 | _,_,0,_,.cons r _,e=>by simp at e;subst e;exact ⟨_,rfl,r⟩
 | _,_,i+1,x,.cons _ t,e=>by
  obtain ⟨u,h1,h2⟩:=Vals.get (i:=i) (x:=x) t (by simpa using e)
  exact ⟨u,by simpa using h1,h2⟩
theorem Vals.set {x:V} {u:Value} (r:RelV x u):∀ {xs:List V} {us:List Value} (i:Nat),Vals xs us→Vals (xs.set i x) (us.set i u)
 | _,_,_,.nil=>.nil
 | _,_,0,.cons _ t=>.cons r t
 | _,_,i+1,.cons q t=>.cons q (Vals.set r i t)
theorem Vals.append:∀ {xs ys:List V} {us ws:List Value},Vals xs us→Vals ys ws→Vals (xs++ys) (us++ws)
 | _,_,_,_,.nil,s=>s
 | _,_,_,_,.cons r t,s=>.cons r (Vals.append t s)
theorem Vals.take:∀ {xs:List V} {us:List Value} (n:Nat),Vals xs us→Vals (xs.take n) (us.take n)
 | _,_,0,_=>.nil
 | _,_,_+1,.nil=>.nil
 | _,_,n+1,.cons r t=>.cons r (Vals.take n t)
theorem Vals.drop:∀ {xs:List V} {us:List Value} (n:Nat),Vals xs us→Vals (xs.drop n) (us.drop n)
 | _,_,0,r=>r
 | _,_,_+1,.nil=>.nil
 | _,_,n+1,.cons _ t=>Vals.drop n t
def RelO:Option V→Option Value→Prop
 | some v,some u=>RelV v u
 | none,none=>True
 | _,_=>False
def KV {κ:Type}:List (κ×V)→List (κ×Value)→Prop:=Paired fun (p:κ×V) (q:κ×Value)=>p.1=q.1∧RelV p.2 q.2
def kV:Key→V
 | .inl i=>.int i
 | .inr x=>.str x
inductive HO where
 | lst (xs:List V)
 | tup (xs:List V)
 | dK (kvs:List (Key×V)) | dT (kvs:List (List Key×V))
 | set (S:Int→Bool) (n:Nat)
 | ins (C dx:Addr) (fs:List (Str×V))
 | own (x:Addr)
 | xd (fs:List (Str×V))
 | met (f x:Addr)
 | rng (lo hi:Int)
 | frz (o:Obj) (u:HO)
 | tbl (ps:Array Value)
 | ext (φ:Heap→Prop)
abbrev Hp:=Addr→Option HO
def upd (H:Hp) (a:Addr) (o:HO):Hp:=fun b=>if b=a then some o else H b
theorem ja {H:Hp} {a:Addr} {o:HO}:upd H a o a=some o:=by unfold upd;rw [if_pos rfl]
theorem jg {H:Hp} {a b:Addr} {o:HO} (h:b≠a):upd H a o b=H b:=by unfold upd;rw [if_neg h]
theorem j4 {H:Hp} {a b:Addr} {o u:HO} (h:H a=some o) (h':H b=some u) (d:o≠u):a≠b:=by
 intro e;subst e;rw [h] at h';exact d (Option.some.inj h')
theorem jk {H:Hp} {a b:Addr} {o:HO} (h:H a=some o) (h':H b=none):a≠b:=by
 intro e;subst e;rw [h] at h';cases h'
section
variable (P:Program) (w:World)
def ObjOk (H:Hp) (h:Heap) (a:Addr):HO→Prop
 | .lst xs=>xs.length≤sizeLine∧∃ (its:List Value) (n:Nat),Vals xs its∧h.get? a=some { cls:=.type "list",data:=.seq its.toArray n }
 | .tup xs=>xs.length≤sizeLine∧∃ its:List Value,Vals xs its∧IsTup h a its.toArray
 | .dK kvs=>kvs.length≤sizeLine∧(a == sysModules)=false∧∃ vs,KV kvs vs∧h.DictOf (ko P w) a vs
 | .dT kvs=>kvs.length≤sizeLine∧(a == sysModules)=false∧∃ xs:List (List Key×Addr×Value),
   Paired (fun (p:List Key×V) (q:List Key×Addr×Value)=>p.1=q.1∧H q.2.1=some (.tup (p.1.map kV))∧RelV p.2 q.2.2) kvs xs∧
   ∃ o es ep,h.get? a=some o∧o.ExactDict∧o.data=.dict es ep∧es.toList=xs.map (entryOfKey (tupleKind (ko P w)))∧(xs.map (·.1)).Nodup
 | .set S n=>h.SetOf (intKind P w) a S n
 | .ins C dx fs=>H dx=some (.own a)∧fs.length≤1000∧dx≠a∧h.get? a=some (PySem.W.instObj C dx)∧
   ∃ mA,h.Ns1 dx mA∧(∀ f,RelO (fs.lookup f) (mA f))∧PySem.Within mA (fs.map (·.1))
 | .own _=>∃ o,h.get? a=some o
 | .xd fs=>∃ mA,h.Ns1 a mA∧∀ f,RelO (fs.lookup f) (mA f)
 | .rng lo hi=>∃ t u v,h.get? a=some { cls:=.type "range",data:=.fields #[.int lo t,.int hi u,.int 1 v] }
 | .frz o u=>h.get? a=some o∧ObjOk H h a u
 | .tbl ps=>h.get? a=some { cls:=.none,data:=.fields ps }
 | .met f x=>h.get? a=some (PySem.W.methodObj (.ref f) (.ref x))
 | .ext φ=>φ h∧(∃ o,h.get? a=some o)∧∀ h1 h2:Heap,φ h1→(∀ o,h1.get? a=some o→h2.get? a=some o)→φ h2
def HOk (H:Hp) (h:Heap):Prop:=∀ a o,H a=some o→ObjOk P w H h a o
end
section
variable {P:Program} {w:World} {H H':Hp} {h h':Heap} {a:Addr} {o:HO}
theorem ObjOk.lt (x:ObjOk P w H h a o):a < h.objs.size:=by
 cases o with
 | lst xs=>obtain ⟨_,_,_,_,e⟩:=x;exact Heap.lt_size e
 | tup xs=>obtain ⟨_,_,_,p⟩:=x;exact p.lt
 | dK kvs=>obtain ⟨_,_,_,_,o,_,_,e,_⟩:=x;exact Heap.lt_size e
 | dT kvs=>obtain ⟨_,_,_,_,o,_,_,e,_⟩:=x;exact Heap.lt_size e
 | set S n=>obtain ⟨o,_,_,_,e,_⟩:=x;exact Heap.lt_size e
 | ins C dx fs=>obtain ⟨_,_,_,e,_⟩:=x;exact Heap.lt_size e
 | own y=>obtain ⟨_,e⟩:=x;exact Heap.lt_size e
 | xd fs=>obtain ⟨_,⟨_,_,_,e,_⟩,_⟩:=x;exact Heap.lt_size e
 | rng lo hi=>obtain ⟨_,_,_,e⟩:=x;exact Heap.lt_size e
 | frz ob u=>obtain ⟨e,_⟩:=x;exact Heap.lt_size e
 | tbl ps=>exact Heap.lt_size (show h.get? a=some _ from x)
 | met f y=>exact Heap.lt_size (show h.get? a=some _ from x)
 | ext φ=>obtain ⟨_,⟨_,e⟩,_⟩:=x;exact Heap.lt_size e
theorem Paired.mapP {α β:Type} {F G:α→β→Prop}:∀ {l₁:List α} {l₂:List β},Paired F l₁ l₂→(∀ a b,F a b→G a b)→Paired G l₁ l₂
 | _,_,.nil,_=>.nil
 | _,_,.cons r t,f=>.cons (f _ _ r) (Paired.mapP t f)
theorem ObjOk.stay (x:ObjOk P w H h a o) (k:∀ b u,(b=a∨H b=some (.own a))→h.get? b=some u→h'.get? b=some u)
  (ho:∀ b,H b=some (.own a)→H' b=some (.own a)) (ht:∀ b xs,H b=some (.tup xs)→H' b=some (.tup xs)):ObjOk P w H' h' a o:=by
 induction o with
 | lst xs=>obtain ⟨z,its,n,r,e⟩:=x;exact ⟨z,its,n,r,k _ _ (.inl rfl) e⟩
 | tup xs=>obtain ⟨z,its,r,ob,e,c⟩:=x;exact ⟨z,its,r,ob,k _ _ (.inl rfl) e,c⟩
 | dK kvs=>obtain ⟨z,y,vs,r,ob,es,ep,e,c⟩:=x;exact ⟨z,y,vs,r,ob,es,ep,k _ _ (.inl rfl) e,c⟩
 | dT kvs=>
  obtain ⟨z,y,xs,r,ob,es,ep,e,c⟩:=x
  exact ⟨z,y,xs,Paired.mapP r fun p q z=>⟨z.1,ht _ _ z.2.1,z.2.2⟩,ob,es,ep,k _ _ (.inl rfl) e,c⟩
 | set S n=>obtain ⟨ob,es,ep,t,e,c⟩:=x;exact ⟨ob,es,ep,t,k _ _ (.inl rfl) e,c⟩
 | ins C dx fs=>
  obtain ⟨d,z,ne,e,mA,⟨od,es,ep,e2,c⟩,r⟩:=x
  exact ⟨ho _ d,z,ne,k _ _ (.inl rfl) e,mA,⟨od,es,ep,k _ _ (.inr d) e2,c⟩,r⟩
 | own y=>obtain ⟨ob,e⟩:=x;exact ⟨ob,k _ _ (.inl rfl) e⟩
 | xd fs=>obtain ⟨mA,⟨od,es,ep,e,c⟩,r⟩:=x;exact ⟨mA,⟨od,es,ep,k _ _ (.inl rfl) e,c⟩,r⟩
 | rng lo hi=>obtain ⟨t,u,v,e⟩:=x;exact ⟨t,u,v,k _ _ (.inl rfl) e⟩
 | frz ob u ih=>obtain ⟨e,q⟩:=x;exact ⟨k _ _ (.inl rfl) e,ih q⟩
 | tbl ps=>
  have e:h.get? a=some { cls:=.none,data:=.fields ps }:=x
  show h'.get? a=some { cls:=.none,data:=.fields ps }
  exact k a _ (.inl rfl) e
 | met f y=>
  have e:h.get? a=some (PySem.W.methodObj (.ref f) (.ref y)):=x
  show h'.get? a=some (PySem.W.methodObj (.ref f) (.ref y))
  exact k a _ (.inl rfl) e
 | ext φ=>obtain ⟨p,⟨o,e⟩,st⟩:=x;exact ⟨st _ _ p fun o q=>k _ _ (.inl rfl) q,⟨o,k _ _ (.inl rfl) e⟩,st⟩
theorem HOk.lt (x:HOk P w H h) (e:H a=some o):a < h.objs.size:=(x a o e).lt
theorem HOk.fresh (x:HOk P w H h) (e:h.objs.size≤a):H a=none:=by
 cases q:H a with
 | none=>rfl
 | some u=>exact absurd (Nat.lt_of_lt_of_le (x.lt q) e) (Nat.lt_irrefl _)
theorem HOk.kept (x:HOk P w H h) (k:∀ b u,h.get? b=some u→h'.get? b=some u):HOk P w H h':=fun a o e=>
 (x a o e).stay (fun b u _ q=>k b u q) (fun _ q=>q) fun _ _ q=>q
theorem HOk.laid (x:HOk P w H h) (k:∀ b u,h.get? b=some u→h'.get? b=some u) (hp:h.objs.size≤a) (new:ObjOk P w (upd H a o) h' a o):HOk P w (upd H a o) h':=fun b u e=>by
 have hn:=x.fresh hp
 by_cases hb:b=a
 ·subst hb;rw [ja] at e;cases e;exact new
 ·rw [jg hb] at e
  exact (x b u e).stay (fun c v _ q=>k c v q) (fun c q=>by rw [jg (jk q hn)];exact q) fun c xs q=>by rw [jg (jk q hn)];exact q
end
def Rd (H:Hp) (a:Addr) (u:HO):Prop:=H a=some u∨∃ o,H a=some (.frz o u)
theorem Rd.ok {P:Program} {w:World} {H:Hp} {h:Heap} {a:Addr} {u:HO} (r:Rd H a u) (x:HOk P w H h):ObjOk P w H h a u:=by
 rcases r with r | ⟨o,r⟩
 ·exact x a u r
 ·obtain ⟨_,q⟩:=x a _ r
  exact q
def Mut:Option HO→Prop
 | some (.lst _)=>True
 | some (.dK _)=>True
 | some (.dT _)=>True
 | some (.set _ _)=>True
 | some (.ins _ _ _)=>True
 | some (.ext _)=>True
 | _=>False
section
variable {P:Program} {w:World} {H:Hp} {h h':Heap} {x e:Addr} {o':HO}
theorem HOk.write (ok:HOk P w H h) (mu:Mut (H x)) (he:e=x∨H e=some (.own x)) (k:∀ b u,b≠e→h.get? b=some u→h'.get? b=some u) (heo:∃ u,h'.get? e=some u)
  (new:ObjOk P w (upd H x o') h' x o'):HOk P w (upd H x o') h':=fun b u q=>by
 have nown:∀ c y,H c=some (.own y)→c≠x:=fun c y r z=>by subst z;rw [r] at mu;exact mu
 have ntup:∀ c xs,H c=some (.tup xs)→c≠x:=fun c xs r z=>by subst z;rw [r] at mu;exact mu
 by_cases hb:b=x
 ·subst hb;rw [ja] at q;cases q;exact new
 ·rw [jg hb] at q
  by_cases hbe:b=e
  ·have q':H b=some (.own x):=by
    rcases he with z | z
    ·exact absurd (hbe.trans z) hb
    ·rw [hbe];exact z
   rw [q] at q';cases q'
   obtain ⟨v,hv⟩:=heo
   exact ⟨v,by rw [hbe];exact hv⟩
  ·refine (ok b u q).stay (fun c v hc r=>k c v ?_ r) (fun c r=>by rw [jg (nown c b r)];exact r) fun c xs r=>by rw [jg (ntup c xs r)];exact r
   rcases hc with rfl | hc
   ·exact hbe
   ·rintro rfl
    rcases he with z | z
    ·exact nown c b hc z
    ·rw [hc] at z;cases z;exact hb rfl
end
structure Un (fs ex:List Addr) (H H':Hp) (h h':Heap):Prop where
 keep:∀ b o,h.get? b=some o→H b=none→b ∉ fs→b ∉ ex→h'.get? b=some o
 slot:∀ b o,h.get? b=some o→H b=none→b∈fs→b ∉ ex→∃ sl,h'.get? b=some { o with slots:=sl }
 free:∀ b o,h.get? b=some o→H b=none→b ∉ ex→H' b=none
 there:∀ b o,h.get? b=some o→b ∉ ex→∃ o',h'.get? b=some o'
 tups:∀ b xs,H b=some (.tup xs)→H' b=some (.tup xs)
 frzs:∀ b o u,H b=some (.frz o u)→H' b=some (.frz o u)
 tbls:∀ b ps,H b=some (.tbl ps)→∃ more,H' b=some (.tbl (ps++more))
section
variable {fs fs' ex ex':List Addr} {H H1 H2:Hp} {h h1 h2 h':Heap} {a x e:Addr} {o:HO}
theorem Un.any (u:Un fs ex H H1 h h1) {b:Addr} {ob:Obj} (q:h.get? b=some ob) (n:H b=none) (hx:b ∉ ex):∃ sl,h1.get? b=some { ob with slots:=sl }:=by
 by_cases hb:b∈fs
 ·exact u.slot b ob q n hb hx
 ·exact ⟨ob.slots,u.keep b ob q n hb hx⟩
theorem Un.kept (k:∀ b u,h.get? b=some u→h'.get? b=some u):Un fs ex H H h h':=
 ⟨fun b ob q _ _ _=>k b ob q,fun b ob q _ _ _=>⟨ob.slots,k b ob q⟩,fun _ _ _ n _=>n,fun b ob q _=>⟨ob,k b ob q⟩,fun _ _ q=>q,fun _ _ _ q=>q,fun _ ps q=>⟨#[],by rw [q];simp⟩⟩
theorem Un.refl:Un fs ex H H h h:=Un.kept fun _ _ q=>q
theorem Un.laid (k:∀ b u,h.get? b=some u→h'.get? b=some u) (hp:h.objs.size≤a) (hn:H a=none):Un fs ex H (upd H a o) h h' where
 keep:=fun b u q _ _ _=>k b u q
 slot:=fun b u q _ _ _=>⟨u.slots,k b u q⟩
 free:=fun b u q n _=>by rw [jg (Nat.ne_of_lt (Nat.lt_of_lt_of_le (Heap.lt_size q) hp))];exact n
 there:=fun b u q _=>⟨u,k b u q⟩
 tups:=fun b xs q=>by rw [jg (jk q hn)];exact q
 frzs:=fun b u xs q=>by rw [jg (jk q hn)];exact q
 tbls:=fun b ps q=>⟨#[],by rw [jg (jk q hn),q];simp⟩
theorem Un.write (mu:Mut (H x)) (he:e=x∨H e=some (.own x)) (k:∀ b u,b≠e→h.get? b=some u→h'.get? b=some u) (heo:∃ u,h'.get? e=some u):Un fs ex H (upd H x o) h h':=by
 have hx:∀ b,H b=none→b≠x:=fun b n z=>by subst z;rw [n] at mu;exact mu
 have hb:∀ b,H b=none→b≠e:=fun b n z=>by
  subst z
  rcases he with r | r
  ·exact hx b n r
  ·rw [n] at r;cases r
 have hm:∀ b u,H b=some u→¬ Mut (some u)→b≠x:=fun b u q nm z=>by subst z;rw [q] at mu;exact nm mu
 refine ⟨fun b u q n _ _=>k b u (hb b n) q,fun b u q n _ _=>⟨u.slots,k b u (hb b n) q⟩,fun b u q n _=>by rw [jg (hx b n)];exact n,fun b u q _=>?_,
  fun b xs q=>by rw [jg (hm b _ q fun z=>z)];exact q,fun b u xs q=>by rw [jg (hm b _ q fun z=>z)];exact q,fun b ps q=>⟨#[],by rw [jg (hm b _ q fun z=>z),q];simp⟩⟩
 by_cases hbe:b=e
 ·subst hbe;exact heo
 ·exact ⟨u,k b u hbe q⟩
end
def trk (h:Heap) (H:Hp):List Addr:=(List.range h.objs.size).filter fun a=>(H a).isSome
def ZJ (h:Heap) (H:Hp):Heap:=PySem.W.hideAll h (trk h H)
theorem jda (h:Heap) (H:Hp):(ZJ h H).objs.size=h.objs.size:=PySem.W.hideAll_size _ _
theorem jeD {h:Heap} {H:Hp} {b:Addr} {o:Obj} (e:h.get? b=some o) (n:H b=none):(ZJ h H).get? b=some o:=
 PySem.W.hideAll_get _ e fun hm=>by
  have q:(H b).isSome=true:=(List.mem_filter.mp hm).2
  rw [n] at q;simp at q
theorem jfQ {h:Heap} {H:Hp} {b:Addr} {o:Obj} (e:(ZJ h H).get? b=some o):h.get? b=some o∧H b=none:=by
 have e':h.get? b=some o:=PySem.W.of_hideAll (trk h H) e
 refine ⟨e',?_⟩
 cases q:H b with
 | none=>rfl
 | some x=>
  have hm:b∈trk h H:=List.mem_filter.mpr ⟨List.mem_range.mpr (Heap.lt_size e'),by simp [q]⟩
  have z:(ZJ h H).get? b=none:=PySem.W.hideAll_none (trk h H) hm
  rw [z] at e;cases e
def jga (g h:Heap) (L:Addr):List (Addr×Obj):=(List.range h.objs.size).filterMap fun a=>if a=L∨(g.get? a).isSome=true then none else (h.get? a).map fun o=>(a,o)
def jE (g h:Heap) (L d:Addr):List (Addr×Obj):=(jga g h L).filter fun p=>decide (p.1≠d)
structure Mod (K:PySem.W.Frag) (mg:Str→Option Value) (base:Heap):Prop where
 kin:K.In base
 glob:base.Ns mainGlobals mg
 blt:∃ mb,base.Ns builtinsNs mb∧∀ x:Str,x≠"__name__"→mb x=bootBuiltins x
 nolimit:base.NoLimit
structure Cx where
 prog:Program
 w:World
 K:PySem.W.Frag
 mg:Str→Option Value
 base:Heap
 A:Around
 N:List Str
 s₀:Shared
 H₀:Hp
 env:Env
 outer:List Env
 stack:List Env
 ex:List Addr
 fn:Str→Bool
 calm:Bool
 pn:List (Addr×Obj)
 xe:Value→Shared→Prop
def frs (l:List Env):List Addr:=l.filterMap (·.frame)
abbrev Cx.fs (X:Cx):List Addr:=frs X.outer
def Vis (sc:Scope) (x:Str):Prop:=sc.names.lookup x=some .local∨sc.names.lookup x=some .cell∨sc.names.lookup x=some .free
def Loc (sc:Scope) (x:Str):Prop:=sc.names.lookup x=some .local∨sc.names.lookup x=some .cell
def jiu (env:Env) (h:Heap) (m:Str→Option Value) (x:Str) (u:Value):Prop:=
 (env.kindOf x=some .local∧m x=some u)∨((env.kindOf x=some .cell∨env.kindOf x=some .free)∧∃ c,env.cells.lookup x=some c∧h.IsCell c (some u))
structure Cx.Ok (X:Cx):Prop where
 mod:Mod X.K X.mg X.base
 kind:X.env.scope.kind=.function
 glob:X.env.globals=mainGlobals
 blt:X.env.builtins=builtinsNs
 above:X.s₀.heap.objs.size≤X.env.locals
 inj:∀ x y c,X.env.cells.lookup x=some c→X.env.cells.lookup y=some c→x=y
 has:∀ x,(X.env.kindOf x=some .cell∨X.env.kindOf x=some .free)→∃ c,X.env.cells.lookup x=some c
 cab:∀ x c,X.fn x=true→X.env.cells.lookup x=some c→X.s₀.heap.objs.size≤c
 hd:X.calm=true→X.A.handled=none
 frames:X.A.frames=some X.stack
 stk:X.stack=X.outer∨(X.stack=X.env :: X.outer∧X.env.frame=some X.env.locals)
 exf:∀ b∈X.ex,b≠X.env.locals∧∀ x c,X.env.cells.lookup x=some c→c≠b
 bs:∀ b o,X.base.get? b=some o→X.s₀.heap.get? b=some o∧X.H₀ b=none
 bsz:X.base.objs.size≤X.s₀.heap.objs.size
 noex:∀ b o,X.base.get? b=some o→b ∉ X.ex
 exfs:∀ b∈X.ex,b ∉ X.fs
 funs:X.s₀.heap.FunFrames X.base X.outer
 frf:∀ b∈X.fs,X.H₀ b=none
structure Inv (X:Cx) (pins:List (Addr×Obj)) (σ:List (Option V)) (H:Hp) (s:Shared):Prop where
 ok:X.Ok
 os:s.os=X.s₀.os
 bare:AllBare s.gens
 base:Un X.fs X.ex X.H₀ H X.s₀.heap s.heap
 loc:∃ m,s.heap.Ns X.env.locals m∧∀ (i:Nat) (x:Str) (v:V),X.N[i]?=some x→σ[i]?=some (some v)→Vis X.env.scope x→∃ u,RelV v u∧jiu X.env s.heap m x u
 cell:∀ x c,X.env.cells.lookup x=some c→∃ v,s.heap.IsCell c v
 free:H X.env.locals=none
 freeC:∀ x c,X.env.cells.lookup x=some c→H c=none
 pin:∀ p∈X.pn++pins,s.heap.get? p.1=some p.2∧H p.1=none∧p.1≠X.env.locals∧p.1 ∉ X.fs∧∀ v,p.2.data≠.cell v
 hok:HOk X.prog X.w H s.heap
 len:σ.length=X.N.length
section
variable {X:Cx} {pins:List (Addr×Obj)} {σ:List (Option V)} {H H':Hp} {s:Shared} {h':Heap}
theorem Cx.Ok.nofr (ok:X.Ok) {b:Addr} {o:Obj} (e:X.base.get? b=some o):b ∉ X.fs:=fun hb=>by
 have:=(ok.funs.mem hb).1
 rw [e] at this;cases this
theorem Inv.bs (I:Inv X pins σ H s):∀ b o,X.base.get? b=some o→s.heap.get? b=some o∧H b=none:=fun b o e=>
 ⟨I.base.keep b o (I.ok.bs b o e).1 (I.ok.bs b o e).2 (I.ok.nofr e) (I.ok.noex b o e),I.base.free b o (I.ok.bs b o e).1 (I.ok.bs b o e).2 (I.ok.noex b o e)⟩
theorem Inv.bk (I:Inv X pins σ H s):∀ b o,X.base.get? b=some o→s.heap.get? b=some o:=fun b o e=>(I.bs b o e).1
theorem Inv.mod (I:Inv X pins σ H s):Mod X.K X.mg X.base:=I.ok.mod
theorem Inv.kIn (I:Inv X pins σ H s):X.K.In s.heap:=I.ok.mod.kin.keeps I.bk
theorem Inv.nolimit (I:Inv X pins σ H s):s.heap.NoLimit:=I.ok.mod.nolimit.keeps I.bk
theorem Inv.fr (I:Inv X pins σ H s):∃ m,Fr X.base X.env.locals s.heap m:=
 let ⟨m,hn,_⟩:=I.loc
 ⟨m,hn,I.bk,Nat.le_trans I.ok.bsz I.ok.above⟩
theorem Inv.lt (I:Inv X pins σ H s):X.env.locals < s.heap.objs.size:=let ⟨_,hn,_⟩:=I.loc;hn.lt
theorem Inv.sz (I:Inv X pins σ H s):X.s₀.heap.objs.size≤s.heap.objs.size:=Nat.le_trans I.ok.above (Nat.le_of_lt I.lt)
theorem Inv.nofs (I:Inv X pins σ H s) {a:Addr} (h:s.heap.objs.size≤a):a ∉ X.fs:=fun hb=>by
 obtain ⟨_,o,ho,_⟩:=I.ok.funs.mem hb
 exact absurd (Nat.lt_of_lt_of_le (Heap.lt_size ho) (Nat.le_trans I.sz h)) (Nat.lt_irrefl _)
theorem Inv.cne (I:Inv X pins σ H s):∀ x c,X.env.cells.lookup x=some c→c≠X.env.locals:=fun x c e z=>by
 obtain ⟨v,o,ho,hd⟩:=I.cell x c e
 obtain ⟨m,⟨o',es,ep,ho',hd',_⟩,_⟩:=I.loc
 rw [z,ho'] at ho;cases ho;rw [hd'] at hd;cases hd
theorem Inv.funs (I:Inv X pins σ H s):s.heap.FunFrames X.base X.outer:=by
 have all:∀ (l:List Env),(∀ b∈frs l,b∈X.fs)→X.s₀.heap.FunFrames X.base l→s.heap.FunFrames X.base l:=by
  intro l
  induction l with
  | nil=>intro _ _;trivial
  | cons env r ih=>
   intro hs hl
   obtain ⟨hk,⟨L,o,hf,hn,ho,hd⟩,hr⟩:=hl
   have hL:L∈X.fs:=hs L (by unfold frs;rw [List.filterMap_cons,hf];exact List.mem_cons_self)
   obtain ⟨sl,e⟩:=I.base.slot L o ho (I.ok.frf L hL) hL fun z=>I.ok.exfs L z hL
   exact ⟨hk,⟨L,_,hf,hn,e,hd⟩,ih (fun b hb=>hs b (by unfold frs;rw [List.filterMap_cons,hf];exact List.mem_cons_of_mem _ hb)) hr⟩
 exact all X.outer (fun _ hb=>hb) I.ok.funs
theorem Inv.stack (I:Inv X pins σ H s):s.heap.FunFrames X.base X.stack:=by
 rcases I.ok.stk with e | ⟨e,hf⟩
 ·rw [e];exact I.funs
 ·rw [e]
  obtain ⟨m,hn,_⟩:=I.loc
  refine .cons (by rw [I.ok.kind];decide) hf hn ?_ I.funs
  exact Heap.get?_none_of_le (Nat.le_trans I.ok.bsz I.ok.above)
theorem Inv.stkSub (I:Inv X pins σ H s):∀ b∈frs X.stack,b∈X.env.locals :: X.fs:=fun b hb=>by
 rcases I.ok.stk with e | ⟨e,hf⟩
 ·rw [e] at hb;exact List.mem_cons_of_mem _ hb
 ·rw [e] at hb
  unfold frs at hb
  rw [List.filterMap_cons,hf] at hb
  exact hb
theorem Inv.stkFree (I:Inv X pins σ H s):∀ b∈frs X.stack,H b=none:=fun b hb=>by
 rcases List.mem_cons.mp (I.stkSub b hb) with e | hb
 ·rw [e];exact I.free
 ·obtain ⟨_,o,ho,_⟩:=I.ok.funs.mem hb
  exact I.base.free b o ho (I.ok.frf b hb) fun z=>I.ok.exfs b z hb
theorem Inv.step {g':Array GenState} {t':Nat} {d':Drawn} {ch:List Addr} (I:Inv X pins σ H s)
  (hch:∀ b∈ch,(b∈X.ex∨X.s₀.heap.objs.size≤b)∧b≠X.env.locals∧(∀ x c,X.env.cells.lookup x=some c→c≠b)∧∀ p∈X.pn++pins,p.1≠b)
  (keep:∀ b o,b≠X.env.locals→b ∉ X.fs→b ∉ ch→s.heap.get? b=some o→H b=none→h'.get? b=some o)
  (slot:∀ b o,b≠X.env.locals→b∈X.fs→b ∉ ch→s.heap.get? b=some o→H b=none→∃ sl,h'.get? b=some { o with slots:=sl }) (free:∀ b o,b ∉ ch→s.heap.get? b=some o→H b=none→H' b=none)
  (there:∀ b o,b ∉ ch→s.heap.get? b=some o→∃ o',h'.get? b=some o')
  (tups:∀ b xs,H b=some (.tup xs)→H' b=some (.tup xs)) (frzs:∀ b o u,H b=some (.frz o u)→H' b=some (.frz o u)) (tbls:∀ b ps,H b=some (.tbl ps)→∃ more,H' b=some (.tbl (ps++more)))
  (ns:∀ m,s.heap.Ns X.env.locals m→h'.Ns X.env.locals m) (hok:HOk X.prog X.w H' h') (hg:AllBare g') :
  Inv X pins σ H' { s with heap:=h',gens:=g',drawn:=d',toks:=t' }:=by
 have neL:∀ b o,X.s₀.heap.get? b=some o→b≠X.env.locals:=fun b o e=>Nat.ne_of_lt (Nat.lt_of_lt_of_le (Heap.lt_size e) I.ok.above)
 have neC:∀ b o,X.s₀.heap.get? b=some o→b ∉ X.ex→b ∉ ch:=fun b o e hx hb=>by
  rcases (hch b hb).1 with z | z
  ·exact hx z
  ·exact absurd (Nat.lt_of_lt_of_le (Heap.lt_size e) z) (Nat.lt_irrefl _)
 have cellK:∀ x c,X.env.cells.lookup x=some c→∀ v,s.heap.IsCell c v→h'.IsCell c v:=fun x c e v ⟨o,ho,hd⟩=>by
  have nch:c ∉ ch:=fun z=>(hch c z).2.2.1 x c e rfl
  by_cases hc:c∈X.fs
  ·obtain ⟨sl,q⟩:=slot c o (I.cne x c e) hc nch ho (I.freeC x c e)
   exact ⟨_,q,hd⟩
  ·exact ⟨o,keep c o (I.cne x c e) hc nch ho (I.freeC x c e),hd⟩
 refine ⟨I.ok,I.os,hg,⟨fun b o e n hb hx=>?_,fun b o e n hb hx=>?_,fun b o e n hx=>?_,fun b o e hx=>?_,fun b xs e=>tups b xs (I.base.tups b xs e),fun b o xs e=>frzs b o xs (I.base.frzs b o xs e),fun b ps e=>?_⟩,?_,fun x c e=>?_,?_,fun x c e=>?_,fun p hp=>?_,hok,I.len⟩
 ·exact keep b o (neL b o e) hb (neC b o e hx) (I.base.keep b o e n hb hx) (I.base.free b o e n hx)
 ·obtain ⟨sl,e1⟩:=I.base.slot b o e n hb hx
  obtain ⟨sl',e2⟩:=slot b _ (neL b o e) hb (neC b o e hx) e1 (I.base.free b o e n hx)
  exact ⟨sl',e2⟩
 ·obtain ⟨o',e1⟩:=I.base.there b o e hx
  exact free b o' (neC b o e hx) e1 (I.base.free b o e n hx)
 ·obtain ⟨o',e1⟩:=I.base.there b o e hx
  exact there b o' (neC b o e hx) e1
 ·obtain ⟨m1,e1⟩:=I.base.tbls b ps e
  obtain ⟨m2,e2⟩:=tbls b _ e1
  exact ⟨m1++m2,by rw [e2,Array.append_assoc]⟩
 ·obtain ⟨m,hn,hl⟩:=I.loc
  refine ⟨m,ns m hn,fun i x v e1 e2 e3=>?_⟩
  obtain ⟨u,r,l⟩:=hl i x v e1 e2 e3
  refine ⟨u,r,?_⟩
  rcases l with l | ⟨k,c,e,z⟩
  ·exact .inl l
  ·exact .inr ⟨k,c,e,cellK x c e _ z⟩
 ·obtain ⟨v,z⟩:=I.cell x c e
  exact ⟨v,cellK x c e v z⟩
 ·obtain ⟨m,⟨o,_,_,ho,_⟩,_⟩:=I.loc
  exact free _ o (fun z=>(hch _ z).2.1 rfl) ho I.free
 ·obtain ⟨v,o,ho,hd⟩:=I.cell x c e
  exact free c o (fun z=>(hch c z).2.2.1 x c e rfl) ho (I.freeC x c e)
 ·obtain ⟨e,n,ne,nf,d⟩:=I.pin p hp
  have nch:p.1 ∉ ch:=fun z=>(hch p.1 z).2.2.2 p hp rfl
  exact ⟨keep p.1 p.2 ne nf nch e n,free p.1 p.2 nch e n,ne,nf,d⟩
theorem Inv.un {t':Nat} (I:Inv X pins σ H s) (u:Un X.fs [] H H' s.heap h') (hok:HOk X.prog X.w H' h'):Inv X pins σ H' { s with heap:=h',toks:=t' }:=by
 obtain ⟨m,⟨o,es,ep,ho,r⟩,_⟩:=id I.loc
 obtain ⟨sl,hL⟩:=u.any ho I.free (by simp)
 exact I.step (g':=s.gens) (d':=s.drawn) (ch:=[]) (fun _ z=>nomatch z) (fun b o _ hb _ e n=>u.keep b o e n hb (by simp)) (fun b o _ hb _ e n=>u.slot b o e n hb (by simp)) (fun b o _ e n=>u.free b o e n (by simp)) (fun b o _ e=>u.there b o e (by simp)) u.tups u.frzs u.tbls (fun m' hm=>by
  obtain ⟨o',es',ep',ho',r'⟩:=hm
  rw [ho] at ho';cases ho'
  exact ⟨_,es',ep',hL,r'⟩) hok I.bare
theorem Inv.call {g':Array GenState} {t':Nat} {d':Drawn} {ch:List Addr} (I:Inv X pins σ H s) (u:Un (frs X.stack) ch H H' s.heap h') (hok:HOk X.prog X.w H' h') (hg:AllBare g')
  (hch:∀ b∈ch,(b∈X.ex∨X.s₀.heap.objs.size≤b)∧b≠X.env.locals∧(∀ x c,X.env.cells.lookup x=some c→c≠b)∧∀ p∈X.pn++pins,p.1≠b) :
  Inv X pins σ H' { s with heap:=h',gens:=g',drawn:=d',toks:=t' }:=by
 obtain ⟨m,⟨o,es,ep,ho,r⟩,_⟩:=id I.loc
 obtain ⟨sl,hL⟩:=u.any ho I.free fun z=>(hch _ z).2.1 rfl
 exact I.step (ch:=ch) hch (fun b o hL hb hc e n=>u.keep b o e n (fun z=>(List.mem_cons.mp (I.stkSub b z)).elim hL hb) hc) (fun b o _ _ hc e n=>u.any e n hc) (fun b o hc e n=>u.free b o e n hc) (fun b o hc e=>u.there b o e hc) u.tups u.frzs u.tbls (fun m' hm=>by
  obtain ⟨o',es',ep',ho',r'⟩:=hm
  rw [ho] at ho';cases ho'
  exact ⟨_,es',ep',hL,r'⟩) hok hg
theorem Inv.turned {t':Nat} {it:Addr} (I:Inv X pins σ H s) (k:∀ b o,b≠it→s.heap.get? b=some o→h'.get? b=some o) (hn:H it=none) (hL:it≠X.env.locals)
  (h1:it∈X.ex∨X.s₀.heap.objs.size≤it) (h2:∀ x c,X.env.cells.lookup x=some c→c≠it) (h3:∀ p∈X.pn++pins,p.1≠it):Inv X pins σ H { s with heap:=h',toks:=t' }:=by
 have nit:∀ b u,H b=some u→b≠it:=fun b u e z=>by rw [z,hn] at e;cases e
 refine I.step (g':=s.gens) (d':=s.drawn) (ch:=[it]) (fun b hb=>?_) (fun b o _ _ hc e _=>k b o (fun z=>hc (by simp [z])) e) (fun b o _ _ hc e _=>⟨o.slots,k b o (fun z=>hc (by simp [z])) e⟩) (fun _ _ _ _ n=>n)
  (fun b o hc e=>⟨o,k b o (fun z=>hc (by simp [z])) e⟩) (fun _ _ e=>e) (fun _ _ _ e=>e) (fun b ps e=>⟨#[],by rw [e];simp⟩) (fun m hm=>?_) (fun b u e=>?_) I.bare
 ·have e:b=it:=by simpa using hb
  subst e
  exact ⟨h1,hL,h2,h3⟩
 ·obtain ⟨o,es,ep,ho,r⟩:=hm
  exact ⟨o,es,ep,k _ o (Ne.symm hL) ho,r⟩
 ·refine (I.hok b u e).stay (fun c v hc q=>k c v ?_ q) (fun _ q=>q) fun _ _ q=>q
  rcases hc with z | z
  ·rw [z];exact nit b u e
  ·exact nit c _ z
theorem Inv.tok (I:Inv X pins σ H s) (t:Nat):Inv X pins σ H { s with toks:=t }:=I.un (h':=s.heap) (t':=t) Un.refl I.hok
theorem Inv.kept {t':Nat} (I:Inv X pins σ H s) (k:∀ b u,s.heap.get? b=some u→h'.get? b=some u):Inv X pins σ H { s with heap:=h',toks:=t' }:=I.un (Un.kept k) (I.hok.kept k)
theorem Inv.laid {a:Addr} {o:HO} {t':Nat} (I:Inv X pins σ H s) (k:∀ b u,s.heap.get? b=some u→h'.get? b=some u) (hp:s.heap.objs.size≤a) (new:ObjOk X.prog X.w (upd H a o) h' a o) :
  Inv X pins σ (upd H a o) { s with heap:=h',toks:=t' }:=I.un (Un.laid k hp (I.hok.fresh hp)) (I.hok.laid k hp new)
theorem Inv.write {x e:Addr} {o:HO} {t':Nat} (I:Inv X pins σ H s) (mu:Mut (H x)) (he:e=x∨H e=some (.own x)) (k:∀ b u,b≠e→s.heap.get? b=some u→h'.get? b=some u) (heo:∃ u,h'.get? e=some u)
  (new:ObjOk X.prog X.w (upd H x o) h' x o):Inv X pins σ (upd H x o) { s with heap:=h',toks:=t' }:=I.un (Un.write mu he k heo) (I.hok.write mu he k heo new)
theorem Inv.pins_of {pins':List (Addr×Obj)} (I:Inv X pins σ H s) (h:∀ p∈pins',s.heap.get? p.1=some p.2∧H p.1=none∧p.1≠X.env.locals∧p.1 ∉ X.fs∧∀ v,p.2.data≠.cell v):Inv X pins' σ H s:=
 ⟨I.ok,I.os,I.bare,I.base,I.loc,I.cell,I.free,I.freeC,fun p hp=>(List.mem_append.mp hp).elim (fun z=>I.pin p (List.mem_append_left _ z)) (h p),I.hok,I.len⟩
theorem jaw {N:List Str} (hN:N.Nodup) {i j:Nat} {x:Str} (a:N[i]?=some x) (b:N[j]?=some x):i=j:=by
 obtain ⟨h1,e1⟩:=List.getElem?_eq_some_iff.mp a
 obtain ⟨h2,e2⟩:=List.getElem?_eq_some_iff.mp b
 exact (List.getElem_inj hN).mp (e1.trans e2.symm)
theorem YE {M:Model} {A:Around} {E:Value→Shared→Prop} {i:Nat} {x:Str} {v:V} {u:Value} {Q:Unit→Shared→Prop} (I:Inv X pins σ H s) (hN:X.N.Nodup) (hi:X.N[i]?=some x) (hx:Loc X.env.scope x) (r:RelV v u)
  (h:∀ s',Inv X pins (σ.set i (some v)) H s'→(∃ a,Heap.SameBut a s.heap s'.heap∧(a=X.env.locals∨X.env.cells.lookup x=some a))→Q () s') (hf:X.fn x=true∨X.env.scope.names.lookup x=some .local:=by first | exact .inl rfl | exact .inr rfl | assumption):wpAny M A (storeName X.env x u) Q E s:=by
 obtain ⟨m,hn,hl⟩:=id I.loc
 have hcls:(X.env.scope.kind == .class || (X.env.scope.kind == .module && X.env.locals != X.env.globals))=false:=by rw [I.ok.kind];rfl
 have hiσ:i < σ.length:=by rw [I.len];exact (List.getElem?_eq_some_iff.mp hi).1
 have cne:=I.cne
 have tracked:∀ {a:Addr} {h':Heap},(∃ o,s.heap.get? a=some o∧H a=none)→Heap.SameBut a s.heap h'→HOk X.prog X.w H h':=fun {a h'} ha hs b ob e=>by
  obtain ⟨_,_,hfree⟩:=ha
  refine (I.hok b ob e).stay (fun c w' hc q=>(hs.2 c ?_).trans q) (fun _ q=>q) fun _ _ q=>q
  rintro rfl
  rcases hc with rfl | hc
  ·rw [hfree] at e;cases e
  ·rw [hfree] at hc;cases hc
 rcases hx with hk | hk
 ·refine wpAny_storeName_local hk hn (fun h' hn' hs=>?_) hcls
  obtain ⟨oL,_,_,hoL,_⟩:=id hn
  refine h _ ⟨I.ok,I.os,I.bare,⟨fun b o e n hb hx=>?_,fun b o e n hb hx=>?_,I.base.free,fun b o e hx=>?_,I.base.tups,I.base.frzs,I.base.tbls⟩,⟨_,hn',fun j y v' e1 e2 e3=>?_⟩,fun y c e=>?_,I.free,I.freeC,fun p hp=>?_,tracked ⟨oL,hoL,I.free⟩ hs,by simpa using I.len⟩ ⟨_,hs,.inl rfl⟩
  ·exact (hs.2 b (Nat.ne_of_lt (Nat.lt_of_lt_of_le (Heap.lt_size e) I.ok.above))).trans (I.base.keep b o e n hb hx)
  ·obtain ⟨sl,e1⟩:=I.base.slot b o e n hb hx
   exact ⟨sl,(hs.2 b (Nat.ne_of_lt (Nat.lt_of_lt_of_le (Heap.lt_size e) I.ok.above))).trans e1⟩
  ·obtain ⟨o',e1⟩:=I.base.there b o e hx
   exact ⟨o',(hs.2 b (Nat.ne_of_lt (Nat.lt_of_lt_of_le (Heap.lt_size e) I.ok.above))).trans e1⟩
  ·by_cases hj:j=i
   ·subst hj
    rw [hi] at e1;cases e1
    rw [List.getElem?_set_self hiσ] at e2
    cases e2
    exact ⟨u,r,.inl ⟨hk,by simp⟩⟩
   ·rw [List.getElem?_set_ne (Ne.symm hj)] at e2
    obtain ⟨u',r',q⟩:=hl j y v' e1 e2 e3
    refine ⟨u',r',?_⟩
    rcases q with ⟨k,e⟩ | ⟨k,c,e,z⟩
    ·refine .inl ⟨k,?_⟩
     have:y≠x:=fun e=>hj (jaw hN e1 (e ▸ hi))
     simp [this,e]
    ·exact .inr ⟨k,c,e,z.sameBut hs (cne y c e)⟩
  ·obtain ⟨w',z⟩:=I.cell y c e
   exact ⟨w',z.sameBut hs (cne y c e)⟩
  ·obtain ⟨e,n,ne,nf,d⟩:=I.pin p hp
   exact ⟨(hs.2 p.1 ne).trans e,n,ne,nf,d⟩
 ·have hfn:X.fn x=true:=by
   rcases hf with z | z
   ·exact z
   ·rw [z] at hk;cases hk
  obtain ⟨c,hc⟩:=I.ok.has x (.inl hk)
  obtain ⟨w',z⟩:=I.cell x c hc
  refine wpAny_storeName_cell I.ok.kind hk hc z (fun h' hc' hs=>?_)
  obtain ⟨oc,hoc,hocd⟩:=id z
  refine h { s with heap:=h' } ⟨I.ok,I.os,I.bare,⟨fun b o e n hb hx=>?_,fun b o e n hb hx=>?_,I.base.free,fun b o e hx=>?_,I.base.tups,I.base.frzs,I.base.tbls⟩,⟨m,hn.sameBut hs (Ne.symm (cne x c hc)),fun j y v' e1 e2 e3=>?_⟩,fun y c' e=>?_,I.free,I.freeC,fun p hp=>?_,tracked ⟨oc,hoc,I.freeC x c hc⟩ hs,by simpa using I.len⟩ ⟨c,hs,.inr hc⟩
  ·exact (hs.2 b (Nat.ne_of_lt (Nat.lt_of_lt_of_le (Heap.lt_size e) (I.ok.cab x c hfn hc)))).trans (I.base.keep b o e n hb hx)
  ·obtain ⟨sl,e1⟩:=I.base.slot b o e n hb hx
   exact ⟨sl,(hs.2 b (Nat.ne_of_lt (Nat.lt_of_lt_of_le (Heap.lt_size e) (I.ok.cab x c hfn hc)))).trans e1⟩
  ·obtain ⟨o',e1⟩:=I.base.there b o e hx
   exact ⟨o',(hs.2 b (Nat.ne_of_lt (Nat.lt_of_lt_of_le (Heap.lt_size e) (I.ok.cab x c hfn hc)))).trans e1⟩
  ·by_cases hj:j=i
   ·subst hj
    rw [hi] at e1;cases e1
    rw [List.getElem?_set_self hiσ] at e2
    cases e2
    exact ⟨u,r,.inr ⟨.inl hk,c,hc,hc'⟩⟩
   ·rw [List.getElem?_set_ne (Ne.symm hj)] at e2
    obtain ⟨u',r',q⟩:=hl j y v' e1 e2 e3
    refine ⟨u',r',?_⟩
    rcases q with q | ⟨k,c',e,z'⟩
    ·exact .inl q
    ·refine .inr ⟨k,c',e,z'.sameBut hs ?_⟩
     rintro rfl
     exact hj (jaw hN e1 (I.ok.inj _ _ _ e hc ▸ hi))
  ·by_cases hcc:c'=c
   ·subst hcc;exact ⟨_,hc'⟩
   ·obtain ⟨w2,z2⟩:=I.cell y c' e
    exact ⟨w2,z2.sameBut hs hcc⟩
  ·obtain ⟨e,n,ne,nf,d⟩:=I.pin p hp
   refine ⟨(hs.2 p.1 ?_).trans e,n,ne,nf,d⟩
   intro q
   rw [q,hoc] at e
   have q':oc=p.2:=Option.some.inj e
   exact d w' (by rw [← q'];exact hocd)
theorem yk {M:Model} {A:Around} {E:Value→Shared→Prop} {i:Nat} {x:Str} {v:V} {u:Value} {Q:Unit→Shared→Prop} (I:Inv X pins σ H s) (hN:X.N.Nodup) (hi:X.N[i]?=some x) (hx:Loc X.env.scope x) (r:RelV v u)
  (h:∀ s',Inv X pins (σ.set i (some v)) H s'→Q () s') (hf:X.fn x=true∨X.env.scope.names.lookup x=some .local:=by first | exact .inl rfl | exact .inr rfl | assumption):wpAny M A (storeName X.env x u) Q E s:=
 YE I hN hi hx r (fun s' I' _=>h s' I') hf
theorem Inv.call' {s':Shared} {ch:List Addr} (I:Inv X pins σ H s) (ho:s'.os=s.os) (u:Un (frs X.stack) ch H H' s.heap s'.heap) (hok:HOk X.prog X.w H' s'.heap) (hg:AllBare s'.gens)
  (hch:∀ b∈ch,(b∈X.ex∨X.s₀.heap.objs.size≤b)∧b≠X.env.locals∧(∀ x c,X.env.cells.lookup x=some c→c≠b)∧∀ p∈X.pn++pins,p.1≠b):Inv X pins σ H' s':=by
 obtain ⟨h',g',d',t',o'⟩:=s'
 have e:o'=s.os:=ho
 subst e
 exact I.call (g':=g') (t':=t') (d':=d') u hok hg hch
end
abbrev XK:=Value→Option Addr→Hp→Prop
abbrev St:=List (Option V)
abbrev VK:=V→Hp→Prop
abbrev TE:=St→Hp→VK→Prop
abbrev TT:=St→Hp→(Bool→Hp→Prop)→Prop
abbrev TA:=St→Hp→(List V→Hp→Prop)→Prop
structure Ends where
 nx:St→Hp→Prop
 rt:VK
 bk:St→Hp→Prop:=fun _ _=>False
 ct:St→Hp→Prop:=fun _ _=>False
abbrev TS:=Ends→St→Hp→Prop
def EP (X:Cx) (pins:List (Addr×Obj)) (σ:St) (Q:VK) (u:Value) (s':Shared):Prop:=∃ v H',Inv X pins σ H' s'∧RelV v u∧Q v H'
def TP (X:Cx) (pins:List (Addr×Obj)) (σ:St) (Q:Bool→Hp→Prop) (b:Bool) (s':Shared):Prop:=∃ H',Inv X pins σ H' s'∧Q b H'
def AP (X:Cx) (pins:List (Addr×Obj)) (σ:St) (Q:List V→Hp→Prop) (us:List Value) (s':Shared):Prop:=∃ vs H',Inv X pins σ H' s'∧Vals vs us∧Q vs H'
def SP (X:Cx) (pins:List (Addr×Obj)) (D:Ends) (f:Flow) (s':Shared):Prop:=
 match f with
 | .next=>∃ σ' H',Inv X pins σ' H' s'∧D.nx σ' H'
 | .brk=>∃ σ' H',Inv X pins σ' H' s'∧D.bk σ' H'
 | .cont=>∃ σ' H',Inv X pins σ' H' s'∧D.ct σ' H'
 | .ret u=>∃ v σ' H',Inv X pins σ' H' s'∧RelV v u∧D.rt v H'
def PE (X:Cx) (e:Expr) (t:TE):Prop:=
 ∀ (pins:List (Addr×Obj)) (s:Shared) (σ:St) (H:Hp) (Q:VK),Inv X pins σ H s→t σ H Q→wpAny (model X.prog X.w) X.A (eval e X.env) (EP X pins σ Q) X.xe s
def PT (X:Cx) (e:Expr) (t:TT):Prop:=
 ∀ (pins:List (Addr×Obj)) (s:Shared) (σ:St) (H:Hp) (Q:Bool→Hp→Prop),Inv X pins σ H s→t σ H Q→wpAny (model X.prog X.w) X.A (isTrue e X.env (eval e X.env)) (TP X pins σ Q) X.xe s
def PW (X:Cx) (e:Expr) (t:TT):Prop:=
 ∀ (whole:Sem Value) (pins:List (Addr×Obj)) (s:Shared) (σ:St) (H:Hp) (Q:Bool→Hp→Prop),Inv X pins σ H s→t σ H Q→wpAny (model X.prog X.w) X.A (isTrue e X.env whole) (TP X pins σ Q) X.xe s
theorem PW.pt {X:Cx} {e:Expr} {t:TT} (h:PW X e t):PT X e t:=h _
def PA (X:Cx) (es:List Expr) (t:TA):Prop:=
 ∀ (pos:Pos) (pins:List (Addr×Obj)) (s:Shared) (σ:St) (H:Hp) (Q:List V→Hp→Prop),Inv X pins σ H s→t σ H Q→wpAny (model X.prog X.w) X.A (spliced (backTo pos (starEach es X.env))) (AP X pins σ Q) X.xe s
def PS (X:Cx) (st:Stmt) (t:TS):Prop:=
 ∀ (pins:List (Addr×Obj)) (s:Shared) (σ:St) (H:Hp) (D:Ends),Inv X pins σ H s→t D σ H→wpAny (model X.prog X.w) X.A (exec st X.env) (SP X pins D) X.xe s
def PSs (X:Cx) (st:List Stmt) (t:TS):Prop:=
 ∀ (pins:List (Addr×Obj)) (s:Shared) (σ:St) (H:Hp) (D:Ends),Inv X pins σ H s→t D σ H→wpAny (model X.prog X.w) X.A (execs st X.env) (SP X pins D) X.xe s
theorem thn {α:Type} {t:Sem α} {Q Q':α→Shared→Prop} {M:Model} {A:Around} {E:Value→Shared→Prop} {s:Shared} (h:wpAny M A t Q E s) (hQ:∀ a s,Q a s→Q' a s):wpAny M A t Q' E s:=wpAny_mono h hQ fun _ _ x=>x
section
variable {X:Cx}
theorem bin {a b:Expr} {ta tb:TE} (ha:PE X a ta) (hb:PE X b tb) {pins:List (Addr×Obj)} {s:Shared} {σ:St} {H:Hp} {R:V→V→Hp→Prop} (I:Inv X pins σ H s) (h:ta σ H fun x H1=>tb σ H1 fun y H2=>R x y H2)
  {α:Type} {Q:α→Shared→Prop} {f:Value→Value→Sem α}
  (hf:∀ v u s2 x y H2,Inv X pins σ H2 s2→RelV x v→RelV y u→R x y H2→wpAny (model X.prog X.w) X.A (f v u) Q X.xe s2) :
  wpAny (model X.prog X.w) X.A (eval a X.env) (fun v s₁=>wpAny (model X.prog X.w) X.A (eval b X.env) (fun u s₂=>wpAny (model X.prog X.w) X.A (f v u) Q X.xe s₂) X.xe s₁) X.xe s:=by
 refine thn (ha pins s σ H _ I h) fun v s1 ⟨x,H1,I1,r1,q1⟩=>?_
 refine thn (hb pins s1 σ H1 _ I1 q1) fun u s2 ⟨y,H2,I2,r2,q2⟩=>?_
 exact hf v u s2 x y H2 I2 r1 r2 q2
def jgx (i:Nat):TE:=fun σ H Q=>∃ v,σ[i]?=some (some v)∧Q v H
def tC (v:V):TE:=fun _ H Q=>Q v H
theorem jd5 {i:Nat} {x:Str} {pos:Pos} (hN:X.N[i]?=some x) (hv:Vis X.env.scope x) (hd:(x == ("__debug__" : Str))=false:=by decide) (hcd:(x == ("__classdict__" : Str))=false:=by decide):PE X (.Name x pos) (jgx i):=by
 intro pins s σ H Q I h
 obtain ⟨v,e,h⟩:=h
 obtain ⟨m,hn,hl⟩:=I.loc
 obtain ⟨u,r,l⟩:=hl i x v hN e hv
 have fin:EP X pins σ Q u s:=⟨v,H,I,r,h⟩
 rcases l with ⟨hk,hm⟩ | ⟨hk,c,hc,hcell⟩
 ·exact wpAny_Name (wpAny_loadName_local I.ok.kind hk hn hm fin) hd
 ·rcases hk with hk | hk
  ·exact wpAny_Name (wpAny_loadName_cell I.ok.kind hk hc hcell fin) hd
  ·exact wpAny_Name (wpAny_loadName_free I.ok.kind hk hc hcell fin hcd) hd
theorem jm {i j pos}:PE X (.Constant (.int i) j pos) (tC (.int i)):=fun _ _ _ H _ I h=>wpAny_Constant_int ⟨.int i,H,I.tok _,⟨_,rfl⟩,h⟩
theorem jhS {b j pos}:PE X (.Constant (.bool b) j pos) (tC (.bl b)):=fun _ _ _ H _ I h=>Constant_bool ⟨.bl b,H,I,rfl,h⟩
theorem jd6 {j pos}:PE X (.Constant .none j pos) (tC .non):=fun _ _ _ H _ I h=>Constant_none ⟨.non,H,I,rfl,h⟩
theorem kL {x j pos}:PE X (.Constant (.str x) j pos) (tC (.str x)):=fun _ _ _ H _ I h=>Calls.Constant_str ⟨.str x,H,I.tok _,⟨_,rfl⟩,h⟩
def Gl (X:Cx) (x:Str):Prop:=X.env.kindOf x=some .globalImplicit
theorem Zx {E:Value→Shared→Prop} {pins:List (Addr×Obj)} {s:Shared} {σ:St} {H:Hp} {x:Str} {u:Value} {pos:Pos} {Q:Value→Shared→Prop} (I:Inv X pins σ H s) (hg:Gl X x) (hm:X.mg x=some u) (h:Q u s)
  (hd:(x == ("__debug__" : Str))=false:=by decide):wpAny (model X.prog X.w) X.A (eval (.Name x pos) X.env) Q E s:=
 Calls.Name_function_global I.ok.kind hg (Calls.loadGlobal_global (by rw [I.ok.glob];exact I.mod.glob.keeps I.bk) hm h) hd
theorem yx {E:Value→Shared→Prop} {pins:List (Addr×Obj)} {s:Shared} {σ:St} {H:Hp} {x:Str} {u:Value} {pos:Pos} {Q:Value→Shared→Prop} (I:Inv X pins σ H s) (hg:Gl X x) (hm:X.mg x=none) (hv:bootBuiltins x=some u) (h:Q u s)
  (hn:x≠"__name__":=by decide) (hd:(x == ("__debug__" : Str))=false:=by decide):wpAny (model X.prog X.w) X.A (eval (.Name x pos) X.env) Q E s:=by
 obtain ⟨mb,h1,h2⟩:=I.mod.blt
 exact Calls.Name_function_global I.ok.kind hg (Calls.loadGlobal_builtin (by rw [I.ok.glob];exact I.mod.glob.keeps I.bk) hm (by rw [I.ok.blt];exact h1.keeps I.bk) ((h2 x hn).trans hv) h) hd
theorem jb5 {x:Str} {v:V} {u:Value} {pos:Pos} (hg:Gl X x) (hm:X.mg x=some u) (r:RelV v u) (hd:(x == ("__debug__" : Str))=false:=by decide):PE X (.Name x pos) (tC v):=
 fun _ _ _ H _ I h=>Zx I hg hm ⟨v,H,I,r,h⟩ hd
theorem jfB {x:Str} {v:V} {u:Value} {pos:Pos} (hg:Gl X x) (hm:X.mg x=none) (hv:bootBuiltins x=some u) (r:RelV v u) (hn:x≠"__name__":=by decide) (hd:(x == ("__debug__" : Str))=false:=by decide):PE X (.Name x pos) (tC v):=
 fun _ _ _ H _ I h=>yx I hg hm hv ⟨v,H,I,r,h⟩ hn hd
variable {a b:Expr} {ta tb:TE} {pos:Pos}
def PC (X:Cx) (op:CmpOp) (a b:Expr) (t:TE):Prop:=
 ∀ (pins:List (Addr×Obj)) (s:Shared) (σ:St) (H:Hp) (Q:VK),Inv X pins σ H s→t σ H Q→
  wpAny (model X.prog X.w) X.A (eval a X.env) (fun v s₁=>wpAny (model X.prog X.w) X.A (eval b X.env) (fun u s₂=>wpAny (model X.prog X.w) X.A (compareOp op v u) (EP X pins σ Q) X.xe s₂) X.xe s₁) X.xe s
theorem jem (b:Expr) {op:CmpOp} (h:op≠.In) (h2:op≠.NotIn):behindInMarks op b=false:=by
 have e1:(op == CmpOp.In)=false:=by cases op <;> first | rfl | exact absurd rfl h
 have e2:(op == CmpOp.NotIn)=false:=by cases op <;> first | rfl | exact absurd rfl h2
 cases b <;> simp [behindInMarks,e1,e2]
def tB (t:TE):TT:=fun σ H Q=>t σ H fun x H1=>∃ c,x=.bl c∧Q c H1
theorem jim {op:CmpOp} {t:TE} (h:PC X op a b t) (h1:behindInMarks op b=false:=by first | exact jem _ (by decide) (by decide) | rfl):PT X (.Compare a [op] [b] pos) (tB t):=by
 intro pins s σ H Q I hw
 refine wpAny_isTrue_Compare1 (thn (h pins s σ H _ I hw) fun v s1 h1=>thn h1 fun u s2 h2=>thn h2 fun c s3 ⟨x,H1,I1,r1,q1⟩=>?_) h1
 obtain ⟨d,rfl,q⟩:=q1
 cases r1
 exact wpAny_truthy_bool ⟨H1,I1,q⟩
theorem jgM {e:Expr} {t:TE} (h:PE X e t) (he:∀ whole,isTrue e X.env whole=(do let v ← whole;standAt e.pos;holding [v] (truthy v)):=by intro _;rfl):PT X e (tB t):=by
 intro pins s σ H Q I hw
 refine isTrue_plain (thn (h pins s σ H _ I hw) fun v s1 ⟨x,H1,I1,r1,q1⟩=>?_) (he _)
 obtain ⟨d,rfl,q⟩:=q1
 cases r1
 exact wpAny_truthy_bool ⟨H1,I1,q⟩
variable {tA tB':TT} {jE:List Expr}
def jhD (t u:TT):TT:=fun σ H Q=>t σ H fun c H1=>if c=true then u σ H1 Q else Q false H1
def tOr (t u:TT):TT:=fun σ H Q=>t σ H fun c H1=>if c=true then Q true H1 else u σ H1 Q
def jhz (t:TT):TT:=fun σ H Q=>t σ H fun c H1=>Q (!c) H1
theorem jfq (ha:PT X a tA):PW X (.BoolOp .And [a] pos) tA:=by
 intro wh pins s σ H Q I h
 refine isTrue_and (thn (ha pins s σ H Q I h) fun c s1 e=>?_)
 cases c with
 | true=>exact isTrue_and_nil e
 | false=>exact e
theorem jgJ (ha:PT X a tA):PW X (.BoolOp .Or [a] pos) tA:=by
 intro wh pins s σ H Q I h
 refine isTrue_or (thn (ha pins s σ H Q I h) fun c s1 e=>?_)
 cases c with
 | false=>exact isTrue_or_nil e
 | true=>exact e
theorem jgK (ha:PT X a tA) (hb:PW X (.BoolOp .And (b :: jE) pos) tB'):PW X (.BoolOp .And (a :: b :: jE) pos) (jhD tA tB'):=by
 intro wh pins s σ H Q I h
 refine isTrue_and (thn (ha pins s σ H _ I h) fun c s1 ⟨H1,I1,q1⟩=>?_)
 cases c with
 | true=>exact hb wh pins s1 σ H1 Q I1 q1
 | false=>exact ⟨H1,I1,q1⟩
theorem jhP (ha:PT X a tA) (hb:PW X (.BoolOp .Or (b :: jE) pos) tB'):PW X (.BoolOp .Or (a :: b :: jE) pos) (tOr tA tB'):=by
 intro wh pins s σ H Q I h
 refine isTrue_or (thn (ha pins s σ H _ I h) fun c s1 ⟨H1,I1,q1⟩=>?_)
 cases c with
 | true=>exact ⟨H1,I1,q1⟩
 | false=>exact hb wh pins s1 σ H1 Q I1 q1
theorem jgN (ha:PT X a tA):PT X (.UnaryOp .Not a pos) (jhz tA):=by
 intro pins s σ H Q I h
 exact isTrue_not (ha pins s σ H (fun c H1=>Q (!c) H1) I h)
def jgj (ta tb:TE):TE:=fun σ H Q=>ta σ H fun x H1=>∃ c,x=.bl c∧if c=true then tb σ H1 Q else Q (.bl false) H1
theorem jgS {op} {t:TE} (h:PE X a t):PE X (.BoolOp op [a] pos) t:=fun pins s σ H Q I hw=>BoolOp_one (h pins s σ H Q I hw)
theorem jgU (ha:PE X a ta) (hb:PE X (.BoolOp .And (b :: jE) pos) tb):PE X (.BoolOp .And (a :: b :: jE) pos) (jgj ta tb):=by
 intro pins s σ H Q I h
 refine BoolOp_and (thn (ha pins s σ H _ I h) fun v s1 ⟨x,H1,I1,r1,q1⟩=>?_)
 obtain ⟨c,rfl,q1⟩:=q1
 cases r1
 refine wpAny_truthy_bool ?_
 cases c with
 | true=>exact hb pins s1 σ H1 Q I1 q1
 | false=>exact ⟨.bl false,H1,I1,rfl,q1⟩
end
def SqL (K:PySem.W.Frag) (H:Hp) (a:Addr) (xs:List V):Prop:=
 Rd H a (.lst xs)∨
  ∃ (o:Obj) (its:Array Value) (n:Nat),K.lookup a=some o∧o.cls=.type "list"∧o.dict=none∧o.data=.seq its n∧its.size≤sizeLine∧Vals xs its.toList
def SqT (K:PySem.W.Frag) (H:Hp) (a:Addr) (xs:List V):Prop:=
 Rd H a (.tup xs)∨
  ∃ (o:Obj) (its:Array Value) (n:Nat),K.lookup a=some o∧o.cls=.type "tuple"∧o.data=.seq its n∧its.size≤sizeLine∧Vals xs its.toList
def jit:Value→Option V
 | .none=>some .non
 | .bool b=>some (.bl b)
 | .int i _=>some (.int i)
 | .str x _=>some (.str x)
 | .bytes b _=>some (.byt b)
 | .float b _=>some (.flt b)
 | .ref a=>some (.ref a)
 | .type n=>some (.ty n)
 | _=>none
theorem RelV.abs {x:V} {u:Value} (r:RelV x u):jit u=some x:=by
 cases x with
 | non=>cases r;rfl
 | bl _=>cases r;rfl
 | int _=>obtain ⟨t,rfl⟩:=r;rfl
 | str _=>obtain ⟨t,rfl⟩:=r;rfl
 | byt _=>obtain ⟨t,rfl⟩:=r;rfl
 | flt _=>obtain ⟨t,rfl⟩:=r;rfl
 | ref _=>cases r;rfl
 | ty _=>cases r;rfl
theorem RelV.inj {x y:V} {u:Value} (r:RelV x u) (q:RelV y u):x=y:=Option.some.inj (r.abs.symm.trans q.abs)
theorem Vals.inj:∀ {xs ys:List V} {us:List Value},Vals xs us→Vals ys us→xs=ys
 | _,_,_,.nil,.nil=>rfl
 | _,_,_,.cons r t,.cons r' t'=>by rw [r.inj r',Vals.inj t t']
section
variable {X:Cx} {pins:List (Addr×Obj)} {σ:St} {H:Hp} {s:Shared} {a:Addr} {xs ys:List V}
theorem SqL.of {K:PySem.W.Frag} (h:H a=some (.lst xs)):SqL K H a xs:=.inl (.inl h)
theorem SqT.of {K:PySem.W.Frag} (h:H a=some (.tup xs)):SqT K H a xs:=.inl (.inl h)
theorem Inv.list (I:Inv X pins σ H s) (h:SqL X.K H a xs):∃ its:List Value,Vals xs its∧PlainL s.heap a its.toArray∧xs.length≤sizeLine:=by
 rcases h with h | ⟨o,its,n,hk,hc,hd,hs,hz,r⟩
 ·obtain ⟨z,its,n,r,e⟩:=h.ok I.hok
  exact ⟨its,r,⟨_,n,e,rfl,rfl,rfl⟩,z⟩
 ·refine ⟨its.toList,r,⟨o,n,I.kIn a o hk,hc,hd,by simpa using hs⟩,?_⟩
  have e:=r.length
  simp only [Array.length_toList] at e
  omega
theorem Inv.tuple (I:Inv X pins σ H s) (h:SqT X.K H a xs):∃ its:List Value,Vals xs its∧IsTup s.heap a its.toArray∧xs.length≤sizeLine:=by
 rcases h with h | ⟨o,its,n,hk,hc,hs,hz,r⟩
 ·obtain ⟨z,its,r,p⟩:=h.ok I.hok
  exact ⟨its,r,p,z⟩
 ·refine ⟨its.toList,r,⟨o,I.kIn a o hk,hc,n,by simpa using hs⟩,?_⟩
  have e:=r.length
  simp only [Array.length_toList] at e
  omega
theorem Inv.list_inj (I:Inv X pins σ H s) (h:SqL X.K H a xs) (h':SqL X.K H a ys):xs=ys:=by
 obtain ⟨its,r,⟨o,n,e,_,_,d⟩,_⟩:=I.list h
 obtain ⟨its',r',⟨o',n',e',_,_,d'⟩,_⟩:=I.list h'
 rw [e] at e';cases e'
 rw [d] at d'
 injection d' with d1 _
 have:its=its':=by simpa using congrArg Array.toList d1
 subst this
 exact r.inj r'
theorem Inv.tuple_inj (I:Inv X pins σ H s) (h:SqT X.K H a xs) (h':SqT X.K H a ys):xs=ys:=by
 obtain ⟨its,r,⟨o,e,_,n,d⟩,_⟩:=I.tuple h
 obtain ⟨its',r',⟨o',e',_,n',d'⟩,_⟩:=I.tuple h'
 rw [e] at e';cases e'
 rw [d] at d'
 injection d' with d1 _
 have:its=its':=by simpa using congrArg Array.toList d1
 subst this
 exact r.inj r'
end
abbrev Cx.wish (X:Cx) (E:Value→Shared→Prop):Cx:={ X with xe:=E }
abbrev Cx.nox (X:Cx):Cx:=X.wish fun _ _=>False
theorem Cx.Ok.wish {X:Cx} (ok:X.Ok) (E:Value→Shared→Prop):(X.wish E).Ok:=
 ⟨ok.mod,ok.kind,ok.glob,ok.blt,ok.above,ok.inj,ok.has,ok.cab,ok.hd,ok.frames,ok.stk,ok.exf,ok.bs,ok.bsz,ok.noex,ok.exfs,ok.funs,ok.frf⟩
theorem Cx.Ok.unwish {X:Cx} {E:Value→Shared→Prop} (ok:(X.wish E).Ok):X.Ok:=
 ⟨ok.mod,ok.kind,ok.glob,ok.blt,ok.above,ok.inj,ok.has,ok.cab,ok.hd,ok.frames,ok.stk,ok.exf,ok.bs,ok.bsz,ok.noex,ok.exfs,ok.funs,ok.frf⟩
section
variable {X:Cx} {pins:List (Addr×Obj)} {σ:St} {H:Hp} {s:Shared} {E:Value→Shared→Prop}
theorem Inv.wish (I:Inv X pins σ H s) (E:Value→Shared→Prop):Inv (X.wish E) pins σ H s:=⟨I.ok.wish E,I.os,I.bare,I.base,I.loc,I.cell,I.free,I.freeC,I.pin,I.hok,I.len⟩
theorem Inv.unwish (I:Inv (X.wish E) pins σ H s):Inv X pins σ H s:=⟨I.ok.unwish,I.os,I.bare,I.base,I.loc,I.cell,I.free,I.freeC,I.pin,I.hok,I.len⟩
theorem SP.unwish {D:Ends} {f:Flow} {s':Shared} (h:SP (X.wish E) pins D f s'):SP X pins D f s':=by
 cases f with
 | next=>obtain ⟨σ',H',I,q⟩:=h;exact ⟨σ',H',I.unwish,q⟩
 | brk=>obtain ⟨σ',H',I,q⟩:=h;exact ⟨σ',H',I.unwish,q⟩
 | cont=>obtain ⟨σ',H',I,q⟩:=h;exact ⟨σ',H',I.unwish,q⟩
 | ret u=>obtain ⟨v,σ',H',I,r,q⟩:=h;exact ⟨v,σ',H',I.unwish,r,q⟩
theorem PSs.nox {st:List Stmt} {t:TS} (h:PSs X.nox st t):PSs X st t:=fun pins s σ H D I hw=>
 wpAny_mono (h pins s σ H D (I.wish _) hw) (fun _ _ q=>q.unwish) fun _ _ z=>False.elim z
end
section
variable {X:Cx} {st:Stmt} {jE:List Stmt} {t u:TS} {e:Expr} {te:TE} {pos:Pos}
def jgf:TS:=fun D σ H=>D.nx σ H
def jgy (t u:TS):TS:=fun D σ H=>t { D with nx:=u D } σ H
theorem qe:PSs X [] jgf:=fun _ _ σ H _ I h=>wpAny_execs_nil ⟨σ,H,I,h⟩
theorem jo (h1:PS X st t) (h2:PSs X jE u):PSs X (st :: jE) (jgy t u):=by
 intro pins s σ H D I h
 refine wpAny_execs_cons (thn (h1 pins s σ H { D with nx:=u D } I h) fun f s1 q=>?_)
 cases f with
 | next=>
  obtain ⟨σ',H',I',q⟩:=q
  exact h2 pins s1 σ' H' D I' q
 | ret v=>exact q
 | brk=>exact q
 | cont=>exact q
theorem jB (h1:PS X st t):PSs X [st] t:=by
 intro pins s σ H D I h
 refine wpAny_execs_cons (thn (h1 pins s σ H D I h) fun f s1 q=>?_)
 cases f with
 | next=>exact wpAny_execs_nil q
 | ret v=>exact q
 | brk=>exact q
 | cont=>exact q
theorem Inv.quiet {pins:List (Addr×Obj)} {σ:St} {H:Hp} {s:Shared} (I:Inv X pins σ H s):interactive X.env=false:=by simp [interactive,I.ok.kind]
def jgh (te:TE):TS:=fun D σ H=>te σ H fun _ H1=>D.nx σ H1
theorem kR (he:PE X e te) (hs:swapsWith e none pos.line X.env=pure false:=by rfl):PS X (.Expr e pos) (jgh te):=by
 intro pins s σ H D I h
 exact wpAny_Expr_any (thn (he pins s σ H _ I h) fun v s1 ⟨x,H1,I1,r1,q1⟩=>⟨σ,H1,I1,q1⟩) I.quiet hs
def jhy (te:TE):TS:=fun D σ H=>te σ H D.rt
theorem km (he:PE X e te):PS X (.Return (some e) pos) (jhy te):=by
 intro pins s σ H D I h
 exact wpAny_Return_some (thn (he pins s σ H _ I h) fun v s1 ⟨x,H1,I1,r1,q1⟩=>⟨x,σ,H1,I1,r1,q1⟩)
def jhA (c:TT) (t u:TS):TS:=fun D σ H=>c σ H fun b H1=>if b=true then t D σ H1 else u D σ H1
theorem qV {c:Expr} {a b:List Stmt} {tc:TT} (hc:PT X c tc) (ha:PSs X a t) (hb:PSs X b u):PS X (.If c a b pos) (jhA tc t u):=by
 intro pins s σ H D I h
 refine wpAny_If (thn (hc pins s σ H _ I h) fun d s1 ⟨H1,I1,q1⟩=>?_)
 cases d with
 | true=>exact ha pins s1 σ H1 D I1 q1
 | false=>exact hb pins s1 σ H1 D I1 q1
end
abbrev TG:=V→St→Hp→(St→Hp→Prop)→Prop
abbrev TGs:=List V→St→Hp→(St→Hp→Prop)→Prop
def PG (X:Cx) (target:Expr) (t:TG):Prop:=
 ∀ (pins:List (Addr×Obj)) (s:Shared) (σ:St) (H:Hp) (v:V) (u:Value) (Q:St→Hp→Prop),Inv X pins σ H s→RelV v u→t v σ H Q→
  wpAny (model X.prog X.w) X.A (assign target X.env u) (fun _ s'=>∃ σ' H',Inv X pins σ' H' s'∧Q σ' H') X.xe s
def PGs (X:Cx) (ts:List Expr) (t:TGs):Prop:=
 ∀ (pins:List (Addr×Obj)) (s:Shared) (σ:St) (H:Hp) (vs:List V) (us:List Value) (Q:St→Hp→Prop),Inv X pins σ H s→Vals vs us→t vs σ H Q→
  wpAny (model X.prog X.w) X.A (assignInOrder ((assignEach ts X.env).map (·.2)) us) (fun _ s'=>∃ σ' H',Inv X pins σ' H' s'∧Q σ' H') X.xe s
abbrev jgb:=V→V→V→Hp→(Hp→Prop)→Prop
def jhp (X:Cx) (t:jgb):Prop:=
 ∀ (pins:List (Addr×Obj)) (s:Shared) (σ:St) (H:Hp) (o i v:V) (ov iv u:Value) (Q:Hp→Prop),Inv X pins σ H s→RelV o ov→RelV i iv→RelV v u→t o i v H Q→
  wpAny (model X.prog X.w) X.A (setItem ov iv u) (fun _ s'=>∃ H',Inv X pins σ H' s'∧Q H') X.xe s
section
variable {X:Cx} {pos:Pos}
def qo (i:Nat):TG:=fun v σ H Q=>Q (σ.set i (some v)) H
theorem jS {i:Nat} {x:Str} (hN:X.N.Nodup) (hi:X.N[i]?=some x) (hx:Loc X.env.scope x) (hf:X.fn x=true∨X.env.scope.names.lookup x=some .local:=by first | exact .inl rfl | exact .inr rfl | assumption):PG X (.Name x pos) (qo i):=by
 intro pins s σ H v u Q I r h
 exact wpAny_assign_Name (yk I hN hi hx r (fun s' I'=>⟨_,H,I',h⟩) hf)
def jh4:TGs:=fun vs σ H Q=>vs=[]∧Q σ H
def jgs (t:TG) (u:TGs):TGs:=fun vs σ H Q=>∃ v r,vs=v :: r∧t v σ H fun σ' H'=>u r σ' H' Q
theorem qp:PGs X [] jh4:=by
 intro pins s σ H vs us Q I r h
 obtain ⟨e,h⟩:=h
 subst e
 cases r
 exact assignInOrder_nil ⟨σ,H,I,h⟩
theorem jU {e:Expr} {es:List Expr} {t:TG} {u:TGs} (h1:PG X e t) (h2:PGs X es u)
  (hs:(assignEach (e :: es) X.env).map (·.2)=assign e X.env :: (assignEach es X.env).map (·.2):=by rfl):PGs X (e :: es) (jgs t u):=by
 intro pins s σ H vs us Q I r h
 obtain ⟨v,vr,e1,h⟩:=h
 subst e1
 cases r with
 | cons r rr=>
  rw [hs]
  refine assignInOrder_cons (thn (h1 pins s σ H _ _ _ I r h) fun _ s1 ⟨σ1,H1,I1,q1⟩=>?_)
  exact h2 pins s1 σ1 H1 _ _ Q I1 rr q1
def jhf (K:PySem.W.Frag) (n:Nat) (t:TGs):TG:=fun v σ H Q=>∃ a xs,v=.ref a∧SqT K H a xs∧xs.length=n∧t xs σ H Q
theorem qO {es:List Expr} {k:Nat} {t:TGs} {n:Nat} (hc:X.calm=true) (h:PGs X es t)
  (hn:(assignEach es X.env).length=n:=by rfl) (hst:(assignEach es X.env).findIdx? (·.1)=none:=by rfl):PG X (.Tuple es k pos) (jhf X.K n t):=by
 intro pins s σ H v u Q I r hw
 obtain ⟨a,xs,e1,hq,hl,hw⟩:=hw
 subst e1
 cases r
 obtain ⟨its,rv,ht,hz⟩:=I.tuple hq
 refine assign_Tuple_tuple (I.ok.hd hc) ht (by simp [hn,← hl,rv.length]) hst fun h' hx=>?_
 have I1:Inv X pins σ H { s with heap:=h' }:=I.kept (t':=s.toks) fun b o e=>hx b o (Nat.ne_of_lt (Heap.lt_size e)) e
 exact h pins _ σ H xs _ Q I1 (by simpa using rv) hw
def jh3 (to ti:TE) (t:jgb):TG:=fun v σ H Q=>to σ H fun o H1=>ti σ H1 fun i H2=>t o i v H2 fun H3=>Q σ H3
theorem KO {o i:Expr} {to ti:TE} {t:jgb} (ho:PE X o to) (hi:PE X i ti) (hs:jhp X t)
  (ha:∀ v,assign (.Subscript o i pos) X.env v=(do
   let ov ← holding [v] (eval o X.env)
   let iv ← holding [v,ov] (eval i X.env)
   standAt pos
   holding [v,ov,iv] (setItem ov iv v)
   release [v,ov,iv] []):=by intro _;rfl):PG X (.Subscript o i pos) (jh3 to ti t):=by
 intro pins s σ H v u Q I r h
 rw [ha]
 refine wpAny_bind (wpAny_holding (thn (ho pins s σ H _ I h) fun ov s1 ⟨x,H1,I1,r1,q1⟩=>?_))
 refine wpAny_bind (wpAny_holding (thn (hi pins s1 σ H1 _ I1 q1) fun iv s2 ⟨y,H2,I2,r2,q2⟩=>?_))
 refine wpAny_bind (wpAny_standAt (wpAny_bind (wpAny_holding (thn (hs pins s2 σ H2 x y v ov iv u _ I2 r1 r2 r q2) fun _ s3 ⟨H3,I3,q3⟩=>?_))))
 exact wpAny_release ⟨σ,H3,I3,q3⟩
def jbb (te:TE) (g:TG):TS:=fun D σ H=>te σ H fun x H1=>g x σ H1 D.nx
theorem zr {tg e:Expr} {te:TE} {g:TG} (he:PE X e te) (hg:PG X tg g) (hs:swapsWithSole [tg] e pos.line X.env=pure false:=by rfl) (hw:swappedStores [tg] e X.env=pure none:=by rfl)
  (h1:(assignEach [tg] X.env).map (·.2)=[assign tg X.env]:=by rfl):PS X (.Assign [tg] e pos) (jbb te g):=by
 intro pins s σ H D I h
 refine wpAny_Assign_stores (thn (he pins s σ H _ I h) fun v s1 ⟨x,H1,I1,r1,q1⟩=>?_) hs hw
 rw [h1]
 exact thn (hg pins s1 σ H1 x v _ I1 r1 q1) fun _ s2 q=>q
theorem jW {i:Nat} {x:Str} {e:Expr} {te:TE} {pos':Pos} (hN:X.N.Nodup) (hi:X.N[i]?=some x) (hx:Loc X.env.scope x) (he:PE X e te) (hs:swapsWith e (some (.Name x pos')) pos.line X.env=pure false:=by rfl) (hf:X.fn x=true∨X.env.scope.names.lookup x=some .local:=by first | exact .inl rfl | exact .inr rfl | assumption) :
  PS X (.Assign [.Name x pos'] e pos) (jbb te (qo i)):=by
 intro pins s σ H D I h
 refine wpAny_Assign_Name (thn (he pins s σ H _ I h) fun v s1 ⟨y,H1,I1,r1,q1⟩=>?_) hs
 exact yk I1 hN hi hx r1 (fun s2 I2=>⟨_,H1,I2,q1⟩) hf
def ja9 (c:TT) (tb:TS):TS:=fun D σ H=>∃ W:Nat→St→Hp→Prop,(∃ m,W m σ H)∧∀ m σ H,W m σ H→
 c σ H fun b H1=>if b=true then ∃ N:St→Hp→Prop,(∀ σ' H',N σ' H'→∃ m',m' < m∧W m' σ' H')∧tb { D with nx:=N,ct:=N,bk:=D.nx } σ H1 else D.nx σ H1
theorem jam {c:Expr} {body:List Stmt} {tc:TT} {tb:TS} (hp:PassesOwn (model X.prog X.w) X.A X.env X.xe) (hc:PT X c tc) (hb:PSs X body tb):PS X (.While c body [] pos) (ja9 tc tb):=by
 intro pins s σ H D I h
 obtain ⟨W,⟨m0,w0⟩,turn⟩:=h
 refine wpAny_While (codeAny_whileLoop (fun n s'=>∃ σ' H',Inv X pins σ' H' s'∧W n σ' H') ?_ m0 ⟨σ,H,I,w0⟩)
 rintro n s1 ⟨σ1,H1,I1,w1⟩
 refine wpAny_passesOwn hp (thn (hc pins s1 σ1 H1 _ I1 (turn n σ1 H1 w1)) fun b s2 ⟨H2,I2,q2⟩=>?_)
 cases b with
 | true=>
  obtain ⟨N,hN,q2⟩:=q2
  rw [if_pos rfl]
  refine wpAny_passesOwn hp (thn (hb pins s2 σ1 H2 _ I2 q2) fun f s3 q3=>?_)
  cases f with
  | next=>
   obtain ⟨σ3,H3,I3,n3⟩:=q3
   obtain ⟨m',hm,w3⟩:=hN σ3 H3 n3
   exact ⟨m',hm,σ3,H3,I3,w3⟩
  | cont=>
   obtain ⟨σ3,H3,I3,n3⟩:=q3
   obtain ⟨m',hm,w3⟩:=hN σ3 H3 n3
   exact ⟨m',hm,σ3,H3,I3,w3⟩
  | brk=>exact q3
  | ret v=>exact q3
 | false=>
  rw [if_neg Bool.false_ne_true]
  exact wpAny_execs_nil ⟨σ1,H2,I2,q2⟩
end
structure It where
 go:Nat→Hp→Prop
 yld:Nat→Hp→V→Hp→Prop
 stop:Nat→Hp→Prop
def Jy (X:Cx) (pins:List (Addr×Obj)) (H:Hp) (b:Addr):Prop:=
 H b=none∧b≠X.env.locals∧b ∉ X.fs∧(b∈X.ex∨X.s₀.heap.objs.size≤b)∧(∀ x c,X.env.cells.lookup x=some c→c≠b)∧∀ p∈X.pn++pins,p.1≠b
theorem Inv.fpOk {X:Cx} {pins:List (Addr×Obj)} {σ:St} {H H':Hp} {s:Shared} {b:Addr} (I:Inv X pins σ H s) (hb:s.heap.objs.size≤b) (hn:H' b=none):Jy X pins H' b:=by
 refine ⟨hn,Nat.ne_of_gt (Nat.lt_of_lt_of_le I.lt hb),I.nofs hb,.inr (Nat.le_trans I.sz hb),fun x c e z=>?_,fun p hp z=>?_⟩
 ·obtain ⟨v,q⟩:=I.cell x c e
  exact absurd (Nat.lt_of_lt_of_le q.lt (by rw [z];exact hb)) (Nat.lt_irrefl _)
 ·exact absurd (Nat.lt_of_lt_of_le (Heap.lt_size (I.pin p hp).1) (by rw [z];exact hb)) (Nat.lt_irrefl _)
structure Turn (P:Program) (w:World) (K:PySem.W.Frag) (tg:Expr) (J:It) (fp:List Addr) (it:Addr) (tn:Nat→Heap→Prop):Prop where
 mem:it∈fp
 obj:∀ i h,tn i h→∀ b∈fp,∃ o,h.get? b=some o∧∀ v,o.data≠.cell v
 keep:∀ i h h',tn i h→(∀ b∈fp,∀ o,h.get? b=some o→h'.get? b=some o)→tn i h'
 item:∀ (X:Cx),X.prog=P→X.w=w→X.K=K→X.calm=true→∀ (i:Nat) (pins:List (Addr×Obj)) (s:Shared) (σ:St) (H:Hp) (E:Value→Shared→Prop),Inv X pins σ H s→(∀ b∈fp,Jy X pins H b)→tn i s.heap→J.go i H→
  wpAny (model P w) X.A (pyNext (.ref it)) (fun r s1=>∃ u,r=some u∧
   wpAny (model P w) X.A (letOwnedTupleGo tg (.ref it) u) (fun _ s2=>∃ x H',Inv X pins σ H' s2∧RelV x u∧J.yld i H x H'∧tn (i+1) s2.heap∧∀ b∈fp,H' b=none) E s1) E s
 done:∀ (X:Cx),X.prog=P→X.w=w→X.K=K→X.calm=true→∀ (i:Nat) (pins:List (Addr×Obj)) (s:Shared) (σ:St) (H:Hp) (E:Value→Shared→Prop),Inv X pins σ H s→(∀ b∈fp,Jy X pins H b)→tn i s.heap→J.stop i H→
  wpAny (model P w) X.A (pyNext (.ref it)) (fun r s1=>r=none∧Inv X pins σ H s1) E s
 self:∀ (A:Around) (i:Nat) (s:Shared) (Q:Value→Shared→Prop) (E:Value→Shared→Prop),tn i s.heap→Q (.ref it) s→wpAny (model P w) A (pyIter (.ref it)) Q E s
abbrev TI:=St→Hp→(It→Hp→Prop)→Prop
def PIE (X:Cx) (pins:List (Addr×Obj)) (σ:St) (tg:Expr) (R:It→Hp→Prop) (itv:Value) (s2:Shared):Prop:=
 ∃ (it:Addr) (fp:List Addr) (tn:Nat→Heap→Prop) (J:It) (H':Hp),itv=.ref it∧Inv X pins σ H' s2∧Turn X.prog X.w X.K tg J fp it tn∧tn 0 s2.heap∧(∀ b∈fp,Jy X pins H' b)∧R J H'
def PI (X:Cx) (tg iter:Expr) (wi:TI):Prop:=
 ∀ (pins:List (Addr×Obj)) (s:Shared) (σ:St) (H:Hp) (R:It→Hp→Prop),Inv X pins σ H s→wi σ H R→
  wpAny (model X.prog X.w) X.A (eval iter X.env) (fun v s1=>wpAny (model X.prog X.w) X.A (pyIter v) (PIE X pins σ tg R) X.xe s1) X.xe s
theorem jcg {M:Model} {A:Around} {E:Value→Shared→Prop} {s:Shared} {tg:Expr} {it:Addr} {u:Value} {o:Obj} {n:String} {vs:Array Value} {Q:Unit→Shared→Prop} (ho:s.heap.get? it=some o) (hc:o.cls=.type n) (hd:o.data=.fields vs)
  (hn:["enumerate","zip","dict_itemiterator","dict_reverseitemiterator","odict_iterator","itertools.zip_longest","itertools.pairwise"].contains n=false) (hQ:Q () s):wpAny M A (letOwnedTupleGo tg (.ref it) u) Q E s:=by
 unfold letOwnedTupleGo
 cases tg <;> first
  | exact wpAny_pure hQ
  | (cases u <;> first
    | exact wpAny_pure hQ
    | (refine wpAny_bind (wpAny_load ho ?_)
       rw [hc,hd]
       show wpAny M A (if (["enumerate","zip","dict_itemiterator","dict_reverseitemiterator","odict_iterator","itertools.zip_longest","itertools.pairwise"].contains n && vs[0]? == some (rawInt _))=true then _ else _) Q E s
       rw [if_neg (by intro h;rw [hn,Bool.false_and] at h;cases h)]
       exact wpAny_pure hQ))
def Itl (K:PySem.W.Frag) (a:Addr):It:=
 ⟨fun i H=>∃ xs x,SqL K H a xs∧xs[i]?=some x,fun i H x H'=>H'=H∧∀ xs,SqL K H a xs→xs[i]?=some x,fun i H=>∃ xs,SqL K H a xs∧xs.length≤i⟩
def Itt (K:PySem.W.Frag) (a:Addr):It:=
 ⟨fun i H=>∃ xs x,SqT K H a xs∧xs[i]?=some x,fun i H x H'=>H'=H∧∀ xs,SqT K H a xs→xs[i]?=some x,fun i H=>∃ xs,SqT K H a xs∧xs.length≤i⟩
def Itr (lo:Int) (n:Nat):It:=⟨fun i _=>i < n,fun i H x H'=>H'=H∧x=.int (lo+i),fun i _=>n≤i⟩
theorem jcC {P:Program} {w:World} {K:PySem.W.Frag} {tg:Expr} (a it:Addr):Turn P w K tg (Itl K a) [it] it (fun i h=>h.IsListIter it a i) where
 mem:=by simp
 obj:=fun i h st b hb=>by
  have e:b=it:=by simpa using hb
  subst e
  obtain ⟨o,e,c,d⟩:=st
  exact ⟨o,e,fun v z=>by rw [d] at z;cases z⟩
 keep:=fun i h h' st k=>st.at fun o e=>k it (by simp) o e
 item:=by
  intro X hP hw hK hc i pins s σ H E I hf st hg
  subst hP hw hK
  obtain ⟨xs,x,hq,hx⟩:=hg
  obtain ⟨its,rv,p,hz⟩:=I.list hq
  obtain ⟨u,hu,ru⟩:=rv.get hx
  obtain ⟨f0,f1,f2,f3,f4,f5⟩:=hf it (by simp)
  refine wpAny_pyNext_list_item st p.isList (x:=u) (by simpa using hu) fun h' st' sb=>?_
  have I1:Inv X pins σ H { s with heap:=h' }:=I.turned (t':=s.toks) (fun b o hb e=>(sb.2 b hb).trans e) f0 f1 f3 f4 f5
  obtain ⟨o,e,c,d⟩:=id st'
  exact ⟨u,rfl,jcg (s:={ s with heap:=h' }) e c d (by decide) ⟨x,H,I1,ru,⟨rfl,fun ys hy=>by rw [I.list_inj hy hq];exact hx⟩,st',fun b hb=>(hf b hb).1⟩⟩
 done:=by
  intro X hP hw hK hc i pins s σ H E I hf st hg
  subst hP hw hK
  obtain ⟨xs,hq,hx⟩:=hg
  obtain ⟨its,rv,p,hz⟩:=I.list hq
  obtain ⟨f0,f1,f2,f3,f4,f5⟩:=hf it (by simp)
  have hl:=rv.length
  exact wpAny_pyNext_list_end (I.ok.hd hc) st p.isList (by simp;omega) fun h' eb=>⟨rfl,I.turned (t':=s.toks) (fun b o hb e=>eb b o hb e) f0 f1 f3 f4 f5⟩
 self:=fun _ _ _ _ _ st h=>wpAny_pyIter_listiter st h
theorem ja6 {P:Program} {w:World} {K:PySem.W.Frag} {tg:Expr} (a it:Addr):Turn P w K tg (Itt K a) [it] it (fun i h=>h.IsTupleIter it a i) where
 mem:=by simp
 obj:=fun i h st b hb=>by
  have e:b=it:=by simpa using hb
  subst e
  obtain ⟨o,e,c,d⟩:=st
  exact ⟨o,e,fun v z=>by rw [d] at z;cases z⟩
 keep:=fun i h h' st k=>st.at fun o e=>k it (by simp) o e
 item:=by
  intro X hP hw hK hc i pins s σ H E I hf st hg
  subst hP hw hK
  obtain ⟨xs,x,hq,hx⟩:=hg
  obtain ⟨its,rv,p,hz⟩:=I.tuple hq
  obtain ⟨u,hu,ru⟩:=rv.get hx
  obtain ⟨f0,f1,f2,f3,f4,f5⟩:=hf it (by simp)
  refine wpAny_pyNext_tuple_item st (show s.heap.IsTuple a its.toArray from p) (x:=u) (by simpa using hu) fun h' st' sb=>?_
  have I1:Inv X pins σ H { s with heap:=h' }:=I.turned (t':=s.toks) (fun b o hb e=>(sb.2 b hb).trans e) f0 f1 f3 f4 f5
  obtain ⟨o,e,c,d⟩:=id st'
  exact ⟨u,rfl,jcg (s:={ s with heap:=h' }) e c d (by decide) ⟨x,H,I1,ru,⟨rfl,fun ys hy=>by rw [I.tuple_inj hy hq];exact hx⟩,st',fun b hb=>(hf b hb).1⟩⟩
 done:=by
  intro X hP hw hK hc i pins s σ H E I hf st hg
  subst hP hw hK
  obtain ⟨xs,hq,hx⟩:=hg
  obtain ⟨its,rv,p,hz⟩:=I.tuple hq
  obtain ⟨f0,f1,f2,f3,f4,f5⟩:=hf it (by simp)
  have hl:=rv.length
  exact wpAny_pyNext_tuple_end (I.ok.hd hc) st (show s.heap.IsTuple a its.toArray from p) (by simp;omega) fun h' eb=>⟨rfl,I.turned (t':=s.toks) (fun b o hb e=>eb b o hb e) f0 f1 f3 f4 f5⟩
 self:=fun _ _ _ _ _ st h=>wpAny_pyIter_tupleiter st h
theorem ja7 {P:Program} {w:World} {K:PySem.W.Frag} {tg:Expr} (it:Addr) (lo:Int) (n:Nat):Turn P w K tg (Itr lo n) [it] it (fun i h=>IsRangeIter h it (lo+(i:Nat) * 1) ((n:Int) - (i:Nat)) 1) where
 mem:=by simp
 obj:=fun i h st b hb=>by
  have e:b=it:=by simpa using hb
  subst e
  exact ⟨_,st,fun v z=>by
   have z':Data.fields _=Data.cell v:=z
   cases z'⟩
 keep:=fun i h h' st k=>k it (by simp) _ st
 item:=by
  intro X hP hw hK hc i pins s σ H E I hf st hg
  subst hP hw hK
  obtain ⟨f0,f1,f2,f3,f4,f5⟩:=hf it (by simp)
  have W:=Walks.range (prog:=X.prog) (w:=X.w) (I.ok.hd hc) it lo 1 n
  refine W.item i s _ _ hg st fun v h' tk hv st' kk=>?_
  obtain ⟨t,rfl⟩:=hv
  have I1:Inv X pins σ H { s with heap:=h',toks:=tk }:=I.turned (fun b o hb e=>kk b o (by simpa using hb) e) f0 f1 f3 f4 f5
  refine ⟨_,rfl,jcg (s:={ s with heap:=h',toks:=tk }) (n:="range_iterator") st' rfl rfl (by decide) ⟨.int (lo+i),H,I1,⟨t,?_⟩,⟨rfl,rfl⟩,st',fun b hb=>(hf b hb).1⟩⟩
  rw [Int.mul_one]
 done:=by
  intro X hP hw hK hc i pins s σ H E I hf st hg
  subst hP hw hK
  obtain ⟨f0,f1,f2,f3,f4,f5⟩:=hf it (by simp)
  exact wpAny_pyNext_range_end (I.ok.hd hc) st (by have:n≤i:=hg;omega) fun h' eb=>⟨rfl,I.turned (t':=s.toks) (fun b o hb e=>eb b o hb e) f0 f1 f3 f4 f5⟩
 self:=fun _ _ _ _ _ st h=>wpAny_pyIter_rangeiter st h
section
variable {X:Cx} {tg:Expr}
def jgq (K:PySem.W.Frag) (tl:TE):TI:=fun σ H R=>tl σ H fun x H1=>∃ a,x=.ref a∧(∃ xs,SqL K H1 a xs)∧R (Itl K a) H1
def jh1 (K:PySem.W.Frag) (tl:TE):TI:=fun σ H R=>tl σ H fun x H1=>∃ a,x=.ref a∧(∃ xs,SqT K H1 a xs)∧R (Itt K a) H1
theorem Kq {l:Expr} {tl:TE} (hl:PE X l tl):PI X tg l (jgq X.K tl):=by
 intro pins s σ H R I h
 refine thn (hl pins s σ H _ I h) fun v s1 ⟨x,H1,I1,r1,q1⟩=>?_
 obtain ⟨a,e,⟨xs,hq⟩,q⟩:=q1
 subst e
 cases r1
 obtain ⟨its,rv,p,hz⟩:=I1.list hq
 refine wpAny_pyIter_list p.isList ?_
 refine ⟨s1.heap.objs.size,[s1.heap.objs.size],_,_,H1,rfl,I1.kept (t':=s1.toks) fun b o e=>Heap.get?_push_of_some _ e,jcC a _,⟨_,Heap.get?_push_size _ rfl,rfl,rfl⟩,fun b hb=>?_,q⟩
 have e:b=s1.heap.objs.size:=by simpa using hb
 subst e
 exact I1.fpOk (Nat.le_refl _) (I1.hok.fresh (Nat.le_refl _))
theorem KN {l:Expr} {tl:TE} (hl:PE X l tl):PI X tg l (jh1 X.K tl):=by
 intro pins s σ H R I h
 refine thn (hl pins s σ H _ I h) fun v s1 ⟨x,H1,I1,r1,q1⟩=>?_
 obtain ⟨a,e,⟨xs,hq⟩,q⟩:=q1
 subst e
 cases r1
 obtain ⟨its,rv,p,hz⟩:=I1.tuple hq
 refine wpAny_pyIter_tuple (show s1.heap.IsTuple a its.toArray from p) ?_
 refine ⟨s1.heap.objs.size,[s1.heap.objs.size],_,_,H1,rfl,I1.kept (t':=s1.toks) fun b o e=>Heap.get?_push_of_some _ e,ja6 a _,⟨_,Heap.get?_push_size _ rfl,rfl,rfl⟩,fun b hb=>?_,q⟩
 have e:b=s1.heap.objs.size:=by simpa using hb
 subst e
 exact I1.fpOk (Nat.le_refl _) (I1.hok.fresh (Nat.le_refl _))
theorem jd0 {pins:List (Addr×Obj)} {σ:St} {H:Hp} {s:Shared} {R:It→Hp→Prop} {E:Value→Shared→Prop} {lo hi:Int} {t u v:Tok} {tk:Nat} (I:Inv X pins σ H s) (h1:-(2 ^ 62)≤lo) (h2:lo < 2 ^ 62) (h3:-(2 ^ 62)≤hi) (h4:hi < 2 ^ 62)
  (q:R (Itr lo (hi - lo).toNat) H):wpAny (model X.prog X.w) X.A (pyIter (.ref s.heap.objs.size)) (PIE X pins σ tg R) E { s with heap:=s.heap.push { cls:=.type "range",data:=.fields #[.int lo t,.int hi u,.int 1 v] },toks:=tk }:=by
 refine wpAny_pyIter_range (IsRange.new ..) (small_one h1 h2 h3 h4) ?_
 have I1:Inv X pins σ H { s with heap:=s.heap.push { cls:=.type "range",data:=.fields #[.int lo t,.int hi u,.int 1 v] },toks:=tk }:=I.kept fun b o e=>Heap.get?_push_of_some _ e
 refine ⟨(s.heap.push { cls:=.type "range",data:=.fields #[.int lo t,.int hi u,.int 1 v] }).objs.size,[(s.heap.push { cls:=.type "range",data:=.fields #[.int lo t,.int hi u,.int 1 v] }).objs.size],_,_,H,rfl,
  I1.kept (t':=tk) fun b o e=>Heap.get?_push_of_some _ e,ja7 _ lo (hi - lo).toNat,?_,fun b hb=>?_,q⟩
 ·have e1:lo+((0:Nat):Int) * 1=lo:=by simp
  have e2:(((hi - lo).toNat:Nat):Int) - ((0:Nat):Int)=Builtin.Range.rangeSize lo hi 1:=by rw [rangeSize_one];split <;> omega
  show IsRangeIter _ _ (lo+((0:Nat):Int) * 1) ((((hi - lo).toNat:Nat):Int) - ((0:Nat):Int)) 1
  rw [e1,e2]
  exact Heap.get?_push_size _ rfl
 ·have e:b=(s.heap.push { cls:=.type "range",data:=.fields #[.int lo t,.int hi u,.int 1 v] }).objs.size:=by simpa using hb
  subst e
  exact I1.fpOk (Nat.le_refl _) (I1.hok.fresh (Nat.le_refl _))
def jgp (ta:TA):TI:=fun σ H R=>ta σ H fun vs H1=>∃ j:Int,vs=[.int j]∧-(2 ^ 62)≤j∧j < 2 ^ 62∧R (Itr 0 j.toNat) H1
theorem zf {a:Expr} {ta:TA} {p pos:Pos} (hg:Gl X "range") (hm:X.mg "range" = none) (ha:PA X [a] ta) (hs:starEach [a] X.env=[(false,eval a X.env)]:=by rfl):PI X tg (.Call (.Name "range" p) [a] [] pos) (jgp ta):=by
 intro pins s σ H R I h
 refine Call_ (yx I hg hm boot_range (PyProof.Rows.callWith_type1 (thn (ha pos pins s σ H _ I h) fun us s1 ⟨vs,H1,I1,r1,q1⟩=>?_) hs rfl))
 obtain ⟨j,e,q1,q2,q⟩:=q1
 subst e
 cases r1 with
 | cons r rr=>
  cases rr
  obtain ⟨t,rfl⟩:=r
  exact call_range_1 (jd0 I1 (by omega) (by omega) q1 q2 (by simpa using q))
def jhB (wi:TI) (g:TG) (tb:TS):TS:=fun D σ H=>wi σ H fun J H1=>∃ W:Nat→Nat→St→Hp→Prop,(∃ m,W 0 m σ H1)∧∀ i m σ H,W i m σ H→
 (J.stop i H∧D.nx σ H)∨(J.go i H∧∃ N:St→Hp→Prop,(∀ σ' H',N σ' H'→∃ m',m' < m∧W (i+1) m' σ' H')∧∀ x H',J.yld i H x H'→g x σ H' fun σ2 H2=>tb { D with nx:=N,ct:=N,bk:=D.nx } σ2 H2)
def zW (fp:List Addr) (h:Heap):List (Addr×Obj):=fp.filterMap fun b=>(h.get? b).map fun o=>(b,o)
theorem qm {fp:List Addr} {h:Heap} {b:Addr} {o:Obj} (hb:b∈fp) (e:h.get? b=some o):(b,o)∈zW fp h:=List.mem_filterMap.mpr ⟨b,hb,by rw [e];rfl⟩
theorem jcY {fp:List Addr} {h:Heap} {p:Addr×Obj} (hp:p∈zW fp h):p.1∈fp∧h.get? p.1=some p.2:=by
 obtain ⟨b,hb,e⟩:=List.mem_filterMap.mp hp
 cases q:h.get? b with
 | none=>rw [q] at e;cases e
 | some o=>
  rw [q] at e
  have e':(b,o)=p:=Option.some.inj e
  subst e'
  exact ⟨hb,q⟩
theorem Inv.pinned {pins:List (Addr×Obj)} {σ:St} {H:Hp} {s:Shared} {fp:List Addr} (I:Inv X pins σ H s) (hf:∀ b∈fp,Jy X pins H b) (ho:∀ b∈fp,∃ o,s.heap.get? b=some o∧∀ v,o.data≠.cell v):Inv X (pins++zW fp s.heap) σ H s:=
 I.pins_of fun p hp=>(List.mem_append.mp hp).elim (fun z=>I.pin p (List.mem_append_right _ z)) fun z=>by
  obtain ⟨hb,e⟩:=jcY z
  obtain ⟨f0,f1,f2,_⟩:=hf p.1 hb
  obtain ⟨o,e',d⟩:=ho p.1 hb
  rw [e] at e';cases e'
  exact ⟨e,f0,f1,f2,d⟩
theorem Inv.unpinned {pins pl:List (Addr×Obj)} {σ:St} {H:Hp} {s:Shared} (I:Inv X (pins++pl) σ H s):Inv X pins σ H s:=I.pins_of fun p hp=>I.pin p (List.mem_append_right _ (List.mem_append_left _ hp))
theorem zV {iter:Expr} {body:List Stmt} {wi:TI} {g:TG} {tb:TS} {pos:Pos} (hp:PassesOwn (model X.prog X.w) X.A X.env X.xe) (hc:X.calm=true) (hi:PI X tg iter wi) (hg:PG X tg g) (hb:PSs X body tb)
  (hs:∀ x,foldedSetIterable iter X.env x=pure x:=by intro _;rfl):PS X (.For tg iter body [] pos) (jhB wi g tb):=by
 intro pins s σ H D I h
 refine wpAny_For (thn (hi pins s σ H _ I h) fun v s1 h1=>thn h1 fun itv s2 h2=>?_) hs
 obtain ⟨it,fp,tn,J,H2,e,I2,T,st2,f2,W,⟨m0,w0⟩,turn⟩:=h2
 subst e
 have stat:∀ {H':Hp},(∀ b∈fp,H' b=none)→∀ b∈fp,Jy X pins H' b:=fun hn b hb=>⟨hn b hb,(f2 b hb).2⟩
 refine codeAny_forLoop_any (fun n s'=>∃ i σ' H',Inv X pins σ' H' s'∧tn i s'.heap∧(∀ b∈fp,H' b=none)∧W i n σ' H') ?_ m0 ⟨0,σ,H2,I2,st2,fun b hb=>(f2 b hb).1,w0⟩
 rintro n s3 ⟨i,σ3,H3,I3,st3,fr3,w3⟩
 rcases turn i n σ3 H3 w3 with ⟨stop,qn⟩ | ⟨go,N,hN,step⟩
 ·refine wpAny_passesOwn hp (thn (T.done X rfl rfl rfl hc i pins s3 σ3 H3 X.xe I3 (stat fr3) st3 stop) fun r s4 ⟨hr,I4⟩=>?_)
  subst hr
  exact wpAny_execs_nil ⟨σ3,H3,I4,qn⟩
 ·refine wpAny_passesOwn hp (thn (T.item X rfl rfl rfl hc i pins s3 σ3 H3 X.xe I3 (stat fr3) st3 go) fun r s4 ⟨u,hr,h4⟩=>?_)
  subst hr
  refine wpAny_passesOwn hp (thn h4 fun _ s5 ⟨x,H5,I5,r5,y5,st5,fr5⟩=>?_)
  have I5':=I5.pinned (stat fr5) (T.obj _ _ st5)
  refine wpAny_passesOwn hp (thn (hg _ s5 σ3 H5 x u _ I5' r5 (step x H5 y5)) fun _ s6 ⟨σ6,H6,I6,q6⟩=>?_)
  refine wpAny_passesOwn hp (thn (hb _ s6 σ6 H6 _ I6 q6) fun f s7 q7=>?_)
  have again:∀ {σ7:St} {H7:Hp},Inv X (pins++zW fp s5.heap) σ7 H7 s7→N σ7 H7→∃ m,m < n∧∃ i σ' H',Inv X pins σ' H' s7∧tn i s7.heap∧(∀ b∈fp,H' b=none)∧W i m σ' H':=fun {σ7 H7} I7 n7=>by
   obtain ⟨m',hm,w7⟩:=hN σ7 H7 n7
   refine ⟨m',hm,i+1,σ7,H7,I7.unpinned,T.keep _ _ _ st5 fun b hb o e=>(I7.pin (b,o) (List.mem_append_right _ (List.mem_append_right _ (qm hb e)))).1,fun b hb=>?_,w7⟩
   obtain ⟨o,e,d⟩:=T.obj _ _ st5 b hb
   exact (I7.pin (b,o) (List.mem_append_right _ (List.mem_append_right _ (qm hb e)))).2.1
  cases f with
  | next=>obtain ⟨σ7,H7,I7,n7⟩:=q7;exact again I7 n7
  | cont=>obtain ⟨σ7,H7,I7,n7⟩:=q7;exact again I7 n7
  | brk=>obtain ⟨σ7,H7,I7,q7⟩:=q7;exact ⟨σ7,H7,I7.unpinned,q7⟩
  | ret v=>obtain ⟨x7,σ7,H7,I7,r7,q7⟩:=q7;exact ⟨x7,σ7,H7,I7.unpinned,r7,q7⟩
end
theorem K7 {K:PySem.W.Frag} {a:Addr} {xs:List V} {g:TG} {tb:TS} {D:Ends} {σ:St} {H:Hp} (Pv:Nat→St→Hp→Prop) (h0:Pv 0 σ H) (hl:∀ i σ H,i≤xs.length→Pv i σ H→SqL K H a xs)
  (hs:∀ i x σ H,xs[i]?=some x→Pv i σ H→g x σ H fun σ2 H2=>tb { D with nx:=Pv (i+1),ct:=Pv (i+1),bk:=D.nx } σ2 H2) (hd:∀ σ H,Pv xs.length σ H→D.nx σ H) :
  ∃ W:Nat→Nat→St→Hp→Prop,(∃ m,W 0 m σ H)∧∀ i m σ H,W i m σ H→
   ((Itl K a).stop i H∧D.nx σ H)∨((Itl K a).go i H∧∃ N:St→Hp→Prop,(∀ σ' H',N σ' H'→∃ m',m' < m∧W (i+1) m' σ' H')∧∀ x H',(Itl K a).yld i H x H'→g x σ H' fun σ2 H2=>tb { D with nx:=N,ct:=N,bk:=D.nx } σ2 H2):=by
 refine ⟨fun i m σ H=>m=xs.length - i∧i≤xs.length∧Pv i σ H,⟨xs.length,by simp,Nat.zero_le _,h0⟩,?_⟩
 rintro i m σ H ⟨rfl,hi,p⟩
 have q:=hl i σ H hi p
 by_cases hlt:i < xs.length
 ·refine .inr ⟨⟨xs,xs[i],q,by simp [hlt]⟩,Pv (i+1),fun σ' H' p'=>⟨xs.length - (i+1),by omega,rfl,hlt,p'⟩,fun x H' y=>?_⟩
  obtain ⟨e,y⟩:=y
  subst e
  exact hs i x σ _ (y xs q) p
 ·have e:i=xs.length:=by omega
  subst e
  exact .inl ⟨⟨xs,q,Nat.le_refl _⟩,hd σ H p⟩
theorem ZL {K:PySem.W.Frag} {a:Addr} {xs:List V} {g:TG} {tb:TS} {D:Ends} {σ:St} {H:Hp} (Pv:Nat→St→Hp→Prop) (h0:Pv 0 σ H) (hl:∀ i σ H,i≤xs.length→Pv i σ H→SqT K H a xs)
  (hs:∀ i x σ H,xs[i]?=some x→Pv i σ H→g x σ H fun σ2 H2=>tb { D with nx:=Pv (i+1),ct:=Pv (i+1),bk:=D.nx } σ2 H2) (hd:∀ σ H,Pv xs.length σ H→D.nx σ H) :
  ∃ W:Nat→Nat→St→Hp→Prop,(∃ m,W 0 m σ H)∧∀ i m σ H,W i m σ H→
   ((Itt K a).stop i H∧D.nx σ H)∨((Itt K a).go i H∧∃ N:St→Hp→Prop,(∀ σ' H',N σ' H'→∃ m',m' < m∧W (i+1) m' σ' H')∧∀ x H',(Itt K a).yld i H x H'→g x σ H' fun σ2 H2=>tb { D with nx:=N,ct:=N,bk:=D.nx } σ2 H2):=by
 refine ⟨fun i m σ H=>m=xs.length - i∧i≤xs.length∧Pv i σ H,⟨xs.length,by simp,Nat.zero_le _,h0⟩,?_⟩
 rintro i m σ H ⟨rfl,hi,p⟩
 have q:=hl i σ H hi p
 by_cases hlt:i < xs.length
 ·refine .inr ⟨⟨xs,xs[i],q,by simp [hlt]⟩,Pv (i+1),fun σ' H' p'=>⟨xs.length - (i+1),by omega,rfl,hlt,p'⟩,fun x H' y=>?_⟩
  obtain ⟨e,y⟩:=y
  subst e
  exact hs i x σ _ (y xs q) p
 ·have e:i=xs.length:=by omega
  subst e
  exact .inl ⟨⟨xs,q,Nat.le_refl _⟩,hd σ H p⟩
theorem JU {lo:Int} {n:Nat} {g:TG} {tb:TS} {D:Ends} {σ:St} {H:Hp} (Pv:Nat→St→Hp→Prop) (h0:Pv 0 σ H)
  (hs:∀ i σ H,i < n→Pv i σ H→g (.int (lo+i)) σ H fun σ2 H2=>tb { D with nx:=Pv (i+1),ct:=Pv (i+1),bk:=D.nx } σ2 H2) (hd:∀ σ H,Pv n σ H→D.nx σ H) :
  ∃ W:Nat→Nat→St→Hp→Prop,(∃ m,W 0 m σ H)∧∀ i m σ H,W i m σ H→
   ((Itr lo n).stop i H∧D.nx σ H)∨((Itr lo n).go i H∧∃ N:St→Hp→Prop,(∀ σ' H',N σ' H'→∃ m',m' < m∧W (i+1) m' σ' H')∧∀ x H',(Itr lo n).yld i H x H'→g x σ H' fun σ2 H2=>tb { D with nx:=N,ct:=N,bk:=D.nx } σ2 H2):=by
 refine ⟨fun i m σ H=>m=n - i∧i≤n∧Pv i σ H,⟨n,by simp,Nat.zero_le _,h0⟩,?_⟩
 rintro i m σ H ⟨rfl,hi,p⟩
 by_cases hlt:i < n
 ·refine .inr ⟨hlt,Pv (i+1),fun σ' H' p'=>⟨n - (i+1),by omega,rfl,hlt,p'⟩,fun x H' y=>?_⟩
  obtain ⟨e,y⟩:=y
  subst e y
  exact hs i σ _ hlt p
 ·have e:i=n:=by omega
  subst e
  exact .inl ⟨Nat.le_refl _,hd σ H p⟩
theorem jdz {c:TT} {tb:TS} {D:Ends} {σ:St} {H:Hp} (Pv:St→Hp→Prop) (μ:St→Hp→Nat) (h0:Pv σ H)
  (hs:∀ σ H,Pv σ H→c σ H fun b H1=>if b=true then tb { D with nx:=fun σ' H'=>Pv σ' H'∧μ σ' H' < μ σ H,ct:=fun σ' H'=>Pv σ' H'∧μ σ' H' < μ σ H,bk:=D.nx } σ H1 else D.nx σ H1)
  (mono:∀ σ H Q Q',(∀ b H1,Q b H1→Q' b H1)→c σ H Q→c σ H Q'):ja9 c tb D σ H:=by
 refine ⟨fun m σ H=>m=μ σ H∧Pv σ H,⟨_,rfl,h0⟩,?_⟩
 rintro m σ H ⟨rfl,p⟩
 refine mono σ H _ _ (fun b H1 q=>?_) (hs σ H p)
 cases b with
 | true=>exact ⟨_,fun σ' H' ⟨p',l⟩=>⟨_,l,rfl,p'⟩,q⟩
 | false=>exact q
abbrev R2:=V→V→Hp→VK→Prop
def OpR (X:Cx) (f:Value→Value→Sem Value) (r:R2):Prop:=
 ∀ (pins:List (Addr×Obj)) (s:Shared) (σ:St) (H:Hp) (x y:V) (v u:Value) (Q:VK),Inv X pins σ H s→RelV x v→RelV y u→r x y H Q→
  wpAny (model X.prog X.w) X.A (f v u) (EP X pins σ Q) X.xe s
def UnR (X:Cx) (f:Value→Sem Value) (r:V→Hp→VK→Prop):Prop:=
 ∀ (pins:List (Addr×Obj)) (s:Shared) (σ:St) (H:Hp) (x:V) (v:Value) (Q:VK),Inv X pins σ H s→RelV x v→r x H Q→
  wpAny (model X.prog X.w) X.A (f v) (EP X pins σ Q) X.xe s
def q8 (X:Cx) (f:Value) (r:List V→Hp→VK→Prop):Prop:=
 ∀ (pins:List (Addr×Obj)) (s:Shared) (σ:St) (H:Hp) (xs:List V) (us:List Value) (Q:VK),Inv X pins σ H s→Vals xs us→r xs H Q→
  wpAny (model X.prog X.w) X.A (call f us) (EP X pins σ Q) X.xe s
def tOp (r:R2) (ta tb:TE):TE:=fun σ H Q=>ta σ H fun x H1=>tb σ H1 fun y H2=>r x y H2 Q
def tUn (r:V→Hp→VK→Prop) (ta:TE):TE:=fun σ H Q=>ta σ H fun x H1=>r x H1 Q
def rI (C:Int→Int→Prop) (g:Int→Int→V):R2:=fun x y H Q=>∃ i j,x=.int i∧y=.int j∧C i j∧Q (g i j) H
def rI0 (g:Int→Int→V):R2:=fun x y H Q=>∃ i j,x=.int i∧y=.int j∧Q (g i j) H
def rU (g:Int→V):V→Hp→VK→Prop:=fun x H Q=>∃ i,x=.int i∧Q (g i) H
section
variable {X:Cx} {a b c:Expr} {ta tb tc:TE} {pos:Pos}
theorem jhl (ha:PE X a ta) (hb:PE X b tb) {pins:List (Addr×Obj)} {s:Shared} {σ:St} {H:Hp} {R:V→V→Hp→Prop} (I:Inv X pins σ H s)
  (h:ta σ H fun x H1=>tb σ H1 fun y H2=>R x y H2) {Q:Value→Shared→Prop} {f:Value→Value→Sem Value}
  (hf:∀ v u s2 x y H2,Inv X pins σ H2 s2→RelV x v→RelV y u→R x y H2→wpAny (model X.prog X.w) X.A (f v u) Q X.xe s2) :
  wpAny (model X.prog X.w) X.A (eval a X.env) (fun v s₁=>wpAny (model X.prog X.w) X.A (eval b X.env) (fun u s₂=>wpAny (model X.prog X.w) X.A (f v u) Q X.xe s₂) X.xe s₁) X.xe s:=by
 refine thn (ha pins s σ H _ I h) fun v s1 ⟨x,H1,I1,r1,q1⟩=>?_
 refine thn (hb pins s1 σ H1 _ I1 q1) fun u s2 ⟨y,H2,I2,r2,q2⟩=>?_
 exact hf v u s2 x y H2 I2 r1 r2 q2
theorem jy {op:Operator} {r:R2} (ho:OpR X (binaryOp op) r) (ha:PE X a ta) (hb:PE X b tb):PE X (.BinOp a op b pos) (tOp r ta tb):=by
 intro pins s σ H Q I h
 exact wpAny_BinOp (jhl ha hb I h fun v u s2 x y H2 I2 rx ry q=>ho pins s2 σ H2 x y v u Q I2 rx ry q)
theorem jhQ {op:UnaryOp} {r:V→Hp→VK→Prop} (ho:UnR X (unaryOp op) r) (ha:PE X a ta):PE X (.UnaryOp op a pos) (tUn r ta):=by
 intro pins s σ H Q I h
 exact UnaryOp_ (thn (ha pins s σ H _ I h) fun v s1 ⟨x,H1,I1,r1,q1⟩=>ho pins s1 σ H1 x v Q I1 r1 q1)
theorem opI {f:Value→Value→Sem Value} {C:Int→Int→Prop} {g:Int→Int→Int}
  (rule:∀ (i j:Int) (t u:Tok) (s:Shared) (Q:Value→Shared→Prop) (E:Value→Shared→Prop),C i j→Q (.int (g i j) s.toks) { s with toks:=s.toks+1 }→wpAny (model X.prog X.w) X.A (f (.int i t) (.int j u)) Q E s) :
  OpR X f (rI C fun i j=>.int (g i j)):=by
 intro pins s σ H x y v u Q I rx ry h
 obtain ⟨i,j,rfl,rfl,hc,q⟩:=h
 obtain ⟨t,rfl⟩:=rx
 obtain ⟨t',rfl⟩:=ry
 exact rule i j t t' s _ _ hc ⟨.int (g i j),H,I.tok _,⟨_,rfl⟩,q⟩
theorem jhW {f:Value→Value→Sem Value} {g:Int→Int→Int}
  (rule:∀ (i j:Int) (t u:Tok) (s:Shared) (Q:Value→Shared→Prop) (E:Value→Shared→Prop),Q (.int (g i j) s.toks) { s with toks:=s.toks+1 }→wpAny (model X.prog X.w) X.A (f (.int i t) (.int j u)) Q E s) :
  OpR X f (rI0 fun i j=>.int (g i j)):=by
 intro pins s σ H x y v u Q I rx ry h
 obtain ⟨i,j,rfl,rfl,q⟩:=h
 obtain ⟨t,rfl⟩:=rx
 obtain ⟨t',rfl⟩:=ry
 exact rule i j t t' s _ _ ⟨.int (g i j),H,I.tok _,⟨_,rfl⟩,q⟩
theorem jfI {f:Value→Value→Sem Value} {g:Int→Int→Bool}
  (rule:∀ (i j:Int) (t u:Tok) (s:Shared) (Q:Value→Shared→Prop) (E:Value→Shared→Prop),Q (.bool (g i j)) s→wpAny (model X.prog X.w) X.A (f (.int i t) (.int j u)) Q E s) :
  OpR X f (rI0 fun i j=>.bl (g i j)):=by
 intro pins s σ H x y v u Q I rx ry h
 obtain ⟨i,j,rfl,rfl,q⟩:=h
 obtain ⟨t,rfl⟩:=rx
 obtain ⟨t',rfl⟩:=ry
 exact rule i j t t' s _ _ ⟨.bl (g i j),H,I,rfl,q⟩
def jiv (i j:Int):Prop:=0≤j∧j≤1000000∧i.natAbs < 2 ^ 64
def CMul (i j:Int):Prop:=(-(2 ^ 64) < i∧i < 2 ^ 64)∨(-(2 ^ 64) < j∧j < 2 ^ 64)
theorem CMul.ok {i j:Int} (h:CMul i j):IntMulOk i j:=by
 rcases h with ⟨h1,h2⟩ | ⟨h1,h2⟩
 ·exact .of_left (intBits_le_64 h1 h2)
 ·exact .of_right (intBits_le_64 h1 h2)
theorem jH:OpR X (binaryOp .Add) (rI0 fun i j=>.int (i+j)):=jhW fun _ _ _ _ _ _ _ q=>add_int q
theorem qY:OpR X (binaryOp .Sub) (rI0 fun i j=>.int (i - j)):=jhW fun _ _ _ _ _ _ _ q=>sub_int q
theorem qk:OpR X (binaryOp .Mult) (rI CMul fun i j=>.int (i * j)):=opI fun _ _ _ _ _ _ _ hc q=>mul_int q hc.ok
theorem j6:OpR X (binaryOp .Mod) (rI (fun _ j=>0 < j) fun i j=>.int (i % j)):=opI fun i j _ _ _ _ _ hc q=>by
 have h1:(0:Int) < j:=hc
 exact mod_int' (by omega) (by rw [Int.fmod_eq_emod_of_nonneg i (by omega)];exact q)
theorem JK:OpR X (binaryOp .Pow) (rI jiv fun i j=>.int (i ^ j.toNat)):=opI fun _ _ _ _ _ _ _ hc q=>pow_int_small hc.1 hc.2.1 hc.2.2 q
theorem unI {f:Value→Sem Value} {g:Int→Int}
  (rule:∀ (i:Int) (t:Tok) (s:Shared) (Q:Value→Shared→Prop) (E:Value→Shared→Prop),Q (.int (g i) s.toks) { s with toks:=s.toks+1 }→wpAny (model X.prog X.w) X.A (f (.int i t)) Q E s) :
  UnR X f (rU fun i=>.int (g i)):=by
 intro pins s σ H x v Q I rx h
 obtain ⟨i,rfl,q⟩:=h
 obtain ⟨t,rfl⟩:=rx
 exact rule i t s _ _ ⟨.int (g i),H,I.tok _,⟨_,rfl⟩,q⟩
theorem Zd:UnR X (unaryOp .USub) (rU fun i=>.int (-i)):=unI fun _ _ _ _ _ q=>neg_int q
end
def jhG:V→V→Bool
 | .non,.non=>true | .non,.int _=>true | .int _,.non=>true | .non,.bl _=>true | .bl _,.non=>true | .non,.str _=>true | .str _,.non=>true
 | .int _,.int _=>true | .bl _,.bl _=>true | .str _,.str _=>true | .byt _,.byt _=>true
 | .int _,.str _=>true | .str _,.int _=>true | .bl _,.str _=>true | .str _,.bl _=>true
 | _,_=>false
def rEq:R2:=fun x y H Q=>jhG x y=true∧Q (.bl (decide (x=y))) H
def rNe:R2:=fun x y H Q=>jhG x y=true∧Q (.bl (!decide (x=y))) H
theorem jcm {i j:Int}:decide (V.int i=V.int j)=(i == j):=by
 rw [Bool.eq_iff_iff]
 simp
theorem jeK {i j:Bool}:decide (V.bl i=V.bl j)=(i == j):=by
 rw [Bool.eq_iff_iff]
 simp
theorem jcl {i j:Str}:decide (V.str i=V.str j)=(i == j):=by
 rw [Bool.eq_iff_iff]
 simp
theorem jcn {i j:Array UInt8}:decide (V.byt i=V.byt j)=(i.toList == j.toList):=by
 rw [Bool.eq_iff_iff]
 cases i
 cases j
 simp
section
variable {X:Cx} {a b c:Expr} {ta tb tc:TE} {pos:Pos}
theorem j8 {pins:List (Addr×Obj)} {σ:St} {H:Hp} {s:Shared} {Q:VK} {k k':Bool} (I:Inv X pins σ H s) (q:Q (.bl k) H) (e:k=k'):EP X pins σ Q (.bool k') s:=by
 subst e
 exact ⟨.bl k,H,I,rfl,q⟩
theorem kX:OpR X (compareOp .Eq) rEq:=by
 intro pins s σ H x y v u Q I rx ry h
 obtain ⟨hs,q⟩:=h
 cases x with
 | non=>
  cases rx
  cases y with
  | non=>cases ry;exact PySem.EqNone.eq_none_none (j8 I q (by simp))
  | bl j=>cases ry;exact PySem.EqNone.eq_none_bool (j8 I q (by simp))
  | int j=>obtain ⟨t',rfl⟩:=ry;exact PySem.EqNone.eq_none_int (j8 I q (by simp))
  | str j=>obtain ⟨t',rfl⟩:=ry;exact PySem.EqNone.eq_none_str (j8 I q (by simp))
  | _=>exact absurd (show false=true from hs) Bool.false_ne_true
 | bl i=>
  cases rx
  cases y with
  | non=>cases ry;exact PySem.EqNone.eq_bool_none (j8 I q (by simp))
  | bl j=>cases ry;exact eq_bool (j8 I q jeK)
  | str j=>obtain ⟨t',rfl⟩:=ry;exact PySem.EqMixed.eq_bool_str (j8 I q (by simp))
  | _=>exact absurd (show false=true from hs) Bool.false_ne_true
 | int i=>
  obtain ⟨t,rfl⟩:=rx
  cases y with
  | non=>cases ry;exact PySem.EqNone.eq_int_none (j8 I q (by simp))
  | int j=>obtain ⟨t',rfl⟩:=ry;exact eq_int (j8 I q jcm)
  | str j=>obtain ⟨t',rfl⟩:=ry;exact PySem.EqMixed.eq_int_str (j8 I q (by simp))
  | _=>exact absurd (show false=true from hs) Bool.false_ne_true
 | str i=>
  obtain ⟨t,rfl⟩:=rx
  cases y with
  | non=>cases ry;exact PySem.EqNone.eq_str_none (j8 I q (by simp))
  | bl j=>cases ry;exact PySem.EqMixed.eq_str_bool (j8 I q (by simp))
  | int j=>obtain ⟨t',rfl⟩:=ry;exact PySem.EqMixed.eq_str_int (j8 I q (by simp))
  | str j=>obtain ⟨t',rfl⟩:=ry;exact eq_str (j8 I q jcl)
  | _=>exact absurd (show false=true from hs) Bool.false_ne_true
 | byt i=>
  obtain ⟨t,rfl⟩:=rx
  cases y with
  | byt j=>obtain ⟨t',rfl⟩:=ry;exact PySem.W.eq_bytes (j8 I q jcn)
  | _=>exact absurd (show false=true from hs) Bool.false_ne_true
 | _=>cases y <;> exact absurd (show false=true from hs) Bool.false_ne_true
theorem jed:OpR X (compareOp .NotEq) rNe:=by
 intro pins s σ H x y v u Q I rx ry h
 obtain ⟨hs,q⟩:=h
 cases x with
 | non=>
  cases rx
  cases y with
  | non=>cases ry;exact PySem.EqNone.ne_none_none (j8 I q (by simp))
  | bl j=>cases ry;exact PySem.EqNone.ne_none_bool (j8 I q (by simp))
  | int j=>obtain ⟨t',rfl⟩:=ry;exact PySem.EqNone.ne_none_int (j8 I q (by simp))
  | str j=>obtain ⟨t',rfl⟩:=ry;exact PySem.EqNone.ne_none_str (j8 I q (by simp))
  | _=>exact absurd (show false=true from hs) Bool.false_ne_true
 | bl i=>
  cases rx
  cases y with
  | non=>cases ry;exact PySem.EqNone.ne_bool_none (j8 I q (by simp))
  | bl j=>cases ry;exact ne_bool (j8 I q (congrArg not jeK))
  | str j=>obtain ⟨t',rfl⟩:=ry;exact PySem.EqMixed.ne_bool_str (j8 I q (by simp))
  | _=>exact absurd (show false=true from hs) Bool.false_ne_true
 | int i=>
  obtain ⟨t,rfl⟩:=rx
  cases y with
  | non=>cases ry;exact PySem.EqNone.ne_int_none (j8 I q (by simp))
  | int j=>obtain ⟨t',rfl⟩:=ry;exact ne_int (j8 I q (congrArg not jcm))
  | str j=>obtain ⟨t',rfl⟩:=ry;exact PySem.EqMixed.ne_int_str (j8 I q (by simp))
  | _=>exact absurd (show false=true from hs) Bool.false_ne_true
 | str i=>
  obtain ⟨t,rfl⟩:=rx
  cases y with
  | non=>cases ry;exact PySem.EqNone.ne_str_none (j8 I q (by simp))
  | bl j=>cases ry;exact PySem.EqMixed.ne_str_bool (j8 I q (by simp))
  | int j=>obtain ⟨t',rfl⟩:=ry;exact PySem.EqMixed.ne_str_int (j8 I q (by simp))
  | str j=>obtain ⟨t',rfl⟩:=ry;exact ne_str (j8 I q (congrArg not jcl))
  | _=>exact absurd (show false=true from hs) Bool.false_ne_true
 | byt i=>
  obtain ⟨t,rfl⟩:=rx
  cases y with
  | byt j=>obtain ⟨t',rfl⟩:=ry;exact PySem.W.ne_bytes (j8 I q (congrArg not jcn))
  | _=>exact absurd (show false=true from hs) Bool.false_ne_true
 | _=>cases y <;> exact absurd (show false=true from hs) Bool.false_ne_true
theorem jas:OpR X (compareOp .Lt) (rI0 fun i j=>.bl (decide (i < j))):=jfI fun _ _ _ _ _ _ _ q=>lt_int q
theorem jb6:OpR X (compareOp .LtE) (rI0 fun i j=>.bl (decide (i≤j))):=jfI fun _ _ _ _ _ _ _ q=>le_int q
theorem jee:OpR X (compareOp .Gt) (rI0 fun i j=>.bl (decide (j < i))):=jfI fun _ _ _ _ _ _ _ q=>gt_int q
theorem jhV:OpR X (compareOp .GtE) (rI0 fun i j=>.bl (decide (j≤i))):=jfI fun _ _ _ _ _ _ _ q=>ge_int q
theorem Zn:OpR X (compareOp .Is) (fun x y H Q=>y=.non∧Q (.bl (decide (x=.non))) H):=by
 intro pins s σ H x y v u Q I rx ry h
 obtain ⟨rfl,q⟩:=h
 cases ry
 refine is_none_gen (j8 I q ?_)
 cases x <;> first
  | (cases rx;rfl)
  | (obtain ⟨t,rfl⟩:=rx;rfl)
theorem Kt:OpR X (compareOp .IsNot) (fun x y H Q=>y=.non∧Q (.bl (!decide (x=.non))) H):=by
 intro pins s σ H x y v u Q I rx ry h
 obtain ⟨rfl,q⟩:=h
 cases ry
 refine isnot_none_gen (j8 I q ?_)
 cases x <;> first
  | (cases rx;rfl)
  | (obtain ⟨t,rfl⟩:=rx;rfl)
theorem jJ (b:Expr) {op:CmpOp} (h:op≠.In:=by decide) (h2:op≠.NotIn:=by decide):behindInMarks op b=false:=by
 have e1:(op == CmpOp.In)=false:=by cases op <;> first | rfl | exact absurd rfl h
 have e2:(op == CmpOp.NotIn)=false:=by cases op <;> first | rfl | exact absurd rfl h2
 cases b <;> simp [behindInMarks,e1,e2]
theorem Ks {op:CmpOp} {r:R2} (ho:OpR X (compareOp op) r) (ha:PE X a ta) (hb:PE X b tb) (hm:behindInMarks op b=false):PE X (.Compare a [op] [b] pos) (tOp r ta tb):=by
 intro pins s σ H Q I h
 exact wpAny_Compare1 (jhl ha hb I h fun v u s2 x y H2 I2 rx ry q=>ho pins s2 σ H2 x y v u Q I2 rx ry q) hm
def jgc (t:TE):TT:=fun σ H Q=>t σ H fun x H'=>∃ k,x=.bl k∧Q k H'
theorem kE {op:CmpOp} {r:R2} (ho:OpR X (compareOp op) r) (ha:PE X a ta) (hb:PE X b tb) (hm:behindInMarks op b=false):PT X (.Compare a [op] [b] pos) (jgc (tOp r ta tb)):=by
 intro pins s σ H Q I h
 refine wpAny_isTrue_Compare1 (thn (ha pins s σ H _ I h) fun v s1 ⟨x,H1,I1,r1,q1⟩=>thn (hb pins s1 σ H1 _ I1 q1) fun u s2 ⟨y,H2,I2,r2,q2⟩=>
  thn (ho pins s2 σ H2 x y v u _ I2 r1 r2 q2) fun c s3 ⟨z,H3,I3,r3,k,e,q3⟩=>?_) hm
 subst e
 cases r3
 exact wpAny_truthy_bool ⟨H3,I3,q3⟩
theorem K1:(sizeLine:Nat) < 2 ^ 63:=by rw [sizeLine_eq];decide
theorem jbn:OpR X (binaryOp .Add) (fun x y H Q=>∃ i j,x=.str i∧y=.str j∧i.length+j.length≤sizeLine∧Q (.str (i++j)) H):=by
 intro pins s σ H x y v u Q I rx ry h
 obtain ⟨i,j,rfl,rfl,hz,q⟩:=h
 obtain ⟨t,rfl⟩:=rx
 obtain ⟨t',rfl⟩:=ry
 exact add_str (fun t' tk=>⟨.str (i++j),H,I.tok _,⟨_,rfl⟩,q⟩) hz
theorem yf {x:V} {us:List Value} (r:Vals [x] us):∃ u,us=[u]∧RelV x u:=by
 cases r with
 | cons r1 r2=>cases r2;exact ⟨_,rfl,r1⟩
theorem jdA {x y:V} {us:List Value} (r:Vals [x,y] us):∃ u w',us=[u,w']∧RelV x u∧RelV y w':=by
 cases r with
 | cons r1 r2=>
  cases r2 with
  | cons r3 r4=>cases r4;exact ⟨_,_,rfl,r1,r3⟩
theorem JY:q8 X (.type "int") (fun xs H Q=>(∃ i,xs=[.int i]∧Q (.int i) H)∨∃ k,xs=[.bl k]∧Q (.int (if k then 1 else 0)) H):=by
 intro pins s σ H xs us Q I r h
 rcases h with ⟨i,rfl,q⟩ | ⟨k,rfl,q⟩
 ·obtain ⟨u,rfl,t,rfl⟩:=yf r
  exact call_int_int ⟨.int i,H,I,⟨_,rfl⟩,q⟩
 ·obtain ⟨u,rfl,r1⟩:=yf r
  cases r1
  exact call_int_bool ⟨.int (if k then 1 else 0),H,I.tok _,⟨_,rfl⟩,q⟩
end
structure ObjM (h:Heap) (x dx C:Addr) (mA:Str→Option Value):Prop where
 obj:h.get? x=some (PySem.W.instObj C dx)
 ns:h.Ns1 dx mA
 ne:dx≠x
theorem jc3 {h:Heap} {dx:Addr} {mA:Str→Option Value} (n:h.Ns1 dx mA):∃ od,h.get? dx=some od∧∀ name,PySem.W.lookIn name od=some (mA name):=by
 obtain ⟨o,es,ep,ho,hd,hk,_,hm⟩:=n
 refine ⟨o,ho,fun name=>?_⟩
 have e:=hm name
 unfold nsFind findBy at e
 rw [← Array.find?_toList] at e
 unfold PySem.W.lookIn
 rw [hd]
 dsimp only
 split
 ·rename_i y q
  rw [q] at e
  exact congrArg some e
 ·rename_i q
  rw [q] at e
  have a:es.toList.any (·.refKey)=false:=by
   rw [List.any_eq_false]
   intro y hy
   obtain ⟨z,t,hkey⟩:=hk y (Array.mem_toList_iff.mp hy)
   simp [DictEntry.refKey,hkey]
  have a':¬ es.toList.any (·.refKey)=true:=by rw [a];exact Bool.false_ne_true
  rw [if_neg a']
  exact congrArg some e
theorem ObjM.look {h:Heap} {x dx C:Addr} {mA:Str→Option Value} (I:ObjM h x dx C mA):∃ od,PySem.W.InstAt h x (PySem.W.instObj C dx) C (some od)∧∀ name,PySem.W.lookIn name od=some (mA name):=
 let ⟨od,ho,hl⟩:=jc3 I.ns
 ⟨od,⟨I.obj,rfl,rfl,ho⟩,hl⟩
section
variable {prog:Program} {w:World} {A:Around} {E:Value→Shared→Prop} {s:Shared} {K:PySem.W.Frag} {x dx C f:Addr} {mA:Str→Option Value} {name:Str} {v:Value}
theorem jfY {expr:Bool} {Q:Value→Shared→Prop} (X:K.In s.heap) (I:ObjM s.heap x dx C mA) (hg:PySem.W.plainGet K C name=true) (hh:PySem.W.hasDictIn K C=true)
  (ha:PySem.W.findIn K (.ref C) name=some none) (hv:mA name=some v) (hv':PySem.W.handedIn v=true) (h:Q v { s with toks:=s.toks+1 }) :
  wpAny (model prog w) A (getAttr (.ref x) name expr) Q E s:=by
 obtain ⟨od,J,hl⟩:=I.look
 exact PySem.W.get_value X J (PySem.W.plainGet_of hg).1 (PySem.W.findObj_own hh ha rfl (by rw [hl,hv])) hv' h
theorem jfd {ns:List Str} {Q:Unit→Shared→Prop} (X:K.In s.heap) (I:ObjM s.heap x dx C mA)
  (hs:PySem.W.findIn K (.ref C) "__setattr__" = some (some (.builtin "object.__setattr__"))) (hp:PySem.W.plainOver K C=true) (ht:PySem.W.takerIn K C name=some none) (hh:PySem.W.hasDictIn K C=true)
  (hw:PySem.Within mA ns) (hsz:ns.length≤sizeLine)
  (h:∀ h',ObjM h' x dx C (fun y=>if y=name then some v else mA y)→Heap.SameBut dx s.heap h'→Q () { s with heap:=h',toks:=s.toks+2 }) :
  wpAny (model prog w) A (setAttr (.ref x) name v) Q E s:=by
 obtain ⟨od,J,hl⟩:=I.look
 refine PySem.W.set_plain X J hs (PySem.W.osa_open (s:={ s with toks:=s.toks+1 }) (r:=none) X J hp ht fun b=>?_)
 obtain ⟨cd,hc,hd'⟩:=PySem.W.any_some hh
 have hx:s.heap.get? x=some ⟨.ref C,some dx,.plain,#[]⟩:=I.obj
 refine wpAny_bind (wpAny_pure (wpAny_bind (wpAny_bind (wpAny_loadPart hx (wpAny_bind (PySem.W.Looks.here (s:={ s with toks:=s.toks+1 }) (PySem.W.looks_clsIn X hc) ?_))))))
 rw [hd']
 refine wpAny_pure (a:=some dx) (wpAny_bind (wpAny_pure (wpAny_bind ?_)))
 refine wpAny_nsSet1 (s:={ s with toks:=s.toks+1 }) I.ns fun h' hn2 hs2=>?_
 obtain ⟨oD,esD,epD,hoD,hdD,hcD⟩:=hn2.count (PySem.Within.cons name v hw)
 refine wpAny_bind (wpAny_lookBehind hoD (by rw [hdD];exact pastItsLine_dict (Nat.le_trans hcD (by rw [List.length_cons];omega))) ?_)
 exact wpAny_pure (h _ ⟨(hs2.2 _ (Ne.symm I.ne)).trans I.obj,hn2,I.ne⟩ hs2)
theorem jeq {R:Result→Shared→Prop} {vs:List Value} {kw:List (Str×Value)} (X:K.In s.heap) (hm:PySem.W.makesIn K C=true)
  (hi:PySem.W.findIn K (.ref C) "__init__" = some (some (.ref f))) (hf:PySem.W.typeIn K (.ref f)=some (.type "function"))
  (h:codeAny (model prog w) (A.under (.builtin "type.__call__" ⟨.ref C :: vs,kw⟩)) (.call (.ref f) ⟨.ref (s.heap.objs.size+1) :: vs,kw⟩) (PySem.W.InitBack (s.heap.objs.size+1) R)
   { s with heap:=(s.heap.push PySem.W.emptyDict).push (PySem.W.instObj C s.heap.objs.size) }) :
  codeAny (model prog w) A (.call (.ref C) ⟨vs,kw⟩) R s:=by
 obtain ⟨hh,g,d,t,os⟩:=s
 exact PySem.W.make_core (PySem.W.makes_of X hm) (PySem.W.looks_findIn X hi) (fun self=>PySem.W.bind_fn X self hf) (.inl rfl) h
end
def jZ (f:Str) (v:V):List (Str×V)→List (Str×V)
 | []=>[(f,v)]
 | (g,x) :: r=>if g=f then (g,v) :: r else (g,x) :: jZ f v r
theorem J4 (f g:Str) (v:V):∀ fs:List (Str×V),(jZ f v fs).lookup g=if g=f then some v else fs.lookup g
 | []=>by
  show List.lookup g [(f,v)]=_
  by_cases h:g=f
  ·have hb:(g == f)=true:=beq_iff_eq.mpr h
   simp only [List.lookup,hb,if_pos h]
  ·have hb:(g == f)=false:=beq_eq_false_iff_ne.mpr h
   simp only [List.lookup,hb,if_neg h]
 | (k,x) :: r=>by
  have ih:=J4 f g v r
  rw [show jZ f v ((k,x) :: r)=(if k=f then (k,v) :: r else (k,x) :: jZ f v r) from rfl]
  by_cases hk:k=f
  ·rw [if_pos hk]
   by_cases h:g=k
   ·have hb:(g == k)=true:=beq_iff_eq.mpr h
    simp only [List.lookup,hb,if_pos (h.trans hk)]
   ·have hb:(g == k)=false:=beq_eq_false_iff_ne.mpr h
    simp only [List.lookup,hb,if_neg (fun e:g=f=>h (e.trans hk.symm))]
  ·rw [if_neg hk]
   by_cases h:g=k
   ·have hb:(g == k)=true:=beq_iff_eq.mpr h
    simp only [List.lookup,hb,if_neg (fun e:g=f=>hk (h.symm.trans e))]
   ·have hb:(g == k)=false:=beq_eq_false_iff_ne.mpr h
    simp only [List.lookup,hb]
    exact ih
theorem JO (f:Str) (v:V):∀ fs:List (Str×V),f∈(jZ f v fs).map (·.1)∧∀ g,g∈fs.map (·.1)→g∈(jZ f v fs).map (·.1)
 | []=>⟨by simp [jZ],fun g h=>by simp at h⟩
 | (k,x) :: r=>by
  obtain ⟨i1,i2⟩:=JO f v r
  rw [show jZ f v ((k,x) :: r)=(if k=f then (k,v) :: r else (k,x) :: jZ f v r) from rfl]
  by_cases hk:k=f
  ·rw [if_pos hk]
   subst hk
   exact ⟨by simp,fun g h=>by simpa using h⟩
  ·rw [if_neg hk]
   refine ⟨?_,fun g h=>?_⟩
   ·rw [List.map_cons]
    exact List.mem_cons_of_mem _ i1
   ·rw [List.map_cons] at h ⊢
    rcases List.mem_cons.mp h with e | e
    ·exact List.mem_cons.mpr (.inl e)
    ·exact List.mem_cons_of_mem _ (i2 g e)
theorem J5 (f:Str) (v:V):∀ fs:List (Str×V),(jZ f v fs).length≤fs.length+1
 | []=>by simp [jZ]
 | (k,x) :: r=>by
  have ih:=J5 f v r
  rw [show jZ f v ((k,x) :: r)=(if k=f then (k,v) :: r else (k,x) :: jZ f v r) from rfl]
  by_cases hk:k=f
  ·rw [if_pos hk,List.length_cons,List.length_cons];omega
  ·rw [if_neg hk,List.length_cons,List.length_cons];omega
theorem RelO.some_of {v:V} {o:Option Value} (r:RelO (some v) o):∃ u,o=some u∧RelV v u:=by
 cases o with
 | none=>exact (show False from r).elim
 | some u=>exact ⟨u,rfl,r⟩
theorem jdb {v:V} {u:Value} (r:RelV v u):PySem.W.handedIn u=true:=by
 cases v with
 | non=>cases (show u=Value.none from r);rfl
 | bl b=>cases (show u=Value.bool b from r);rfl
 | int i=>obtain ⟨t,e⟩:=(show ∃ t,u=Value.int i t from r);cases e;rfl
 | str x=>obtain ⟨t,e⟩:=(show ∃ t,u=Value.str x t from r);cases e;rfl
 | byt b=>obtain ⟨t,e⟩:=(show ∃ t,u=Value.bytes b t from r);cases e;rfl
 | flt b=>obtain ⟨t,e⟩:=(show ∃ t,u=Value.float b t from r);cases e;rfl
 | ref a=>cases (show u=Value.ref a from r);rfl
 | ty n=>cases (show u=Value.type n from r);rfl
section
variable {P:Program} {w:World} {H H':Hp} {h h':Heap} {a C dx:Addr} {fs fs':List (Str×V)}
theorem ZH (hok:HOk P w H h) (e:H a=some (.ins C dx fs)):∃ mA,ObjM h a dx C mA∧(∀ f,RelO (fs.lookup f) (mA f))∧PySem.Within mA (fs.map (·.1))∧fs.length≤1000∧H dx=some (.own a):=by
 obtain ⟨d,z,ne,ob,mA,n,r,q⟩:=(show ObjOk P w H h a (.ins C dx fs) from hok a _ e)
 exact ⟨mA,⟨ob,n,ne⟩,r,q,z,d⟩
end
structure Cls (K:PySem.W.Frag) (C:Addr):Prop where
 pg:PySem.W.plainGet K C Str.empty=true
 hd:PySem.W.hasDictIn K C=true
 po:PySem.W.plainOver K C=true
 sa:PySem.W.findIn K (.ref C) "__setattr__" = some (some (.builtin "object.__setattr__"))
theorem Cls.get {K:PySem.W.Frag} {C:Addr} (c:Cls K C) (f:Str):PySem.W.plainGet K C f=true:=c.pg
def NoAttr (K:PySem.W.Frag) (C:Addr) (f:Str):Prop:=PySem.W.findIn K (.ref C) f=some none
theorem NoAttr.taker {K:PySem.W.Frag} {C:Addr} {f:Str} (n:NoAttr K C f):PySem.W.takerIn K C f=some none:=by
 unfold PySem.W.takerIn
 rw [show PySem.W.findIn K (.ref C) f=some none from n]
 rfl
section
variable {X:Cx} {pins:List (Addr×Obj)} {σ:St} {H:Hp} {s:Shared} {a C dx:Addr} {fs:List (Str×V)} {f:Str} {v:V} {A:Around} {E:Value→Shared→Prop}
theorem K6 {b:Bool} {Q:Value→Shared→Prop} (I:Inv X pins σ H s) (e:H a=some (.ins C dx fs)) (c:Cls X.K C) (n:NoAttr X.K C f) (l:fs.lookup f=some v)
  (h:∀ u s',Inv X pins σ H s'→RelV v u→Q u s'):wpAny (model X.prog X.w) A (getAttr (.ref a) f b) Q E s:=by
 obtain ⟨mA,O,r,_,_,_⟩:=ZH I.hok e
 obtain ⟨u,hu,ru⟩:=RelO.some_of (v:=v) (o:=mA f) (by rw [← l];exact r f)
 exact jfY I.kIn O (c.get f) c.hd n hu (jdb ru) (h u _ (I.tok _) ru)
theorem KK {y:V} {u:Value} {Q:Unit→Shared→Prop} (I:Inv X pins σ H s) (e:H a=some (.ins C dx fs)) (c:Cls X.K C) (n:NoAttr X.K C f) (hl:fs.length < 1000) (ry:RelV y u)
  (h:∀ s',Inv X pins σ (upd H a (.ins C dx (jZ f y fs))) s'→Q () s'):wpAny (model X.prog X.w) A (setAttr (.ref a) f u) Q E s:=by
 obtain ⟨mA,O,r,wi,_,ho⟩:=ZH I.hok e
 have hz:(fs.map (·.1)).length≤sizeLine:=by rw [List.length_map,sizeLine_eq];omega
 refine jfd I.kIn O c.sa c.po n.taker c.hd wi hz fun h' O' sb=>h _ ?_
 have hd:∃ o,h'.get? dx=some o:=let ⟨o,_,_,e',_⟩:=O'.ns;⟨o,e'⟩
 refine I.write (x:=a) (e:=dx) (by rw [e];exact True.intro) (.inr ho) (fun b q hb z=>(sb.2 b hb).trans z) hd ?_
 refine ⟨by rw [jg O.ne];exact ho,?_,O.ne,O'.obj,_,O'.ns,fun g=>?_,fun g hg=>?_⟩
 ·have:=J5 f y fs;omega
 ·show RelO ((jZ f y fs).lookup g) (if g=f then some u else mA g)
  rw [J4]
  by_cases q:g=f
  ·rw [if_pos q,if_pos q];exact ry
  ·rw [if_neg q,if_neg q];exact r g
 ·by_cases q:g=f
  ·rw [q];exact (JO f y fs).1
  ·refine (JO f y fs).2 g (wi g fun z=>hg ?_)
   show (if g=f then some u else mA g)=none
   rw [if_neg q];exact z
theorem Inv.made (I:Inv X pins σ H s):Inv X pins σ (upd (upd H s.heap.objs.size (.own (s.heap.objs.size+1))) (s.heap.objs.size+1) (.ins C s.heap.objs.size []))
  { s with heap:=(s.heap.push PySem.W.emptyDict).push (PySem.W.instObj C s.heap.objs.size) }:=by
 have e1:(s.heap.push PySem.W.emptyDict).get? s.heap.objs.size=some PySem.W.emptyDict:=Heap.get?_push_size s.heap rfl
 have e2:((s.heap.push PySem.W.emptyDict).push (PySem.W.instObj C s.heap.objs.size)).get? (s.heap.objs.size+1)=some (PySem.W.instObj C s.heap.objs.size):=by
  have:=Heap.get?_push_size (s.heap.push PySem.W.emptyDict) (o:=PySem.W.instObj C s.heap.objs.size) rfl
  rwa [Heap.size_push] at this
 have e3:(s.heap.push PySem.W.emptyDict).Ns s.heap.objs.size (fun _=>none):=⟨PySem.W.emptyDict,#[],_,e1,rfl,(fun e he=>absurd he (by simp)),fun _=>rfl⟩
 have I1:=I.laid (a:=s.heap.objs.size) (o:=.own (s.heap.objs.size+1)) (h':=s.heap.push PySem.W.emptyDict) (t':=s.toks) (fun b u q=>Heap.get?_push_of_some _ q) (Nat.le_refl _) ⟨_,e1⟩
 refine I1.laid (a:=s.heap.objs.size+1) (o:=.ins C s.heap.objs.size []) (t':=s.toks) (fun b u q=>Heap.get?_push_of_some _ q) (Nat.le_of_eq (Heap.size_push _ _)) ?_
 have ne:s.heap.objs.size≠s.heap.objs.size+1:=Nat.ne_of_lt (Nat.lt_succ_self _)
 refine ⟨by rw [jg ne,ja],Nat.zero_le _,ne,e2,fun _=>none,(Heap.Ns1.of_empty e3).at fun o q=>Heap.get?_push_of_some _ q,fun _=>True.intro,fun y hy=>absurd rfl hy⟩
theorem jf7 {prog:Program} {w:World} {env:Env} {e:Expr} {f:Str} {pos:Pos} {s:Shared} {Q:Value→Shared→Prop} (hb:attributeBase e f env (eval e env)=eval e env)
  (h:wpAny (model prog w) A (eval e env) (fun o s₁=>wpAny (model prog w) A (getAttr o f true) Q E s₁) E s):wpAny (model prog w) A (eval (.Attribute e f pos) env) Q E s:=
 Attribute_any_ h (by rw [arm_eval_Attribute,hb])
end
def je8 (K:PySem.W.Frag) (ta:TE) (f:Str):TE:=fun σ H Q=>ta σ H fun x H1=>∃ a C dx fs v,x=.ref a∧H1 a=some (.ins C dx fs)∧Cls K C∧NoAttr K C f∧fs.lookup f=some v∧Q v H1
def jhH (K:PySem.W.Frag) (ta tv:TE) (f:Str):TS:=fun D σ H=>tv σ H fun y H1=>ta σ H1 fun x H2=>∃ a C dx fs,x=.ref a∧H2 a=some (.ins C dx fs)∧Cls K C∧NoAttr K C f∧fs.length < 1000∧
 D.nx σ (upd H2 a (.ins C dx (jZ f y fs)))
def jhs (X:Cx) (op:Operator) (rd:V→V→Hp→VK→Prop):Prop:=
 ∀ (pins:List (Addr×Obj)) (s:Shared) (σ:St) (H:Hp) (x y:V) (u v:Value) (Q:VK),Inv X pins σ H s→RelV x u→RelV y v→rd x y H Q→wpAny (model X.prog X.w) X.A (inplaceOp op u v) (EP X pins σ Q) X.xe s
def jb3 (K:PySem.W.Frag) (ta tv:TE) (rd:V→V→Hp→VK→Prop) (f:Str):TS:=fun D σ H=>ta σ H fun x H1=>∃ a C dx fs v,x=.ref a∧H1 a=some (.ins C dx fs)∧Cls K C∧NoAttr K C f∧fs.lookup f=some v∧
 tv σ H1 fun y H2=>rd v y H2 fun z H3=>∃ dx' fs',H3 a=some (.ins C dx' fs')∧fs'.length < 1000∧D.nx σ (upd H3 a (.ins C dx' (jZ f z fs')))
section
variable {X:Cx} {o e value:Expr} {f:Str} {pos pos' tpos:Pos} {ta tv:TE}
theorem jd7 (he:PE X e ta) (hb:attributeBase e f X.env (eval e X.env)=eval e X.env):PE X (.Attribute e f pos) (je8 X.K ta f):=by
 intro pins s σ H Q I h
 refine jf7 hb (thn (he pins s σ H _ I h) fun u s1 ⟨x,H1,I1,rx,a,C,dx,fs,v,ex,ea,c,n,l,q⟩=>?_)
 subst ex
 obtain rfl:u=Value.ref a:=rx
 exact K6 I1 ea c n l fun u' s2 I2 ru=>⟨v,H1,I2,ru,q⟩
theorem jgO (ha:PE X o ta) (hv:PE X value tv) (hs:swapsWith value (some (.Attribute o f pos')) pos.line X.env=pure false):PS X (.Assign [.Attribute o f pos'] value pos) (jhH X.K ta tv f):=by
 intro pins s σ H D I h
 refine plainObj_wpAny_Assign_Attribute (thn (hv pins s σ H _ I h) fun u s1 ⟨y,H1,I1,ry,q⟩=>thn (ha pins s1 σ H1 _ I1 q) fun ov s2 ⟨x,H2,I2,rx,a,C,dx,fs,ex,ea,c,n,l,q2⟩=>?_) hs
 subst ex
 obtain rfl:ov=Value.ref a:=rx
 exact KK I2 ea c n l ry fun s3 I3=>⟨σ,_,I3,q2⟩
theorem jcL {op:Operator} {rd:V→V→Hp→VK→Prop} (ha:PE X o ta) (hv:PE X value tv) (hop:jhs X op rd):PS X (.AugAssign (.Attribute o f tpos) op value pos) (jb3 X.K ta tv rd f):=by
 intro pins s σ H D I h
 refine wpAny_AugAssign_AttributeAny (thn (ha pins s σ H _ I h) fun ov s1 ⟨x,H1,I1,rx,a,C,dx,fs,v,ex,ea,c,n,l,q⟩=>?_)
 subst ex
 obtain rfl:ov=Value.ref a:=rx
 refine K6 I1 ea c n l fun u s2 I2 ru=>thn (hv pins s2 σ H1 _ I2 q) fun w3 s3 ⟨y,H2,I3,ry,q3⟩=>thn (hop pins s3 σ H2 v y u w3 _ I3 ru ry q3) fun w4 s4 ⟨z,H3,I4,rz,dx',fs',ea',l',q4⟩=>?_
 exact KK I4 ea' c n l' rz fun s5 I5=>⟨σ,_,I5,q4⟩
def jil:V→V→Hp→VK→Prop:=fun x y H Q=>∃ i j,x=.int i∧y=.int j∧Q (.int (i+j)) H
theorem jbz:jhs X .Add jil:=by
 rintro pins s σ H x y u v Q I rx ry ⟨i,j,rfl,rfl,q⟩
 obtain ⟨t,rfl⟩:=(show ∃ t,u=Value.int i t from rx)
 obtain ⟨t',rfl⟩:=(show ∃ t',v=Value.int j t' from ry)
 exact PyProof.Rows.iadd_int ⟨.int (i+j),H,I.tok _,⟨_,rfl⟩,q⟩
end
section
variable {X:Cx} {pins:List (Addr×Obj)} {σ:St} {H:Hp} {s:Shared} {A:Around} {E:Value→Shared→Prop} {Q:Value→Shared→Prop} {c:Value} {b:Bool}
inductive TyOf (K:PySem.W.Frag) (H:Hp):V→Value→Prop where
 | non:TyOf K H .non (.type "NoneType")
 | bl (x:Bool):TyOf K H (.bl x) (.type "bool")
 | int (i:Int):TyOf K H (.int i) (.type "int")
 | str (x:Str):TyOf K H (.str x) (.type "str")
 | flt (x:UInt64):TyOf K H (.flt x) (.type "float")
 | lst {a:Addr} {xs:List V} (e:H a=some (.lst xs)):TyOf K H (.ref a) (.type "list")
 | frz {a:Addr} {o:Obj} {xs:List V} (e:H a=some (.frz o (.lst xs))):TyOf K H (.ref a) (.type "list")
 | tup {a:Addr} {xs:List V} (e:H a=some (.tup xs)):TyOf K H (.ref a) (.type "tuple")
 | dK {a:Addr} {kvs:List (Key×V)} (e:H a=some (.dK kvs)):TyOf K H (.ref a) (.type "dict")
 | dT {a:Addr} {kvs:List (List Key×V)} (e:H a=some (.dT kvs)):TyOf K H (.ref a) (.type "dict")
 | ins {a C dx:Addr} {fs:List (Str×V)} (e:H a=some (.ins C dx fs)) (cl:Cls K C) (ha:PySem.W.findIn K (.ref C) "__class__" = some (some (.builtin "object.__class__")))
   (hn:PySem.W.specialIn K (.builtin "object.__class__") "__get__" = some (some (.builtin "getset_descriptor.__get__"))) (htk:PySem.W.takesIn K (.builtin "object.__class__")=some true)
   (hm:PySem.W.mroIn K C (.type "object")=some true):TyOf K H (.ref a) (.ref C)
theorem jc7 {x:V} {u t:Value} (I:Inv X pins σ H s) (rx:RelV x u) (ty:TyOf X.K H x t) (e:PySem.W.kitOne X.K t c=some b) (h:∀ tk,Q (.bool b) { s with toks:=tk }) :
  wpAny (model X.prog X.w) A (call (.builtin "isinstance") [u,c]) Q E s:=by
 cases ty with
 | non=>cases (show u=Value.none from rx);exact PySem.W.kia_one PySem.W.kitx_none I.kIn True.intro e (fun z=>nomatch z) h
 | bl y=>cases (show u=Value.bool y from rx);exact PySem.W.kia_one PySem.W.kitx_bool I.kIn True.intro e (fun z=>nomatch z) h
 | int i=>obtain ⟨t,q⟩:=(show ∃ t,u=Value.int i t from rx);cases q;exact PySem.W.kia_one PySem.W.kitx_int I.kIn True.intro e (fun z=>nomatch z) h
 | str y=>obtain ⟨t,q⟩:=(show ∃ t,u=Value.str y t from rx);cases q;exact PySem.W.kia_one PySem.W.kitx_str I.kIn True.intro e (fun z=>nomatch z) h
 | flt y=>obtain ⟨t,q⟩:=(show ∃ t,u=Value.float y t from rx);cases q;exact PySem.W.kia_one PySem.W.kitx_float I.kIn True.intro e (fun z=>nomatch z) h
 | @lst a xs ea=>
  cases (show u=Value.ref a from rx)
  obtain ⟨_,_,n,_,h1⟩:=(show ObjOk X.prog X.w H s.heap a (.lst xs) from I.hok a _ ea)
  exact PySem.W.kia_one PySem.W.kitx_list I.kIn ⟨_,h1,rfl⟩ e (fun z=>nomatch z) h
 | @frz a ob xs ea=>
  cases (show u=Value.ref a from rx)
  obtain ⟨_,_,_,n,_,h1⟩:=(show ObjOk X.prog X.w H s.heap a (.frz ob (.lst xs)) from I.hok a _ ea)
  exact PySem.W.kia_one PySem.W.kitx_list I.kIn ⟨_,h1,rfl⟩ e (fun z=>nomatch z) h
 | @tup a xs ea=>
  cases (show u=Value.ref a from rx)
  obtain ⟨_,_,_,p⟩:=(show ObjOk X.prog X.w H s.heap a (.tup xs) from I.hok a _ ea)
  obtain ⟨o,h1,h2,_⟩:=p
  exact PySem.W.kia_one PySem.W.kitx_tuple I.kIn ⟨o,h1,h2⟩ e (fun z=>nomatch z) h
 | @dK a kvs ea=>
  cases (show u=Value.ref a from rx)
  obtain ⟨_,_,vs,_,p⟩:=(show ObjOk X.prog X.w H s.heap a (.dK kvs) from I.hok a _ ea)
  obtain ⟨o,es,ep,h1,h2,_⟩:=p
  exact PySem.W.kia_one PySem.W.kitx_dict I.kIn ⟨o,h1,h2.1⟩ e (fun z=>nomatch z) h
 | @dT a kvs ea=>
  cases (show u=Value.ref a from rx)
  obtain ⟨_,_,xs,_,o,es,ep,h1,h2,_⟩:=(show ObjOk X.prog X.w H s.heap a (.dT kvs) from I.hok a _ ea)
  exact PySem.W.kia_one PySem.W.kitx_dict I.kIn ⟨o,h1,h2.1⟩ e (fun z=>nomatch z) h
 | @ins a C dx fs ea cl ha hn htk hm=>
  cases (show u=Value.ref a from rx)
  obtain ⟨mA,O,_⟩:=ZH I.hok ea
  obtain ⟨od,J,_⟩:=O.look
  exact PySem.W.kia_one (PySem.W.kitx_own (cl.get _) cl.hd ha hn htk hm) I.kIn J e (fun z=>nomatch z) h
end
structure Room (k:Nat) (A:Around):Prop where
 hd:A.handled=none
 dp:A.depth+3 * k+5 < recursionLimit
 un:A.units+16 * k+200 < cLine
theorem Room.mono {j k:Nat} {A:Around} (r:Room k A) (h:j≤k):Room j A:=⟨r.hd,by have:=r.dp;omega,by have:=r.un;omega⟩
theorem Room.deeper {k:Nat} {A:Around} (r:Room (k+1) A) (env:Env):Room k (A.deeper env):=
 ⟨r.hd,by have:=r.dp;show A.depth+1+3 * k+5 < _;omega,by have:=r.un;show A.units+3+16 * k+200 < _;omega⟩
theorem Room.in1 {k:Nat} {A:Around} (r:Room (k+1) A):Room k A.in1:=
 ⟨r.hd,by have:=r.dp;show A.depth+3 * k+5 < _;omega,by have:=r.un;show A.units+1+16 * k+200 < _;omega⟩
theorem jbw {A:Around} {C:Addr} {us:List Value} {kw:List (Str×Value)}:(A.under (.builtin "type.__call__" ⟨.ref C :: us,kw⟩)).depth=A.depth+1:=by
 first | rfl | simp [Around.under,Code.weight,Code.isCreation,Code.isGuard,Code.isCaller,Code.frames,Code.isFrame,guardIds]
theorem jbv {A:Around} {C:Addr} {us:List Value} {kw:List (Str×Value)}:(A.under (.builtin "type.__call__" ⟨.ref C :: us,kw⟩)).units=A.units+1:=by
 first | rfl | simp [Around.under,Code.cUnits,Code.frames,Code.isFrame]
theorem Room.make {k:Nat} {A:Around} (r:Room (k+1) A) (C:Addr) (us:List Value) (kw:List (Str×Value)):Room k (A.under (.builtin "type.__call__" ⟨.ref C :: us,kw⟩)):=
 ⟨r.hd,by have:=r.dp;rw [jbw];omega,by have:=r.un;rw [jbv];omega⟩
theorem Room.depth {k:Nat} {A:Around} (r:Room k A):A.depth < recursionLimit:=by have:=r.dp;omega
theorem Room.units {k:Nat} {A:Around} (r:Room k A):A.units+64 < cLine:=by have:=r.un;omega
def jcE:TA:=fun _ H Q=>Q [] H
def jbS (ta:TE) (tr:TA):TA:=fun σ H Q=>ta σ H fun x H1=>tr σ H1 fun xs H2=>Q (x :: xs) H2
section
variable {X:Cx} {e:Expr} {es:List Expr} {te:TE} {t:TA} {pos:Pos}
theorem jq:PA X [] jcE:=fun _ _ _ _ H Q I h=>Calls.spliced_nil ⟨[],H,I,.nil,h⟩
theorem jfC (ha:PE X e te) (hr:PA X es t) (hs:starEach (e :: es) X.env=(false,eval e X.env) :: starEach es X.env:=by rfl):PA X (e :: es) (jbS te t):=by
 intro pos pins s σ H Q I h
 rw [hs]
 show wpAny _ _ (spliced ((false,eval e X.env) :: backTo pos (starEach es X.env))) _ _ s
 refine Calls.spliced_cons (thn (ha pins s σ H _ I h) fun u s1 ⟨x,H1,I1,r1,q1⟩=>?_)
 exact thn (hr pos pins s1 σ H1 _ I1 q1) fun us s2 ⟨xs,H2,I2,r2,q2⟩=>⟨x :: xs,H2,I2,.cons r1 r2,q2⟩
def jhx (t:TA):TE:=fun σ H Q=>t σ H fun xs H1=>xs.length≤sizeLine∧∀ p,H1 p=none→Q (.ref p) (upd H1 p (.tup xs))
def jgz (t:TA):TE:=fun σ H Q=>t σ H fun xs H1=>xs.length≤sizeLine∧∀ p,H1 p=none→Q (.ref p) (upd H1 p (.lst xs))
theorem kD {x1} (h:PA X es t):PE X (.Tuple es x1 pos) (jhx t):=by
 intro pins s σ H Q I hq
 refine wpAny_Tuple_spliced (thn (h pos pins s σ H _ I hq) fun us s1 ⟨xs,H1,I1,r,z,q⟩=>⟨by rw [← r.length];exact z,?_⟩)
 have hf:H1 s1.heap.objs.size=none:=I1.hok.fresh (Nat.le_refl _)
 refine ⟨.ref s1.heap.objs.size,upd H1 s1.heap.objs.size (.tup xs),I1.laid (t':=s1.toks) (fun b u e=>Heap.get?_push_of_some _ e) (Nat.le_refl _) ?_,rfl,q _ hf⟩
 exact ⟨z,us,r,⟨_,Heap.get?_push_size _ rfl,rfl,_,rfl⟩⟩
theorem zt (h:PA X es t):PE X (.List es pos) (jgz t):=by
 intro pins s σ H Q I hq
 refine wpAny_List_spliced (thn (h pos pins s σ H _ I hq) fun us s1 ⟨xs,H1,I1,r,z,q⟩=>⟨by rw [← r.length];exact z,?_⟩)
 have hf:H1 s1.heap.objs.size=none:=I1.hok.fresh (Nat.le_refl _)
 refine ⟨.ref s1.heap.objs.size,upd H1 s1.heap.objs.size (.lst xs),I1.laid (t':=s1.toks) (fun b u e=>Heap.get?_push_of_some _ e) (Nat.le_refl _) ?_,rfl,q _ hf⟩
 exact ⟨z,us,0,r,Heap.get?_push_size _ rfl⟩
end
abbrev Sp:=List V→Hp→VK→XK→Prop
abbrev CXT:=List Env→Hp→Shared→XK→Value→Shared→Prop
structure Env0 (P:Program) (w:World) (K:PySem.W.Frag) (mg:Str→Option Value) (base:Heap) (A:Around) (outer:List Env) (s:Shared) (H:Hp):Prop where
 frames:A.frames=some outer
 mod:Mod K mg base
 bs:∀ b o,base.get? b=some o→s.heap.get? b=some o∧H b=none
 bsz:base.objs.size≤s.heap.objs.size
 funs:s.heap.FunFrames base outer
 frf:∀ b∈frs outer,H b=none
 hok:HOk P w H s.heap
 bare:AllBare s.gens
def CE (outer:List Env) (P:Program) (w:World) (H:Hp) (s:Shared) (Q:VK) (u:Value) (s':Shared):Prop:=
 ∃ v H',s'.os=s.os∧AllBare s'.gens∧Un (frs outer) [] H H' s.heap s'.heap∧HOk P w H' s'.heap∧RelV v u∧Q v H'
def CR (CX:CXT) (outer:List Env) (P:Program) (w:World) (H:Hp) (s:Shared) (Q:VK) (E:XK) (r:Result) (s':Shared):Prop:=
 match r with
 | .ok (.ret u)=>CE outer P w H s Q u s'
 | .ok _=>False
 | .error e=>CX outer H s E e s'
structure FnOk (P:Program) (w:World) (K:PySem.W.Frag) (mg:Str→Option Value) (base:Heap) (CX:CXT) (k:Nat) (f:Addr) (fd:FuncData) (ps:List Str) (sp:Sp):Prop where
 len:∀ vs H Q E,sp vs H Q E→vs.length=ps.length
 run:∀ (A:Around) (outer:List Env) (s:Shared) (H:Hp) (args:Args) (us:List Value) (vs:List V) (Q:VK) (E:XK),Room k A→Env0 P w K mg base A outer s H→BindsTo s fd args (ps.zip us)→Vals vs us→sp vs H Q E→
  codeAny (model P w) A (.call (.ref f) args) (CR CX outer P w H s Q E) s
theorem FnOk.imp {P:Program} {w:World} {K:PySem.W.Frag} {mg:Str→Option Value} {base:Heap} {CX:CXT} {k:Nat} {f:Addr} {fd:FuncData} {ps:List Str} {sp sp':Sp} (F:FnOk P w K mg base CX k f fd ps sp)
  (h:∀ vs H Q E,sp' vs H Q E→sp vs H Q E):FnOk P w K mg base CX k f fd ps sp':=
 ⟨fun vs H Q E q=>F.len vs H Q E (h _ _ _ _ q),fun A outer s H args us vs Q E hr he hb hv hs=>F.run A outer s H args us vs Q E hr he hb hv (h _ _ _ _ hs)⟩
theorem Env0.make {P:Program} {w:World} {K:PySem.W.Frag} {mg:Str→Option Value} {base:Heap} {A:Around} {outer:List Env} {s:Shared} {H:Hp} (e:Env0 P w K mg base A outer s H) (C:Addr) (us:List Value) (kw:List (Str×Value)) :
  Env0 P w K mg base (A.under (.builtin "type.__call__" ⟨.ref C :: us,kw⟩)) outer s H:=⟨by first | exact e.frames | (simpa [Around.under,Code.envs,Code.isFrame,pushEnvs] using e.frames),e.mod,e.bs,e.bsz,e.funs,e.frf,e.hok,e.bare⟩
theorem Env0.in1 {P:Program} {w:World} {K:PySem.W.Frag} {mg:Str→Option Value} {base:Heap} {A:Around} {outer:List Env} {s:Shared} {H:Hp} (e:Env0 P w K mg base A outer s H) :
  Env0 P w K mg base A.in1 outer s H:=⟨e.frames,e.mod,e.bs,e.bsz,e.funs,e.frf,e.hok,e.bare⟩
section
variable {X:Cx} {pins:List (Addr×Obj)} {σ:St} {H:Hp} {s s':Shared}
theorem Inv.env0 (I:Inv X pins σ H s):Env0 X.prog X.w X.K X.mg X.base X.A X.stack s H:=
 ⟨I.ok.frames,I.ok.mod,I.bs,Nat.le_trans I.ok.bsz I.sz,I.stack,I.stkFree,I.hok,I.bare⟩
theorem Inv.after {Q:VK} {u:Value} (I:Inv X pins σ H s) (h:CE X.stack X.prog X.w H s Q u s'):EP X pins σ Q u s':=by
 obtain ⟨v,H',os,bare,un,hok,r,q⟩:=h
 obtain ⟨hh,g,d,t,os'⟩:=s'
 obtain rfl:os'=s.os:=os
 exact ⟨v,H',I.call (h':=hh) (g':=g) (d':=d) (t':=t) (ch:=[]) un hok bare (fun b z=>absurd z (by simp)),r,q⟩
end
def jdH (sp:Sp) (dvs:List V) (E:XK) (t:TA):TE:=fun σ H Q=>t σ H fun vs H1=>sp (vs++dvs) H1 Q E
def jdG (C:Addr) (sp:Sp) (dvs:List V) (E:XK) (t:TA):TE:=fun σ H Q=>t σ H fun vs H1=>∀ x dx,H1 x=none→H1 dx=none→dx≠x→
 sp (.ref x :: (vs++dvs)) (upd (upd H1 dx (.own x)) x (.ins C dx [])) (fun v H2=>v=.non∧Q (.ref x) H2) E
def Binds (K:PySem.W.Frag) (fd:FuncData) (ps:List Str) (ds:List Value):Prop:=
 ∀ (s:Shared) (us:List Value),K.In s.heap→(us++ds).length=ps.length→BindsTo s fd ⟨us,[]⟩ (ps.zip (us++ds))
theorem Binds.all {K:PySem.W.Frag} {fd:FuncData} {ps:List Str} (h:∀ us:List Value,us.length=ps.length→bindArgs fd ⟨us,[]⟩=pure (ps.zip us)):Binds K fd ps []:=fun s us _ hl=>by
 rw [List.append_nil] at hl ⊢
 exact .of_eq (h us hl)
def Yn (CX:CXT) (X:Cx) (E:XK):Prop:=∀ (pins:List (Addr×Obj)) (σ:St) (H:Hp) (s:Shared) (e:Value) (s':Shared),Inv X pins σ H s→CX X.stack H s E e s'→X.xe e s'
section
variable {X:Cx} {CX:CXT} {k:Nat} {f C:Addr} {fd:FuncData} {ps:List Str} {sp:Sp} {dvs:List V} {ds:List Value} {E:XK} {x m:Str} {p pos apos:Pos} {e o:Expr} {es:List Expr} {ta:TE} {t:TA}
theorem jgF {pins:List (Addr×Obj)} {σ:St} {H:Hp} {s:Shared} {Q:VK} {us:List Value} {vs:List V} (F:FnOk X.prog X.w X.K X.mg X.base CX k f fd ps sp) (hr:Room k X.A) (hb:Binds X.K fd ps ds) (hd:Vals dvs ds) (hx:Yn CX X E)
  (I:Inv X pins σ H s) (r:Vals vs us) (h:sp (vs++dvs) H Q E):wpAny (model X.prog X.w) X.A (call (.ref f) us) (EP X pins σ Q) X.xe s:=by
 have r2:Vals (vs++dvs) (us++ds):=r.append hd
 have hl:(us++ds).length=ps.length:=by rw [← r2.length];exact F.len _ _ _ _ h
 refine wpAny_call (codeAny_mono (F.run X.A X.stack s H ⟨us,[]⟩ (us++ds) (vs++dvs) Q E hr I.env0 (hb s us I.kIn hl) r2 h) fun r s' hq=>?_)
 cases r with
 | error e=>exact hx pins σ H s e s' I hq
 | ok fl=>
  cases fl with
  | ret u=>exact I.after hq
  | next=>exact False.elim hq
  | brk=>exact False.elim hq
  | cont=>exact False.elim hq
theorem jfA (F:FnOk X.prog X.w X.K X.mg X.base CX k f fd ps sp) (hr:Room k X.A) (hg:Gl X x) (hm:X.mg x=some (.ref f)) (hk:PySem.W.keepIn X.K (.ref f)=true) (hb:Binds X.K fd ps ds) (hd:Vals dvs ds) (hx:Yn CX X E)
  (ha:PA X (e :: es) t) (hdb:(x == ("__debug__" : Str))=false:=by decide) (he:starEach (e :: es) X.env=(false,eval e X.env) :: starEach es X.env:=by rfl) (hpl:(backTo pos (starEach es X.env)).any (·.1)=false:=by rfl) :
  PE X (.Call (.Name x p) (e :: es) [] pos) (jdH sp dvs E t):=by
 intro pins s σ H Q I h
 refine wpAny_Call_Name_kw (Zx I hg hm ?_ hdb)
 refine PySem.W.callWith_K (h₀:=X.base) I.ok.mod.kin hk (thn (ha pos pins s σ H _ I h) fun us s1 ⟨vs,H1,I1,r,q⟩=>⟨I1.kIn,?_⟩) he hpl
 exact jgF F hr hb hd hx I1 r q
structure Mk (K:PySem.W.Frag) (C f:Addr):Prop where
 makes:PySem.W.makesIn K C=true
 init:PySem.W.findIn K (.ref C) "__init__" = some (some (.ref f))
 fn:PySem.W.isFn K (.ref f)=true
 kp:PySem.W.keepIn K (.ref C)=true
theorem jdU {pins:List (Addr×Obj)} {σ:St} {H:Hp} {s:Shared} {Q:VK} {us:List Value} {vs:List V} (M:Mk X.K C f) (F:FnOk X.prog X.w X.K X.mg X.base CX k f fd ps sp) (hr:Room (k+1) X.A) (hb:Binds X.K fd ps ds) (hd:Vals dvs ds)
  (hx:Yn CX X E) (I:Inv X pins σ H s) (r:Vals vs us)
  (h:∀ x dx,H x=none→H dx=none→dx≠x→sp (.ref x :: (vs++dvs)) (upd (upd H dx (.own x)) x (.ins C dx [])) (fun v H2=>v=.non∧Q (.ref x) H2) E) :
  wpAny (model X.prog X.w) X.A (call (.ref C) us) (EP X pins σ Q) X.xe s:=by
 have hq:=h (s.heap.objs.size+1) s.heap.objs.size (I.hok.fresh (Nat.le_succ _)) (I.hok.fresh (Nat.le_refl _)) (Nat.ne_of_lt (Nat.lt_succ_self _))
 have I2:=Inv.made (C:=C) I
 have r2:Vals (V.ref (s.heap.objs.size+1) :: (vs++dvs)) (Value.ref (s.heap.objs.size+1) :: (us++ds)):=.cons rfl (r.append hd)
 have hl:(Value.ref (s.heap.objs.size+1) :: us++ds).length=ps.length:=by
  have e:=r2.length
  rw [F.len _ _ _ _ hq] at e
  exact e.symm
 refine wpAny_call (jeq (f:=f) I.kIn M.makes M.init (beq_iff_eq.mp M.fn) (codeAny_mono (F.run _ X.stack _ _ ⟨Value.ref (s.heap.objs.size+1) :: us,[]⟩ (Value.ref (s.heap.objs.size+1) :: (us++ds)) _ _ E (hr.make C us [])
  (I2.env0.make C us []) (hb _ (Value.ref (s.heap.objs.size+1) :: us) I2.kIn hl) r2 hq) fun r s' hq'=>?_))
 cases r with
 | error e=>exact hx pins σ _ _ e s' I2 hq'
 | ok fl=>
  cases fl with
  | ret u=>
   obtain ⟨v,H',I3,rv,ev,q3⟩:=I2.after hq'
   subst ev
   exact ⟨rv,⟨V.ref (s.heap.objs.size+1),H',I3,rfl,q3⟩⟩
  | next=>exact False.elim hq'
  | brk=>exact False.elim hq'
  | cont=>exact False.elim hq'
theorem jfw (M:Mk X.K C f) (F:FnOk X.prog X.w X.K X.mg X.base CX k f fd ps sp) (hr:Room (k+1) X.A) (hg:Gl X x) (hm:X.mg x=some (.ref C)) (hb:Binds X.K fd ps ds) (hd:Vals dvs ds) (hx:Yn CX X E)
  (ha:PA X (e :: es) t) (hdb:(x == ("__debug__" : Str))=false:=by decide) (he:starEach (e :: es) X.env=(false,eval e X.env) :: starEach es X.env:=by rfl) (hpl:(backTo pos (starEach es X.env)).any (·.1)=false:=by rfl) :
  PE X (.Call (.Name x p) (e :: es) [] pos) (jdG C sp dvs E t):=by
 intro pins s σ H Q I h
 refine wpAny_Call_Name_kw (Zx I hg hm ?_ hdb)
 refine PySem.W.callWith_K (h₀:=X.base) I.ok.mod.kin M.kp (thn (ha pos pins s σ H _ I h) fun us s1 ⟨vs,H1,I1,r,q⟩=>⟨I1.kIn,?_⟩) he hpl
 exact jdU M F hr hb hd hx I1 r q
end
structure FnScope (N P:List Str) (sc:Scope):Prop where
 kind:sc.kind=.function
 co:sc.isCoroutine=false
 gen:sc.isGenerator=false
 nd:N.Nodup
 pre:N.take P.length=P
 par:∀ x∈P,sc.names.lookup x=some .local∨sc.names.lookup x=some .cell
 nofree:∀ y∈sc.names,y.2≠.free
theorem Y3 {kindOf:Str→Option NameKind} {x:Str}:∀ {binds:List (Str×Value)} {m:Str→Option Value},(∀ v,(x,v) ∉ binds)→bindL kindOf binds m x=m x
 | [],_,_=>rfl
 | (n,v) :: r,m,h=>by
  unfold bindL
  rw [Y3 fun w hw=>h w (List.mem_cons_of_mem _ hw)]
  split
  ·have:x≠n:=by rintro rfl;exact h v List.mem_cons_self
   simp [this]
  ·rfl
theorem Y5 {kindOf:Str→Option NameKind} {x:Str}:∀ {binds:List (Str×Value)} {m:Str→Option Value},(∀ v,(x,v) ∉ binds)→bindC kindOf binds m x=m x
 | [],_,_=>rfl
 | (n,v) :: r,m,h=>by
  unfold bindC
  rw [Y5 fun w hw=>h w (List.mem_cons_of_mem _ hw)]
  split
  ·rfl
  ·have:x≠n:=by rintro rfl;exact h v List.mem_cons_self
   simp [this]
theorem Y4 {kindOf:Str→Option NameKind} {x:Str} {v:Value}:∀ {P:List Str} {vs:List Value} {i:Nat} {m:Str→Option Value},P.Nodup→P[i]?=some x→vs[i]?=some v→kindOf x=some .local→
  bindL kindOf (P.zip vs) m x=some v
 | [],_,_,_,_,h,_,_=>by simp at h
 | _ :: _,[],_,_,_,_,h,_=>by simp at h
 | p :: P,w :: vs,0,m,nd,h1,h2,hk=>by
  simp at h1 h2;subst h1;subst h2
  show bindL kindOf ((p,w) :: P.zip vs) m p=_
  unfold bindL
  rw [Y3 fun v hv=>(List.nodup_cons.mp nd).1 (List.of_mem_zip hv).1,if_pos hk]
  simp
 | p :: P,w :: vs,i+1,m,nd,h1,h2,hk=>by
  show bindL kindOf ((p,w) :: P.zip vs) m x=_
  unfold bindL
  exact Y4 (i:=i) (List.nodup_cons.mp nd).2 (by simpa using h1) (by simpa using h2) hk
theorem Y6 {kindOf:Str→Option NameKind} {x:Str} {v:Value}:∀ {P:List Str} {vs:List Value} {i:Nat} {m:Str→Option Value},P.Nodup→P[i]?=some x→vs[i]?=some v→kindOf x≠some .local→
  bindC kindOf (P.zip vs) m x=some v
 | [],_,_,_,_,h,_,_=>by simp at h
 | _ :: _,[],_,_,_,_,h,_=>by simp at h
 | p :: P,w :: vs,0,m,nd,h1,h2,hk=>by
  simp at h1 h2;subst h1;subst h2
  show bindC kindOf ((p,w) :: P.zip vs) m p=_
  unfold bindC
  rw [Y5 fun v hv=>(List.nodup_cons.mp nd).1 (List.of_mem_zip hv).1,if_neg hk]
  simp
 | p :: P,w :: vs,i+1,m,nd,h1,h2,hk=>by
  show bindC kindOf ((p,w) :: P.zip vs) m x=_
  unfold bindC
  exact Y6 (i:=i) (List.nodup_cons.mp nd).2 (by simpa using h1) (by simpa using h2) hk
def Je (N:List Str) (vs:List V):St:=vs.map some++List.replicate (N.length - vs.length) none
def jbE (CX:CXT) (P:Program) (w:World) (K:PySem.W.Frag) (mg:Str→Option Value) (base:Heap) (N:List Str) (qual:Str) (scope:Scope) (f:Addr) (cd:Value) (A:Around) (outer:List Env) (s:Shared) (H:Hp) (E:XK):Cx where
 prog:=P
 w:=w
 K:=K
 mg:=mg
 base:=base
 A:=A.deeper (envOfC qual scope s.heap.objs.size f cd)
 N:=N
 s₀:=s
 H₀:=H
 env:=envOfC qual scope s.heap.objs.size f cd
 outer:=outer
 stack:=envOfC qual scope s.heap.objs.size f cd :: outer
 ex:=[]
 calm:=true
 fn:=fun _=>true
 pn:=[]
 xe:=fun e s'=>wpAny (model P w) (A.deeper (envOfC qual scope s.heap.objs.size f cd)) (leaving (envOfC qual scope s.heap.objs.size f cd) e) (fun _ s''=>CX outer H s E e s'') (fun e' s''=>CX outer H s E e' s'') s'
theorem jaX {sc:Scope} {n:Nat} {x:Str} (h:sc.names.lookup x=some .cell):∃ c,(cellsFrom n sc.names []).lookup x=some c:=by
 have q:=PySem.W.cellsFrom_some sc.names n [] (.inl h)
 exact Option.isSome_iff_exists.mp q
theorem jc8 {CX:CXT} {P:Program} {w:World} {K:PySem.W.Frag} {mg:Str→Option Value} {base:Heap} {N ps:List Str} {qual:Str} {scope:Scope} {f:Addr} {cd:Value} {A:Around} {outer:List Env} {s s1:Shared} {H:Hp} {E:XK} {us:List Value} {vs:List V}
  (S:FnScope N ps scope) (hd:A.handled=none) (e0:Env0 P w K mg base A outer s H) (hl:vs.length=ps.length) (r:Vals vs us)
  (x:InCallC s s.heap.objs.size (bindL (envOfC qual scope s.heap.objs.size f cd).kindOf (ps.zip us) fun _=>none) (cellsFrom (s.heap.objs.size+1) scope.names []) (bindC (envOfC qual scope s.heap.objs.size f cd).kindOf (ps.zip us) fun _=>none) s1) :
  Inv (jbE CX P w K mg base N qual scope f cd A outer s H E) [] (Je N vs) H s1:=by
 have hpl:ps.length≤N.length:=by have:=congrArg List.length S.pre;rw [List.length_take] at this;omega
 obtain ⟨h1,tk,rfl,hk⟩:=x.done
 have noA:∀ b:Addr,b ∉ (jbE CX P w K mg base N qual scope f cd A outer s H E).ex:=fun b z=>absurd (show b∈([]:List Addr) from z) (by simp)
 refine ⟨⟨e0.mod,S.kind,rfl,rfl,Nat.le_refl _,fun y z c h1 h2=>?_,fun y hy=>?_,fun y c _ h=>?_,fun _=>hd,Around.frames_deeper e0.frames,.inr ⟨rfl,rfl⟩,fun b z=>absurd z (noA b),e0.bs,e0.bsz,fun b _ _=>noA b,fun b z=>absurd z (noA b),e0.funs,e0.frf⟩,
  rfl,e0.bare,Un.kept hk,⟨_,x.toInCall.ns,fun i y v h1 h2 h3=>?_⟩,fun y c h=>⟨_,x.cell y c h⟩,e0.hok.fresh (Nat.le_refl _),fun y c h=>?_,fun p hp=>absurd (show p∈([]:List (Addr×Obj)) from hp) (by simp),e0.hok.kept hk,?_⟩
 ·exact name_of_addr x.apart (PySem.mem_of_lookup h1) (PySem.mem_of_lookup h2)
 ·have hy:scope.names.lookup y=some .cell∨scope.names.lookup y=some .free:=hy
  rcases hy with hy | hy
  ·exact jaX hy
  ·exact absurd rfl (S.nofree _ (PySem.mem_of_lookup hy))
 ·exact Nat.le_of_lt (x.above y c (PySem.mem_of_lookup h))
 ·have hi:i < vs.length:=by
   unfold Je at h2
   by_cases hi:i < vs.length
   ·exact hi
   ·rw [List.getElem?_append_right (by simpa using hi)] at h2
    rw [List.getElem?_replicate] at h2
    split at h2 <;> cases h2
  have ha:vs[i]?=some v:=by
   unfold Je at h2
   rw [List.getElem?_append_left (by simpa using hi),List.getElem?_map] at h2
   cases e:vs[i]? with
   | none=>rw [e] at h2;cases h2
   | some a=>rw [e] at h2;cases h2;rfl
  obtain ⟨u,hu,rv⟩:=r.get ha
  have hp:ps[i]?=some y:=by
   rw [← S.pre,List.getElem?_take_of_lt (by omega)];exact h1
  have ndP:ps.Nodup:=by rw [← S.pre];exact S.nd.sublist (List.take_sublist _ _)
  refine ⟨u,rv,?_⟩
  rcases S.par y (List.mem_of_getElem? hp) with k | k
  ·exact .inl ⟨k,Y4 ndP hp hu k⟩
  ·obtain ⟨c,e⟩:=jaX (n:=s.heap.objs.size+1) k
   refine .inr ⟨.inl k,c,e,?_⟩
   have q:=x.cell y c e
   rw [Y6 ndP hp hu (by show scope.names.lookup y≠_;rw [k];decide)] at q
   exact q
 ·exact e0.hok.fresh (Nat.le_of_lt (x.above y c (PySem.mem_of_lookup h)))
 ·unfold Je
  show _=N.length
  rw [List.length_append,List.length_map,List.length_replicate]
  omega
theorem jh6 {CX:CXT} {P:Program} {w:World} {K:PySem.W.Frag} {mg:Str→Option Value} {base:Heap} {k:Nat} {f:Addr} {name qual:Str} {params:Arguments} {body:List Stmt} {scope:Scope} {dV kV doc pm cdv ct oc:Value} {an od:Option Addr}
  {osl:Array (Option Value)} {N ps:List Str} {sp:Sp} (lk:K.lookup f=some ⟨oc,od,.func (PySem.W.fnOf name qual params body scope dV kV doc pm an cdv ct),osl⟩) (hcd:PySem.W.codeIn K cdv qual=true) (S:FnScope N ps scope)
  (len:∀ vs H Q E,sp vs H Q E→vs.length=ps.length)
  (hbody:∀ (A:Around) (outer:List Env) (s:Shared) (H:Hp) (vs:List V) (Q:VK) (E:XK),Room k (A.deeper (envOfC qual scope s.heap.objs.size f cdv))→sp vs H Q E→
   ∃ t,PSs (jbE CX P w K mg base N qual scope f cdv A outer s H E) body t∧t { nx:=fun _ H'=>Q .non H',rt:=Q } (Je N vs) H) :
  FnOk P w K mg base CX (k+1) f (PySem.W.fnOf name qual params body scope dV kV doc pm an cdv ct) ps sp:=by
 refine ⟨len,fun A outer s H args us vs Q E hr e0 hb r hsp=>?_⟩
 have hl:=len _ _ _ _ hsp
 have KX:K.In s.heap:=e0.mod.kin.keeps fun b o e=>(e0.bs b o e).1
 have lim:s.heap.NoLimit:=e0.mod.nolimit.keeps fun b o e=>(e0.bs b o e).1
 have hkind:∀ y∈ps.zip us,scope.names.lookup y.1=some .local∨(scope.names.lookup y.1=some .cell∧((cellsFrom (s.heap.objs.size+1) scope.names []).lookup y.1).isSome=true):=fun ⟨n,v⟩ hy=>by
  rcases S.par n (List.of_mem_zip hy).1 with q | q
  ·exact .inl q
  ·exact .inr ⟨q,PySem.W.cellsFrom_some _ _ _ (.inl q)⟩
 refine codeAny_call_function hr.depth (KX _ _ lk) rfl S.co S.gen rfl (PySem.W.codeRec_of KX hcd) (hb _ _ _ _ ?_)
 refine wpAny_newFunctionEnv_cells S.kind hkind fun env he s1 x=>?_
 subst he
 refine ⟨lim.keeps x.toInCall.keep,codeAny_func ?_⟩
 obtain ⟨t,ht,hq⟩:=hbody A outer s H vs Q E (hr.deeper _) hsp
 have I:Inv (jbE CX P w K mg base N qual scope f cdv A outer s H E) [] (Je N vs) H s1:=jc8 S hr.hd e0 hl r x
 refine wpAny_mono (ht [] s1 (Je N vs) H _ I hq) (fun fl s' hs=>?_) fun e s' hs=>hs
 have fin:∀ {σ':St} {H':Hp} {v:V} {u:Value},Inv (jbE CX P w K mg base N qual scope f cdv A outer s H E) [] σ' H' s'→RelV v u→Q v H'→CE outer P w H s Q u s':=
  fun {σ' H' v u} J rv q=>⟨v,H',J.os,J.bare,J.base,J.hok,rv,q⟩
 cases fl with
 | ret u=>
  obtain ⟨v,σ',H',J,rv,q⟩:=hs
  exact fin J rv q
 | next=>
  obtain ⟨σ',H',J,q⟩:=hs
  exact fin (v:=V.non) (u:=Value.none) J rfl q
 | brk=>
  obtain ⟨_,_,_,q⟩:=hs
  exact False.elim q
 | cont=>
  obtain ⟨_,_,_,q⟩:=hs
  exact False.elim q
section
variable {X:Cx} {x:Str} {p pos:Pos} {e:Expr} {es:List Expr} {t:TA} {id T:String} {r:List V→Hp→VK→Prop}
def tCB (r:List V→Hp→VK→Prop) (t:TA):TE:=fun σ H Q=>t σ H fun vs H1=>r vs H1 Q
theorem jd9 (hc:q8 X (.builtin id) r) (hg:Gl X x) (hm:X.mg x=none) (hv:bootBuiltins x=some (.builtin id)) (ha:PA X (e :: es) t) (hn:x≠"__name__":=by decide) (hdb:(x == ("__debug__" : Str))=false:=by decide)
  (he:starEach (e :: es) X.env=(false,eval e X.env) :: starEach es X.env:=by rfl) (hpl:(backTo pos (starEach es X.env)).any (·.1)=false:=by rfl):PE X (.Call (.Name x p) (e :: es) [] pos) (tCB r t):=by
 intro pins s σ H Q I h
 refine wpAny_Call_Name_kw (yx I hg hm hv ?_ hn hdb)
 exact PyProof.Rows.callWith_builtin1 (thn (ha pos pins s σ H _ I h) fun us s1 ⟨vs,H1,I1,r1,q1⟩=>hc pins s1 σ H1 vs us Q I1 r1 q1) he hpl
theorem jcP (hc:q8 X (.type T) r) (hg:Gl X x) (hm:X.mg x=none) (hv:bootBuiltins x=some (.type T)) (ha:PA X (e :: es) t) (hn:x≠"__name__":=by decide) (hdb:(x == ("__debug__" : Str))=false:=by decide)
  (he:starEach (e :: es) X.env=(false,eval e X.env) :: starEach es X.env:=by rfl) (hpl:(backTo pos (starEach es X.env)).any (·.1)=false:=by rfl):PE X (.Call (.Name x p) (e :: es) [] pos) (tCB r t):=by
 intro pins s σ H Q I h
 refine wpAny_Call_Name_kw (yx I hg hm hv ?_ hn hdb)
 exact PyProof.Rows.callWith_type1 (thn (ha pos pins s σ H _ I h) fun us s1 ⟨vs,H1,I1,r1,q1⟩=>hc pins s1 σ H1 vs us Q I1 r1 q1) he hpl
end
end L2
namespace HT
open PySem PyProof.Rows
section
variable {prog:Program} {w:World} {A:Around} {E:Value→Shared→Prop} {s:Shared}
theorem cat_tup {t b:Addr} {vs ws:List Value} {Q:Value→Shared→Prop} (ht:IsTup s.heap t vs.toArray) (hb:IsTup s.heap b ws.toArray) (hv:vs≠[])
  (h1:ws=[]→Q (.ref t) s) (h2:ws≠[]→Q (.ref s.heap.objs.size) { s with heap:=s.heap.push { cls:=.type "tuple",data:=.seq (vs++ws).toArray } })
  (hsz:vs.length+ws.length≤sizeLine):wpAny (model prog w) A (binaryOp .Add (.ref t) (.ref b)) Q E s:=by
 obtain ⟨⟨cls,dd,data,sl⟩,ho,hc,n,hd⟩:=id ht
 obtain ⟨⟨cls2,dd2,data2,sl2⟩,ho2,hc2,n2,hd2⟩:=id hb
 simp only at hc hd hc2 hd2
 subst hc hd hc2 hd2
 have e:vs.toArray++ws.toArray=(vs++ws).toArray:=by simp
 by_cases hw:ws=[]
 ·exact concat_meets ⟨_,ho,rfl⟩ ⟨_,ho2,rfl⟩ noFill_tuple_add seq_tuple_add PySem.F.slot_tuple_add PySem.F.entry_tuple_add (PySem.F.args_tuple_add_2 _ _)
   (tuple_addW1 t b vs.toArray ws.toArray n n2 dd dd2 sl sl2 (by simpa using hv) (by simp [hw])) ⟨ho,ho2,h1 hw⟩
 ·refine concat_meets ⟨_,ho,rfl⟩ ⟨_,ho2,rfl⟩ noFill_tuple_add seq_tuple_add PySem.F.slot_tuple_add PySem.F.entry_tuple_add (PySem.F.args_tuple_add_2 _ _)
   (tuple_addW2 t b vs.toArray ws.toArray n n2 dd dd2 sl sl2 (by simpa using hv) (by simpa using hw) (by rw [List.size_toArray,List.size_toArray];exact hsz)) ⟨ho,ho2,?_⟩
  rw [e]
  exact h2 hw
def sIx (n d:Nat):Option Int→Nat
 | none=>d
 | some v=>if v < 0 then (v+(n:Int)).toNat else min v.toNat n
theorem sIx_none (n d:Nat):sIx n d none=d:=rfl
theorem sIx_nat (n d k:Nat):sIx n d (some (k:Int))=min k n:=by
 show (if (k:Int) < 0 then ((k:Int)+(n:Int)).toNat else min (k:Int).toNat n)=min k n
 rw [if_neg (by omega),Int.toNat_natCast]
theorem jgD (n d:Nat) (hd:d≤n) (o:Option Int):sIx n d o≤n:=by
 cases o with
 | none=>exact hd
 | some v=>
  show (if v < 0 then (v+(n:Int)).toNat else min v.toNat n)≤n
  by_cases hv:v < 0
  ·rw [if_pos hv];omega
  ·rw [if_neg hv];exact Nat.min_le_right _ _
theorem jco (v:Int) (n d:Nat):(if v < 0 then max (v+(n:Int)) 0 else min v (n:Int))=((sIx n d (some v):Nat):Int):=by
 show (if v < 0 then max (v+(n:Int)) 0 else min v (n:Int))=(((if v < 0 then (v+(n:Int)).toNat else min v.toNat n):Nat):Int)
 by_cases hv:v < 0
 ·simp only [if_pos hv];omega
 ·simp only [if_neg hv];omega
theorem jbM (lo hi:Option Int) (n:Nat):Builtin.Slice.sliceAdjust lo hi 1 (n:Int)=(((sIx n 0 lo:Nat):Int),((sIx n n hi:Nat):Int)):=by
 have h1:¬ ((1:Int) < 0):=by omega
 unfold Builtin.Slice.sliceAdjust
 simp only [h1,if_false]
 refine Prod.ext ?_ ?_
 ·cases lo with
  | none=>rfl
  | some v=>exact jco v n 0
 ·cases hi with
  | none=>rfl
  | some v=>exact jco v n n
theorem jbi (i j:Nat):Builtin.Slice.slicePlaces (i:Int) (j:Int) 1=j - i:=by
 unfold Builtin.Slice.slicePlaces
 have h1:(1:Int) > 0:=by omega
 simp only [h1,if_true,Int.ediv_one]
 split <;> omega
theorem KI {v:Value} {o:Option Int} {Q:Option Int→Shared→Prop} (p:IsPart v o) (h:Q o s):wpAny (model prog w) A (Builtin.Slice.slicePartIndex v) Q E s:=by
 cases p with
 | none=>exact slicePart_none h
 | int i t=>exact slicePart_int h
theorem zH {sl:Addr} {vl vu:Value} {lo hi:Option Int} {n:Nat} {Q:Int×Int×Nat→Shared→Prop} (hs:s.heap.IsSliceOf sl vl vu .none) (pl:IsPart vl lo) (pu:IsPart vu hi)
  (h:Q (((sIx n 0 lo:Nat):Int),1,sIx n n hi - sIx n 0 lo) s):wpAny (model prog w) A (Builtin.Slice.sliceApplied (.ref sl) (pure (n:Int))) Q E s:=by
 obtain ⟨os,hos,hcs,hds⟩:=id hs
 unfold Builtin.Slice.sliceApplied Builtin.Slice.sliceFields
 refine wpAny_bind (wpAny_bind (wpAny_field hos hds (x:=vl) rfl (wpAny_bind (wpAny_field hos hds (x:=vu) rfl (wpAny_bind (wpAny_field hos hds (x:=.none) rfl (wpAny_pure ?_)))))))
 refine wpAny_bind (slicePart_none ?_)
 show wpAny _ _ (if ((1:Int) == 0)=true then _ else _) _ _ s
 rw [if_neg (by decide)]
 refine wpAny_bind (KI pl (wpAny_bind (KI pu (wpAny_bind (wpAny_pure ?_)))))
 show wpAny _ _ (match Builtin.Slice.sliceAdjust lo hi 1 (n:Int) with | (lo,hi)=>pure (lo,(1:Int),Builtin.Slice.slicePlaces lo hi 1)) _ _ s
 rw [jbM lo hi n]
 show wpAny _ _ (pure (((sIx n 0 lo:Nat):Int),(1:Int),Builtin.Slice.slicePlaces ((sIx n 0 lo:Nat):Int) ((sIx n n hi:Nat):Int) 1)) _ _ s
 rw [jbi]
 exact wpAny_pure h
theorem jd4 (xs:Array Value) (i k:Nat):((List.range k).filterMap fun (m:Nat)=>xs[((i:Int)+(m:Int) * 1).toNat]?).toArray=((xs.toList.drop i).take k).toArray:=by
 have e:(fun (m:Nat)=>xs[((i:Int)+(m:Int) * 1).toNat]?)=fun m=>xs[i+m]?:=by
  funext m
  have:((i:Int)+(m:Int) * 1).toNat=i+m:=by omega
  rw [this]
 rw [e]
 have:=pick_run xs i k
 rw [List.filterMap_map] at this
 have e2:((fun x=>xs[x]?) ∘ fun x=>i+x)=fun m=>xs[i+m]?:=rfl
 rw [e2] at this
 rw [this]
theorem getItem_tuple_cut {t sl:Addr} {items:Array Value} {vl vu:Value} {lo hi:Option Int} {Q:Value→Shared→Prop} (ht:IsTup s.heap t items) (hs:s.heap.IsSliceOf sl vl vu .none) (pl:IsPart vl lo) (pu:IsPart vu hi)
  (hw:¬ (sIx items.size 0 lo=0∧sIx items.size items.size hi=items.size))
  (h:Q (.ref s.heap.objs.size) { s with heap:=s.heap.push { cls:=.type "tuple",data:=.seq ((items.toList.drop (sIx items.size 0 lo)).take (sIx items.size items.size hi - sIx items.size 0 lo)).toArray } })
  (hsz:items.size≤sizeLine):wpAny (model prog w) A (getItem (.ref t) (.ref sl)) Q E s:=by
 have htake:sizeOk (.seq ((items.toList.drop (sIx items.size 0 lo)).take (sIx items.size items.size hi - sIx items.size 0 lo)).toArray):=by
  show ((items.toList.drop (sIx items.size 0 lo)).take (sIx items.size items.size hi - sIx items.size 0 lo)).toArray.size≤sizeLine
  rw [List.size_toArray,List.length_take,List.length_drop,Array.length_toList]
  omega
 have hj:sIx items.size items.size hi≤items.size:=jgD _ _ (Nat.le_refl _) hi
 obtain ⟨os,hos,hcs,hds⟩:=id hs
 have hTs:s.TypeIs (.ref sl) "slice":=⟨os,hos,hcs⟩
 unfold getItem
 try with_reducible refine wpAny_holding ?_
 first | refine wpAny_bind (wpAny_pure ?_) | skip
 refine wpAny_bind (wpAny_sequenceKey ht.typeIs (by decide) ?_)
 refine wpAny_bind (wpAny_callSpecial?_slot (name:=Str.ofString "__getitem__") ht.typeIs PyProof.Rows.slot_tuple_getitem
  (wpAny_call_entry PyProof.Rows.slot_tuple_getitem ht.typeIs entry_tuple_getitem ?_ (args_tuple_getitem _ _)))
 show wpAny _ _ (Builtin.Tuple.tupleItemsOf (.ref t) >>= _) _ _ s
 refine wpAny_bind (tupleItemsOf_ ht ?_)
 refine wpAny_bind (wpAny_typeOf hTs ?_)
 rw [if_pos (by decide)]
 refine wpAny_bind (zH hs pl pu ?_)
 have hno:¬ ((((sIx items.size 0 lo:Nat):Int) == 0 && (1:Int) == 1 && (sIx items.size items.size hi - sIx items.size 0 lo) == items.size)=true):=by
  intro q
  rw [Bool.and_eq_true,Bool.and_eq_true] at q
  have q1:((sIx items.size 0 lo:Nat):Int)=0:=eq_of_beq q.1.1
  have q2:sIx items.size items.size hi - sIx items.size 0 lo=items.size:=eq_of_beq q.2
  exact hw ⟨by omega,by omega⟩
 show wpAny _ _ (if (((sIx items.size 0 lo:Nat):Int) == 0 && (1:Int) == 1 && (sIx items.size items.size hi - sIx items.size 0 lo) == items.size)=true then _ else _) _ _ s
 rw [if_neg hno,jd4]
 first
  | exact wpAny_bind (m:=Builtin.Tuple.tupleExact _) (wpAny_newObj_type (wpAny_pure ⟨_,rfl,wpAny_pure h⟩) htake)
  | exact wpAny_bind (m:=Builtin.Tuple.tupleExact _) (wpAny_newObj_type (wpAny_bind (wpAny_pure (wpAny_pure ⟨_,rfl,wpAny_pure h⟩))) htake)
  | exact wpAny_bind (wpAny_bind (m:=Builtin.Tuple.tupleExact _) (wpAny_newObj_type (wpAny_pure (wpAny_pure ⟨_,rfl,wpAny_pure h⟩)) htake))
  | exact wpAny_bind (wpAny_bind (m:=Builtin.Tuple.tupleExact _) (wpAny_newObj_type (wpAny_pure ⟨_,rfl,wpAny_pure h⟩) htake))
end
end HT
namespace L2
open PySem PySem.Spec PyProof.Rows
abbrev TO:=St→Hp→(Option Int→Hp→Prop)→Prop
def PO (X:Cx) (e:Option Expr) (t:TO):Prop:=
 ∀ (pins:List (Addr×Obj)) (s:Shared) (σ:St) (H:Hp) (Q:Option Int→Hp→Prop),Inv X pins σ H s→t σ H Q→
  wpAny (model X.prog X.w) X.A (evalPart e X.env) (fun u s'=>∃ o H',Inv X pins σ H' s'∧IsPart u o∧Q o H') X.xe s
def jbR:TO:=fun _ H Q=>Q none H
def jgd (t:TE):TO:=fun σ H Q=>t σ H fun x H1=>∃ i,x=.int i∧Q (some i) H1
section
variable {X:Cx} {e:Expr} {te:TE} {lo hi:Option Expr} {tl th:TO} {pos p2:Pos}
theorem yF:PO X none jbR:=by
 intro pins s σ H Q I h
 rw [evalPart_none]
 exact wpAny_pure ⟨none,H,I,.none,h⟩
theorem yE (h:PE X e te):PO X (some e) (jgd te):=by
 intro pins s σ H Q I hw
 rw [evalPart_some]
 refine thn (h pins s σ H _ I hw) fun u s1 ⟨x,H1,I1,r1,q1⟩=>?_
 obtain ⟨i,rfl,q⟩:=q1
 obtain ⟨t,rfl⟩:=r1
 exact ⟨some i,H1,I1,.int i t,q⟩
def SlR (X:Cx) (r:V→Option Int→Option Int→Hp→VK→Prop):Prop:=
 ∀ (pins:List (Addr×Obj)) (s:Shared) (σ:St) (H:Hp) (x:V) (v vl vu:Value) (lo hi:Option Int) (sl:Addr) (Q:VK),Inv X pins σ H s→RelV x v→s.heap.IsSliceOf sl vl vu .none→IsPart vl lo→IsPart vu hi→r x lo hi H Q→
  ∃ T id,typeLookup (.type T) "__getitem__" = pure (some (.builtin id))∧s.TypeIs v T∧wpAny (model X.prog X.w) X.A (getItem v (.ref sl)) (EP X pins σ Q) X.xe s
def tSl (r:V→Option Int→Option Int→Hp→VK→Prop) (te:TE) (tl th:TO):TE:=fun σ H Q=>te σ H fun x H1=>tl σ H1 fun l H2=>th σ H2 fun u H3=>r x l u H3 Q
theorem zL {r:V→Option Int→Option Int→Hp→VK→Prop} (hr:SlR X r) (he:PE X e te) (hl:PO X lo tl) (hu:PO X hi th):PE X (.Subscript e (.Slice lo hi none p2) pos) (tSl r te tl th):=by
 intro pins s σ H Q I h
 refine Subscript_ (thn (he pins s σ H _ I h) fun v s1 ⟨x,H1,I1,r1,q1⟩=>?_)
 refine wpAny_Slice (thn (hl pins s1 σ H1 _ I1 q1) fun vl s2 ⟨l,H2,I2,pl,q2⟩=>thn (hu pins s2 σ H2 _ I2 q2) fun vu s3 ⟨u,H3,I3,pu,q3⟩=>?_)
 rw [evalPart_none]
 refine wpAny_pure ?_
 have I4:Inv X pins σ H3 { s3 with heap:=s3.heap.push { cls:=.type "slice",data:=.fields #[vl,vu,.none] } }:=I3.kept (t':=s3.toks) fun b ob q=>Heap.get?_push_of_some _ q
 obtain ⟨T,id,hT,ht,hg⟩:=hr pins { s3 with heap:=s3.heap.push { cls:=.type "slice",data:=.fields #[vl,vu,.none] } } σ H3 x v vl vu l u s3.heap.objs.size Q I4 r1 (Heap.IsSliceOf.new ..) pl pu q3
 show wpAny (model X.prog X.w) X.A (subscriptTail e (.Slice lo hi none p2) v (.ref s3.heap.objs.size)) (EP X pins σ Q) X.xe { s3 with heap:=s3.heap.push { cls:=.type "slice",data:=.fields #[vl,vu,.none] } }
 exact tail_any (ops:=[.ref s3.heap.objs.size,v]) ht hT hg (by with_unfolding_all rfl)
def qZ (xs:List V) (lo hi:Option Int):List V:=(xs.drop (HT.sIx xs.length 0 lo)).take (HT.sIx xs.length xs.length hi - HT.sIx xs.length 0 lo)
theorem J8 (xs:List V) (lo hi:Option Int):(qZ xs lo hi).length≤xs.length:=by
 unfold qZ
 rw [List.length_take,List.length_drop]
 omega
def jif (K:PySem.W.Frag):V→Option Int→Option Int→Hp→VK→Prop:=fun x lo hi H Q=>∃ a xs,x=.ref a∧SqT K H a xs∧
 ¬ (HT.sIx xs.length 0 lo=0∧HT.sIx xs.length xs.length hi=xs.length)∧∀ p,H p=none→Q (.ref p) (upd H p (.tup (qZ xs lo hi)))
theorem zC:SlR X (jif X.K):=by
 intro pins s σ H x v vl vu lo hi sl Q I rx hs pl pu h
 obtain ⟨a,xs,rfl,hx,hw,q⟩:=h
 cases rx
 obtain ⟨its,r,ht,hz⟩:=I.tuple hx
 have hlen:its.toArray.size=xs.length:=by rw [List.size_toArray];exact r.length.symm
 refine ⟨"tuple",_,PyProof.Rows.slot_tuple_getitem.lookup,ht.typeIs,?_⟩
 refine HT.getItem_tuple_cut ht hs pl pu (by rw [hlen];exact hw) ?_ (by rw [hlen];exact hz)
 rw [hlen]
 refine ⟨.ref s.heap.objs.size,_,I.laid (t':=s.toks) (o:=.tup (qZ xs lo hi)) (fun b ob q=>Heap.get?_push_of_some _ q) (Nat.le_refl _) ?_,rfl,q _ (I.hok.fresh (Nat.le_refl _))⟩
 exact ⟨Nat.le_trans (J8 xs lo hi) hz,_,(r.drop (HT.sIx xs.length 0 lo)).take (HT.sIx xs.length xs.length hi - HT.sIx xs.length 0 lo),IsTup.new _ _⟩
def jhN (K:PySem.W.Frag):R2:=fun x y H Q=>∃ a b xs ys,x=.ref a∧y=.ref b∧SqT K H a xs∧SqT K H b ys∧xs≠[]∧xs.length+ys.length≤sizeLine∧
 (ys=[]→Q (.ref a) H)∧(ys≠[]→∀ p,H p=none→Q (.ref p) (upd H p (.tup (xs++ys))))
theorem Vals.nil_iff {xs:List V} {us:List Value} (r:Vals xs us):us=[]↔xs=[]:=by
 cases r with
 | nil=>simp
 | cons _ _=>simp
theorem jfH:OpR X (binaryOp .Add) (jhN X.K):=by
 intro pins s σ H x y v u Q I rx ry h
 obtain ⟨a,b,xs,ys,rfl,rfl,ha,hb,hx,hz,q1,q2⟩:=h
 cases rx
 cases ry
 obtain ⟨its,r1,p1,_⟩:=I.tuple ha
 obtain ⟨its2,r2,p2,_⟩:=I.tuple hb
 refine HT.cat_tup p1 p2 (fun z=>hx (r1.nil_iff.mp z)) (fun z=>⟨.ref a,H,I,rfl,q1 (r2.nil_iff.mp z)⟩) (fun z=>?_) (by rw [← r1.length,← r2.length];exact hz)
 refine ⟨.ref s.heap.objs.size,_,I.laid (t':=s.toks) (o:=.tup (xs++ys)) (fun b ob q=>Heap.get?_push_of_some _ q) (Nat.le_refl _) ?_,rfl,q2 (fun w=>z (r2.nil_iff.mpr w)) _ (I.hok.fresh (Nat.le_refl _))⟩
 exact ⟨by rw [List.length_append];exact hz,_,r1.append r2,IsTup.new _ _⟩
end
def ixN (n:Nat) (i:Int):Option Nat:=if 0≤i then (if i < n then some i.toNat else none) else if -(n:Int)≤i then some (i+n).toNat else none
def atI {α:Type} (xs:List α) (i:Int):Option α:=(ixN xs.length i).bind fun j=>xs[j]?
theorem jcd {n:Nat} {i:Int} {j:Nat} (h:ixN n i=some j):seqIndex? i n=some j∧j < n∧-(n:Int)≤i∧i < n:=by
 unfold ixN at h
 by_cases h0:0≤i
 ·rw [if_pos h0] at h
  by_cases h1:i < n
  ·rw [if_pos h1] at h
   have e:i.toNat=j:=Option.some.inj h
   exact ⟨by rw [seqIndex_of h0 h1,e],by omega,by omega,h1⟩
  ·rw [if_neg h1] at h;cases h
 ·rw [if_neg h0] at h
  by_cases h1:-(n:Int)≤i
  ·rw [if_pos h1] at h
   have e:(i+n).toNat=j:=Option.some.inj h
   exact ⟨by rw [seqIndex_neg (by omega) h1,e],by omega,h1,by omega⟩
  ·rw [if_neg h1] at h;cases h
theorem ZV {α:Type} {xs:List α} {i:Int} {v:α} (h:atI xs i=some v):∃ j,seqIndex? i xs.length=some j∧xs[j]?=some v∧j < xs.length∧-(xs.length:Int)≤i∧i < xs.length:=by
 unfold atI at h
 cases e:ixN xs.length i with
 | none=>rw [e] at h;cases h
 | some j=>
  rw [e] at h
  obtain ⟨h1,h2,h3,h4⟩:=jcd e
  exact ⟨j,h1,h,h2,h3,h4⟩
theorem ze {α:Type} {xs:List α} {j:Nat} {v:α} (h:xs[j]?=some v):atI xs (j:Int)=some v:=by
 have hj:j < xs.length:=(List.getElem?_eq_some_iff.mp h).1
 have e:ixN xs.length (j:Int)=some j:=by
  unfold ixN
  rw [if_pos (by omega),if_pos (by omega)];simp
 unfold atI;rw [e];exact h
theorem Yl {α:Type} (xs:List α) (v:α):atI (xs++[v]) (-1)=some v:=by
 have hl:(xs++[v]).length=xs.length+1:=by simp
 have e:ixN (xs++[v]).length (-1)=some xs.length:=by
  unfold ixN
  rw [hl,if_neg (by decide),if_pos (by omega)]
  congr 1
  omega
 unfold atI
 rw [e]
 show (xs++[v])[xs.length]?=some v
 simp
def jcv (b:Expr):Prop:=∀ o i,subscripted b false o i=operate [o,i] (getItem o i)
def IxR (X:Cx) (r:R2):Prop:=
 ∀ (value slice:Expr) (pins:List (Addr×Obj)) (s:Shared) (σ:St) (H:Hp) (x y:V) (v u:Value) (Q:VK),Inv X pins σ H s→RelV x v→RelV y u→r x y H Q→
  subscripted slice false v u=operate [v,u] (getItem v u)→wpAny (model X.prog X.w) X.A (subscriptTail value slice v u) (EP X pins σ Q) X.xe s
def MtR (X:Cx) (id:String) (r:V→List V→Hp→VK→Prop):Prop:=
 ∀ (pins:List (Addr×Obj)) (s:Shared) (σ:St) (H:Hp) (x:V) (xs:List V) (v:Value) (us:List Value) (Q:VK),Inv X pins σ H s→RelV x v→Vals xs us→r x xs H Q→
  wpAny (model X.prog X.w) X.A (call (.builtin id) (v :: us)) (EP X pins σ Q) X.xe s
section
variable {X:Cx} {a b:Expr} {ta tb:TE} {pos:Pos}
theorem kI {r:R2} (hr:IxR X r) (ha:PE X a ta) (hb:PE X b tb) (hs:jcv b):PE X (.Subscript a b pos) (tOp r ta tb):=by
 intro pins s σ H Q I h
 exact Subscript_ (jhl ha hb I h fun v u s2 x y H2 I2 rx ry q=>hr a b pins s2 σ H2 x y v u Q I2 rx ry q (hs _ _))
def jhM (K:PySem.W.Frag):R2:=fun x y H Q=>∃ p xs i v,x=.ref p∧y=.int i∧SqL K H p xs∧atI xs i=some v∧Q v H
def jhL (K:PySem.W.Frag):R2:=fun x y H Q=>∃ p xs i v,x=.ref p∧y=.int i∧SqT K H p xs∧atI xs i=some v∧Q v H
def jij:R2:=fun x y H Q=>∃ z i c,x=.str z∧y=.int i∧z.length≤sizeLine∧atI z.cps.toList i=some c∧Q (.str ⟨#[c]⟩) H
theorem kg:IxR X (jhM X.K):=by
 intro value slice pins s σ H x y v u Q I rx ry h hs
 obtain ⟨p,xs,i,z,rfl,rfl,hq,he,q⟩:=h
 cases rx
 obtain ⟨t,rfl⟩:=ry
 obtain ⟨its,r,pl,hz⟩:=I.list hq
 obtain ⟨j,h1,h2,h3,h4,h5⟩:=ZV he
 obtain ⟨w,ew,rw'⟩:=r.get h2
 have hl:=r.length
 have hn:=K1
 have fin:EP X pins σ Q w s:=⟨z,H,I,rw',q⟩
 by_cases h0:0≤i
 ·have hj:i.toNat=j:=by
   rw [seqIndex_of h0 h5] at h1
   exact Option.some.inj h1
  exact item_listR pl.isList h0 (by omega) (by rw [hj];simpa using ew) fin hs
 ·have hj:(i+(its.toArray.size:Int)).toNat=j:=by
   rw [seqIndex_neg (by omega) h4] at h1
   rw [List.size_toArray,← hl]
   exact Option.some.inj h1
  exact subscriptTail_builtinR (x:=w) pl.isList.typeIs slot_list_getitem.lookup
   (wpAny_getItem_list_neg (Q:=fun r s'=>r=w∧EP X pins σ Q r s') pl.isList (by omega) (by rw [List.size_toArray] <;> omega) (by omega) (by rw [hj];simpa using ew) ⟨rfl,fin⟩) hs
theorem jP:IxR X (jhL X.K):=by
 intro value slice pins s σ H x y v u Q I rx ry h hs
 obtain ⟨p,xs,i,z,rfl,rfl,hq,he,q⟩:=h
 cases rx
 obtain ⟨t,rfl⟩:=ry
 obtain ⟨its,r,pl,hz⟩:=I.tuple hq
 obtain ⟨j,h1,h2,h3,h4,h5⟩:=ZV he
 obtain ⟨w,ew,rw'⟩:=r.get h2
 have hl:=r.length
 have hn:=K1
 have fin:EP X pins σ Q w s:=⟨z,H,I,rw',q⟩
 exact subscriptTail_builtinR (x:=w) pl.typeIs slot_tuple_getitem.lookup
  (getItem_tuple (j:=j) (Q:=fun r s'=>r=w∧EP X pins σ Q r s') pl (by omega) (by omega) (by rw [List.size_toArray,← hl];exact h1) (by simpa using ew) ⟨rfl,fin⟩) hs
theorem jby:IxR X jij:=by
 intro value slice pins s σ H x y v u Q I rx ry h hs
 obtain ⟨z,i,c,rfl,rfl,hz,he,q⟩:=h
 obtain ⟨t,rfl⟩:=rx
 obtain ⟨t',rfl⟩:=ry
 obtain ⟨j,h1,h2,h3,h4,h5⟩:=ZV he
 have hl:z.cps.toList.length=z.length:=by simp [Str.length]
 rw [hl] at h1 h4 h5
 have hn:=K1
 exact tail_any (typeIs_str s z t) slot_str_getitem.lookup (getItem_str (c:=c) (by
  have e1:decide (i < -(2 ^ 63:Int))=false:=decide_eq_false (by omega)
  have e2:decide (i ≥ 2 ^ 63)=false:=decide_eq_false (by omega)
  rw [e1,e2,Bool.or_false]) (by rw [h1];simpa using h2) ⟨.str ⟨#[c]⟩,H,I.tok _,⟨_,rfl⟩,q⟩) hs
theorem jbu (its:List Value) (n j:Nat) (u:Value):Obj.mapSeq (·.setIfInBounds j u) { cls:=.type "list",data:=.seq its.toArray n }={ cls:=.type "list",data:=.seq (its.set j u).toArray n }:=by
 simp [Obj.mapSeq]
theorem Inv.lst {pins:List (Addr×Obj)} {σ:St} {H:Hp} {s:Shared} {p:Addr} {xs:List V} (I:Inv X pins σ H s) (h:H p=some (.lst xs)) :
  ∃ (its:List Value) (n:Nat),Vals xs its∧s.heap.get? p=some { cls:=.type "list",data:=.seq its.toArray n }∧xs.length≤sizeLine:=by
 obtain ⟨z,its,n,r,e⟩:=I.hok p _ h
 exact ⟨its,n,r,e,z⟩
theorem Inv.lstUpd {pins:List (Addr×Obj)} {σ:St} {H:Hp} {s:Shared} {p:Addr} {xs ys:List V} {its its':List Value} {n n':Nat} {f:Obj→Obj} (I:Inv X pins σ H s) (h:H p=some (.lst xs))
  (ho:s.heap.get? p=some { cls:=.type "list",data:=.seq its.toArray n }) (hf:f { cls:=.type "list",data:=.seq its.toArray n }={ cls:=.type "list",data:=.seq its'.toArray n' }) (r:Vals ys its') (hz:ys.length≤sizeLine) (t:Nat) :
  Inv X pins σ (upd H p (.lst ys)) { s with heap:=s.heap.update p f,toks:=t }:=by
 have e:(s.heap.update p f).get? p=some { cls:=.type "list",data:=.seq its'.toArray n' }:=by
  rw [Heap.get?_update_self f ho (by rw [hf] <;> rfl),hf]
 refine I.write (x:=p) (e:=p) (by rw [h];trivial) (.inl rfl) (fun b u hb q=>(Heap.get?_update_other _ _ (Ne.symm hb)).trans q) ⟨_,e⟩ ?_
 exact ⟨hz,its',n',r,e⟩
def jhK:V→V→V→Hp→(Hp→Prop)→Prop:=fun o i v H Q=>∃ p xs k j,o=.ref p∧i=.int k∧H p=some (.lst xs)∧ixN xs.length k=some j∧Q (upd H p (.lst (xs.set j v)))
theorem ym:jhp X jhK:=by
 intro pins s σ H o i v ov iv u Q I ro ri rv h
 obtain ⟨p,xs,k,j,rfl,rfl,hp,hj,q⟩:=h
 cases ro
 obtain ⟨t,rfl⟩:=ri
 obtain ⟨its,n,r,ho,hz⟩:=I.lst hp
 obtain ⟨h1,h2,h3,h4⟩:=jcd hj
 have hl:=r.length
 have hn:=K1
 have I':Inv X pins σ (upd H p (.lst (xs.set j v))) { s with heap:=s.heap.update p (Obj.mapSeq (·.setIfInBounds j u)) }:=
  I.lstUpd hp ho (jbu its n j u) (r.set rv j) (by rw [List.length_set];exact hz) s.toks
 by_cases h0:0≤k
 ·have hk:k.toNat=j:=by
   rw [seqIndex_of h0 h4] at h1
   exact Option.some.inj h1
  exact PySem.W.ki_setAt ho h0 (by omega) (by rw [List.size_toArray,← hl];exact h4) (by rw [hk];exact ⟨_,I',q⟩)
 ·have hk:(k+(its.toArray.size:Int)).toNat=j:=by
   rw [seqIndex_neg (by omega) h3] at h1
   rw [List.size_toArray,← hl]
   exact Option.some.inj h1
  exact PySem.W.ki_setBack ho (by omega) (by rw [List.size_toArray,← hl];exact h3) (by omega) (by rw [hk];exact ⟨_,I',q⟩)
theorem Zj (lo hi:Option Int) (n:Nat):(sliceBounds lo hi none n).1=((HT.sIx n 0 lo:Nat):Int)∧(sliceBounds lo hi none n).2.1=((HT.sIx n n hi:Nat):Int)∧(sliceBounds lo hi none n).2.2=1:=by
 refine ⟨?_,?_,rfl⟩
 ·cases lo with
  | none=>simp [sliceBounds,HT.sIx]
  | some i=>
   simp only [sliceBounds,HT.sIx,Option.getD_none,show (1:Int) > 0 by decide,if_true]
   by_cases h:i < 0
   ·simp only [h,if_true] <;> omega
   ·simp only [h,if_false] <;> omega
 ·cases hi with
  | none=>simp [sliceBounds,HT.sIx]
  | some i=>
   simp only [sliceBounds,HT.sIx,Option.getD_none,show (1:Int) > 0 by decide,if_true]
   by_cases h:i < 0
   ·simp only [h,if_true] <;> omega
   ·simp only [h,if_false] <;> omega
theorem Ys (its:List Value) (lo hi:Option Int):slicePick its.toArray lo hi none=((its.drop (HT.sIx its.length 0 lo)).take (HT.sIx its.length its.length hi - HT.sIx its.length 0 lo)).toArray:=by
 obtain ⟨h1,h2,h3⟩:=Zj lo hi its.toArray.size
 unfold slicePick
 rw [h1,h2,h3]
 simp only [sliceRange_one,pick_run,List.size_toArray] <;> rfl
def jig (K:PySem.W.Frag):V→Option Int→Option Int→Hp→VK→Prop:=fun x lo hi H Q=>∃ a xs,x=.ref a∧SqL K H a xs∧∀ p,H p=none→Q (.ref p) (upd H p (.lst (qZ xs lo hi)))
theorem jfc:SlR X (jig X.K):=by
 intro pins s σ H x v vl vu lo hi sl Q I rx hs pl pu h
 obtain ⟨a,xs,rfl,hx,q⟩:=h
 cases rx
 obtain ⟨its,r,ht,hz⟩:=I.list hx
 have hlen:=r.length
 refine ⟨"list",_,slot_list_getitem.lookup,ht.isList.typeIs,?_⟩
 refine wpAny_getItem_list_slice ht.isList hs pl pu .none (by simp) ?_ (by rw [List.size_toArray] <;> omega)
 rw [Ys,← hlen]
 refine ⟨.ref s.heap.objs.size,_,I.laid (t':=s.toks) (o:=.lst (qZ xs lo hi)) (fun b ob q=>Heap.get?_push_of_some _ q) (Nat.le_refl _) ?_,rfl,q _ (I.hok.fresh (Nat.le_refl _))⟩
 exact ⟨Nat.le_trans (J8 xs lo hi) hz,_,0,(r.drop (HT.sIx xs.length 0 lo)).take (HT.sIx xs.length xs.length hi - HT.sIx xs.length 0 lo),Heap.get?_push_size _ rfl⟩
theorem j9:q8 X (.builtin "len") (fun xs H Q=>∃ p ys,xs=[.ref p]∧(SqL X.K H p ys∨SqT X.K H p ys)∧Q (.int ys.length) H):=by
 intro pins s σ H xs us Q I r h
 obtain ⟨p,ys,rfl,hq,q⟩:=h
 obtain ⟨u,rfl,rx⟩:=yf r
 cases rx
 have hn:=K1
 rcases hq with hq | hq
 ·obtain ⟨its,r',pl,hz⟩:=I.list hq
  have hlen:=r'.length
  exact Calls.call_len_list pl.isList (by simp only [List.size_toArray] <;> omega) ⟨.int ys.length,H,I.tok _,⟨s.toks+1,by rw [List.size_toArray,hlen]⟩,q⟩
 ·obtain ⟨its,r',pl,hz⟩:=I.tuple hq
  have hlen:=r'.length
  exact len_tuple pl (by simp only [List.size_toArray] <;> omega) ⟨.int ys.length,H,I.tok _,⟨s.toks+1,by rw [List.size_toArray,hlen]⟩,q⟩
theorem Jv:q8 X (.type "list") (fun xs H Q=>∃ p ys,xs=[.ref p]∧(SqL X.K H p ys∨SqT X.K H p ys)∧∀ l,H l=none→Q (.ref l) (upd H l (.lst ys))):=by
 intro pins s σ H xs us Q I r h
 obtain ⟨p,ys,rfl,hq,q⟩:=h
 obtain ⟨u,rfl,rx⟩:=yf r
 cases rx
 have fin:∀ (its:List Value),Vals ys its→ys.length≤sizeLine→∀ (h':Heap) (c':Nat),(∀ b o',s.heap.get? b=some o'→h'.get? b=some o')→
   h'.get? s.heap.objs.size=some { cls:=.type "list",dict:=none,data:=.seq its.toArray c',slots:=#[] }→EP X pins σ Q (.ref s.heap.objs.size) { s with heap:=h' }:=fun its r' hz h' c' kp e=>
  ⟨.ref s.heap.objs.size,_,I.laid (t':=s.toks) kp (Nat.le_refl _) (show ObjOk X.prog X.w _ h' _ (.lst ys) from ⟨hz,its,c',r',e⟩),rfl,q _ (I.hok.fresh (Nat.le_refl _))⟩
 rcases hq with hq | hq
 ·obtain ⟨its,r',pl,hz⟩:=I.list hq
  have hlen:=r'.length
  obtain ⟨o,ho,hc,n,hd⟩:=pl.isList
  exact call_list_seq p (.inl rfl) ho hc hd (fun h' c' kp e=>fin its r' hz h' c' kp e) (by simp only [List.size_toArray] <;> omega)
 ·obtain ⟨its,r',pl,hz⟩:=I.tuple hq
  have hlen:=r'.length
  obtain ⟨o,ho,hc,n,hd⟩:=pl
  exact call_list_seq p (.inr rfl) ho hc hd (fun h' c' kp e=>fin its r' hz h' c' kp e) (by simp only [List.size_toArray] <;> omega)
theorem kC:q8 X (.type "tuple") (fun xs H Q=>∃ p ys,xs=[.ref p]∧((SqL X.K H p ys∧∀ l,H l=none→Q (.ref l) (upd H l (.tup ys)))∨(SqT X.K H p ys∧Q (.ref p) H))):=by
 intro pins s σ H xs us Q I r h
 obtain ⟨p,ys,rfl,h⟩:=h
 obtain ⟨u,rfl,rx⟩:=yf r
 cases rx
 rcases h with ⟨hq,q⟩ | ⟨hq,q⟩
 ·obtain ⟨its,r',pl,hz⟩:=I.list hq
  have hlen:=r'.length
  refine call_tuple_list pl.isList (fun h' kp=>?_) (by simp only [List.size_toArray] <;> omega)
  have I1:Inv X pins σ H { s with heap:=h' }:=I.kept (t':=s.toks) kp
  have I2:Inv X pins σ (upd H h'.objs.size (.tup ys)) { s with heap:=h'.push { cls:=.type "tuple",data:=.seq its.toArray } }:=
   I1.laid (t':=s.toks) (fun b o e=>Heap.get?_push_of_some _ e) (Nat.le_refl _) (show ObjOk X.prog X.w _ _ _ (.tup ys) from ⟨hz,its,r',IsTup.new _ _⟩)
  exact ⟨.ref h'.objs.size,_,I2,rfl,q _ (I1.hok.fresh (Nat.le_refl _))⟩
 ·obtain ⟨its,r',pl,hz⟩:=I.tuple hq
  exact call_tuple_same pl ⟨.ref p,H,I,rfl,q⟩
def tyV (K:PySem.W.Frag) (T:String) (x:V) (H:Hp):Prop:=match x with
 | .str _=>T = "str"
 | .int _=>T = "int"
 | .ref p=>(T = "list"∧∃ xs,SqL K H p xs)∨(T = "tuple"∧∃ o,K.lookup p=some o∧o.cls=.type "tuple"∧o.dict=none)∨
   (T = "dict"∧((∃ kvs,H p=some (.dK kvs))∨∃ kvs,H p=some (.dT kvs)))∨(T = "set"∧∃ S n,H p=some (.set S n))
 | _=>False
theorem jdD {pins:List (Addr×Obj)} {σ:St} {H:Hp} {s:Shared} {T:String} {x:V} {v:Value} (I:Inv X pins σ H s) (r:RelV x v) (ty:tyV X.K T x H) :
  s.TypeIs v T∧∀ a,v=.ref a→∃ ob,s.heap.get? a=some ob∧ob.dict=none:=by
 cases x with
 | str z=>
  obtain ⟨t,rfl⟩:=r
  cases (show T = "str" from ty)
  exact ⟨typeIs_str s z t,fun _ e=>nomatch e⟩
 | int i=>
  obtain ⟨t,rfl⟩:=r
  cases (show T = "int" from ty)
  exact ⟨typeIs_int s i t,fun _ e=>nomatch e⟩
 | ref p=>
  cases r
  rcases ty with ⟨rfl,xs,hq⟩ | ⟨rfl,o,hk,hc,hd⟩ | ⟨rfl,hk⟩ | ⟨rfl,S,n,hk⟩
  ·obtain ⟨its,_,pl,_⟩:=I.list hq
   refine ⟨pl.isList.typeIs,fun a e=>?_⟩
   cases e
   obtain ⟨o,n,e,c,hd,_⟩:=pl
   exact ⟨o,e,hd⟩
  ·refine ⟨⟨o,I.kIn p o hk,hc⟩,fun a e=>?_⟩
   cases e
   exact ⟨o,I.kIn _ o hk,hd⟩
  ·have z:∃ o,s.heap.get? p=some o∧o.ExactDict:=by
    rcases hk with ⟨kvs,hk⟩ | ⟨kvs,hk⟩
    ·obtain ⟨_,_,_,_,o,_,_,e,ex,_⟩:=I.hok p _ hk
     exact ⟨o,e,ex⟩
    ·obtain ⟨_,_,_,_,o,_,_,e,ex,_⟩:=I.hok p _ hk
     exact ⟨o,e,ex⟩
   obtain ⟨o,e,ex⟩:=z
   refine ⟨⟨o,e,ex.1⟩,fun a e2=>?_⟩
   cases e2
   exact ⟨o,e,ex.2.1⟩
  ·obtain ⟨o,_,_,_,e,ex,_⟩:=I.hok p _ hk
   refine ⟨⟨o,e,ex.1⟩,fun a e2=>?_⟩
   cases e2
   exact ⟨o,e,ex.2.1⟩
 | _=>exact False.elim ty
def jhC (K:PySem.W.Frag) (T:String) (r:V→List V→Hp→VK→Prop) (to:TE):TE:=fun σ H Q=>to σ H fun x H1=>tyV K T x H1∧r x [] H1 Q
def tBM (K:PySem.W.Frag) (T:String) (r:V→List V→Hp→VK→Prop) (to:TE) (t:TA):TE:=fun σ H Q=>to σ H fun x H1=>tyV K T x H1∧t σ H1 fun xs H2=>r x xs H2 Q
variable {o e:Expr} {es:List Expr} {to:TE} {t:TA} {name:Str} {apos cpos:Pos} {T id:String} {r:V→List V→Hp→VK→Prop}
theorem jgT (pa:PlainAttrs T) (slot:Slot T name id) (hty:typeOf (.builtin id)=pure (.type "method_descriptor")) (hm:MtR X id r) (ho:PE X o to)
  (hbase:attributeBase o name X.env (eval o X.env)=eval o X.env:=by rfl) (hline:(apos.endLine == cpos.line)=true:=by rfl):PE X (.Call (.Attribute o name apos) [] [] cpos) (jhC X.K T r to):=by
 intro pins s σ H Q I h
 refine wpAny_Call_method0_late hbase hline (thn (ho pins s σ H _ I h) fun v s1 ⟨x,H1,I1,r1,ty,q1⟩=>?_)
 obtain ⟨h1,h2⟩:=jdD I1 r1 ty
 exact ⟨T,id,pa,slot,hty,h1,h2,Calls.callWith_builtin rfl (PySem.evalArgs_none (hm pins s1 σ H1 x [] v [] Q I1 r1 .nil q1))⟩
theorem yN (pa:PlainAttrs T) (slot:Slot T name id) (hty:typeOf (.builtin id)=pure (.type "method_descriptor")) (hm:MtR X id r) (ho:PE X o to) (ha:PA X (e :: es) t)
  (hbase:attributeBase o name X.env (eval o X.env)=eval o X.env:=by rfl)
  (hfew:((backTo cpos (starEach (e :: es) X.env)).all (fun x=>!x.1) && (backToKw cpos (keywordEach [] X.env)).all (fun x=>x.1.isSome)
   && decide ((e :: es).length+([]:List Keyword).length+(if ([]:List Keyword).isEmpty then 0 else 1) < 30))=true:=by rfl)
  (hline:(apos.endLine == cpos.line)=true:=by rfl) (hs:starEach (e :: es) X.env=(false,eval e X.env) :: starEach es X.env:=by rfl) (hplain:(backTo cpos (starEach es X.env)).any (·.1)=false:=by rfl) :
  PE X (.Call (.Attribute o name apos) (e :: es) [] cpos) (tBM X.K T r to t):=by
 intro pins s σ H Q I h
 refine wpAny_Call_method_late hbase hfew hline rfl (thn (ho pins s σ H _ I h) fun v s1 ⟨x,H1,I1,r1,ty,q1⟩=>?_)
 obtain ⟨h1,h2⟩:=jdD I1 r1 ty
 refine ⟨T,id,pa,slot,hty,h1,h2,?_⟩
 have hA:=ha cpos pins s1 σ H1 _ I1 q1
 rw [hs] at hA ⊢
 refine Calls.callWith_builtin (by show (false || (backTo cpos (starEach es X.env)).any (·.1))=false;rw [hplain] <;> rfl) (Calls.evalArgs_plain ?_)
 exact thn hA fun us s2 ⟨vs,H2,I2,r2,q2⟩=>hm pins s2 σ H2 x vs v us Q I2 r1 r2 q2
end
def MtM (X:Cx) (id:String) (r:V→List V→Hp→VK→Prop):Prop:=
 ∀ (pins:List (Addr×Obj)) (s:Shared) (σ:St) (H:Hp) (x:V) (xs:List V) (v:Value) (us:List Value) (Q:VK),Inv X pins σ H s→RelV x v→Vals xs us→r x xs H Q→
  wpAny (model X.prog X.w) X.A (call (.builtin id) (v :: us)) (EP X pins σ Q) X.xe s
theorem Vals.one:∀ {x:V} {us:List Value},Vals [x] us→∃ u,us=[u]∧RelV x u
 | _,_,.cons r .nil=>⟨_,rfl,r⟩
theorem Vals.zero:∀ {us:List Value},Vals [] us→us=[]
 | _,.nil=>rfl
theorem Vals.dropLast {xs:List V} {us:List Value} (h:Vals xs us):Vals xs.dropLast us.dropLast:=by
 induction h with
 | nil=>exact .nil
 | cons r t ih=>
  cases t with
  | nil=>exact .nil
  | cons q t'=>exact .cons r ih
theorem Vals.eraseIdx:∀ {xs:List V} {us:List Value} (i:Nat),Vals xs us→Vals (xs.eraseIdx i) (us.eraseIdx i)
 | _,_,_,.nil=>.nil
 | _,_,0,.cons _ t=>t
 | _,_,i+1,.cons r t=>.cons r (Vals.eraseIdx i t)
theorem Vals.reverse {xs:List V} {us:List Value} (h:Vals xs us):Vals xs.reverse us.reverse:=by
 induction h with
 | nil=>exact .nil
 | cons r t ih=>rw [List.reverse_cons,List.reverse_cons];exact Vals.append ih (.cons r .nil)
theorem Vals.rep {xs:List V} {us:List Value} (h:Vals xs us):∀ k:Nat,Vals (List.replicate k xs).flatten (List.replicate k us).flatten
 | 0=>.nil
 | k+1=>by
  rw [List.replicate_succ,List.replicate_succ,List.flatten_cons,List.flatten_cons]
  exact Vals.append h (Vals.rep h k)
theorem jbB {α:Type} (l:List α):l.eraseIdx (l.length - 1)=l.dropLast:=by
 induction l with
 | nil=>rfl
 | cons a r ih=>
  cases r with
  | nil=>rfl
  | cons b r=>
   have e:(a :: b :: r).length - 1=((b :: r).length - 1)+1:=by
    have h1:(a :: b :: r).length=r.length+2:=rfl
    have h2:(b :: r).length=r.length+1:=rfl
    omega
   rw [e,List.eraseIdx_cons_succ,ih]
   all_goals rfl
theorem YZ (its:List Value):∀ (k:Nat) (acc:List Value),
  List.foldl (fun x1 x2=>x1++x2) acc.toArray (List.replicate k its.toArray)=(acc++(List.replicate k its).flatten).toArray
 | 0,acc=>by simp
 | k+1,acc=>by
  have e:acc.toArray++its.toArray=(acc++its).toArray:=by simp
  have e2:(acc++its)++(List.replicate k its).flatten=acc++(List.replicate (k+1) its).flatten:=by
   rw [List.replicate_succ,List.flatten_cons,List.append_assoc]
  rw [← e2,← YZ its k (acc++its),← e,List.replicate_succ,List.foldl_cons]
section
variable {X:Cx} {pins:List (Addr×Obj)} {σ:St} {H:Hp} {s:Shared} {l b:Addr} {xs ys zs:List V}
theorem Inv.lset {its its':List Value} {n:Nat} {f:Array Value→Array Value} {t':Nat} (I:Inv X pins σ H s) (hH:H l=some (.lst xs))
  (e:s.heap.get? l=some { cls:=.type "list",data:=.seq its.toArray n }) (hf:f its.toArray=its'.toArray) (hv:Vals ys its') (hz:ys.length≤sizeLine) :
  Inv X pins σ (upd H l (.lst ys)) { s with heap:=s.heap.update l (Obj.mapSeq f),toks:=t' }:=by
 have q:=PySem.IsL.update e f
 rw [hf] at q
 refine I.write (x:=l) (e:=l) (by rw [hH];exact trivial) (.inl rfl) (fun b' u hb hu=>(Heap.get?_update_other s.heap (Obj.mapSeq f) (Ne.symm hb)).trans hu) ⟨_,q⟩ ?_
 exact ⟨hz,its',_,hv,q⟩
theorem Inv.lnew {its:List Value} {t':Nat} (I:Inv X pins σ H s) (hv:Vals ys its) (hz:ys.length≤sizeLine) :
  Inv X pins σ (upd H s.heap.objs.size (.lst ys)) { s with heap:=s.heap.push { cls:=.type "list",data:=.seq its.toArray },toks:=t' }:=
 I.laid (fun _ _ q=>Heap.get?_push_of_some _ q) (Nat.le_refl _) ⟨hz,its,0,hv,Heap.get?_push_size _ rfl⟩
theorem Inv.fresh (I:Inv X pins σ H s):H s.heap.objs.size=none:=I.hok.fresh (Nat.le_refl _)
theorem Inv.lstM (I:Inv X pins σ H s) (hH:H l=some (.lst xs)):xs.length≤sizeLine∧∃ (its:List Value) (n:Nat),Vals xs its∧xs.length=its.length∧s.heap.get? l=some { cls:=.type "list",data:=.seq its.toArray n }:=by
 obtain ⟨z,its,n,r,e⟩:=I.hok l _ hH
 exact ⟨z,its,n,r,r.length,e⟩
theorem jav {n:Nat} (h:n≤sizeLine):Builtin.List.listTooLong n=false:=by
 unfold Builtin.List.listTooLong
 exact decide_eq_false (by omega)
end
section
variable {X:Cx}
def jfo:V→List V→Hp→VK→Prop:=fun x vs H Q=>∃ l xs y,x=.ref l∧vs=[y]∧H l=some (.lst xs)∧xs.length < sizeLine∧Q .non (upd H l (.lst (xs++[y])))
theorem kF:MtM X "list.append" jfo:=by
 intro pins s σ H x vs v us Q I rx rv h
 obtain ⟨l,xs,y,rfl,rfl,hH,hz,q⟩:=h
 cases rx
 obtain ⟨u,rfl,ru⟩:=rv.one
 obtain ⟨z,its,n,r,hl,e⟩:=I.lstM hH
 refine call_meets F.slot_list_append ⟨_,e,rfl⟩ F.entry_list_append (F.args_list_append_2 _ _) (PySem.list_append l its.toArray n u (by rw [List.size_toArray];omega)) ⟨e,?_⟩
 refine ⟨.non,_,I.lset (its':=its++[u]) hH e (by simp) (r.append (.cons ru .nil)) ?_,rfl,q⟩
 rw [List.length_append,List.length_singleton]
 omega
def jfn:V→List V→Hp→VK→Prop:=fun x vs H Q=>∃ l b xs zs,x=.ref l∧vs=[.ref b]∧H l=some (.lst xs)∧H b=some (.lst zs)∧xs.length+zs.length≤sizeLine∧Q .non (upd H l (.lst (xs++zs)))
theorem jc1:MtM X "list.extend" jfn:=by
 intro pins s σ H x vs v us Q I rx rv h
 obtain ⟨l,b,xs,zs,rfl,rfl,hH,hB,hz,q⟩:=h
 cases rx
 obtain ⟨u,rfl,ru⟩:=rv.one
 cases ru
 obtain ⟨z,its,n,r,hl,e⟩:=I.lstM hH
 obtain ⟨z2,its2,n2,r2,hl2,e2⟩:=I.lstM hB
 have hsz:its.toArray.size+its2.toArray.size≤sizeLine:=by rw [List.size_toArray,List.size_toArray];omega
 have hlong:¬ (!its.toArray.isEmpty && Builtin.List.listTooLong (its.toArray.size+its2.toArray.size))=true:=by
  rw [jav hsz,Bool.and_false]
  exact Bool.false_ne_true
 refine call_meets F.slot_list_extend ⟨_,e,rfl⟩ F.entry_list_extend (F.args_list_extend_2 _ _)
  (AutoSeq1.list_extend_list_list_0 l its.toArray n b its2.toArray n2 hlong (by rw [List.size_toArray];omega) (by omega)) ⟨e,e2,?_⟩
 refine ⟨.non,_,I.lset (its':=its++its2) hH e (by simp) (r.append r2) ?_,rfl,q⟩
 rw [List.length_append]
 omega
def jii:V→List V→Hp→VK→Prop:=fun x vs H Q=>∃ l xs y,x=.ref l∧vs=[]∧H l=some (.lst xs)∧xs[xs.length - 1]?=some y∧Q y (upd H l (.lst xs.dropLast))
theorem jg5:MtM X "list.pop" jii:=by
 intro pins s σ H x vs v us Q I rx rv h
 obtain ⟨l,xs,y,rfl,rfl,hH,hy,q⟩:=h
 cases rx
 have hus:=rv.zero
 subst hus
 obtain ⟨z,its,n,r,hl,e⟩:=I.lstM hH
 obtain ⟨u,hu,ru⟩:=r.get hy
 have hy':its.toArray[its.toArray.size - 1]?=some u:=by
  show its.toArray[its.length - 1]?=some u
  rw [← Array.getElem?_toList,← hl]
  exact hu
 refine call_meets F.slot_list_pop ⟨_,e,rfl⟩ F.entry_list_pop (F.args_list_pop_1 _) (MeetsSeq.list_pop_last l its.toArray n u hy' (by rw [List.size_toArray];omega)) ⟨e,?_⟩
 refine ⟨y,_,I.lset (its':=its.dropLast) hH e ?_ r.dropLast ?_,ru,q⟩
 ·show its.toArray.eraseIdxIfInBounds (its.toArray.size - 1)=its.dropLast.toArray
  rw [List.size_toArray,List.eraseIdxIfInBounds_toArray,jbB]
 ·rw [List.length_dropLast]
  omega
def jik:R2:=fun x y H Q=>∃ l b xs zs,x=.ref l∧y=.ref b∧H l=some (.lst xs)∧H b=some (.lst zs)∧xs.length+zs.length≤sizeLine∧∀ p,H p=none→Q (.ref p) (upd H p (.lst (xs++zs)))
theorem jef:OpR X (binaryOp .Add) jik:=by
 intro pins s σ H x y v u Q I rx ry h
 obtain ⟨l,b,xs,zs,rfl,rfl,hH,hB,hz,q⟩:=h
 cases rx
 cases ry
 obtain ⟨z,its,n,r,hl,e⟩:=I.lstM hH
 obtain ⟨z2,its2,n2,r2,hl2,e2⟩:=I.lstM hB
 refine PySem.P.add_list e e2 ?_ (by rw [List.size_toArray,List.size_toArray];omega)
 have ea:its.toArray++its2.toArray=(its++its2).toArray:=by simp
 rw [ea]
 exact ⟨.ref _,_,I.lnew (t':=s.toks) (r.append r2) (by rw [List.length_append];omega),rfl,q _ I.fresh⟩
def jih:R2:=fun x y H Q=>∃ l k xs,x=.ref l∧y=.int k∧H l=some (.lst xs)∧-(2 ^ 63)≤k∧k < 2 ^ 63∧xs.length * k.toNat≤sizeLine∧
 ∀ p,H p=none→Q (.ref p) (upd H p (.lst (List.replicate k.toNat xs).flatten))
theorem jfU {α:Type} (xs:List α) (k:Nat):(List.replicate k xs).flatten.length=k * xs.length:=by
 induction k with
 | zero=>simp
 | succ k ih=>rw [List.replicate_succ,List.flatten_cons,List.length_append,ih,Nat.succ_mul,Nat.add_comm]
theorem jec:OpR X (binaryOp .Mult) jih:=by
 intro pins s σ H x y v u Q I rx ry h
 obtain ⟨l,k,xs,rfl,rfl,hH,h1,h2,hz,q⟩:=h
 cases rx
 obtain ⟨t,rfl⟩:=ry
 obtain ⟨z,its,n,r,hl,e⟩:=I.lstM hH
 have hlen:its.toArray.size * k.toNat≤sizeLine:=by rw [List.size_toArray,← hl];exact hz
 have hcap:¬ its.toArray.size * k.toNat > (2 ^ 63 - 1) / 8:=by
  have:(sizeLine:Nat)≤(2 ^ 63 - 1) / 8:=by decide
  omega
 have hfit:¬ (!Builtin.List.listFitsIndex k)=true:=by
  rw [fitsIndex_both h1 h2]
  exact Bool.false_ne_true
 have hlong:¬ Builtin.List.listTooLong (its.toArray.size * k.toNat)=true:=by
  rw [jav hlen]
  exact Bool.false_ne_true
 have hnew:List.foldl (fun x1 x2=>x1++x2) #[] (List.replicate (if its.toArray.isEmpty=true then 0 else k.toNat) its.toArray)=(List.replicate k.toNat its).flatten.toArray:=by
  have f0:∀ m:Nat,List.foldl (fun x1 x2=>x1++x2) #[] (List.replicate m its.toArray)=(List.replicate m its).flatten.toArray:=fun m=>by
   have:=YZ its m []
   rw [List.nil_append] at this
   exact this
  rw [f0]
  cases its with
  | nil=>simp
  | cons a r'=>rw [if_neg (by simp)]
 refine wpAny_binaryOp_repeat_ref (T:="list") (U:="int") (by decide) ⟨_,e,rfl⟩ (fun s'=>typeIs_int s' k t) noFill_list_mul F.fills_int_mul F.slot_int_rmul repeat_list F.slot_int_index.lookup
  (call_meets F.slot_int_rmul (typeIs_int s k t) F.entry_int_rmul (F.args_int_rmul_2 _ _) (int___rmul___int_list k t l its.toArray n)
   ⟨e,rfl,⟨_,e,rfl⟩,call_meets F.slot_list_mul ⟨_,e,rfl⟩ F.entry_list_mul (F.args_list_mul_2 _ _) (AutoListH.list___mul___list_int_3 l its.toArray n k t hfit hcap hlong) ⟨e,?_⟩⟩)
 rw [hnew]
 exact ⟨.ref _,_,I.lnew (t':=s.toks) (r.rep k.toNat) (by rw [jfU,Nat.mul_comm];exact hz),rfl,q _ I.fresh⟩
end
section
variable {κ:Type} [DecidableEq κ]
def qh (kvs:List (κ×V)) (k:κ):Option V:=(kvs.find? fun kv=>decide (kv.1=k)).map (·.2)
def qy (kvs:List (κ×V)) (k:κ) (v:V):List (κ×V):=
 if (kvs.any fun kv=>decide (kv.1=k))=true then kvs.map (fun kv=>if kv.1=k then (kv.1,v) else kv) else kvs++[(k,v)]
theorem kS {p:κ×V} {r:List (κ×V)} {k:κ} (e:p.1=k):qh (p :: r) k=some p.2:=by simp [qh,List.find?_cons,e]
theorem kT {p:κ×V} {r:List (κ×V)} {k:κ} (e:¬ p.1=k):qh (p :: r) k=qh r k:=by simp [qh,List.find?_cons,e]
theorem Jb (k:κ):∀ kvs:List (κ×V),(kvs.any fun kv=>decide (kv.1=k))=(qh kvs k).isSome
 | []=>rfl
 | p :: r=>by
  rw [List.any_cons]
  by_cases e:p.1=k
  ·simp only [kS e,decide_eq_true e,Bool.true_or,Option.isSome_some]
  ·rw [kT e,decide_eq_false e,Bool.false_or];exact Jb k r
theorem Z0 (k j:κ) (y:V):∀ kvs:List (κ×V),qh (kvs.map fun kv=>if kv.1=k then (kv.1,y) else kv) j=(qh kvs j).map fun x=>if j=k then y else x
 | []=>rfl
 | p :: r=>by
  have ih:=Z0 k j y r
  rw [List.map_cons]
  by_cases h:p.1=k
  ·rw [if_pos h]
   by_cases e:p.1=j
   ·rw [kS (p:=(p.1,y)) e,kS e,Option.map_some,if_pos (e.symm.trans h)]
   ·rw [kT (p:=(p.1,y)) e,kT e,ih]
  ·rw [if_neg h]
   by_cases e:p.1=j
   ·rw [kS (p:=p) e,kS e,Option.map_some,if_neg (fun z=>h (e.trans z))]
   ·rw [kT (p:=p) e,kT e,ih]
theorem YC (k j:κ) (y:V):∀ kvs:List (κ×V),qh kvs k=none→qh (kvs++[(k,y)]) j=if j=k then some y else qh kvs j
 | [],_=>by
  by_cases e:k=j
  ·rw [if_pos e.symm];exact kS (p:=(k,y)) e
  ·rw [if_neg (fun z=>e z.symm)];exact kT (p:=(k,y)) e
 | p :: r,hn=>by
  rw [List.cons_append]
  have hk:¬ p.1=k:=fun z=>by rw [kS z] at hn;cases hn
  rw [kT hk] at hn
  have ih:=YC k j y r hn
  by_cases e:p.1=j
  ·rw [kS e,kS e,if_neg (fun z=>hk (e.trans z))]
  ·rw [kT e,kT e,ih]
theorem ZZ (kvs:List (κ×V)) (k j:κ) (y:V):qh (qy kvs k y) j=if j=k then some y else qh kvs j:=by
 unfold qy
 by_cases a:(kvs.any fun kv=>decide (kv.1=k))=true
 ·rw [if_pos a,Z0]
  rw [Jb] at a
  by_cases e:j=k
  ·obtain ⟨x,hx⟩:=Option.isSome_iff_exists.mp a
   rw [if_pos e,e,hx,Option.map_some,if_pos rfl]
  ·rw [if_neg e]
   cases qh kvs j with
   | none=>rfl
   | some x=>rw [Option.map_some,if_neg e]
 ·rw [if_neg a]
  refine YC k j y kvs ?_
  rw [Jb] at a
  cases q:qh kvs k with
  | none=>rfl
  | some x=>rw [q] at a;exact (a rfl).elim
theorem yw (kvs:List (κ×V)) (k:κ) (v:V):(qy kvs k v).length≤kvs.length+1:=by
 unfold qy
 split
 ·rw [List.length_map];omega
 ·rw [List.length_append,List.length_cons,List.length_nil];omega
theorem RelO.isSome_eq {o:Option V} {u:Option Value} (r:RelO o u):o.isSome=u.isSome:=by
 cases o with
 | none=>cases u with
  | none=>rfl
  | some _=>exact (show False from r).elim
 | some _=>cases u with
  | none=>exact (show False from r).elim
  | some _=>rfl
theorem RelO.getD {o:Option V} {u:Option Value} {d:V} {d':Value} (r:RelO o u) (rd:RelV d d'):RelV (o.getD d) (u.getD d'):=by
 cases o with
 | none=>cases u with
  | none=>exact rd
  | some _=>exact (show False from r).elim
 | some _=>cases u with
  | none=>exact (show False from r).elim
  | some _=>exact r
theorem KV.val {kvs:List (κ×V)} {vs:List (κ×Value)} (r:KV kvs vs) (k:κ):RelO (qh kvs k) (valueAt vs k):=by
 unfold KV at r
 induction r with
 | nil=>exact True.intro
 | @cons p q ps qs h t ih=>
  obtain ⟨h1,h2⟩:=h
  by_cases e:p.1=k
  ·have e':q.1=k:=h1.symm.trans e
   have b:valueAt (q :: qs) k=some q.2:=by simp [valueAt,List.find?_cons,e']
   rw [kS e,b];exact h2
  ·have e':¬ q.1=k:=fun z=>e (h1.trans z)
   have b:valueAt (q :: qs) k=valueAt qs k:=by simp [valueAt,List.find?_cons,e']
   rw [kT e,b];exact ih
theorem KV.any {kvs:List (κ×V)} {vs:List (κ×Value)} (r:KV kvs vs) (k:κ):(kvs.any fun kv=>decide (kv.1=k))=vs.any fun kv=>decide (kv.1=k):=by
 unfold KV at r
 induction r with
 | nil=>rfl
 | cons h t ih=>rw [List.any_cons,List.any_cons,ih,h.1]
theorem KV.repl {kvs:List (κ×V)} {vs:List (κ×Value)} (r:KV kvs vs) (k:κ) {y:V} {u:Value} (ry:RelV y u) :
  KV (kvs.map fun kv=>if kv.1=k then (kv.1,y) else kv) (vs.map fun kv=>if kv.1=k then (kv.1,u) else kv):=by
 unfold KV at r ⊢
 induction r with
 | nil=>exact .nil
 | @cons p q ps qs h t ih=>
  rw [List.map_cons,List.map_cons]
  refine .cons ?_ ih
  obtain ⟨h1,h2⟩:=h
  by_cases e:p.1=k
  ·rw [if_pos e,if_pos (h1.symm.trans e)];exact ⟨h1,ry⟩
  ·rw [if_neg e,if_neg (fun z=>e (h1.trans z))];exact ⟨h1,h2⟩
theorem KV.put {kvs:List (κ×V)} {vs:List (κ×Value)} (r:KV kvs vs) (k:κ) {y:V} {u:Value} (ry:RelV y u):KV (qy kvs k y) (stored vs k u):=by
 unfold qy stored
 rw [r.any k]
 by_cases e:(vs.any fun kv=>decide (kv.1=k))=true
 ·rw [if_pos e,if_pos e];exact r.repl k ry
 ·rw [if_neg e,if_neg e];exact Paired.snoc r ⟨rfl,ry⟩
theorem KV.keys {kvs:List (κ×V)} {vs:List (κ×Value)} (r:KV kvs vs):kvs.map (·.1)=vs.map (·.1):=by
 unfold KV at r
 induction r with
 | nil=>rfl
 | cons h t ih=>rw [List.map_cons,List.map_cons,ih,h.1]
theorem KV.length {kvs:List (κ×V)} {vs:List (κ×Value)} (r:KV kvs vs):kvs.length=vs.length:=Paired.length r
end
theorem YS {P:Program} {w:World} {k:Key} {u:Value} (r:RelV (kV k) u):(ko P w).is k u=true:=by
 cases k with
 | inl i=>obtain ⟨t,e⟩:=(show ∃ t,u=Value.int i t from r);subst e;exact jaA P w i t
 | inr x=>obtain ⟨t,e⟩:=(show ∃ t,u=Value.str x t from r);subst e;exact jaz P w x t
theorem YT {P:Program} {w:World}:∀ {ks:List Key} {us:List Value},Vals (ks.map kV) us→ItemsAre (ko P w) ks us
 | [],_,r=>by rw [List.map_nil] at r;cases r;exact .nil
 | k :: ks,_,r=>by
  rw [List.map_cons] at r
  cases r with
  | cons h t=>exact .cons (YS h) (YT t)
abbrev KT (H:Hp):List (List Key×V)→List (List Key×Addr×Value)→Prop:=Paired fun p q=>p.1=q.1∧H q.2.1=some (.tup (p.1.map kV))∧RelV p.2 q.2.2
theorem KT.val {H:Hp} {kvs:List (List Key×V)} {xs:List (List Key×Addr×Value)} (r:KT H kvs xs) (k:List Key):RelO (qh kvs k) ((atKey xs k).map (·.2)):=by
 induction r with
 | nil=>exact True.intro
 | @cons p q ps qs h t ih=>
  obtain ⟨h1,_,h2⟩:=h
  by_cases e:p.1=k
  ·have e':q.1=k:=h1.symm.trans e
   have b:atKey (q :: qs) k=some q.2:=by simp [atKey,List.find?_cons,e']
   rw [kS e,b];exact h2
  ·have e':¬ q.1=k:=fun z=>e (h1.trans z)
   have b:atKey (q :: qs) k=atKey qs k:=by simp [atKey,List.find?_cons,e']
   rw [kT e,b];exact ih
theorem KT.repl {H:Hp} {kvs:List (List Key×V)} {xs:List (List Key×Addr×Value)} (r:KT H kvs xs) (k:List Key) {y:V} {u:Value} (ry:RelV y u) :
  KT H (kvs.map fun kv=>if kv.1=k then (kv.1,y) else kv) (xs.map (putAt k u)):=by
 induction r with
 | nil=>exact .nil
 | @cons p q ps qs h t ih=>
  rw [List.map_cons,List.map_cons]
  refine .cons ?_ ih
  obtain ⟨h1,h2,h3⟩:=h
  unfold putAt
  by_cases e:p.1=k
  ·rw [if_pos e,if_pos (h1.symm.trans e)];exact ⟨h1,h2,ry⟩
  ·rw [if_neg e,if_neg (fun z=>e (h1.trans z))];exact ⟨h1,h2,h3⟩
theorem KT.put {H:Hp} {kvs:List (List Key×V)} {xs:List (List Key×Addr×Value)} (r:KT H kvs xs) (k:List Key) {b:Addr} {y:V} {u:Value} (hb:H b=some (.tup (k.map kV))) (ry:RelV y u) :
  KT H (qy kvs k y) (storedH xs k b u):=by
 have e:(kvs.any fun kv=>decide (kv.1=k))=(atKey xs k).isSome:=by
  rw [Jb,(r.val k).isSome_eq,Option.isSome_map]
 unfold qy storedH
 rw [e]
 by_cases q:(atKey xs k).isSome=true
 ·rw [if_pos q,if_pos q];exact r.repl k ry
 ·rw [if_neg q,if_neg q];exact Paired.snoc r ⟨rfl,hb,ry⟩
theorem KT.keeps {H H':Hp} {kvs:List (List Key×V)} {xs:List (List Key×Addr×Value)} (r:KT H kvs xs) (ht:∀ b ys,H b=some (.tup ys)→H' b=some (.tup ys)):KT H' kvs xs:=
 Paired.mapP r fun _ _ z=>⟨z.1,ht _ _ z.2.1,z.2.2⟩
section
variable {P:Program} {w:World} {H:Hp} {h:Heap} {a:Addr}
theorem jgn {u:HO} (ok:HOk P w H h) (e:Rd H a u):ObjOk P w H h a u:=e.ok ok
theorem jaR {kvs:List (Key×V)} (ok:HOk P w H h) (e:Rd H a (.dK kvs)):kvs.length≤sizeLine∧(a == sysModules)=false∧∃ vs,KV kvs vs∧h.DictOf (ko P w) a vs:=
 show ObjOk P w H h a (.dK kvs) from jgn ok e
theorem jck {kvs:List (Key×V)} (ok:HOk P w H h) (e:H a=some (.dK kvs)):kvs.length≤sizeLine∧(a == sysModules)=false∧∃ vs,KV kvs vs∧h.DictOf (ko P w) a vs:=jaR ok (.inl e)
theorem ZF {ks:List Key} (ok:HOk P w H h) (e:H a=some (.tup (ks.map kV))):(tupleKind (ko P w)).is h ks a:=by
 obtain ⟨_,its,r,o,h1,h2,n,h3⟩:=(show ObjOk P w H h a (.tup (ks.map kV)) from ok a _ e)
 exact ⟨o,its.toArray,n,h1,h2,h3,by simpa using YT r⟩
theorem jaP {kvs:List (List Key×V)} (ok:HOk P w H h) (e:Rd H a (.dT kvs)):kvs.length≤sizeLine∧(a == sysModules)=false∧
  ∃ xs,KT H kvs xs∧h.DictOfH (tupleKind (ko P w)) a xs:=by
 obtain ⟨z,y,xs,r,o,es,ep,h1,h2,h3,h4,h5⟩:=(show ObjOk P w H h a (.dT kvs) from jgn ok e)
 refine ⟨z,y,xs,r,o,es,ep,h1,h2,h3,h4,fun x hx=>?_,h5⟩
 have all:∀ {l:List (List Key×V)} {m:List (List Key×Addr×Value)},KT H l m→∀ x∈m,(tupleKind (ko P w)).is h x.1 x.2.1:=by
  intro l m q
  induction q with
  | nil=>intro x hx;exact nomatch hx
  | @cons p q ps qs hq t ih=>
   intro x hx
   rcases List.mem_cons.mp hx with e | hx
   ·subst e
    exact ZF ok (by rw [← hq.1];exact hq.2.1)
   ·exact ih x hx
 exact all r x hx
theorem jh7 {kvs:List (List Key×V)} (ok:HOk P w H h) (e:H a=some (.dT kvs)):kvs.length≤sizeLine∧(a == sysModules)=false∧
  ∃ xs,KT H kvs xs∧h.DictOfH (tupleKind (ko P w)) a xs:=jaP ok (.inl e)
end
def DGet (H:Hp) (a:Addr) (y:V) (r:Option V):Prop:=
 (∃ kvs k,Rd H a (.dK kvs)∧y=kV k∧r=qh kvs k)∨∃ kvs k b,Rd H a (.dT kvs)∧y=.ref b∧H b=some (.tup (k.map kV))∧r=qh kvs k
def DPut (H:Hp) (a:Addr) (y v:V) (H':Hp):Prop:=
 (∃ kvs k,H a=some (.dK kvs)∧y=kV k∧kvs.length < sizeLine∧H'=upd H a (.dK (qy kvs k v)))∨
 ∃ kvs k b,H a=some (.dT kvs)∧y=.ref b∧H b=some (.tup (k.map kV))∧kvs.length < sizeLine∧H'=upd H a (.dT (qy kvs k v))
theorem DGet.k {H:Hp} {a:Addr} {kvs:List (Key×V)} {k:Key} (e:H a=some (.dK kvs)):DGet H a (kV k) (qh kvs k):=.inl ⟨kvs,k,.inl e,rfl,rfl⟩
theorem DGet.t {H:Hp} {a b:Addr} {kvs:List (List Key×V)} {k:List Key} (e:H a=some (.dT kvs)) (eb:H b=some (.tup (k.map kV))):DGet H a (.ref b) (qh kvs k):=.inr ⟨kvs,k,b,.inl e,rfl,eb,rfl⟩
theorem DPut.k {H:Hp} {a:Addr} {kvs:List (Key×V)} {k:Key} {v:V} (e:H a=some (.dK kvs)) (hl:kvs.length < sizeLine):DPut H a (kV k) v (upd H a (.dK (qy kvs k v))):=.inl ⟨kvs,k,e,rfl,hl,rfl⟩
theorem DPut.t {H:Hp} {a b:Addr} {kvs:List (List Key×V)} {k:List Key} {v:V} (e:H a=some (.dT kvs)) (eb:H b=some (.tup (k.map kV))) (hl:kvs.length < sizeLine) :
  DPut H a (.ref b) v (upd H a (.dT (qy kvs k v))):=.inr ⟨kvs,k,b,e,rfl,eb,hl,rfl⟩
section
variable {X:Cx} {pins:List (Addr×Obj)} {σ:St} {H:Hp} {s:Shared} {a:Addr} {y v:V} {u r:Value} {o:Option V} {A:Around} {E:Value→Shared→Prop}
theorem Inv.big (I:Inv X pins σ H s):sysModules < s.heap.objs.size:=by
 have h:mainGlobals < s.heap.objs.size:=(I.mod.glob.keeps I.bk).lt
 exact Nat.lt_trans (by decide) h
theorem jdm {Q:Value→Shared→Prop} (hu:A.units+1 < cLine) (I:Inv X pins σ H s) (g:DGet H a y (some v)) (ry:RelV y u) (h:∀ w' s',Inv X pins σ H s'→RelV v w'→Q w' s') :
  wpAny (model X.prog X.w) A (getItem (.ref a) u) Q E s:=by
 rcases g with ⟨kvs,k,e,ey,l⟩ | ⟨kvs,k,b,e,ey,eb,l⟩
 ·subst ey
  obtain ⟨z,hd,vs,rel,dd⟩:=jaR I.hok e
  obtain ⟨w',hw,rw'⟩:=RelO.some_of (v:=v) (o:=valueAt vs k) (by rw [l];exact rel.val k)
  exact wpAny_getItem_of (YS ry) dd.mapOf hw (h w' _ (I.tok _) rw')
 ·subst ey
  cases (show u=Value.ref b from ry)
  obtain ⟨z,hd,xs,rel,dd⟩:=jaP I.hok e
  obtain ⟨w',hw,rw'⟩:=RelO.some_of (v:=v) (o:=(atKey xs k).map (·.2)) (by rw [l];exact rel.val k)
  obtain ⟨p,hp,hp2⟩:=Option.map_eq_some_iff.mp hw
  refine wpAny_getItem_heap (tupleKind_room_in1 hu) (ZF I.hok eb) dd hp ?_
  rw [hp2]
  exact h w' _ (I.tok _) rw'
theorem Kw {h':Heap} {t':Nat} {ob:HO} (I:Inv X pins σ H s) (mu:Mut (H a)) (hs:Heap.SameBut a s.heap h') (he:∃ q,h'.get? a=some q) (new:ObjOk X.prog X.w (upd H a ob) h' a ob) :
  Inv X pins σ (upd H a ob) { s with heap:=h',toks:=t' }:=
 I.write (x:=a) (e:=a) mu (.inl rfl) (fun b q hb z=>(hs.2 b hb).trans z) he new
theorem ZO {P:Program} {w:World} {H':Hp} {h':Heap} {kvs:List (Key×V)} {vs:List (Key×Value)} (z:kvs.length≤sizeLine) (hd:(a == sysModules)=false) (rel:KV kvs vs) (dd:h'.DictOf (ko P w) a vs) :
  ObjOk P w H' h' a (.dK kvs):=⟨z,hd,vs,rel,dd⟩
theorem jdl {H':Hp} {Q:Unit→Shared→Prop} (hu:A.units+1 < cLine) (I:Inv X pins σ H s) (g:DPut H a y v H') (ry:RelV y u) (rv:RelV v r) (h:∀ s',Inv X pins σ H' s'→Q () s') :
  wpAny (model X.prog X.w) A (setItem (.ref a) u r) Q E s:=by
 rcases g with ⟨kvs,k,e,ey,l,eH⟩ | ⟨kvs,k,b,e,ey,eb,l,eH⟩
 ·subst ey eH
  obtain ⟨z,hd,vs,rel,dd⟩:=jck I.hok e
  have hz:vs.length≤sizeLine:=by rw [← rel.length];exact z
  have hl:(qy kvs k v).length≤sizeLine:=by have:=yw kvs k v;omega
  refine wpAny_setItem_pairs (hsz:=hz) (YS ry) dd fun h' dd' hs=>h _ ?_
  have he:∃ q,h'.get? a=some q:=let ⟨q,_,_,hq,_⟩:=dd';⟨q,hq⟩
  exact Kw I (by rw [e];exact True.intro) hs he (ZO hl hd (rel.put k rv) dd')
 ·subst ey eH
  cases (show u=Value.ref b from ry)
  obtain ⟨z,hd,xs,rel,dd⟩:=jh7 I.hok e
  have hz:xs.length≤sizeLine:=by rw [← Paired.length rel];exact z
  have hl:(qy kvs k v).length≤sizeLine:=by have:=yw kvs k v;omega
  refine wpAny_setItem_heap (hsz:=hz) (tupleKind_room_in1 hu) (ZF I.hok eb) dd fun h' dd' hs=>h _ ?_
  obtain ⟨q,es,ep,hq,h2,h3,h4,_,h5⟩:=dd'
  refine Kw I (by rw [e];exact True.intro) hs ⟨q,hq⟩ ⟨hl,hd,_,(rel.put k eb rv).keeps fun c ys ec=>?_,q,es,ep,hq,h2,h3,h4,h5⟩
  rw [jg (j4 ec e (fun z=>nomatch z))]
  exact ec
end
def jhr (i:Expr):Prop:=∀ ov iv,subscripted i false ov iv=operate [ov,iv] (getItem ov iv)
theorem je9 {prog:Program} {w:World} {A:Around} {E:Value→Shared→Prop} {s:Shared} {env:Env} {value slice:Expr} {pos:Pos} {T id:String} {Q:Value→Shared→Prop}
  (hl:typeLookup (.type T) "__getitem__" = pure (some (.builtin id))) (hs:jhr slice)
  (h:wpAny (model prog w) A (eval value env) (fun o s₁=>wpAny (model prog w) A (eval slice env) (fun i s₂=>s₂.TypeIs o T∧wpAny (model prog w) A (getItem o i) Q E s₂) E s₁) E s) :
  wpAny (model prog w) A (eval (.Subscript value slice pos) env) Q E s:=by
 refine Subscript_ (wpAny_mono h (fun o s₁ h₁=>wpAny_mono h₁ (fun i s₂ h₂=>?_) fun _ _ x=>x) fun _ _ x=>x)
 obtain ⟨hT,h₂⟩:=h₂
 unfold subscriptTail
 refine wpAny_bind ?_
 rw [getitemInPython_of_ne hT.not_modules]
 refine wpAny_bind (wpAny_specialOf hT hl ?_)
 have fin:wpAny (model prog w) A (subscripted slice false o i) (fun r s₃=>wpAny (model prog w) A (letTemporaryGo value o r >>= fun _=>pure r) Q E s₃) E s₂:=by
  rw [hs o i]
  exact wpAny_operating (wpAny_mono h₂ (fun r s₃ h₃=>wpAny_bind (wpAny_letTemporaryGo (wpAny_pure h₃))) fun _ _ x=>x)
 first
  | exact wpAny_pure (wpAny_bind fin)
  | exact wpAny_bind (wpAny_pure (wpAny_bind fin))
  | exact wpAny_bind fin
theorem jaS {X:Cx} {pins:List (Addr×Obj)} {σ:St} {H:Hp} {s:Shared} {a:Addr} {y:V} {o:Option V} (I:Inv X pins σ H s) (g:DGet H a y o):s.TypeIs (.ref a) "dict":=by
 rcases g with ⟨kvs,k,e,_,_⟩ | ⟨kvs,k,b,e,_,_,_⟩
 ·obtain ⟨_,_,vs,_,dd⟩:=jaR I.hok e
  exact dd.typeIs
 ·obtain ⟨_,_,xs,_,dd⟩:=jaP I.hok e
  exact dd.typeIs
def jgi (td ty:TE):TE:=fun σ H Q=>td σ H fun x H1=>ty σ H1 fun y H2=>∃ a v,x=.ref a∧DGet H2 a y (some v)∧Q v H2
def jgm (td ty tv:TE):TS:=fun D σ H=>tv σ H fun v H1=>td σ H1 fun x H2=>ty σ H2 fun y H3=>∃ a H4,x=.ref a∧DPut H3 a y v H4∧D.nx σ H4
section
variable {X:Cx} {o i e value:Expr} {pos pos' tpos:Pos} {td ty tv:TE}
theorem jfz (hu:X.A.units+1 < cLine) (ho:PE X o td) (hi:PE X i ty) (hs:jhr i):PE X (.Subscript o i pos) (jgi td ty):=by
 intro pins s σ H Q I h
 refine je9 PySem.F.slot_dict_getitem.lookup hs (thn (ho pins s σ H _ I h) fun u s1 ⟨x,H1,I1,rx,q1⟩=>thn (hi pins s1 σ H1 _ I1 q1) fun iv s2 ⟨y,H2,I2,ry,a,v,ex,g,q2⟩=>?_)
 subst ex
 obtain rfl:u=Value.ref a:=rx
 exact ⟨jaS I2 g,jdm hu I2 g ry fun w' s3 I3 rw'=>⟨v,H2,I3,rw',q2⟩⟩
theorem jfu (hu:X.A.units+1 < cLine) (ho:PE X o td) (hi:PE X i ty) (hv:PE X value tv) (hs:swapsWith value (some (.Subscript o i pos')) pos.line X.env=pure false) :
  PS X (.Assign [.Subscript o i pos'] value pos) (jgm td ty tv):=by
 intro pins s σ H D I h
 refine wpAny_Assign_Subscript (thn (hv pins s σ H _ I h) fun r s1 ⟨v,H1,I1,rv,q1⟩=>thn (ho pins s1 σ H1 _ I1 q1) fun u s2 ⟨x,H2,I2,rx,q2⟩=>thn (hi pins s2 σ H2 _ I2 q2) fun iv s3 ⟨y,H3,I3,ry,a,H4,ex,g,q3⟩=>?_) hs
 subst ex
 obtain rfl:u=Value.ref a:=rx
 exact jdl hu I3 g ry rv fun s4 I4=>⟨σ,H4,I4,q3⟩
end
theorem jeJ {P:Program} {w:World} {H:Hp} (h:Heap) (hb:sysModules < h.objs.size):ObjOk P w H (h.push { cls:=.type "dict",data:=.dict #[] }) h.objs.size (.dK []):=
 ⟨Nat.zero_le _,beq_eq_false_iff_ne.mpr (Ne.symm (Nat.ne_of_lt hb)),[],.nil,Heap.DictOf.new h⟩
structure M2 (X:Cx) (o:Expr) (m:Str) (apos:Pos) (e f:Expr) (cpos:Pos):Prop where
 base:attributeBase o m X.env (eval o X.env)=eval o X.env
 few:((backTo cpos (starEach [e,f] X.env)).all (fun x=>!x.1) && (backToKw cpos (keywordEach [] X.env)).all (fun x=>x.1.isSome)
  && decide (([e,f]:List Expr).length+([]:List Keyword).length+(if ([]:List Keyword).isEmpty then 0 else 1) < 30))=true
 line:(apos.endLine == cpos.line)=true
 trees:backTo cpos (starEach [e,f] X.env)=[(false,eval e X.env),(false,eval f X.env)]
def IsD (H:Hp) (a:Addr):Prop:=(∃ kvs,Rd H a (.dK kvs))∨∃ kvs,Rd H a (.dT kvs)
theorem jhe {X:Cx} {pins:List (Addr×Obj)} {σ:St} {H:Hp} {s:Shared} {a:Addr} (I:Inv X pins σ H s) (d:IsD H a) :
  s.TypeIs (.ref a) "dict"∧(∀ b,Value.ref a=.ref b→∃ ob,s.heap.get? b=some ob∧ob.dict=none)∧(a == sysModules)=false:=by
 rcases d with ⟨kvs,e⟩ | ⟨kvs,e⟩
 ·obtain ⟨_,hd,vs,_,dd⟩:=jaR I.hok e
  refine ⟨dd.typeIs,fun b q=>?_,hd⟩
  cases q
  obtain ⟨ob,_,_,h1,h2,_⟩:=dd
  exact ⟨ob,h1,h2.2.1⟩
 ·obtain ⟨_,hd,xs,_,dd⟩:=jaP I.hok e
  refine ⟨dd.typeIs,fun b q=>?_,hd⟩
  cases q
  obtain ⟨ob,_,_,h1,h2,_⟩:=dd
  exact ⟨ob,h1,h2.2.1⟩
section
variable {X:Cx} {pins:List (Addr×Obj)} {σ:St} {H:Hp} {s:Shared} {a:Addr} {y d:V} {u r:Value} {o:Option V} {A:Around} {E:Value→Shared→Prop}
theorem jhi {Q:Value→Shared→Prop} (hu:A.units+1 < cLine) (I:Inv X pins σ H s) (g:DGet H a y o) (ry:RelV y u) (rd:RelV d r) (h:∀ w' s',Inv X pins σ H s'→RelV (o.getD d) w'→Q w' s') :
  wpAny (model X.prog X.w) A (call (.builtin "dict.get") [.ref a,u,r]) Q E s:=by
 rcases g with ⟨kvs,k,e,ey,l⟩ | ⟨kvs,k,b,e,ey,eb,l⟩
 ·subst ey
  obtain ⟨z,hd,vs,rel,dd⟩:=jaR I.hok e
  refine call_meetsIn PySem.F.slot_dict_get dd.typeIs PySem.F.entry_dict_get (PySem.F.args_dict_get_3 _ _ _) (meets_dict_get_default (ko X.prog X.w) a (YS ry) hd r) ⟨_,dd.mapOf,h _ _ (I.tok _) ?_⟩
  rw [l]
  exact (rel.val k).getD rd
 ·subst ey
  cases (show u=Value.ref b from ry)
  obtain ⟨z,hd,xs,rel,dd⟩:=jaP I.hok e
  refine call_meetsIn PySem.F.slot_dict_get dd.typeIs PySem.F.entry_dict_get (PySem.F.args_dict_get_3 _ _ _) (meetsH_dict_get_default (tupleKind (ko X.prog X.w)) a b hd r) ⟨tupleKind_room_in1 hu,k,xs,ZF I.hok eb,dd,h _ _ (I.tok _) ?_⟩
  rw [l]
  exact (rel.val k).getD rd
end
def jgA (td ty tx:TE):TE:=fun σ H Q=>td σ H fun x H1=>∃ a,x=.ref a∧IsD H1 a∧ty σ H1 fun y H2=>tx σ H2 fun z H3=>∃ o,DGet H3 a y o∧Q (o.getD z) H3
section
variable {X:Cx} {o e f:Expr} {apos cpos:Pos} {td ty tx:TE}
theorem jaq (hu:X.A.units+1 < cLine) (ho:PE X o td) (he:PE X e ty) (hf:PE X f tx) (m:M2 X o "get" apos e f cpos):PE X (.Call (.Attribute o "get" apos) [e,f] [] cpos) (jgA td ty tx):=by
 intro pins s σ H Q I h
 refine wpAny_Call_method m.base m.few m.line PySem.F.plainAttrs_dict PySem.F.slot_dict_get PySem.F.type_dict_get (thn (ho pins s σ H _ I h) fun u s1 ⟨x,H1,I1,rx,a,ex,d,q1⟩=>?_)
 subst ex
 obtain rfl:u=Value.ref a:=rx
 obtain ⟨t1,t2,_⟩:=jhe I1 d
 refine ⟨t1,t2,?_⟩
 rw [m.trees]
 refine Calls.callWith_builtin rfl (Calls.evalArgs_plain (Calls.spliced_cons (thn (he pins s1 σ H1 _ I1 q1) fun iv s2 ⟨y,H2,I2,ry,q2⟩=>
  Calls.spliced_cons (thn (hf pins s2 σ H2 _ I2 q2) fun fv s3 ⟨z,H3,I3,rz,ov,g,q3⟩=>Calls.spliced_nil ?_))))
 exact jhi hu I3 g ry rz fun w' s4 I4 rw'=>⟨_,H3,I4,rw',q3⟩
end
end L2
namespace Att
open PySem PySem.W PySem.Calls PyProof.Rows
theorem Kd {P:Params} {h:Heap}:∀ (ns:List Int) (vs:List Value),WellAll P h vs (ns.map WData.int)→IntsAre vs ns:=by
 intro ns
 induction ns with
 | nil=>
  intro vs w
  rw [List.map_nil] at w
  cases w
  exact .nil
 | cons n ns ih=>
  intro vs w
  rw [List.map_cons] at w
  cases w with
  | cons a b=>
   cases a
   exact .cons _ _ (ih _ b)
theorem jcH {l:OpenLaw} {n:Nat} (hn:l.most=some n) {P:Params} {h:Heap} {args:List WData} {vals:List Value}
  (hpre:l.row.toRowW.claim.pre args=true) (hwl:WellAll P h vals args) :
  ∃ a vs ns,vals=[Value.ref a]∧args=[WData.list (ns.map WData.int)]∧h.get? a=some { cls:=.type "list",data:=.seq vs.toArray }∧IntsAre vs ns∧ns.length≤n:=by
 have hsh:WShape.hasAll [] args [.list .int]=true:=(pre_splitW hpre).1
 have hc:l.pre.holds [] { args:=args }=true:=(pre_splitW hpre).2
 obtain ⟨d,r,rfl,h1,h2⟩:=hasAllW_cons hsh
 obtain rfl:=hasAllW_nil h2
 obtain ⟨xs,rfl,h3⟩:=hasW_list h1
 obtain ⟨ns,rfl⟩:=items_int h3
 have hlen:ns.length≤n:=by
  unfold OpenLaw.pre at hc
  have h4:(WTm.not (.lt (.lit (.int (n:Int))) (.len (.arg 0)))).holds [] { args:=[.list (ns.map .int)] }=true:=by
   have h4:=(holds_andW hc).1
   rw [hn] at h4
   exact h4
  have h5:=condW_of h4 (w_not (w_lt w_lit (w_len_list (w_arg rfl))))
  rw [List.length_map] at h5
  refine Nat.le_of_not_lt fun q=>?_
  have q':(n:Int) < ((ns.length:Nat):Int):=by omega
  first
   | (rw [decide_eq_true q'] at h5;exact absurd h5 (by decide))
   | (simp at h5;omega)
 cases hwl with
 | cons w1 w2=>
  cases w2
  cases w1 with
  | list ho hall=>exact ⟨_,_,ns,rfl,rfl,ho,Kd ns _ hall,hlen⟩
theorem jcM (l:OpenLaw) (args:List WData):l.row.toRowW.claim.post args (.bool true) args=true:=
 postW_of (r:=l.row.toRowW) (X:=(true == true))
  (show WShape.has [] (.bool true) .bool=true by first | rfl | decide | simp [WShape.has,WShape.arms,WShape.armsAll])
  (show (WTm.eq .res (.lit (.bool true))).value [] { args:=args,res:=some (.bool true),after:=args }=some (.bool (true == true)) from w_eq_bool (w_res rfl) w_lit) rfl
theorem attach_call {l:OpenLaw} {n:Nat} {q:Program} {loose:List Str} {XP:(Str→Option Value)→Heap→Prop} {YP:World→Heap→Prop} {d:DefRec}
  (hn:l.most=some n) (hdf:d.params.defaults=[])
  (call:∀ (w:World) (s₀ s₁:Shared) (mg mb:Str→Option Value) (fa:Addr) (o:Obj) (pm cd doc:Value) (a:Addr) (vs:List Value) (ns:List Int),
   Ground q loose [] XP w s₀ mg mb s₁.heap→YP w s₁.heap→
   s₁.heap.get? fa=some o→o.data=.func (docDef d.name d.params d.body d.scope pm cd doc)→s₁.heap.CodeRec cd d.name→mg d.name=some (.ref fa)→
   s₁.heap.get? a=some { cls:=.type "list",data:=.seq vs.toArray }→IntsAre vs ns→ns.length≤n→s₁.gens=#[]→
   codeAny (model l.prog w) callerA (.call (.ref fa) ⟨[.ref a],[]⟩) (fun r s'=>r=.ok (.ret (.bool true))∧OldK s₁.heap s'.heap∧s'.os=s₁.os∧AllBare s'.gens) s₁) :
  WalkO q loose XP YP l.row.toRowW d [] (fun f vs=>PySem.call f vs):=by
 intro w s₀ s₁ mg mb G Y fa o pm cd doc dV kV ho hd hcd hD hmg hg args vals as hpre hlay hrd hwl hlo
 obtain rfl:dV=.none:=Dflts.none hD hdf
 obtain rfl:kV=.none:=Dflts.noKw hD
 obtain ⟨a,vs,ns,rfl,rfl,hobj,hints,hlen⟩:=jcH hn hpre hwl
 refine enter_call (codeAny_mono (call w s₀ s₁ mg mb fa o pm cd doc a vs ns G Y ho (fd_plain hd) hcd hmg hobj hints hlen hg) fun r s' hq=>?_)
 obtain ⟨rfl,h2,h3,h4⟩:=hq
 exact ⟨.inl ⟨.bool true,.bool true,[],rfl,fun _=>rfl,.bool true,jcM l _,fun _=>⟨List.Pairwise.nil,fun _ hm=>(nomatch hm)⟩⟩,h2,h3,h4⟩
end Att
namespace L2
open PySem PySem.Spec PyProof.Rows
theorem JA:∀ {vs:List Value} {ns:List Int},IntsAre vs ns→Vals (ns.map V.int) vs
 | _,_,.nil=>.nil
 | _,_,.cons n t h=>.cons ⟨t,rfl⟩ (JA h)
def jhq (H:Hp):Prop:=∀ b,H b=none∨∃ o xs,H b=some (.frz o (.lst xs))
theorem jeu {P:Program} {w:World} {K:PySem.W.Frag} {mg mb:Str→Option Value} {CX:CXT} {k:Nat} {fa a:Addr} {fd:FuncData} {x:Str} {sp:Sp} {s₁:Shared} {vs:List Value} {ns:List Int}
  (KX:K.In s₁.heap) (hns:s₁.heap.Ns mainGlobals mg) (hb:s₁.heap.Ns builtinsNs mb) (hbb:∀ x:Str,x≠"__name__"→mb x=bootBuiltins x) (hlim:s₁.heap.NoLimit) (hg:s₁.gens=#[])
  (ha:s₁.heap.get? a=some { cls:=.type "list",data:=.seq vs.toArray }) (hi:IntsAre vs ns) (hl:ns.length≤sizeLine) (hr:Room k callerA)
  (F:∀ base:Heap,K.In base→base.Ns mainGlobals mg→FnOk P w K mg base CX k fa fd [x] sp) (hbind:∀ (s:Shared) (u:Value),BindsTo s fd ⟨[u],[]⟩ [(x,u)])
  (hsp:∀ H:Hp,jhq H→SqL K H a (ns.map V.int)→sp [.ref a] H (fun v _=>v=.bl true) fun _ _ _=>False)
  (hCX:∀ H e s',CX [] H s₁ (fun _ _ _=>False) e s'→False) :
  codeAny (model P w) callerA (.call (.ref fa) ⟨[.ref a],[]⟩) (fun r s'=>r=.ok (.ret (.bool true))∧OldK s₁.heap s'.heap∧s'.os=s₁.os∧AllBare s'.gens) s₁:=by
 have rv:=JA hi
 have lenV:=hi.length
 have core:∀ H:Hp,jhq H→SqL K H a (ns.map V.int)→HOk P w H s₁.heap→(∀ b,H b≠none→b=a)→(H a≠none→K.lookup a=none)→
   codeAny (model P w) callerA (.call (.ref fa) ⟨[.ref a],[]⟩) (fun r s'=>r=.ok (.ret (.bool true))∧OldK s₁.heap s'.heap∧s'.os=s₁.os∧AllBare s'.gens) s₁:=by
  intro H hO hS hok hA hK
  have base_of:∀ {b:Addr} {o:Obj},s₁.heap.get? b=some o→H b=none→(ZJ s₁.heap H).get? b=some o:=fun e n=>jeD e n
  have noA:∀ {b:Addr} {o:Obj} {es:Array DictEntry} {ep:Nat},s₁.heap.get? b=some o→o.data=.dict es ep→H b=none:=fun {b o es ep} e d=>by
   cases q:H b with
   | none=>rfl
   | some u=>
    have e':b=a:=hA b (by rw [q];simp)
    subst e'
    rw [ha] at e;cases e
    have d':Data.seq vs.toArray _=Data.dict es ep:=d
    cases d'
  have nsK:∀ {b:Addr} {m:Str→Option Value},s₁.heap.Ns b m→(ZJ s₁.heap H).Ns b m:=fun {b m} ⟨o,es,ep,e,d,r⟩=>⟨o,es,ep,base_of e (noA e d),d,r⟩
  have hKb:K.In (ZJ s₁.heap H):=fun b o e=>base_of (KX b o e) (by
   cases q:H b with
   | none=>rfl
   | some u=>
    have e':b=a:=hA b (by rw [q];simp)
    subst e'
    rw [hK (by rw [q];simp)] at e;cases e)
  have hM:Mod K mg (ZJ s₁.heap H):=⟨hKb,nsK hns,⟨mb,nsK hb,hbb⟩,let ⟨mc,h1,h2⟩:=hlim;⟨mc,nsK h1,h2⟩⟩
  have e0:Env0 P w K mg (ZJ s₁.heap H) callerA [] s₁ H:=⟨rfl,hM,fun b o e=>jfQ e,Nat.le_of_eq (jda _ _),trivial,fun b hb=>absurd (show b∈([]:List Addr) from hb) (by simp),hok,.of_eq hg⟩
  refine codeAny_mono ((F _ hKb (nsK hns)).run callerA [] s₁ H ⟨[.ref a],[]⟩ [.ref a] [.ref a] _ _ hr e0 (hbind s₁ (.ref a)) (.cons rfl .nil) (hsp H hO hS)) fun r s' h=>?_
  cases r with
  | error e=>exact (hCX H e s' h).elim
  | ok fl=>
   cases fl with
   | next=>exact False.elim h
   | brk=>exact False.elim h
   | cont=>exact False.elim h
   | ret u=>
    obtain ⟨v,H',os,bare,un,hok',r',q⟩:=h
    have q':v=.bl true:=q
    subst q'
    obtain rfl:u=Value.bool true:=r'
    refine ⟨rfl,OldK.of_keep fun b o e=>?_,os,bare⟩
    cases q:H b with
    | none=>exact un.keep b o e q (by intro z;exact absurd (show b∈([]:List Addr) from z) (by simp)) (by simp)
    | some u=>
     rcases hO b with z | ⟨ob,xs,z⟩
     ·rw [q] at z;cases z
     ·have z2:=un.frzs b ob _ z
      obtain ⟨e1,_⟩:=hok b _ z
      obtain ⟨e2,_⟩:=hok' b _ z2
      rw [e] at e1;cases e1
      exact e2
 cases hk:K.lookup a with
 | some o=>
  have e:=KX a o hk
  rw [ha] at e
  cases e
  refine core (fun _=>none) (fun _=>.inl rfl) (.inr ⟨_,vs.toArray,_,hk,rfl,rfl,rfl,by rw [List.size_toArray,lenV];exact hl,by simpa using rv⟩) (fun b u z=>by have z':(none:Option HO)=some u:=z;cases z') (fun b z=>absurd rfl z) fun z=>absurd rfl z
 | none=>
  refine core (fun b=>if b=a then some (.frz { cls:=.type "list",data:=.seq vs.toArray } (.lst (ns.map V.int))) else none) (fun b=>?_) (.inl (.inr ⟨{ cls:=.type "list",data:=.seq vs.toArray },if_pos rfl⟩)) (fun b u z=>?_) (fun b z=>?_) fun _=>hk
  ·by_cases hb:b=a
   ·exact .inr ⟨_,_,if_pos hb⟩
   ·exact .inl (if_neg hb)
  ·by_cases hb:b=a
   ·have z':=(if_pos hb).symm.trans z
    cases z'
    subst hb
    exact ⟨ha,by rw [List.length_map];exact hl,vs,_,rv,ha⟩
   ·have z':=(if_neg hb).symm.trans z
    cases z'
  ·by_cases hb:b=a
   ·exact hb
   ·exact absurd (if_neg hb) z
theorem walk_of {l:PySem.W.OpenLaw} {n k:Nat} {q:Program} {loose:List Str} {XP:(Str→Option Value)→Heap→Prop} {YP:World→Heap→Prop} {d:DefRec} {K:Params→PySem.W.Frag} {CX:World→CXT} {sp:World→Sp} {x:Str}
  (hn:l.most=some n) (hn2:n≤sizeLine) (hdf:d.params.defaults=[]) (hr:Room k callerA)
  (hY:∀ (w:World) (h:Heap),YP w h→(K w.params).In h)
  (F:∀ (w:World) (mg:Str→Option Value) (fa:Addr) (h:Heap),(K w.params).In h→h.Ns mainGlobals mg→mg d.name=some (.ref fa)→
   ∃ fd:FuncData,(∀ (s:Shared) (u:Value),BindsTo s fd ⟨[u],[]⟩ [(x,u)])∧
    ∀ base:Heap,(K w.params).In base→base.Ns mainGlobals mg→FnOk l.prog w (K w.params) mg base (CX w) k fa fd [x] (sp w))
  (hsp:∀ (w:World) (H:Hp) (a:Addr) (ns:List Int),ns.length≤n→jhq H→SqL (K w.params) H a (ns.map V.int)→sp w [.ref a] H (fun v _=>v=.bl true) fun _ _ _=>False)
  (hCX:∀ (w:World) (H:Hp) (s:Shared) (e:Value) (s':Shared),CX w [] H s (fun _ _ _=>False) e s'→False) :
  PySem.W.WalkO q loose XP YP l.row.toRowW d [] (fun f vs=>PySem.call f vs):=by
 refine Att.attach_call hn hdf fun w s₀ s₁ mg mb fa o pm cd doc a vs ns G Y ho hd hcd hmg hobj hints hlen hg=>?_
 have KX:=hY w _ Y
 obtain ⟨fd,hb,hF⟩:=F w mg fa _ KX G.T.g hmg
 exact jeu KX G.T.g G.T.b G.T.builtins G.T.nolimit hg hobj hints (Nat.le_trans hlen hn2) hr hF hb (fun H hO hS=>hsp w H a ns hlen hO hS) fun H e s'=>hCX w H s₁ e s'
def jce (s:Stmt) (j:Nat):Stmt:=match s with
 | .ClassDef _ _ _ body _ _ _ _ _ _ _=>body.getD j (.Pass ⟨0,0,0,0⟩)
 | _=>.Pass ⟨0,0,0,0⟩
def yI (s:Stmt):Arguments:=match s with
 | .FunctionDef _ a _ _ _ _ _ _ _ _=>a
 | _=>{ posonlyargs:=[],args:=[],vararg:=none,kwonlyargs:=[],kw_defaults:=[],kwarg:=none,defaults:=[] }
def zB (s:Stmt):List Stmt:=match s with
 | .FunctionDef _ _ b _ _ _ _ _ _ _=>b
 | _=>[]
def jl (s:Stmt):Scope:=match s with
 | .FunctionDef _ _ _ _ _ _ sc _ _ _=>sc
 | _=>{ kind:=.function,names:=[],isGenerator:=false,isCoroutine:=false }
abbrev CX0:CXT:=fun _ _ _ _ _ _=>False
abbrev E0:XK:=fun _ _ _=>False
theorem jgo {X:Cx}:Yn CX0 X E0:=fun _ _ _ _ _ _ _ h=>h.elim
structure Fun (K:PySem.W.Frag) (x qual:Str) (st:Stmt) (f:Addr) (fd:FuncData):Prop where
 ex:∃ (oc:Value) (od:Option Addr) (kV doc pm:Value) (an:Option Addr) (cdv ct:Value) (osl:Array (Option Value)),
  fd=PySem.W.fnOf x qual (yI st) (zB st) (jl st) .none kV doc pm an cdv ct∧K.lookup f=some ⟨oc,od,.func fd,osl⟩∧PySem.W.codeIn K cdv qual=true
 kp:PySem.W.keepIn K (.ref f)=true
section
variable {P:Program} {w:World} {K:PySem.W.Frag} {mg:Str→Option Value} {base:Heap}
theorem Fun.ok {x qual:Str} {st:Stmt} {f:Addr} {fd:FuncData} {N ps:List Str} {k:Nat} {sp:Sp} (F:Fun K x qual st f fd) (S:FnScope N ps (jl st)) (len:∀ vs H Q E,sp vs H Q E→vs.length=ps.length)
  (hbody:∀ (cdv:Value) (A:Around) (outer:List Env) (s:Shared) (H:Hp) (vs:List V) (Q:VK) (E:XK),Room k (A.deeper (envOfC qual (jl st) s.heap.objs.size f cdv))→sp vs H Q E→
   ∃ t,PSs (jbE CX0 P w K mg base N qual (jl st) f cdv A outer s H E).nox (zB st) t∧t { nx:=fun _ H'=>Q .non H',rt:=Q } (Je N vs) H):FnOk P w K mg base CX0 (k+1) f fd ps sp:=by
 obtain ⟨oc,od,kV,doc,pm,an,cdv,ct,osl,rfl,lk,hcd⟩:=F.ex
 refine jh6 lk hcd S len fun A outer s H vs Q E hr hsp=>?_
 obtain ⟨t,h,q⟩:=hbody cdv A outer s H vs Q E hr hsp
 exact ⟨t,h.nox,q⟩
theorem Fun.binds {x qual:Str} {st:Stmt} {f:Addr} {fd:FuncData} {ps:List Str} (F:Fun K x qual st f fd)
  (h:∀ (kV doc pm:Value) (an:Option Addr) (cdv ct:Value) (us:List Value),us.length=ps.length→bindArgs (PySem.W.fnOf x qual (yI st) (zB st) (jl st) .none kV doc pm an cdv ct) ⟨us,[]⟩=pure (ps.zip us)):Binds K fd ps []:=by
 obtain ⟨oc,od,kV,doc,pm,an,cdv,ct,osl,rfl,lk,hcd⟩:=F.ex
 exact .all (h kV doc pm an cdv ct)
theorem j3 {x qual:Str} {st:Stmt} {f:Addr} {oc:Value} {od an:Option Addr} {osl:Array (Option Value)} {kV doc pm cdv ct:Value} (l:K.lookup f=some ⟨oc,od,.func (PySem.W.fnOf x qual (yI st) (zB st) (jl st) .none kV doc pm an cdv ct),osl⟩)
  (c:PySem.W.codeIn K cdv qual=true) (k:PySem.W.keepIn K (.ref f)=true):Fun K x qual st f (PySem.W.fnOf x qual (yI st) (zB st) (jl st) .none kV doc pm an cdv ct):=⟨⟨oc,od,kV,doc,pm,an,cdv,ct,osl,rfl,l,c⟩,k⟩
end
theorem yO {A:Around} {k:Nat} (hr:Room k A):A.units+1 < cLine:=Nat.lt_of_le_of_lt (Nat.add_le_add_left (by decide:1≤64) _) hr.units
theorem jz {n:Nat} (h:n≤1000):n < sizeLine:=Nat.lt_of_le_of_lt h (by decide)
section
variable {X:Cx}
theorem pv (i:Nat) {x:Str} {pos:Pos} (hN:X.N[i]?=some x:=by rfl) (hv:Vis X.env.scope x:=by first | exact Or.inl rfl | exact Or.inr (Or.inl rfl) | exact Or.inr (Or.inr rfl)) (hd:(x == ("__debug__" : Str))=false:=by decide)
  (hcd:(x == ("__classdict__" : Str))=false:=by decide):PE X (.Name x pos) (jgx i):=jd5 hN hv hd hcd
end
theorem K4 {A B:Prop} (h:B):if false=true then A else B:=by
 rw [if_neg Bool.false_ne_true]
 exact h
theorem zZ {A B:Prop} (h:A):if true=true then A else B:=by
 rw [if_pos rfl]
 exact h
theorem j7 {c A B:Prop} [Decidable c] (h1:c→A) (h2:¬ c→B):if c then A else B:=by
 by_cases h:c
 ·rw [if_pos h]
  exact h1 h
 ·rw [if_neg h]
  exact h2 h
def Same (H H':Hp):Prop:=∀ b o,H b=some o→H' b=some o
theorem Same.refl (H:Hp):Same H H:=fun _ _ h=>h
theorem Same.trans {H H1 H2:Hp} (a:Same H H1) (b:Same H1 H2):Same H H2:=fun c o h=>b c o (a c o h)
theorem Same.free {H H':Hp} (e:Same H H') {l:Addr} (h:H' l=Option.none):H l=Option.none:=by
 cases q:H l with
 | none=>rfl
 | some o=>
  rw [e l o q] at h
  cases h
theorem Same.seq {K:PySem.W.Frag} {H H':Hp} {a:Addr} {xs:List V} (e:Same H H') (h:SqL K H a xs):SqL K H' a xs:=by
 rcases h with (h | ⟨o,h⟩) | h
 ·exact .inl (.inl (e _ _ h))
 ·exact .inl (.inr ⟨o,e _ _ h⟩)
 ·exact .inr h
theorem Jt {prog:Program} {w:World} {A:Around} {s:Shared} {elt target iter:Expr} {ifs:List Expr} {scope:Scope} {pos:Pos} {it acc:Value} {env:Env} {R:Result→Shared→Prop} (I:Nat→Shared→Prop)
  (turn:∀ n s,I n s→wpAny (model prog w) A (pyNext it) (fun r s1=>match r with
   | none=>R (.ok .next) s1
   | some v=>wpAny (model prog w) A (letOwnedTupleGo target it v) (fun _ s1'=>wpAny (model prog w) A (assign target env v) (fun _ s2=>
     wpAny (model prog w) A (forIn ifs true fun c r=>if r=true then do let ok ← isTrue c env (eval c env);pure (ForInStep.yield ok) else pure (ForInStep.yield r)) (fun ok s3=>
      if ok=true then wpAny (model prog w) A (eval elt env) (fun x s4=>
       wpAny (model prog w) A (call (.builtin "list.append") [acc,x]) (fun _ s5=>∃ m,m < n∧I m s5) (fun _ _=>False) s4) (fun _ _=>False) s3
      else ∃ m,m < n∧I m s3) (fun _ _=>False) s2) (fun _ _=>False) s1') (fun _ _=>False) s1) (fun _ _=>False) s)
  (n:Nat) (h:I n s):codeAny (model prog w) A (.compLoop (.ListComp elt [⟨target,iter,ifs,0⟩] scope pos) 0 it acc env) R s:=by
 have no:∀ (x:Value) (s':Shared),False→notedBy (model prog w) A env (fun e s'=>R (.error e) s') x s':=fun _ _ z=>z.elim
 refine codeAny_loop rfl I (fun n s hI=>?_) n h
 show wpAny _ A ((compTurn (.ListComp elt [⟨target,iter,ifs,0⟩] scope pos) 0 it acc env).onRaise (fun x=>do noteFrame x env;theTreesLotGoes x)) _ _ s
 refine wpAny_noted ?_
 rw [compTurn_list]
 refine wpAny_bind (wpAny_standAt (wpAny_bind (wpAny_mono (turn n s hI) (fun r s1 h1=>?_) no)))
 cases r with
 | none=>exact wpAny_pure h1
 | some v=>
  refine wpAny_bind (wpAny_mono h1 (fun _ s1' h1'=>?_) no)
  refine wpAny_bind (wpAny_mono h1' (fun _ s2 h2=>wpAny_bind (wpAny_mono h2 (fun ok s3 h3=>?_) no)) no)
  cases ok with
  | false=>exact wpAny_pure ⟨rfl,h3⟩
  | true=>
   exact wpAny_bind (wpAny_bind (wpAny_mono h3 (fun x s4 h4=>wpAny_bind (wpAny_mono h4 (fun _ s5 h5=>wpAny_pure (wpAny_pure ⟨rfl,h5⟩)) no)) no))
theorem jeG:(NameKind.free == NameKind.free)=true:=rfl
def yh (cells:List (Str×Addr)):List (Str×NameKind)→List (Str×Addr)→List (Str×Addr)
 | [],acc=>acc
 | (n,k) :: r,acc=>if k == .free then yh cells r ((n,(cells.lookup n).getD 0) :: acc) else yh cells r acc
theorem jaK {env:Env}:∀ (names:List (Str×NameKind)) (acc:List (Str×Addr)),(∀ x∈names,x.2=.free→(env.cells.lookup x.1).isSome=true)→
  (forIn names acc fun x (cs:List (Str×Addr))=>(match x with | (name,kind)=>if (kind == NameKind.free)=true then do let c ← cellOf env name;pure (ForInStep.yield ((name,c) :: cs)) else pure (ForInStep.yield cs):Sem (ForInStep (List (Str×Addr)))))=(pure (yh env.cells names acc):Sem (List (Str×Addr)))
 | [],acc,_=>by simp only [List.forIn_nil];rfl
 | (n,k) :: r,acc,h=>by
  have ih:=fun a=>jaK (env:=env) r a fun x hx=>h x (List.mem_cons_of_mem _ hx)
  rw [List.forIn_cons]
  by_cases hk:k=.free
  ·subst hk
   have q:=h (n,.free) List.mem_cons_self rfl
   obtain ⟨c,hc⟩:=Option.isSome_iff_exists.mp q
   have e:cellOf env n=pure c:=by unfold cellOf;rw [show env.cells.lookup n=some c from hc]
   simp only [beq_self_eq_true,if_true,e,pure_bind]
   rw [ih]
   show _=pure (if (NameKind.free == NameKind.free)=true then yh env.cells r ((n,(env.cells.lookup n).getD 0) :: acc) else _)
   rw [if_pos jeG,show env.cells.lookup n=some c from hc]
   rfl
  ·have hb:(k == NameKind.free)=false:=by simpa using hk
   simp only [hb,Bool.false_eq_true,if_false,pure_bind]
   rw [ih]
   show _=pure (if (k == NameKind.free)=true then _ else yh env.cells r acc)
   rw [hb]
   rfl
theorem y4 {scope:Scope} {env:Env} (h:∀ x∈scope.names,x.2=.free→(env.cells.lookup x.1).isSome=true):closureFor scope env=pure (yh env.cells scope.names []):=by
 unfold closureFor
 have e:=jaK (env:=env) scope.names [] h
 simp only [bind_pure] at *
 exact e
theorem jbG {cells:List (Str×Addr)}:∀ (names:List (Str×NameKind)) (acc:List (Str×Addr)),(∀ x∈names,x.2=.free→(cells.lookup x.1).isSome=true)→(∀ x c,acc.lookup x=some c→cells.lookup x=some c)→
  ∀ x c,(yh cells names acc).lookup x=some c→cells.lookup x=some c
 | [],acc,_,ha=>ha
 | (n,k) :: r,acc,h,ha=>by
  unfold yh
  by_cases hk:k=.free
  ·subst hk
   rw [if_pos jeG]
   refine jbG r _ (fun x hx=>h x (List.mem_cons_of_mem _ hx)) fun x c e=>?_
   by_cases hx:x=n
   ·subst hx
    rw [List.lookup_cons_self] at e
    obtain ⟨d,hd⟩:=Option.isSome_iff_exists.mp (h (x,.free) List.mem_cons_self rfl)
    have hd':cells.lookup x=some d:=hd
    rw [hd'] at e ⊢
    exact e
   ·rw [List.lookup_cons,beq_eq_false_iff_ne.mpr hx] at e
    exact ha x c e
  ·rw [if_neg (by simpa using hk)]
   exact jbG r _ (fun x hx=>h x (List.mem_cons_of_mem _ hx)) ha
theorem ZR {cells:List (Str×Addr)}:∀ (names:List (Str×NameKind)) (acc:List (Str×Addr)) (x:Str),(acc.lookup x).isSome=true→((yh cells names acc).lookup x).isSome=true
 | [],acc,_,ha=>ha
 | (n,k) :: r,acc,x,ha=>by
  unfold yh
  split
  ·refine ZR r _ x ?_
   rw [List.lookup_cons]
   split
   ·rfl
   ·exact ha
  ·exact ZR r _ x ha
theorem jbH {cells:List (Str×Addr)}:∀ (names:List (Str×NameKind)) (acc:List (Str×Addr)) (x:Str),(x,NameKind.free)∈names→((yh cells names acc).lookup x).isSome=true
 | [],_,_,h=>by simp at h
 | (n,k) :: r,acc,x,h=>by
  unfold yh
  rcases List.mem_cons.mp h with e | h
  ·obtain ⟨e1,e2⟩:=Prod.mk.inj e
   subst e1 e2
   rw [if_pos jeG]
   refine ZR r _ _ ?_
   rw [List.lookup_cons_self]
   rfl
  ·split
   ·exact jbH r _ x h
   ·exact jbH r _ x h
theorem zu {env:Env}:∀ {names:List (Str×NameKind)} {x:Str} {k:NameKind},
  (names.map fun (n,k)=>if (k == NameKind.free && env.scope.kind == .function && env.kindOf n == some .cell) then (n,NameKind.cell) else (n,k)).lookup x=some k→
   names.lookup x=some k∨(k=.cell∧names.lookup x=some .free)
 | [],_,_,h=>by simp at h
 | (n,k') :: r,x,k,h=>by
  rw [List.map_cons] at h
  by_cases hx:x=n
  ·subst hx
   rw [List.lookup_cons_self]
   by_cases hc:(k' == NameKind.free && env.scope.kind == .function && env.kindOf x == some .cell)=true
   ·simp only [hc,if_true] at h
    rw [List.lookup_cons_self] at h
    have hk:k'=.free:=by
     simp only [Bool.and_eq_true,beq_iff_eq] at hc
     exact hc.1.1
    exact .inr ⟨(Option.some.inj h).symm,by rw [hk]⟩
   ·simp only [hc] at h
    rw [if_neg (by simp),List.lookup_cons_self] at h
    exact .inl h
  ·have e:(x == n)=false:=beq_eq_false_iff_ne.mpr hx
   have h':(r.map fun (n,k)=>if (k == NameKind.free && env.scope.kind == .function && env.kindOf n == some .cell) then (n,NameKind.cell) else (n,k)).lookup x=some k:=by
    by_cases hc:(k' == NameKind.free && env.scope.kind == .function && env.kindOf n == some .cell)=true
    ·simp only [hc,if_true] at h
     rw [List.lookup_cons,e] at h
     exact h
    ·simp only [hc] at h
     rw [if_neg (by simp),List.lookup_cons,e] at h
     exact h
   have ih:=@zu env r x k h'
   rw [List.lookup_cons,e]
   exact ih
theorem Jl {env:Env}:∀ {names:List (Str×NameKind)} {x:Str},names.lookup x=some .free→
  (names.map fun (n,k)=>if (k == NameKind.free && env.scope.kind == .function && env.kindOf n == some .cell) then (n,NameKind.cell) else (n,k)).lookup x=some .cell∨
  (names.map fun (n,k)=>if (k == NameKind.free && env.scope.kind == .function && env.kindOf n == some .cell) then (n,NameKind.cell) else (n,k)).lookup x=some .free
 | [],_,h=>by simp at h
 | (n,k') :: r,x,h=>by
  rw [List.map_cons]
  by_cases hx:x=n
  ·subst hx
   rw [List.lookup_cons_self] at h
   cases h
   by_cases hc:(NameKind.free == NameKind.free && env.scope.kind == .function && env.kindOf x == some .cell)=true
   ·simp only [hc,if_true]
    exact .inl List.lookup_cons_self
   ·simp only [hc]
    rw [if_neg (by simp)]
    exact .inr List.lookup_cons_self
  ·have e:(x == n)=false:=beq_eq_false_iff_ne.mpr hx
   rw [List.lookup_cons,e] at h
   have ih:=@Jl env r x h
   by_cases hc:(k' == NameKind.free && env.scope.kind == .function && env.kindOf n == some .cell)=true
   ·simp only [hc,if_true]
    rw [List.lookup_cons,e]
    exact ih
   ·simp only [hc]
    rw [if_neg (by simp),List.lookup_cons,e]
    exact ih
def blk (X:Cx) (scope:Scope) (own:List Str) (fr:List Nat) (s:Shared) (H:Hp) (ex:List Addr):Cx where
 prog:=X.prog
 w:=X.w
 K:=X.K
 mg:=X.mg
 base:=X.base
 A:=X.A
 N:=own++fr.map fun j=>X.N.getD j (Str.ofString "")
 s₀:=s
 H₀:=H
 env:=compEnvC scope (yh X.env.cells scope.names []) s.heap.objs.size X.env
 outer:=X.stack
 stack:=X.stack
 ex:=ex
 fn:=fun _=>false
 calm:=X.calm
 pn:=[]
 xe:=fun _ _=>False
def jdr (own:List Str) (fr:List Nat) (σ:St):St:=own.map (fun _=>none)++fr.map fun j=>(σ[j]?).join
structure CompOk (X:Cx) (scope:Scope) (fr:List Nat):Prop where
 kind:scope.kind=.function
 nocell:∀ y∈scope.names,y.2≠.cell
 loc:∀ y∈scope.names,y.2=.local→scope.names.lookup y.1=some .local
 frees:∀ y∈scope.names,y.2=.free→X.env.scope.names.lookup y.1=some .cell∨X.env.scope.names.lookup y.1=some .free
 fr:∀ j∈fr,scope.names.lookup (X.N.getD j (Str.ofString ""))=some .free
theorem ZG {X:Cx} {scope:Scope} {own:List Str} {fr:List Nat} {pins:List (Addr×Obj)} {σ:St} {H:Hp} {s:Shared} {ex:List Addr} {h1:Heap} {t1:Nat} (I:Inv X pins σ H s) (O:CompOk X scope fr)
  (hex:∀ b∈ex,Jy X pins H b∧b < s.heap.objs.size) (hns:h1.Ns s.heap.objs.size fun _=>none) (hk:∀ b o,s.heap.get? b=some o→h1.get? b=some o) :
  Inv (blk X scope own fr s H ex) [] (jdr own fr σ) H { s with heap:=h1,toks:=t1 }:=by
 have hsome:∀ x∈scope.names,x.2=.free→(X.env.cells.lookup x.1).isSome=true:=fun x hx e=>by
  obtain ⟨c,hc⟩:=I.ok.has x.1 (O.frees x hx e)
  rw [hc];rfl
 have sub:∀ x c,(yh X.env.cells scope.names []).lookup x=some c→X.env.cells.lookup x=some c:=jbG scope.names [] hsome fun x c e=>by simp at e
 have hasc:∀ x,scope.names.lookup x=some .free→∃ c,(yh X.env.cells scope.names []).lookup x=some c:=fun x e=>Option.isSome_iff_exists.mp (jbH scope.names [] x (PySem.mem_of_lookup e))
 have hcne:∀ x c,X.env.cells.lookup x=some c→c < s.heap.objs.size:=fun x c e=>by
  obtain ⟨v,q⟩:=I.cell x c e
  exact q.lt
 have hN:σ.length=X.N.length:=I.len
 refine ⟨⟨I.ok.mod,O.kind,I.ok.glob,I.ok.blt,Nat.le_refl _,fun x y c e1 e2=>I.ok.inj x y c (sub x c e1) (sub y c e2),fun x hx=>?_,fun x c z=>absurd z (by simp [blk]),I.ok.hd,I.ok.frames,.inl rfl,fun b hb=>⟨Nat.ne_of_lt (hex b hb).2,fun x c e=>(hex b hb).1.2.2.2.2.1 x c (sub x c e)⟩,
  fun b o e=>I.bs b o e,Nat.le_trans I.ok.bsz I.sz,fun b o e hb=>?_,fun b hb z=>?_,I.stack,I.stkFree⟩,
  rfl,I.bare,Un.kept hk,⟨_,hns,fun i x v e1 e2 e3=>?_⟩,fun x c e=>?_,I.fresh,fun x c e=>I.freeC x c (sub x c e),fun p hp=>absurd hp (by simp [blk]),I.hok.kept hk,?_⟩
 ·have hx':(relabel scope X.env).names.lookup x=some .cell∨(relabel scope X.env).names.lookup x=some .free:=hx
  rcases hx' with hx | hx
  ·rcases zu hx with q | ⟨_,q⟩
   ·exact absurd rfl (O.nocell _ (PySem.mem_of_lookup q))
   ·exact hasc x q
  ·rcases zu hx with q | ⟨q,_⟩
   ·exact hasc x q
   ·cases q
 ·rcases (hex b hb).1.2.2.2.1 with z | z
  ·exact I.ok.noex b o e z
  ·exact absurd (Nat.lt_of_lt_of_le (Heap.lt_size e) (Nat.le_trans I.ok.bsz z)) (Nat.lt_irrefl _)
 ·obtain ⟨_,f1,f2,_⟩:=(hex b hb).1
  rcases List.mem_cons.mp (I.stkSub b z) with q | q
  ·exact f1 q
  ·exact f2 q
 ·have e1':(own++fr.map fun j=>X.N.getD j (Str.ofString ""))[i]?=some x:=e1
  unfold jdr at e2
  have hi:own.length≤i:=by
   by_cases h:own.length≤i
   ·exact h
   ·rw [List.getElem?_append_left (by simpa using Nat.lt_of_not_le h),List.getElem?_map] at e2
    cases q:own[i]? with
    | none=>rw [q] at e2;cases e2
    | some z=>rw [q] at e2;cases e2
  rw [List.getElem?_append_right hi,List.getElem?_map] at e1'
  rw [List.getElem?_append_right (by simpa using hi),List.getElem?_map,List.length_map] at e2
  cases q:fr[i - own.length]? with
  | none=>rw [q] at e2;cases e2
  | some j=>
   rw [q] at e1' e2
   have e1'':X.N.getD j (Str.ofString "")=x:=Option.some.inj e1'
   have e2':(σ[j]?).join=some v:=Option.some.inj e2
   have e2'':σ[j]?=some (some v):=by
    cases z:σ[j]? with
    | none=>rw [z] at e2';cases e2'
    | some y=>rw [z] at e2';rw [← e2'];rfl
   have hj:j < X.N.length:=by rw [← hN];exact (List.getElem?_eq_some_iff.mp e2'').1
   have e3':X.N[j]?=some x:=by
    rw [List.getElem?_eq_getElem hj,← e1'',List.getD_eq_getElem?_getD,List.getElem?_eq_getElem hj]
    rfl
   have hf:=O.fr j (List.mem_of_getElem? q)
   rw [e1''] at hf
   have hv:=O.frees _ (PySem.mem_of_lookup hf) rfl
   obtain ⟨m,_,hl⟩:=I.loc
   obtain ⟨u,ru,lk⟩:=hl j x v e3' e2'' (.inr hv)
   refine ⟨u,ru,.inr ⟨?_,?_⟩⟩
   ·exact Jl hf
   ·obtain ⟨c,hc⟩:=hasc x hf
    refine ⟨c,hc,?_⟩
    rcases lk with ⟨k,_⟩ | ⟨_,c',hc',z⟩
    ·have k':X.env.scope.names.lookup x=some .local:=k
     rcases hv with hv | hv <;> · rw [k'] at hv;cases hv
    ·have:=sub x c hc
     rw [hc'] at this
     cases this
     obtain ⟨o,ho,hd⟩:=z
     exact ⟨o,hk _ _ ho,hd⟩
 ·obtain ⟨v,o,ho,hd⟩:=I.cell x c (sub x c e)
  exact ⟨v,o,hk _ _ ho,hd⟩
 ·show (jdr own fr σ).length=(own++fr.map fun j=>X.N.getD j (Str.ofString "")).length
  unfold jdr
  rw [List.length_append,List.length_append,List.length_map,List.length_map,List.length_map]
theorem zP {X:Cx} {scope:Scope} {own:List Str} {fr:List Nat} {pins:List (Addr×Obj)} {σ σ':St} {H H':Hp} {s s':Shared} {ex:List Addr} (I:Inv X pins σ H s) (hex:∀ b∈ex,Jy X pins H b∧b < s.heap.objs.size)
  (J:Inv (blk X scope own fr s H ex) [] σ' H' s') {h':Heap} (hs:Heap.SameBut s.heap.objs.size s'.heap h'):Inv X pins σ H' { s' with heap:=h' }:=by
 have hC:H' s.heap.objs.size=none:=J.free
 have u:Un (frs X.stack) ex H H' s.heap s'.heap:=J.base
 have ne:∀ b o,s.heap.get? b=some o→b≠s.heap.objs.size:=fun b o e=>Nat.ne_of_lt (Heap.lt_size e)
 have at':∀ b o,b≠s.heap.objs.size→s'.heap.get? b=some o→h'.get? b=some o:=fun b o hb e=>(hs.2 b hb).trans e
 refine I.call' (ch:=ex) J.os ⟨fun b o e n hb hx=>?_,fun b o e n hb hx=>?_,u.free,fun b o e hx=>?_,u.tups,u.frzs,u.tbls⟩ (fun b o e=>?_) J.bare fun b hb=>?_
 ·exact at' b o (ne b o e) (u.keep b o e n hb hx)
 ·obtain ⟨sl,q⟩:=u.slot b o e n hb hx
  exact ⟨sl,at' b _ (ne b o e) q⟩
 ·obtain ⟨o',q⟩:=u.there b o e hx
  exact ⟨o',at' b _ (ne b o e) q⟩
 ·refine (J.hok b o e).stay (fun c v hc q=>at' c v ?_ q) (fun _ q=>q) fun _ _ q=>q
  rintro z
  rcases hc with y | y
  ·rw [y] at z;rw [z,hC] at e;cases e
  ·rw [z,hC] at y;cases y
 ·obtain ⟨f0,f1,f2,f3,f4,f5⟩:=(hex b hb).1
  exact ⟨f3,f1,f4,f5⟩
def PTs (X:Cx) (ifs:List Expr) (t:TT):Prop:=
 ∀ (pins:List (Addr×Obj)) (s:Shared) (σ:St) (H:Hp) (Q:Bool→Hp→Prop),Inv X pins σ H s→t σ H Q→
  wpAny (model X.prog X.w) X.A (forIn ifs true fun c r=>if r=true then do let ok ← isTrue c X.env (eval c X.env);pure (ForInStep.yield ok) else pure (ForInStep.yield r)) (TP X pins σ Q) X.xe s
def yK:TT:=fun _ H Q=>Q true H
theorem yD {X:Cx}:PTs X [] yK:=fun _ _ _ H _ I h=>wpAny_tests_nil ⟨H,I,h⟩
def Yp (J:It) (p:Addr) (g:TG) (tt:TT) (te:TE) (Q:VK) (σ:St) (H:Hp):Prop:=∃ W:Nat→Nat→St→Hp→Prop,(∃ m,W 0 m σ H)∧
 ∀ i m σ' H',W i m σ' H'→(J.stop i H'∧Q (.ref p) H')∨(J.go i H'∧∃ N:St→Hp→Prop,(∀ σ3 H3,N σ3 H3→∃ m',m' < m∧W (i+1) m' σ3 H3)∧∀ x H2,J.yld i H' x H2→g x σ' H2 fun σ3 H3=>tt σ3 H3 fun c H4=>
  if c=true then te σ3 H4 fun y H5=>∃ ys,H5 p=some (.lst ys)∧ys.length < sizeLine∧N σ3 (upd H5 p (.lst (ys++[y]))) else N σ3 H4)
def YD (own:List Str) (fr:List Nat) (wi:TI) (g:TG) (tt:TT) (te:TE):TE:=fun σ H Q=>wi σ H fun J H1=>∀ p,H1 p=none→Yp J p g tt te Q (jdr own fr σ) (upd H1 p (.lst []))
theorem jeL {X:Cx} {scope:Scope} {own:List Str} {fr:List Nat} {elt tg iter:Expr} {ifs:List Expr} {pos:Pos} {wi:TI} {g:TG} {tt:TT} {te:TE} {use:Option (Value→Sem Unit)} (hc:X.calm=true) (O:CompOk X scope fr) (hi:PI X tg iter wi)
  (hb:∀ s H ex,PG (blk X scope own fr s H ex) tg g∧PTs (blk X scope own fr s H ex) ifs tt∧PE (blk X scope own fr s H ex) elt te)
  (hs:∀ x,foldedSetIterable iter X.env x=pure x) {pins:List (Addr×Obj)} {s:Shared} {σ:St} {H:Hp} {Q:VK} {R:Value→Shared→Prop} (I:Inv X pins σ H s) (h:YD own fr wi g tt te σ H Q) (hx:∀ e s',X.xe e s'↔False)
  (fin:∀ (p C:Addr) (H':Hp) (s':Shared) (m:Str→Option Value),s'.heap.Ns C m→H' C=none→C≠X.env.locals→(∀ x c,X.env.cells.lookup x=some c→c≠C)→Inv X pins σ H' s'→(∀ h',Heap.SameBut C s'.heap h'→Inv X pins σ H' { s' with heap:=h' })→Q (.ref p) H'→
   compPost (model X.prog X.w) X.A X.xe use R (.ref p) C (.ok .next) s') :
  wpAny (model X.prog X.w) X.A (comprehension (.ListComp elt [⟨tg,iter,ifs,0⟩] scope pos) scope X.env (firstIterPos [⟨tg,iter,ifs,0⟩] pos) (newList []) false (eval iter X.env) use) R X.xe s:=by
 have hsome:∀ x∈scope.names,x.2=.free→(X.env.cells.lookup x.1).isSome=true:=fun x hx' e=>by
  obtain ⟨c,hc⟩:=I.ok.has x.1 (O.frees x hx' e)
  rw [hc];rfl
 have no:∀ (E:Value→Shared→Prop) (x:Value) (s':Shared),X.xe x s'→E x s':=fun E x s' z=>((hx x s').mp z).elim
 refine wpAny_comprehension_free (cl:=yh X.env.cells scope.names []) rfl hs (y4 hsome) O.kind O.loc ?_
 refine thn (hi pins s σ H _ I h) fun v s1 h1=>thn h1 fun itv s2 h2=>?_
 obtain ⟨it,fp,tn,J,H2,e,I2,T,st2,f2,q2⟩:=h2
 subst e
 refine wpAny_newObj_type ?_
 have nw:H2 s2.heap.objs.size=none:=I2.fresh
 obtain ⟨W,⟨m0,w0⟩,turn⟩:=q2 _ nw
 generalize hp:s2.heap.objs.size=p at *
 have I3:Inv X pins σ (upd H2 p (.lst [])) { s2 with heap:=s2.heap.push { cls:=.type "list",dict:=none,data:=.seq ([]:List Value).toArray } }:=by
  have:=I2.lnew (ys:=[]) (its:=[]) (t':=s2.toks) .nil (Nat.zero_le _)
  rw [hp] at this
  exact this
 have lt2:∀ b∈fp,b < s2.heap.objs.size:=fun b hb=>by
  obtain ⟨o,ho,_⟩:=T.obj _ _ st2 b hb
  exact Heap.lt_size ho
 have fpn:∀ b∈fp,(upd H2 p (.lst [])) b=none:=fun b hb=>by
  rw [jg (by rw [← hp];exact Nat.ne_of_lt (lt2 b hb))]
  exact (f2 b hb).1
 generalize hs3:({ s2 with heap:=s2.heap.push { cls:=.type "list",dict:=none,data:=.seq ([]:List Value).toArray } }:Shared)=s3 at *
 have sz3:s3.heap.objs.size=p+1:=by
  rw [← hs3]
  show (s2.heap.push _).objs.size=_
  rw [Heap.size_push,hp]
 have st3:tn 0 s3.heap:=T.keep 0 _ _ st2 fun b hb o e=>by
  rw [← hs3]
  exact Heap.get?_push_of_some _ e
 refine wpAny_newFunctionEnv O.nocell (by intro y hy;simp at hy) (fun h4 hns4 hsb4=>?_) O.kind
 have k4:∀ b o,s3.heap.get? b=some o→h4.get? b=some o:=fun b o e=>hsb4.extBut b o (Nat.ne_of_lt (Heap.lt_size e)) (Heap.get?_push_of_some _ e)
 have hns4':h4.Ns s3.heap.objs.size fun _=>none:=by
  have z:(fun x:Str=>([]:List (Str×Value)).reverse.lookup x)=fun _=>none:=by funext x;rfl
  rw [z] at hns4
  exact hns4
 have fo:∀ b∈fp,Jy X pins (upd H2 p (.lst [])) b∧b < s3.heap.objs.size:=fun b hb=>⟨⟨fpn b hb,(f2 b hb).2⟩,by rw [sz3,← hp];exact Nat.lt_succ_of_lt (lt2 b hb)⟩
 have I4:=ZG (own:=own) (fr:=fr) (t1:=s3.toks+([]:List (Str×Value)).length) I3 O fo hns4' k4
 have st4:tn 0 h4:=T.keep 0 _ _ st3 fun b hb o e=>k4 b o e
 obtain ⟨hg,ht,he⟩:=hb s3 (upd H2 p (.lst [])) fp
 have stat:∀ {H':Hp} {pn:List (Addr×Obj)} {s':Shared} {σ':St},Inv (blk X scope own fr s3 (upd H2 p (.lst [])) fp) [] σ' H' s'→(∀ b∈fp,H' b=none)→∀ b∈fp,Jy (blk X scope own fr s3 (upd H2 p (.lst [])) fp) [] H' b:=fun {H' pn s' σ'} J hn b hb'=>
  ⟨hn b hb',(J.ok.exf b hb').1,J.ok.exfs b hb',.inl hb',(J.ok.exf b hb').2,fun p hp=>absurd hp (by simp [blk])⟩
 have nocells:∀ x c,X.env.cells.lookup x=some c→c≠s3.heap.objs.size:=fun x c e=>by
  obtain ⟨v,q⟩:=I3.cell x c e
  exact Nat.ne_of_lt q.lt
 have loop:∀ s5:Shared,s5={ s3 with heap:=h4,toks:=s3.toks+([]:List (Str×Value)).length }→
   codeAny (model X.prog X.w) X.A (.compLoop (.ListComp elt [⟨tg,iter,ifs,0⟩] scope pos) 0 (.ref it) (.ref p) (blk X scope own fr s3 (upd H2 p (.lst [])) fp).env) (compPost (model X.prog X.w) X.A X.xe use R (.ref p) s3.heap.objs.size) s5:=by
  rintro s5 rfl
  refine Jt (fun n s'=>∃ i σ' H',Inv (blk X scope own fr s3 (upd H2 p (.lst [])) fp) [] σ' H' s'∧tn i s'.heap∧(∀ b∈fp,H' b=none)∧W i n σ' H') ?_ m0 ⟨0,_,_,I4,st4,fpn,w0⟩
  rintro n s6 ⟨i,σ6,H6,I6,st6,fr6,w6⟩
  rcases turn i n σ6 H6 w6 with ⟨stop,qn⟩ | ⟨go,N,hN,step⟩
  ·refine thn (T.done (blk X scope own fr s3 (upd H2 p (.lst [])) fp) rfl rfl rfl hc i [] s6 σ6 H6 _ I6 (stat (pn:=[]) I6 fr6) st6 stop) fun r s7 ⟨hr,I7⟩=>?_
   subst hr
   obtain ⟨m,hm,_⟩:=I7.loc
   exact fin p _ H6 s7 m hm I7.free (Nat.ne_of_gt I3.lt) nocells (zP I3 fo I7 (Heap.SameBut.refl ..)) (fun h' hs'=>zP I3 fo I7 hs') qn
  ·refine thn (T.item (blk X scope own fr s3 (upd H2 p (.lst [])) fp) rfl rfl rfl hc i [] s6 σ6 H6 _ I6 (stat (pn:=[]) I6 fr6) st6 go) fun r s7 ⟨u,hr,h7⟩=>?_
   subst hr
   refine thn h7 fun _ s8 ⟨x,H8,I8,r8,y8,st8,fr8⟩=>?_
   have I8':=I8.pinned (stat (pn:=[]) I8 fr8) (T.obj _ _ st8)
   refine thn (hg _ s8 σ6 H8 x u _ I8' r8 (step x H8 y8)) fun _ s9 ⟨σ9,H9,I9,q9⟩=>?_
   refine thn (ht _ s9 σ9 H9 _ I9 q9) fun ok s10 ⟨H10,I10,q10⟩=>?_
   have again:∀ {H11:Hp} {s11:Shared},Inv (blk X scope own fr s3 (upd H2 p (.lst [])) fp) ([]++zW fp s8.heap) σ9 H11 s11→(∃ m',m' < n∧W (i+1) m' σ9 H11)→
     ∃ m,m < n∧∃ i σ' H',Inv (blk X scope own fr s3 (upd H2 p (.lst [])) fp) [] σ' H' s11∧tn i s11.heap∧(∀ b∈fp,H' b=none)∧W i m σ' H':=fun {H11 s11} I11 ⟨m',hm,w11⟩=>by
    refine ⟨m',hm,i+1,σ9,H11,I11.unpinned,T.keep _ _ _ st8 fun b hb' o e=>(I11.pin (b,o) (List.mem_append_right _ (List.mem_append_right _ (qm hb' e)))).1,fun b hb'=>?_,w11⟩
    obtain ⟨o,e,d⟩:=T.obj _ _ st8 b hb'
    exact (I11.pin (b,o) (List.mem_append_right _ (List.mem_append_right _ (qm hb' e)))).2.1
   cases ok with
   | false=>
    rw [if_neg Bool.false_ne_true] at q10 ⊢
    exact again I10 (hN _ _ q10)
   | true=>
    rw [if_pos rfl] at q10 ⊢
    refine thn (he _ s10 σ9 H10 _ I10 q10) fun yv s11 ⟨y,H11,I11,r11,ys,hys,hlen,q11⟩=>?_
    have ap:=kF (X:=blk X scope own fr s3 (upd H2 p (.lst [])) fp) ([]++zW fp s8.heap) s11 σ9 H11 (.ref p) [y] (.ref p) [yv] (fun _ H12=>∃ m',m' < n∧W (i+1) m' σ9 H12) I11 rfl (.cons r11 .nil) ⟨p,ys,y,rfl,rfl,hys,hlen,hN _ _ q11⟩
    exact thn ap fun _ s12 ⟨_,H12,I12,_,q12⟩=>again I12 q12
 refine codeAny_compStart_list (loop _ rfl) (T.self X.A 0 _ _ _ st4 (loop _ rfl))
theorem Kr {X:Cx} {scope:Scope} {elt tg iter:Expr} {ifs:List Expr} {pos:Pos} {wi:TI} {g:TG} {tt:TT} {te:TE} (own:List Str) (fr:List Nat) (hc:X.calm=true) (O:CompOk X scope fr) (hi:PI X.nox tg iter wi)
  (hb:∀ s H ex,PG (blk X.nox scope own fr s H ex) tg g∧PTs (blk X.nox scope own fr s H ex) ifs tt∧PE (blk X.nox scope own fr s H ex) elt te)
  (hs:∀ x,foldedSetIterable iter X.env x=pure x:=by intro _;rfl):PE X.nox (.ListComp elt [⟨tg,iter,ifs,0⟩] scope pos) (YD own fr wi g tt te):=by
 intro pins s σ H Q I h
 rw [eval_ListComp]
 refine jeL (X:=X.nox) (use:=none) (Q:=Q) hc ⟨O.kind,O.nocell,O.loc,O.frees,O.fr⟩ hi hb hs I h (fun _ _=>Iff.rfl) fun p C H' s' m hm hC _ _ I' back q=>?_
 exact ⟨m,hm,fun h' hs'=>⟨.ref p,H',back h' hs',rfl,q⟩⟩
section
variable {p:Addr} {g:TG} {tt:TT} {te:TE} {σ:St} {H:Hp} {Q:VK}
theorem ZQ (J:It) (n:Nat) (Pv:Nat→St→Hp→Prop) (h0:Pv 0 σ H) (stop:∀ σ' H',Pv n σ' H'→J.stop n H') (go:∀ i σ' H',i < n→Pv i σ' H'→J.go i H')
  (hs:∀ i σ' H',i < n→Pv i σ' H'→∀ x H2,J.yld i H' x H2→g x σ' H2 fun σ3 H3=>tt σ3 H3 fun c H4=>if c=true then te σ3 H4 fun y H5=>∃ ys,H5 p=some (.lst ys)∧ys.length < sizeLine∧Pv (i+1) σ3 (upd H5 p (.lst (ys++[y]))) else Pv (i+1) σ3 H4)
  (hd:∀ σ' H',Pv n σ' H'→Q (.ref p) H'):Yp J p g tt te Q σ H:=by
 refine ⟨fun i m σ H=>m=n - i∧i≤n∧Pv i σ H,⟨n,by simp,Nat.zero_le _,h0⟩,?_⟩
 rintro i m σ1 H1 ⟨rfl,hi,pv⟩
 by_cases hlt:i < n
 ·exact .inr ⟨go i σ1 H1 hlt pv,Pv (i+1),fun σ3 H3 q=>⟨n - (i+1),by omega,rfl,hlt,q⟩,hs i σ1 H1 hlt pv⟩
 ·have e:i=n:=by omega
  subst e
  exact .inl ⟨stop σ1 H1 pv,hd σ1 H1 pv⟩
theorem qw {lo:Int} {n:Nat} (Pv:Nat→St→Hp→Prop) (h0:Pv 0 σ H)
  (hs:∀ i σ' H',i < n→Pv i σ' H'→g (.int (lo+i)) σ' H' fun σ3 H3=>tt σ3 H3 fun c H4=>if c=true then te σ3 H4 fun y H5=>∃ ys,H5 p=some (.lst ys)∧ys.length < sizeLine∧Pv (i+1) σ3 (upd H5 p (.lst (ys++[y]))) else Pv (i+1) σ3 H4)
  (hd:∀ σ' H',Pv n σ' H'→Q (.ref p) H'):Yp (Itr lo n) p g tt te Q σ H:=
 ZQ (Itr lo n) n Pv h0 (fun _ _ _=>Nat.le_refl _) (fun i _ _ h _=>h) (fun i σ' H' h pv x H2 y=>by
  obtain ⟨e1,e2⟩:=y
  subst e1 e2
  exact hs i σ' _ h pv) hd
theorem Js {K:PySem.W.Frag} {a:Addr} {xs:List V} (Pv:Nat→St→Hp→Prop) (h0:Pv 0 σ H) (hl:∀ i σ' H',i≤xs.length→Pv i σ' H'→SqT K H' a xs)
  (hs:∀ i x σ' H',xs[i]?=some x→Pv i σ' H'→g x σ' H' fun σ3 H3=>tt σ3 H3 fun c H4=>if c=true then te σ3 H4 fun y H5=>∃ ys,H5 p=some (.lst ys)∧ys.length < sizeLine∧Pv (i+1) σ3 (upd H5 p (.lst (ys++[y]))) else Pv (i+1) σ3 H4)
  (hd:∀ σ' H',Pv xs.length σ' H'→Q (.ref p) H'):Yp (Itt K a) p g tt te Q σ H:=
 ZQ (Itt K a) xs.length Pv h0 (fun σ' H' pv=>⟨xs,hl _ σ' H' (Nat.le_refl _) pv,Nat.le_refl _⟩) (fun i σ' H' h pv=>⟨xs,xs[i],hl i σ' H' (Nat.le_of_lt h) pv,by simp [h]⟩) (fun i σ' H' h pv x H2 y=>by
  obtain ⟨e1,e2⟩:=y
  subst e1
  exact hs i x σ' _ (e2 xs (hl i σ' _ (Nat.le_of_lt h) pv)) pv) hd
theorem jdo {K:PySem.W.Frag} {a:Addr} {xs:List V} (Pv:Nat→St→Hp→Prop) (h0:Pv 0 σ H) (hl:∀ i σ' H',i≤xs.length→Pv i σ' H'→SqL K H' a xs)
  (hs:∀ i x σ' H',xs[i]?=some x→Pv i σ' H'→g x σ' H' fun σ3 H3=>tt σ3 H3 fun c H4=>if c=true then te σ3 H4 fun y H5=>∃ ys,H5 p=some (.lst ys)∧ys.length < sizeLine∧Pv (i+1) σ3 (upd H5 p (.lst (ys++[y]))) else Pv (i+1) σ3 H4)
  (hd:∀ σ' H',Pv xs.length σ' H'→Q (.ref p) H'):Yp (Itl K a) p g tt te Q σ H:=
 ZQ (Itl K a) xs.length Pv h0 (fun σ' H' pv=>⟨xs,hl _ σ' H' (Nat.le_refl _) pv,Nat.le_refl _⟩) (fun i σ' H' h pv=>⟨xs,xs[i],hl i σ' H' (Nat.le_of_lt h) pv,by simp [h]⟩) (fun i σ' H' h pv x H2 y=>by
  obtain ⟨e1,e2⟩:=y
  subst e1
  exact hs i x σ' _ (e2 xs (hl i σ' _ (Nat.le_of_lt h) pv)) pv) hd
end
inductive D where
 | int (i:Int) | str (x:Str) | tup (ds:List D)
mutual
def Held (H:Hp):D→V→Prop
 | .int i,v=>v=.int i
 | .str x,v=>v=.str x
 | .tup ds,v=>∃ a xs,v=.ref a∧H a=some (.tup xs)∧HeldL H ds xs
def HeldL (H:Hp):List D→List V→Prop
 | [],vs=>vs=[]
 | d :: ds,vs=>∃ v r,vs=v :: r∧Held H d v∧HeldL H ds r
end
mutual
theorem Held.mono {H H':Hp} (e:Same H H'):∀ {d:D} {v:V},Held H d v→Held H' d v
 | .int i,v,h=>by unfold Held at h ⊢;exact h
 | .str x,v,h=>by unfold Held at h ⊢;exact h
 | .tup ds,v,h=>by
  unfold Held at h ⊢
  obtain ⟨a,xs,e1,e2,e3⟩:=h
  exact ⟨a,xs,e1,e a _ e2,HeldL.mono e e3⟩
theorem HeldL.mono {H H':Hp} (e:Same H H'):∀ {ds:List D} {vs:List V},HeldL H ds vs→HeldL H' ds vs
 | [],vs,h=>by unfold HeldL at h ⊢;exact h
 | d :: ds,vs,h=>by
  unfold HeldL at h ⊢
  obtain ⟨v,r,e1,e2,e3⟩:=h
  exact ⟨v,r,e1,Held.mono e e2,HeldL.mono e e3⟩
end
theorem jM {H:Hp} {i:Int}:Held H (.int i) (.int i):=by unfold Held;rfl
theorem jD {H:Hp} {x:Str}:Held H (.str x) (.str x):=by unfold Held;rfl
theorem jL {H:Hp} {a:Addr} {xs:List V} {ds:List D} (e:H a=some (.tup xs)) (h:HeldL H ds xs):Held H (.tup ds) (.ref a):=by unfold Held;exact ⟨a,xs,rfl,e,h⟩
theorem jt {H:Hp}:HeldL H [] []:=by unfold HeldL;rfl
theorem jf {H:Hp} {d:D} {ds:List D} {v:V} {r:List V} (h:Held H d v) (t:HeldL H ds r):HeldL H (d :: ds) (v :: r):=by unfold HeldL;exact ⟨v,r,rfl,h,t⟩
theorem HeldL.length {H:Hp}:∀ {ds:List D} {vs:List V},HeldL H ds vs→ds.length=vs.length
 | [],vs,h=>by unfold HeldL at h;subst h;rfl
 | d :: ds,vs,h=>by
  unfold HeldL at h
  obtain ⟨v,r,e1,_,e3⟩:=h
  subst e1
  rw [List.length_cons,List.length_cons,HeldL.length e3]
theorem HeldL.get {H:Hp}:∀ {ds:List D} {vs:List V} {j:Nat} {d:D},HeldL H ds vs→ds[j]?=some d→∃ v,vs[j]?=some v∧Held H d v
 | [],_,_,_,_,e=>by simp at e
 | d :: ds,vs,0,d',h,e=>by
  unfold HeldL at h
  obtain ⟨v,r,e1,e2,e3⟩:=h
  simp at e;subst e e1
  exact ⟨v,rfl,e2⟩
 | d :: ds,vs,j+1,d',h,e=>by
  unfold HeldL at h
  obtain ⟨v,r,e1,e2,e3⟩:=h
  subst e1
  obtain ⟨w,h1,h2⟩:=HeldL.get (j:=j) (d:=d') e3 (by simpa using e)
  exact ⟨w,by simpa using h1,h2⟩
mutual
def D.depth:D→Nat
 | .int _=>0
 | .str _=>0
 | .tup ds=>D.depthL ds+1
def D.depthL:List D→Nat
 | []=>0
 | d :: ds=>max (D.depth d) (D.depthL ds)
end
theorem D.depthL_get:∀ {ds:List D} {j:Nat} {d:D},ds[j]?=some d→d.depth≤D.depthL ds
 | [],_,_,e=>by simp at e
 | d :: ds,0,d',e=>by simp at e;subst e;unfold D.depthL;exact Nat.le_max_left _ _
 | d :: ds,j+1,d',e=>by unfold D.depthL;exact Nat.le_trans (D.depthL_get (j:=j) (by simpa using e)) (Nat.le_max_right _ _)
section
variable {prog:Program} {w:World} {A:Around} {E:Value→Shared→Prop}
theorem Y0 {it t:Addr} {items:Array Value} (hne:t≠it):∀ (n i:Nat) (s:Shared) (Q:List Value→Shared→Prop),s.heap.IsListIter it t i→s.heap.IsList t items→i+n≤items.size→
  (∀ h',h'.IsListIter it t (i+n)→Heap.SameBut it s.heap h'→Q ((items.toList.drop i).take n) { s with heap:=h' })→wpAny (model prog w) A (draw (.ref it) n) Q E s
 | 0,i,s,Q,hit,_,_,hQ=>by
  show wpAny _ _ (pure []) Q E s
  exact wpAny_pure (by simpa using hQ s.heap hit (Heap.SameBut.refl ..))
 | n+1,i,s,Q,hit,ht,hle,hQ=>by
  have hlt:i < items.size:=by omega
  show wpAny _ _ (pyNext (.ref it) >>= _) Q E s
  refine wpAny_bind (wpAny_pyNext_list_item hit ht (x:=items[i]) (by simp [hlt]) fun h1 hit1 hs1=>?_)
  refine wpAny_bind (wpAny_holding (Y0 hne n (i+1) _ _ hit1 (ht.extBut hs1.extBut hne) (by omega) fun h2 hit2 hs2=>wpAny_pure ?_))
  have hd:items.toList.drop i=items[i] :: items.toList.drop (i+1):=by simp [List.drop_eq_getElem_cons,hlt]
  have:=hQ h2 (by rw [show i+(n+1)=i+1+n by omega];exact hit2) (hs1.trans hs2)
  rw [hd,List.take_succ_cons] at this
  exact this
theorem JB {s:Shared} {t:Addr} {items:Array Value} {Q:List Value→Shared→Prop} (hh:A.handled=none) (ht:s.heap.IsList t items)
  (hQ:∀ h',Heap.ExtBut s.heap.objs.size s.heap h'→Q items.toList { s with heap:=h' }):wpAny (model prog w) A (unpackItems (.ref t) items.size none) Q E s:=by
 have hlt:t≠s.heap.objs.size:=by obtain ⟨o,ho,_⟩:=ht;exact Nat.ne_of_lt (Heap.lt_size ho)
 unfold unpackItems
 refine wpAny_bind ?_
 unfold notIterableAtAll
 refine wpAny_bind (wpAny_specialOf ht.typeIs slot_list_iter.lookup ?_)
 refine wpAny_pure ?_
 simp only [Bool.false_eq_true,if_false]
 refine wpAny_bind (wpAny_holding (wpAny_pyIter_list ht ?_))
 refine wpAny_bind (wpAny_holding (Y0 hlt items.size 0 _ _ ⟨_,Heap.get?_push_size _ rfl,rfl,rfl⟩ (ht.at fun o e=>Heap.get?_push_of_some _ e) (by omega) fun h1 hit1 hs1=>?_))
 have hall:List.take items.size (List.drop 0 items.toList)=items.toList:=by
  rw [List.drop_zero];exact List.take_of_length_le (by simp)
 rw [hall]
 rw [if_neg (by simp)]
 have ht1:h1.IsList t items:=(ht.at fun o e=>Heap.get?_push_of_some _ e).extBut hs1.extBut hlt
 refine wpAny_bind (wpAny_holding (wpAny_pyNext_list_end hh hit1 ht1 (by simp) fun h2 he2=>?_))
 simp only [Option.isSome_none,Bool.false_eq_true,if_false]
 refine wpAny_pure (hQ h2 fun b o hb e=>he2 b o hb (hs1.extBut b o hb (Heap.get?_push_of_some _ e)))
theorem Jx {s:Shared} {env:Env} {elts:List Expr} {x1} {pos:Pos} {t:Addr} {items:Array Value} {Q:Unit→Shared→Prop} (hh:A.handled=none) (ht:s.heap.IsList t items)
  (hn:(assignEach elts env).length=items.size) (hstar:(assignEach elts env).findIdx? (·.1)=none)
  (h:∀ h',Heap.ExtBut s.heap.objs.size s.heap h'→wpAny (model prog w) A (assignInOrder ((assignEach elts env).map (·.2)) items.toList) Q E { s with heap:=h' }) :
  wpAny (model prog w) A (assign (.Tuple elts x1 pos) env (.ref t)) Q E s:=by
 rw [assign_Tuple]
 refine wpAny_bind (wpAny_standAt ?_)
 unfold unpack
 rw [hn,hstar]
 exact wpAny_bind (wpAny_holding (JB hh ht h))
end
def jh5 (K:PySem.W.Frag) (n:Nat) (t:TGs):TG:=fun v σ H Q=>∃ a xs,v=.ref a∧SqL K H a xs∧xs.length=n∧t xs σ H Q
theorem jgR {X:Cx} {pos:Pos} {es:List Expr} {k:Nat} {t:TGs} {n:Nat} (hc:X.calm=true) (h:PGs X es t)
  (hn:(assignEach es X.env).length=n:=by rfl) (hst:(assignEach es X.env).findIdx? (·.1)=none:=by rfl):PG X (.Tuple es k pos) (jh5 X.K n t):=by
 intro pins s σ H v u Q I r hw
 obtain ⟨a,xs,e1,hq,hl,hw⟩:=hw
 subst e1
 cases r
 obtain ⟨its,rv,ht,hz⟩:=I.list hq
 refine Jx (I.ok.hd hc) ht.isList (by simp [hn,← hl,rv.length]) hst fun h' hx=>?_
 have I1:Inv X pins σ H { s with heap:=h' }:=I.kept (t':=s.toks) fun b o e=>hx b o (Nat.ne_of_lt (Heap.lt_size e)) e
 exact h pins _ σ H xs _ Q I1 (by simpa using rv) hw
theorem kN {X:Cx}:OpR X (binaryOp .FloorDiv) (rI (fun _ j=>0 < j∧j < 2 ^ 200) fun i j=>.int (i / j)):=opI fun i j _ _ _ _ _ hc q=>by
 refine floordiv_int (by omega) ?_ (.inl (PyProof.noPylong_of_log2 ?_))
 ·rw [Int.fdiv_eq_ediv_of_nonneg _ (by omega)]
  exact q
 ·have h0:j.natAbs≠0:=by omega
  exact Nat.lt_trans ((Nat.log2_lt h0).mpr (show j.natAbs < 2 ^ 200 by omega)) (by decide)
theorem yA {X:Cx}:q8 X (.builtin "isinstance") (fun xs H Q=>∃ x t T b,xs=[x,.ty T]∧TyOf X.K H x t∧PySem.W.kitOne X.K t (.type T)=some b∧Q (.bl b) H):=by
 intro pins s σ H xs us Q I r h
 obtain ⟨x,t,T,b,rfl,ty,e,q⟩:=h
 obtain ⟨u,v,rfl,ru,rv⟩:=jdA r
 cases rv
 exact jc7 I ru ty e fun tk=>⟨.bl b,H,I.tok _,rfl,q⟩
theorem jg6 (K:PySem.W.Frag):PySem.W.kitOne K (.type "tuple") (.type "tuple")=some true:=rfl
theorem jg7 (K:PySem.W.Frag):PySem.W.kitOne K (.type "int") (.type "int")=some true:=rfl
theorem jg8 (K:PySem.W.Frag):PySem.W.kitOne K (.type "int") (.type "bool")=some false:=rfl
def qj:Expr→Bool
 | .Starred _ _=>false
 | _=>true
theorem zn {e:Expr} (h:qj e=true) (jE:List Expr) (env:Env):starEach (e :: jE) env=(false,eval e env) :: starEach jE env:=by
 cases e <;> first | rfl | cases h
theorem JG (pos:Pos) (env:Env):∀ es:List Expr,es.all qj=true→(backTo pos (starEach es env)).any (·.1)=false
 | [],_=>rfl
 | e :: es,h=>by
  rw [List.all_cons,Bool.and_eq_true] at h
  rw [zn h.1]
  have ih:=JG pos env es h.2
  show (false || (backTo pos (starEach es env)).any (·.1))=false
  rw [ih]
  rfl
theorem ju {X:Cx} {e:Expr} {es:List Expr} {te:TE} {t:TA} (ha:PE X e te) (hr:PA X es t) (hp:qj e=true:=by rfl):PA X (e :: es) (jbS te t):=jfC ha hr (zn hp es X.env)
theorem Jo {X:Cx} {x:Str} {p pos:Pos} {e:Expr} {es:List Expr} {t:TA} {id:String} {r:List V→Hp→VK→Prop} (hc:q8 X (.builtin id) r) (hg:Gl X x) (hm:X.mg x=none) (hv:bootBuiltins x=some (.builtin id)) (ha:PA X (e :: es) t) (hp:(e :: es).all qj=true:=by rfl) (hn:x≠"__name__":=by decide) (hdb:(x == ("__debug__" : Str))=false:=by decide) :
  PE X (.Call (.Name x p) (e :: es) [] pos) (tCB r t):=by
 rw [List.all_cons,Bool.and_eq_true] at hp
 exact jd9 hc hg hm hv ha hn hdb (zn hp.1 es X.env) (JG pos X.env es hp.2)
theorem Jn {X:Cx} {x:Str} {p pos:Pos} {e:Expr} {es:List Expr} {t:TA} {T:String} {r:List V→Hp→VK→Prop} (hc:q8 X (.type T) r) (hg:Gl X x) (hm:X.mg x=none) (hv:bootBuiltins x=some (.type T)) (ha:PA X (e :: es) t) (hp:(e :: es).all qj=true:=by rfl) (hn:x≠"__name__":=by decide) (hdb:(x == ("__debug__" : Str))=false:=by decide) :
  PE X (.Call (.Name x p) (e :: es) [] pos) (tCB r t):=by
 rw [List.all_cons,Bool.and_eq_true] at hp
 exact jcP hc hg hm hv ha hn hdb (zn hp.1 es X.env) (JG pos X.env es hp.2)
structure Fn (P:Program) (w:World) (K:PySem.W.Frag) (mg:Str→Option Value) (base:Heap) (k:Nat) (x:Str) (ps:List Str) (sp:Sp):Prop where
 ex:∃ f fd,FnOk P w K mg base CX0 k f fd ps sp∧Binds K fd ps []∧PySem.W.keepIn K (.ref f)=true∧mg x=some (.ref f)
theorem kP {X:Cx} {k k':Nat} {x:Str} {ps:List Str} {sp:Sp} {e:Expr} {es:List Expr} {t:TA} {p pos:Pos} (F:Fn X.prog X.w X.K X.mg X.base k x ps sp) (hr:Room k' X.A) (ha:PA X (e :: es) t) (hk:k≤k':=by decide) (hg:Gl X x:=by rfl)
  (hd:(x == ("__debug__" : Str))=false:=by decide) (hp:(e :: es).all qj=true:=by rfl):PE X (.Call (.Name x p) (e :: es) [] pos) (jdH sp [] E0 t):=by
 obtain ⟨f,fd,G,b,kp,m⟩:=F.ex
 rw [List.all_cons,Bool.and_eq_true] at hp
 exact jfA G (hr.mono hk) hg m kp b .nil jgo ha hd (zn hp.1 es X.env) (JG pos X.env es hp.2)
theorem Fn.mk' {P:Program} {w:World} {K:PySem.W.Frag} {mg:Str→Option Value} {base:Heap} {k:Nat} {x:Str} {ps:List Str} {sp:Sp} {st:Stmt} {f:Addr} {fd:FuncData} (F:Fun K x x st f fd) (b:Binds K fd ps []) (m:mg x=some (.ref f)) (G:FnOk P w K mg base CX0 k f fd ps sp):Fn P w K mg base k x ps sp:=⟨f,fd,G,b,F.kp,m⟩
theorem qf {X:Cx} {scope:Scope} {fr:List Nat} {sc:Scope} {N:List Str} (h1:X.env.scope=sc) (h2:X.N=N) (h:scope.kind=.function∧(∀ y∈scope.names,y.2≠.cell)∧(∀ y∈scope.names,y.2=.local→scope.names.lookup y.1=some .local)∧
  (∀ y∈scope.names,y.2=.free→sc.names.lookup y.1=some .cell∨sc.names.lookup y.1=some .free)∧∀ j∈fr,scope.names.lookup (N.getD j (Str.ofString ""))=some .free):CompOk X scope fr:=by
 obtain ⟨a,b,c,d,e⟩:=h
 exact ⟨a,b,c,by rw [h1];exact d,by rw [h2];exact e⟩
theorem q5:bootBuiltins "len" = some (.builtin "len"):=by decide +kernel
theorem zD:bootBuiltins "isinstance" = some (.builtin "isinstance"):=by decide +kernel
theorem Y2:bootBuiltins "sorted" = some (.builtin "sorted"):=by decide +kernel
theorem ZS:bootBuiltins "int" = some (.type "int"):=by decide +kernel
theorem jf6:bootBuiltins "bool" = some (.type "bool"):=by decide +kernel
theorem qL:bootBuiltins "tuple" = some (.type "tuple"):=by decide +kernel
theorem jcp:bootBuiltins "list" = some (.type "list"):=by decide +kernel
theorem ZU:bootBuiltins "dict" = some (.type "dict"):=by decide +kernel
theorem jhk:bootBuiltins "set" = some (.type "set"):=by decide +kernel
structure Free0 (mg:Str→Option Value):Prop where
 len_:mg "len" = none
 max_:mg "max" = none
 min_:mg "min" = none
 all_:mg "all" = none
 isinstance_:mg "isinstance" = none
 abs_:mg "abs" = none
 sorted_:mg "sorted" = none
 int_:mg "int" = none
 str_:mg "str" = none
 bool_:mg "bool" = none
 tuple_:mg "tuple" = none
 list_:mg "list" = none
 dict_:mg "dict" = none
 range_:mg "range" = none
 set_:mg "set" = none
theorem jey {X:Cx} {K:PySem.W.Frag} (h:X.K=K:=by rfl):IxR X (jhM K):=by subst h;exact kg
theorem jcc {X:Cx} {K:PySem.W.Frag} (h:X.K=K:=by rfl):IxR X (jhL K):=by subst h;exact jP
theorem jfv {X:Cx} {K:PySem.W.Frag} {pos:Pos} {es:List Expr} {k:Nat} {t:TGs} {n:Nat} (hc:X.calm=true) (h:PGs X es t) (hK:X.K=K:=by rfl)
  (hn:(assignEach es X.env).length=n:=by rfl) (hst:(assignEach es X.env).findIdx? (·.1)=none:=by rfl):PG X (.Tuple es k pos) (jhf K n t):=by subst hK;exact qO hc h hn hst
structure QS (X:Cx) (st:Stmt) (t:TS):Prop where
 h:PS X st t
structure QSs (X:Cx) (st:List Stmt) (t:TS):Prop where
 h:PSs X st t
theorem qs {X:Cx} {st:Stmt} {t:TS} (h:PS X st t):QS X st t:=⟨h⟩
theorem qU {X:Cx} {st:Stmt} {jE:List Stmt} {t u:TS} (h1:QS X st t) (h2:QSs X jE u):QSs X (st :: jE) (jgy t u):=⟨jo h1.h h2.h⟩
theorem jfp {X:Cx} {st:Stmt} {t:TS} (h1:QS X st t):QSs X [st] t:=⟨jB h1.h⟩
theorem Same.sqT {K:PySem.W.Frag} {H H':Hp} {a:Addr} {xs:List V} (e:Same H H') (h:SqT K H a xs):SqT K H' a xs:=by
 rcases h with (h | ⟨o,h⟩) | h
 ·exact .inl (.inl (e _ _ h))
 ·exact .inl (.inr ⟨o,e _ _ h⟩)
 ·exact .inr h
theorem jaH:∀ {ns:List Int} {its:List Value},Vals (ns.map V.int) its→IntsAre its ns
 | [],_,r=>by cases r;exact .nil
 | n :: ns,_,r=>by
  cases r with
  | cons h r=>
   obtain ⟨t,rfl⟩:=h
   exact .cons n t (jaH r)
theorem jes:64≤(sizeLine:Nat):=by rw [sizeLine_eq];decide
theorem J2 {X:Cx}:OpR X (binaryOp .Add) (fun x y H Q=>∃ a b xs ys,x=.ref a∧y=.ref b∧SqL X.K H a xs∧SqL X.K H b ys∧xs.length+ys.length≤sizeLine∧∀ l,H l=none→Q (.ref l) (upd H l (.lst (xs++ys)))):=by
 intro pins s σ H x y v u Q I rx ry h
 obtain ⟨a,b,xs,ys,rfl,rfl,ha,hb,hz,q⟩:=h
 cases rx;cases ry
 obtain ⟨its,rv,⟨⟨c1,d1,t1,l1⟩,n1,o1,z1,z2,z3⟩,hz1⟩:=I.list ha
 obtain ⟨its2,rv2,⟨⟨c2,d2,t2,l2⟩,n2,o2,y1,y2,y3⟩,hz2⟩:=I.list hb
 simp only at z1 z2 z3 y1 y2 y3
 subst z1 z2 z3 y1 y2 y3
 have h1:=rv.length
 have h2:=rv2.length
 refine concat_meets ⟨_,o1,rfl⟩ ⟨_,o2,rfl⟩ noFill_list_add seq_list_add PySem.F.slot_list_add PySem.F.entry_list_add (PySem.F.args_list_add_2 _ _)
  (list_addW a b its.toArray its2.toArray n1 n2 none none l1 l2 (by simp only [List.size_toArray];omega)) ⟨o1,o2,?_⟩
 have e:its.toArray++its2.toArray=(its++its2).toArray:=by simp
 rw [e]
 refine ⟨.ref s.heap.objs.size,_,I.laid (t':=s.toks) (fun b u hb=>Heap.get?_push_of_some _ hb) (Nat.le_refl _) (show ObjOk X.prog X.w _ _ _ (.lst (xs++ys)) from ⟨?_,its++its2,0,rv.append rv2,Heap.get?_push_size _ rfl⟩),rfl,q _ (I.hok.fresh (Nat.le_refl _))⟩
 rw [List.length_append]
 exact hz
open PySem PySem.Spec PyProof.Rows PySem.W
def OkP (N:Nat) (p:Array Nat):Prop:=p.toList.Perm (List.range N)
theorem OkP.size {N:Nat} {p:Array Nat} (h:OkP N p):p.size=N:=by
 have:=h.length_eq
 rw [List.length_range] at this
 simpa using this
def PairAt (h:Heap) (v:Value) (q:Int×Int):Prop:=∃ (c:Addr) (o:Obj) (t u:Tok) (k:Nat),v=.ref c∧h.get? c=some o∧o.cls=.type "tuple"∧o.data=.seq #[.int q.1 t,.int q.2 u] k
theorem PairAt.kept {h h':Heap} {v:Value} {q:Int×Int} (x:PairAt h v q) (k:∀ b o,h.get? b=some o→o.cls=.type "tuple"→h'.get? b=some o):PairAt h' v q:=by
 obtain ⟨c,o,t,u,n,e1,e2,e3,e4⟩:=x
 exact ⟨c,o,t,u,n,e1,k c o e2 e3,e3,e4⟩
section
variable {prog:Program} {w:World} {A:Around} {E:Value→Shared→Prop} {s:Shared}
theorem jds {vs:List Value} {ps:List (Int×Int)} (hl:vs.length=ps.length) (hv:∀ i (h:i < ps.length),PairAt s.heap (vs.getD i Value.none) ps[i]) (nd:(ps.map (·.1)).Nodup) {i j:Nat} {C:Bool→Shared→Prop} (hi:i < ps.length) (hj:j < ps.length)
  (h:C (decide ((ps.getD i (0,0)).1 < (ps.getD j (0,0)).1)) s):kas_ask prog w A (tuples' true) vs i j C s:=by
 unfold kas_ask
 obtain ⟨c,o,t,u,n,e1,e2,e3,e4⟩:=hv i hi
 obtain ⟨c',o',t',u',n',f1,f2,f3,f4⟩:=hv j hj
 rw [e1,f1]
 have gi:ps.getD i (0,0)=ps[i]:=by simp [hi]
 have gj:ps.getD j (0,0)=ps[j]:=by simp [hj]
 rw [gi,gj] at h
 refine kat_lt e2 e4 f2 f4 ?_
 refine kat_cons (wpAny_eqBool_int ?_)
 by_cases hij:i=j
 ·subst hij
  rw [beq_self_eq_true]
  refine kat_yes (kat_cons (wpAny_eqBool_int ?_))
  rw [beq_self_eq_true]
  refine kat_yes (kat_nil ?_)
  rw [decide_eq_false (Int.lt_irrefl _)] at h
  exact h
 ·have ne:ps[i].1≠ps[j].1:=by
   have pw:=List.pairwise_iff_getElem.mp nd
   rcases Nat.lt_or_ge i j with z | z
   ·have:=pw i j (by simpa using hi) (by simpa using hj) z
    simpa using this
   ·have:=pw j i (by simpa using hj) (by simpa using hi) (by omega)
    intro e
    exact this (by simpa using e.symm)
  rw [beq_eq_false_iff_ne.mpr ne]
  exact kat_no (oneLt_int h)
theorem KP {h:Heap}:∀ {vs:List Value} {ps:List (Int×Int)},vs.length=ps.length→(∀ i (hi:i < ps.length),PairAt h (vs.getD i Value.none) ps[i])→∃ fs,KatTups h vs fs∧fs.length=ps.length∧∀ v∈fs,∃ x t,v=Value.int x t
 | [],[],_,_=>⟨[],KatTups.nil,rfl,fun v h=>absurd h (by simp)⟩
 | v :: vs,q :: ps,hl,hv=>by
  obtain ⟨fs,h1,h2,h3⟩:=KP (vs:=vs) (ps:=ps) (by simpa using hl) fun i hi=>by
   have:=hv (i+1) (by simpa using hi)
   simpa using this
  obtain ⟨c,o,t,u,n,e1,e2,e3,e4⟩:=hv 0 (by simp)
  have e1':v=.ref c:=by simpa using e1
  subst e1'
  refine ⟨.int q.1 t :: fs,KatTups.cons e2 e3 e4 (by simp) h1,by simp [h2],fun v hv=>?_⟩
  rcases List.mem_cons.mp hv with rfl | hv
  ·exact ⟨_,_,rfl⟩
  ·exact h3 v hv
 | [],_ :: _,hl,_=>by simp at hl
 | _ :: _,[],hl,_=>by simp at hl
end
def PairsL (K:PySem.W.Frag) (H:Hp) (qs:List V) (ps:List (Int×Int)):Prop:=qs.length=ps.length∧∀ i (h:i < ps.length),∃ c,qs[i]?=some (.ref c)∧SqT K H c [.int ps[i].1,.int ps[i].2]
theorem PairsL.mono {K:PySem.W.Frag} {H H':Hp} {qs:List V} {ps:List (Int×Int)} (e:Same H H') (h:PairsL K H qs ps):PairsL K H' qs ps:=⟨h.1,fun i hi=>by
 obtain ⟨c,e1,e2⟩:=h.2 i hi
 exact ⟨c,e1,e.sqT e2⟩⟩
end L2
namespace PySem
open Sem (wp)
namespace F
theorem sub_attr_attr:isSubtype (.type "AttributeError") (.type "AttributeError")=pure true:=by rw [isSubtype_type];kernel_rfl
end F
section
variable {prog:Program} {w:World} {A:Around} {E:Value→Shared→Prop} {h:Heap} {g:Array GenState} {d:Drawn} {t:Nat} {os:OsState} {a:Addr} {its:Array Value} {n:Nat} {sl:Array (Option Value)}
theorem jbL {α:Type} {m:Str} {Q:α→Shared→Prop} (hm:m.length≤sizeLine) (hh:A.handled=none)
   (hq:∀ h' t' e,(∀ b u,h.get? b=some u→h'.get? b=some u)→(∃ oe,h'.get? e=some oe∧oe.cls=.type "AttributeError")→E (.ref e) ⟨h',g,d,t',os⟩) :
  wpAny (model prog w) A (raiseAttrError (.ref a) (Str.ofString "keys") m:Sem α) Q E ⟨h,g,d,t,os⟩:=by
 unfold raiseAttrError
 refine wpAny_bind (wpAny_mkStr (wpAny_bind ?_) hm)
 unfold newExc newTuple
 refine wpAny_bind (wpAny_newObj_type ?_ (by show 1≤sizeLine;rw [sizeLine_eq];decide))
 refine wpAny_bind (m:=firstArgMember _ _) (wpAny_of_eq (a:=Value.none) (by kernel_rfl) ?_)
 refine wpAny_newObj_type ?_ (by size_fits)
 refine wpAny_bind (wpAny_mkText ?_)
 dsimp only
 have hsub:isSubtype (.type "AttributeError") (.type "AttributeError")=pure true:=by rw [isSubtype_type];kernel_rfl
 generalize hf:(#[Value.ref h.objs.size,Value.none,Value.none,Value.none,Value.bool false,Value.none]++ownMembersOf (Value.type "AttributeError") [Value.str m t])=fs
 have e1:((h.push { cls:=.type "tuple",data:=.seq #[Value.str m t] }).push { cls:=.type "AttributeError",data:=.fields fs }).get? (h.push { cls:=.type "tuple",data:=.seq #[Value.str m t] }).objs.size=some { cls:=.type "AttributeError",data:=.fields fs }:=Heap.get?_push_size _ rfl
 have old:∀ b u,h.get? b=some u→((h.push { cls:=.type "tuple",data:=.seq #[Value.str m t] }).push { cls:=.type "AttributeError",data:=.fields fs }).get? b=some u:=fun b u q=>Heap.get?_push_of_some _ (Heap.get?_push_of_some _ q)
 have oldn:∀ b u,h.get? b=some u→b≠(h.push { cls:=.type "tuple",data:=.seq #[Value.str m t] }).objs.size:=fun b u q=>Nat.ne_of_lt (Heap.lt_size (Heap.get?_push_of_some _ q))
 generalize ((h.push { cls:=.type "tuple",data:=.seq #[Value.str m t] }).push { cls:=.type "AttributeError",data:=.fields fs })=h2 at *
 generalize (h.push { cls:=.type "tuple",data:=.seq #[Value.str m t] }).objs.size=e at *
 refine wpAny_bind ?_
 have hT:(⟨h2,g,d,t+1+1,os⟩:Shared).TypeIs (.ref e) "AttributeError":=⟨_,e1,rfl⟩
 unfold noteAttr
 dsimp only
 refine wpAny_bind ?_
 unfold lacksNameAndObj
 dsimp only
 refine wpAny_bind (wpAny_isInstance hT hsub ?_)
 simp only [Bool.not_true,Bool.false_eq_true,if_false]
 refine wpAny_bind (wpAny_load e1 ?_)
 dsimp only
 have e6:fs[6]?=some unsetMember:=by rw [← hf];rfl
 have e7:fs[7]?=some unsetMember:=by rw [← hf];rfl
 rw [if_neg (by rw [e6,e7];decide),if_neg (by rw [e6,e7];decide)]
 refine wpAny_pure ?_
 rw [if_pos rfl]
 refine wpAny_bind (wpAny_rule (wpAny_bind (wpAny_typeOf hT ?_)))
 dsimp only
 unfold layMembers
 refine wpAny_bind (wpAny_load e1 ?_)
 dsimp only
 refine wpAny_update e1 ?_
 unfold raiseNew
 refine wpAny_bind (wpAny_handled ?_)
 rw [hh]
 refine wpAny_bind (wpAny_pure (wpAny_throw ?_))
 refine hq _ _ e (fun b u q=>?_) ⟨_,Heap.get?_update_self _ e1 rfl,rfl⟩
 rw [Heap.get?_update_ne _ _ _ _ (oldn b u q)]
 exact old b u q
end
end PySem
namespace L2
open PySem PySem.Spec PyProof.Rows PySem.W
theorem yz:entryFor table "dict.update.loop" = some Builtin.«dict.update.loop»:=entryFor_of_tree (by kernel_rfl)
theorem qF:plainId "dict.update.loop" = true:=by decide +kernel
section
variable {prog:Program} {w:World} {A:Around} {E:Value→Shared→Prop} {R:Result→Shared→Prop}
theorem jfX {kvs:List (Key×V)} {vs:List (Key×Value)} (r:KV kvs vs):vs.map (·.1)=kvs.map (·.1):=by
 unfold KV at r
 induction r with
 | nil=>rfl
 | cons h _ ih=>rw [List.map_cons,List.map_cons,ih,h.1]
theorem jfW {kvs:List (Key×V)} {vs:List (Key×Value)} {k:Key} {x:V} {v:Value} (r:KV kvs vs) (h:RelV x v):KV (kvs++[(k,x)]) (vs++[(k,v)]):=by
 unfold KV at r ⊢
 induction r with
 | nil=>exact .cons ⟨rfl,h⟩ .nil
 | cons h' _ ih=>exact .cons h' ih
end
def pD (q:Int×Int):D:=.tup [.int q.1,.int q.2]
theorem jaG:∀ (vs:List Value),(∀ v∈vs,∃ x t,v=.int x t)→∃ ns,IntsAre vs ns
 | [],_=>⟨[],.nil⟩
 | v :: vs,h=>by
  obtain ⟨x,t,rfl⟩:=h v List.mem_cons_self
  obtain ⟨ns,hn⟩:=jaG vs fun u hu=>h u (List.mem_cons_of_mem _ hu)
  exact ⟨x :: ns,.cons x t hn⟩
abbrev Up (xs:Array Nat):Prop:=xs.toList.Pairwise (· < ·)
structure TabOk (led:Bool) (t:SetTable):Prop where
 led_:t.led=led
 none_:t.dummies=#[]
 up:Up t.place
theorem jbP {xs:Array Nat} (h:Up xs) {i j:Nat} (hij:i < j) (hj:j < xs.size):xs.getD i 0 < xs.getD j 0:=by
 have hi:i < xs.size:=by omega
 have:=List.pairwise_iff_getElem.mp h i j (by simpa using hi) (by simpa using hj) hij
 simpa [Array.getD,hi,hj] using this
theorem Yk {xs:Array Nat} (h:Up xs) (j:Nat):∀ (f lo hi:Nat),lo≤hi→hi≤xs.size→hi≤lo+f→(∀ i,i < lo→xs.getD i 0 < j)→(∀ i,hi≤i→i < xs.size→j≤xs.getD i 0)→
  (SetTable.below.go xs j f lo hi)≤xs.size∧(∀ i,i < SetTable.below.go xs j f lo hi→xs.getD i 0 < j)∧∀ i,SetTable.below.go xs j f lo hi≤i→i < xs.size→j≤xs.getD i 0
 | 0,lo,hi,h1,h2,h3,a,b=>by
  unfold SetTable.below.go
  exact ⟨by omega,a,fun i hi'=>b i (by omega)⟩
 | f+1,lo,hi,h1,h2,h3,a,b=>by
  unfold SetTable.below.go
  by_cases e:lo < hi
  ·rw [if_pos e]
   dsimp only
   have hm:(lo+hi) / 2 < xs.size:=by omega
   have eg:xs.getD ((lo+hi) / 2) j=xs.getD ((lo+hi) / 2) 0:=by simp [Array.getD,hm]
   rw [eg]
   by_cases c:xs.getD ((lo+hi) / 2) 0 < j
   ·rw [if_pos c]
    refine Yk h j f ((lo+hi) / 2+1) hi (by omega) h2 (by omega) (fun i hi'=>?_) b
    rcases Nat.lt_or_ge i ((lo+hi) / 2) with z | z
    ·exact Nat.lt_trans (jbP h z hm) c
    ·have:i=(lo+hi) / 2:=by omega
     subst this
     exact c
   ·rw [if_neg c]
    refine Yk h j f lo ((lo+hi) / 2) (by omega) (by omega) (by omega) a fun i hi' hs=>?_
    rcases Nat.lt_or_ge ((lo+hi) / 2) i with z | z
    ·exact Nat.le_trans (Nat.le_of_not_lt c) (Nat.le_of_lt (jbP h z hs))
    ·have:i=(lo+hi) / 2:=by omega
     subst this
     exact Nat.le_of_not_lt c
  ·rw [if_neg e]
   exact ⟨by omega,a,fun i hi'=>b i (by omega)⟩
theorem Yj {xs:Array Nat} (h:Up xs) (j:Nat):SetTable.below xs j≤xs.size∧(∀ i,i < SetTable.below xs j→xs.getD i 0 < j)∧∀ i,SetTable.below xs j≤i→i < xs.size→j≤xs.getD i 0:=
 Yk h j xs.size 0 xs.size (Nat.zero_le _) (Nat.le_refl _) (by omega) (fun i h=>by omega) fun i h1 h2=>by omega
theorem jfZ {xs:Array Nat} {i:Nat} (h:i < xs.size):xs[i]?=some (xs.getD i 0):=by simp [Array.getD,h]
theorem jc9 {xs:Array Nat} (h:Up xs) {j:Nat} (hj:xs[SetTable.below xs j]?≠some j):Up (SetTable.insertAt xs (SetTable.below xs j) j):=by
 obtain ⟨b1,b2,b3⟩:=Yj h j
 unfold Up
 rw [SetTable.toList_insertAt]
 have hd:∀ x∈xs.toList.drop (SetTable.below xs j),j < x:=fun x hx=>by
  obtain ⟨i,hi,rfl⟩:=List.mem_iff_getElem.mp hx
  rw [List.length_drop] at hi
  rw [List.getElem_drop]
  have hs:SetTable.below xs j+i < xs.size:=by simpa using (by omega:SetTable.below xs j+i < xs.toList.length)
  have e:xs.toList[SetTable.below xs j+i]'(by simpa using hs)=xs.getD (SetTable.below xs j+i) 0:=by simp [Array.getD,hs]
  rw [e]
  have ge:=b3 (SetTable.below xs j+i) (by omega) hs
  rcases Nat.lt_or_ge j (xs.getD (SetTable.below xs j+i) 0) with z | z
  ·exact z
  ·have eq:xs.getD (SetTable.below xs j+i) 0=j:=by omega
   rcases Nat.eq_zero_or_pos i with rfl | hp
   ·exact absurd (by rw [Nat.add_zero] at eq hs;rw [jfZ hs,eq]) hj
   ·have:=jbP h (i:=SetTable.below xs j) (j:=SetTable.below xs j+i) (by omega) hs
    have:=b3 (SetTable.below xs j) (Nat.le_refl _) (by omega)
    omega
 have ht:∀ x∈xs.toList.take (SetTable.below xs j),x < j:=fun x hx=>by
  obtain ⟨i,hi,rfl⟩:=List.mem_iff_getElem.mp hx
  rw [List.length_take] at hi
  rw [List.getElem_take]
  have hs:i < xs.size:=by simpa using (by omega:i < xs.toList.length)
  have e:xs.toList[i]'(by simpa using hs)=xs.getD i 0:=by simp [Array.getD,hs]
  rw [e]
  exact b2 i (by omega)
 refine List.pairwise_append.mpr ⟨h.sublist (List.take_sublist _ _),List.pairwise_cons.mpr ⟨hd,h.sublist (List.drop_sublist _ _)⟩,fun x hx y hy=>?_⟩
 rcases List.mem_cons.mp hy with rfl | hy
 ·exact ht x hx
 ·exact Nat.lt_trans (ht x hx) (hd y hy)
theorem jan {led:Bool} {t:SetTable} (h:TabOk led t) {hashAt:Nat→Int} {hh:Int} (hne:∀ i,(hashAt i == hh)=false):∀ (f:Nat) (p:SetTable.Probe) (m:SetTable.Met),p.dummy=none→SetTable.probe.go t hashAt hh f p=some m→∃ j,m=.empty j none∧t.slot j=.empty
 | 0,p,m,_,e=>by
  unfold SetTable.probe.go at e
  cases e
 | f+1,p,m,hd,e=>by
  unfold SetTable.probe.go at e
  cases hs:t.slot p.j with
  | empty=>
   rw [hs] at e
   cases e
   exact ⟨p.j,by rw [hd],hs⟩
  | dummy=>
   exfalso
   unfold SetTable.slot at hs
   dsimp only at hs
   rw [h.none_] at hs
   split at hs
   ·cases hs
   ·simp [SetTable.has] at hs
  | live i=>
   rw [hs] at e
   dsimp only at e
   rw [hne i] at e
   rw [if_neg Bool.false_ne_true] at e
   refine jan h hne f _ m ?_ e
   unfold SetTable.advance
   split
   ·exact hd
   ·exact hd
theorem jch {led:Bool} {t:SetTable} (h:TabOk led t) {hh:Int} {j:Nat} {d:Bool} (e:t.freeSlot hh=some (j,d)):t.place[SetTable.below t.place j]?≠some j:=by
 unfold SetTable.freeSlot at e
 cases hp:t.probe (fun _=>hh+1) hh (t.probeStart hh) with
 | none=>rw [hp] at e;cases e
 | some m=>
  obtain ⟨j',rfl,hs⟩:=jan h (fun _=>beq_eq_false_iff_ne.mpr (by omega)) _ _ m rfl (show SetTable.probe.go t (fun _=>hh+1) hh _ _=some m from hp)
  rw [hp] at e
  cases e
  unfold SetTable.slot at hs
  dsimp only at hs
  intro z
  split at hs
  ·cases hs
  ·next c=>
   refine c ?_
   have z':t.place[SetTable.below t.place j']?=some j':=z
   rw [z']
   simp
theorem jdC (n:Nat):Up (Array.range n):=by
 unfold Up
 rw [Array.toList_range]
 exact List.pairwise_lt_range
theorem Jf {led:Bool} {t:SetTable} (h:t.led=led) (n:Nat):TabOk led (t.standIn n):=⟨h,rfl,jdC n⟩
theorem jd1 {led:Bool} {t:SetTable} (h:TabOk led t) {j:Nat} (hj:t.place[SetTable.below t.place j]?≠some j):TabOk led (t.put j).1:=by
 refine ⟨h.led_,?_,jc9 h.up hj⟩
 unfold SetTable.put
 dsimp only
 rw [h.none_]
 split
 ·simp [SetTable.eraseAt]
 ·rfl
theorem jc4 {led:Bool} {t:SetTable} (h:TabOk led t) (es:Array (Int×Value)) (hh:Int) (x:Value):TabOk led (layNew t es hh x).2.1:=by
 unfold layNew
 split
 ·next slot d e=>
  dsimp only
  unfold SetTable.orStandIn
  split
  ·exact jd1 h (jch h e)
  ·exact Jf (jd1 h (jch h e)).led_ _
 ·exact Jf h.led_ _
theorem jfV {mask finger moves:Nat} {led plain:Bool} {hashes:Array Int} {t:SetTable} {o:Array Nat} (h:SetTable.laid mask finger moves led plain hashes=some (t,o)):TabOk led t:=by
 unfold SetTable.laid at h
 cases hl:SetTable.layClean mask hashes with
 | none=>rw [hl] at h;cases h
 | some owner=>
  rw [hl] at h
  cases h
  refine ⟨rfl,rfl,?_⟩
  unfold Up
  dsimp only
  have key:∀ l:List Nat,(l.filterMap fun j=>(owner.getD j none).map (fun k=>(j,k))).map (·.1)=l.filter fun j=>(owner.getD j none).isSome:=by
   intro l
   induction l with
   | nil=>rfl
   | cons a l ih=>
    rw [List.filterMap_cons,List.filter_cons]
    cases owner.getD a none with
    | none=>simpa using ih
    | some k=>
     show a :: List.map _ _=_
     rw [ih]
     rfl
  show List.Pairwise _ (List.map _ _)
  rw [key]
  exact List.pairwise_lt_range.sublist List.filter_sublist
theorem jdZ {led:Bool} {t:SetTable} (h:TabOk led t) (es:Array (Int×Value)) (n:Nat):TabOk led (relayAll t es n).2.1:=by
 unfold relayAll
 split
 ·next t' o e=>
  dsimp only
  split
  ·have:=jfV (show SetTable.laid _ _ _ _ _ _=some (t',o) from e)
   rw [h.led_] at this
   exact this
  ·exact Jf h.led_ _
 ·exact Jf h.led_ _
theorem jcN {led:Bool} {t:SetTable} (h:TabOk led t):TabOk led { t with plain:=false }:=⟨h.led_,h.none_,h.up⟩
def SetAt (prog:Program) (w:World) (h:Heap) (a:Addr) (led:Bool) (σ:List Int):Prop:=∃ (es:Array (Int×Value)) (ep:Nat) (t:SetTable),
 h.get? a=some { cls:=.type "set",dict:=none,data:=.set es ep t }∧ElemsOf (intKind prog w) es.toList∧(∃ l:List Int,IntsAre (es.toList.map (·.2)) l∧l.Perm σ)∧es.size < scanBound∧t.fits es.size=true∧TabOk led t
theorem SetAt.kept {prog:Program} {w:World} {h h':Heap} {a:Addr} {led:Bool} {σ:List Int} (x:SetAt prog w h a led σ) (k:∀ o,h.get? a=some o→h'.get? a=some o):SetAt prog w h' a led σ:=by
 obtain ⟨es,ep,t,e,r⟩:=x
 exact ⟨es,ep,t,k _ e,r⟩
theorem jeA {vs:List Value} {l:List Int} (h:IntsAre vs l) {v:Int}:v∈l↔∃ t,Value.int v t∈vs:=by
 induction h with
 | nil=>simp
 | cons n t h ih=>
  constructor
  ·intro hv
   rcases List.mem_cons.mp hv with rfl | hv
   ·exact ⟨t,List.mem_cons_self⟩
   ·obtain ⟨t',ht⟩:=ih.mp hv
    exact ⟨t',List.mem_cons_of_mem _ ht⟩
  ·rintro ⟨t',ht⟩
   rcases List.mem_cons.mp ht with e | ht
   ·cases e
    exact List.mem_cons_self
   ·exact List.mem_cons_of_mem _ (ih.mpr ⟨t',ht⟩)
theorem YV:∀ {vs:List Value} {l:List Int} {v:Int} {t:Tok},IntsAre vs l→IntsAre (vs++[.int v t]) (l++[v])
 | _,_,v,t,.nil=>.cons v t .nil
 | _,_,v,t,.cons n t' h=>.cons n t' (YV h)
theorem JP {vs vs':List Value} {l:List Int} (h:IntsAre vs l) (p:vs'.Perm vs):∃ l',IntsAre vs' l'∧l'.Perm l:=by
 obtain ⟨l',h'⟩:=jaG vs' fun v hv=>by
  have:=p.mem_iff.mp hv
  obtain ⟨x,t,e⟩:=h.all v this
  exact ⟨x,t,e⟩
 refine ⟨l',h',?_⟩
 have e1:=h.nums
 have e2:=h'.nums
 rw [← e1,← e2]
 exact p.map _
section
variable {prog:Program} {w:World} {A:Around} {E:Value→Shared→Prop} {s:Shared}
theorem jae {es:Array (Int×Value)} {l:List Int} (hI:IntsAre (es.toList.map (·.2)) l) {v:Int}:(∃ j,List.findIdx? (fun e=>(intKind prog w).is v e.2) es.toList=some j)↔v∈l:=by
 rw [jeA hI]
 constructor
 ·rintro ⟨j,hj⟩
  obtain ⟨hlt,h1,_⟩:=List.findIdx?_eq_some_iff_getElem.mp hj
  obtain ⟨x,t,e⟩:=hI.all es.toList[j].2 (List.mem_map.mpr ⟨_,List.getElem_mem hlt,rfl⟩)
  have:v=x:=by
   rw [e] at h1
   exact (intKind prog w).inj _ _ _ h1 (intKind_is _ _ _ _)
  subst this
  exact ⟨t,List.mem_map.mpr ⟨_,List.getElem_mem hlt,e⟩⟩
 ·rintro ⟨t,ht⟩
  obtain ⟨e,he,e2⟩:=List.mem_map.mp ht
  cases hf:List.findIdx? (fun e=>(intKind prog w).is v e.2) es.toList with
  | some j=>exact ⟨j,rfl⟩
  | none=>
   have:=List.findIdx?_eq_none_iff.mp hf e he
   rw [e2,intKind_is] at this
   cases this
theorem YH {a:Addr} {led:Bool} {σ:List Int} {es es':Array (Int×Value)} {ep:Nat} {t t':SetTable} {h:Heap} (ho:h.get? a=some { cls:=.type "set",dict:=none,data:=.set es ep t })
  (hel:ElemsOf (intKind prog w) es'.toList) (hl:∃ l:List Int,IntsAre (es'.toList.map (·.2)) l∧l.Perm σ) (hb:es'.size < scanBound) (hf:t'.fits es'.size=true) (ht:TabOk led t') :
  (h.update a (Obj.putSet es' t')).get? a=some { cls:=.type "set",dict:=none,data:=.set es' (ep+1) t' }∧SetAt prog w (h.update a (Obj.putSet es' t')) a led σ:=by
 have hg:(h.update a (Obj.putSet es' t')).get? a=some { cls:=.type "set",dict:=none,data:=.set es' (ep+1) t' }:=by
  have:=Heap.get?_update_self (Obj.putSet es' t') ho (by rw [putSet_of es' t' rfl];rfl)
  rw [putSet_of es' t' rfl] at this
  exact this
 exact ⟨hg,es',ep+1,t',hg,hel,hl,hb,hf,ht⟩
theorem jff {a:Addr} {led:Bool} {σ:List Int} {v:Int} {tk:Tok} {Q:Bool→Shared→Prop} (hS:SetAt prog w s.heap a led σ) (hroom:σ.length+1 < scanBound)
  (h:∀ b h',Heap.SameBut a s.heap h'→SetAt prog w h' a led (if v∈σ then σ else σ++[v])→Q b { s with heap:=h' }):wpAny (model prog w) A (setAddHashed a (.int v tk) ((intKind prog w).hash v)) Q E s:=by
 obtain ⟨es,ep,t,ho,hel,⟨l,hI,hp⟩,hb,hf,ht⟩:=hS
 have hsz:es.size=σ.length:=by
  have h1:=hI.length
  have h2:=hp.length_eq
  rw [List.length_map,Array.length_toList] at h1
  omega
 unfold setAddHashed setAddHashedIn
 refine wpAny_holding (wpAny_bind (wpAny_setState_of ho rfl hf ?_))
 dsimp only
 rw [byScan_of (knd:=intKind prog w) rfl hb hel]
 simp only [↓reduceIte]
 unfold setAddByScan
 refine wpAny_bind (wpAny_bind (wpAny_rule (wpAny_bind (wpAny_setScan_of (knd:=intKind prog w) (intKind_is _ _ _ _) ho rfl hf hel ?_))))
 cases hr:List.findIdx? (fun e=>(intKind prog w).is v e.2) es.toList with
 | some j=>
  have hv:v∈σ:=hp.mem_iff.mp ((jae hI).mp ⟨j,hr⟩)
  dsimp only
  refine wpAny_pure (wpAny_pure ?_)
  have:=h false s.heap (Heap.SameBut.refl a s.heap) (by rw [if_pos hv];exact ⟨es,ep,t,ho,hel,⟨l,hI,hp⟩,hb,hf,ht⟩)
  exact this
 | none=>
  have hv:¬ v∈σ:=fun z=>by
   obtain ⟨j,hj⟩:=(jae (prog:=prog) (w:=w) hI).mpr (hp.mem_iff.mpr z)
   rw [hr] at hj
   cases hj
  rw [if_neg hv] at h
  dsimp only
  have gw:∀ (b:Bool) {s₁:Shared} {Q':Unit→Shared→Prop},Q' () s₁→wpAny (model prog w) A (match b with | true=>rule "set.scan.the-table-gave-way" | false=>pure ()) Q' E s₁:=fun b s₁ Q' hq=>by
   cases b
   ·exact wpAny_pure hq
   ·exact wpAny_rule hq
  have p1:=layNew_perm t es ((intKind prog w).hash v) (.int v tk)
  have f1:=layNew_fits t es ((intKind prog w).hash v) (.int v tk)
  have k1:=jc4 ht es ((intKind prog w).hash v) (.int v tk)
  generalize layNew t es ((intKind prog w).hash v) (.int v tk)=L at p1 f1 k1 ⊢
  obtain ⟨es1,t1,wd,gv⟩:=L
  dsimp only at p1 f1 k1 ⊢
  rw [Array.toList_push] at p1
  have hel1:ElemsOf (intKind prog w) es1.toList:=(hel.push (intKind_is _ _ _ _) rfl).perm p1
  have hI1:∃ l:List Int,IntsAre (es1.toList.map (·.2)) l∧l.Perm (σ++[v]):=by
   have pm:=p1.map (·.2)
   rw [List.map_append] at pm
   obtain ⟨l',i1,i2⟩:=JP (YV (t:=tk) hI) pm
   exact ⟨l',i1,i2.trans (hp.append_right _)⟩
  have hs1:es1.size=es.size+1:=by
   have:=p1.length_eq
   rw [List.length_append,Array.length_toList,Array.length_toList] at this
   simpa using this
  have hb1:es1.size < scanBound:=by omega
  refine wpAny_bind (gw _ ?_)
  have fin:∀ t2:SetTable,t2.fits es1.size=true→TabOk led t2→wpAny (model prog w) A (do
    storeSet a es1 t2
    if (!wd && t2.tooFull)=true then do
      (match (relayAll t2 es1 (SetTable.grown es1.size)).2.2 with | true=>rule "set.scan.the-table-gave-way" | false=>pure ():Sem Unit)
      storeSet a (relayAll t2 es1 (SetTable.grown es1.size)).1 (relayAll t2 es1 (SetTable.grown es1.size)).2.1
      pure (some true)
     else pure (some true)) (fun a_1 s'=>wpAny (model prog w) A (match a_1 with | some added=>pure added | none=>setAddHashedIn a (.int v tk) ((intKind prog w).hash v) 99999) Q E s') E s:=by
   intro t2 f2 k2
   refine wpAny_bind (wpAny_storeSet_of ho rfl ?_ (fits_of_scanBound hb1))
   obtain ⟨ho1,hS1⟩:=YH (prog:=prog) (w:=w) (σ:=σ++[v]) ho hel1 hI1 hb1 f2 k2
   have sb1:=Heap.SameBut.update s.heap a (Obj.putSet es1 t2)
   split
   ·have p2:=relayAll_perm t2 es1 (SetTable.grown es1.size)
    have f3:=relayAll_fits t2 es1 (SetTable.grown es1.size)
    have k3:=jdZ k2 es1 (SetTable.grown es1.size)
    generalize relayAll t2 es1 (SetTable.grown es1.size)=L at p2 f3 k3 ⊢
    obtain ⟨es2,t3,gv2⟩:=L
    dsimp only at p2 f3 k3 ⊢
    have hs2:es2.size=es1.size:=by rw [← Array.length_toList,p2.length_eq,Array.length_toList]
    have hI2:∃ l:List Int,IntsAre (es2.toList.map (·.2)) l∧l.Perm (σ++[v]):=by
     obtain ⟨l1,i1,i2⟩:=hI1
     obtain ⟨l',j1,j2⟩:=JP i1 (p2.map (·.2))
     exact ⟨l',j1,j2.trans i2⟩
    refine wpAny_bind (gw _ (wpAny_bind (wpAny_storeSet_of ho1 rfl ?_ (fits_of_scanBound (by omega)))))
    obtain ⟨_,hS2⟩:=YH (prog:=prog) (w:=w) (σ:=σ++[v]) ho1 (hel1.perm p2) hI2 (by omega) f3 k3
    exact wpAny_pure (wpAny_pure (h true _ (sb1.trans (Heap.SameBut.update _ a _)) hS2))
   ·exact wpAny_pure (wpAny_pure (h true _ sb1 hS1))
  split
  ·refine wpAny_bind ?_
   rw [hashByValue_scannable 8 rfl]
   refine wpAny_pure ?_
   refine fin _ ?_ ?_
   ·split
    ·exact f1
    ·exact SetTable.fits_plain_off f1
   ·split
    ·exact k1
    ·exact jcN k1
  ·refine wpAny_bind (wpAny_pure ?_)
   simp only [↓reduceIte]
   exact fin _ f1 k1
end
abbrev ledOf (w:World):Bool:=!(w.params.followText "set-order")
def dedup (ns:List Int):List Int:=ns.foldl (fun σ v=>if v∈σ then σ else σ++[v]) []
theorem Ye (ns:List Int) (v:Int):dedup (ns++[v])=if v∈dedup ns then dedup ns else dedup ns++[v]:=by unfold dedup;rw [List.foldl_append];rfl
theorem Yf (ns:List Int):(dedup ns).Nodup∧(dedup ns).length≤ns.length∧∀ x,x∈dedup ns↔x∈ns:=by
 have key:∀ (l:List Int),(dedup l.reverse).Nodup∧(dedup l.reverse).length≤l.reverse.length∧∀ x,x∈dedup l.reverse↔x∈l.reverse:=by
  intro l
  induction l with
  | nil=>exact ⟨List.nodup_nil,Nat.le_refl _,fun x=>Iff.rfl⟩
  | cons v l ih=>
   rw [List.reverse_cons,Ye]
   obtain ⟨h1,h2,h3⟩:=ih
   split
   ·next h=>
    refine ⟨h1,by rw [List.length_append];omega,fun x=>?_⟩
    rw [List.mem_append,h3]
    constructor
    ·exact .inl
    ·rintro (z | z)
     ·exact z
     ·rw [List.mem_singleton.mp z]
      exact (h3 v).mp h
   ·next h=>
    refine ⟨?_,by rw [List.length_append,List.length_append];simp;simpa using h2,fun x=>by rw [List.mem_append,List.mem_append,h3]⟩
    rw [List.nodup_append]
    refine ⟨h1,by simp,fun x hx y hy e=>?_⟩
    rw [List.mem_singleton] at hy
    subst hy e
    exact h hx
 have:=key ns.reverse
 rw [List.reverse_reverse] at this
 exact this
section
variable {prog:Program} {w:World} {A:Around} {E:Value→Shared→Prop} {R:Result→Shared→Prop}
theorem set_loop {S it l:Addr} {led:Bool} {its:List Value} {ns:List Int} (hh:A.handled=none) (hI:IntsAre its ns) (hSl:S≠l) (hSi:S≠it) (hli:l≠it) (hz:ns.length+1 < scanBound) :
  ∀ (k i:Nat) (s:Shared),i+k=ns.length→s.heap.IsListIter it l i→s.heap.IsList l its.toArray→SetAt prog w s.heap S led (dedup (ns.take i))→
   (∀ h' tk,(∀ b o,b≠S→b≠it→s.heap.get? b=some o→h'.get? b=some o)→SetAt prog w h' S led (dedup ns)→R (.ok (.ret .none)) { s with heap:=h',toks:=tk })→
   codeAny (model prog w) A (.builtin "set.update.loop" ⟨[.ref S,.ref it],[]⟩) R s:=by
 intro k
 induction k with
 | zero=>
  intro i s hk hit ht hS hR
  have hl:=hI.length
  refine codeAny_builtin F.entry_set_update_loop ?_
  rw [Around.under_plainId F.plain_set_update_loop _]
  show wpAny _ A.in1 (pyNext (.ref it) >>= _) _ _ s
  refine wpAny_bind (wpAny_pyNext_list_end (A:=A.in1) hh hit ht (by simp;omega) fun h1 he1=>?_)
  show wpAny _ A.in1 (ret Value.none) _ _ _
  refine wpAny_pure ?_
  rw [show ns.take i=ns from List.take_of_length_le (by omega)] at hS
  exact hR h1 s.toks (fun b o _ hb e=>he1 b o hb e) (hS.kept fun o e=>he1 S o hSi e)
 | succ k ih=>
  intro i s hk hit ht hS hR
  have hl:=hI.length
  have hlt:i < ns.length:=by omega
  have hgi:its.toArray[i]?=some its[i]:=by simp [hl,hlt]
  obtain ⟨t,et⟩:=IntsAre.int_at hI i its[i] (by simp [hl,hlt])
  have eg:ns.getD i 0=ns[i]:=by simp [hlt]
  rw [eg] at et
  refine codeAny_builtin F.entry_set_update_loop ?_
  rw [Around.under_plainId F.plain_set_update_loop _]
  show wpAny _ A.in1 (pyNext (.ref it) >>= _) _ _ s
  refine wpAny_bind (wpAny_pyNext_list_item hit ht hgi fun h1 hit1 hs1=>?_)
  have ht1:h1.IsList l its.toArray:=ht.extBut hs1.extBut hli
  have hS1:SetAt prog w h1 S led (dedup (ns.take i)):=hS.kept fun o e=>(hs1.2 S hSi).trans e
  rw [et]
  show wpAny _ A.in1 (holding [Value.int ns[i] t] (setAdd S (.int ns[i] t)) >>= _) _ _ _
  refine wpAny_bind (wpAny_holding ?_)
  unfold setAdd
  refine wpAny_holding ?_
  refine wpAny_bind ((intKind prog w).pyHash (k:=ns[i]) (intKind_is _ _ _ _) ?_)
  have hroom:(dedup (ns.take i)).length+1 < scanBound:=by
   have:=(Yf (ns.take i)).2.1
   rw [List.length_take] at this
   omega
  refine jff (s:={ s with heap:=h1,toks:=s.toks+1 }) hS1 hroom fun b h2 hs2 hS2=>?_
  have e2:dedup (ns.take (i+1))=if ns[i]∈dedup (ns.take i) then dedup (ns.take i) else dedup (ns.take i)++[ns[i]]:=by
   rw [List.take_succ,List.getElem?_eq_getElem hlt]
   exact Ye _ _
  rw [← e2] at hS2
  have hb2:∀ b o,b≠S→h1.get? b=some o→h2.get? b=some o:=fun b o hb e=>(hs2.2 b hb).trans e
  refine wpAny_pure ⟨plainId_quiet F.plain_set_update_loop _,ih (i+1) _ (by omega) ?_ ?_ hS2 fun h' tk hk' hS'=>hR h' tk (fun b o b1 b2 e=>hk' b o b1 b2 (hb2 b o b1 ((hs1.2 b b2).trans e))) hS'⟩
  ·obtain ⟨oi,z1,z2⟩:=hit1
   exact ⟨oi,hb2 it oi hSi.symm z1,z2⟩
  ·obtain ⟨oi,z1,z2⟩:=ht1
   exact ⟨oi,hb2 l oi hSl.symm z1,z2⟩
end
end L2
namespace PySem
section
variable {prog:Program} {w:World} {A:Around} {E:Value→Shared→Prop} {s:Shared}
theorem jad (a:Value) {Q₁:Value→Shared→Prop}
  (h:Q₁ (.ref s.heap.objs.size) { s with heap:=s.heap.push { cls:=.type "set",dict:=none,data:=.set #[] 0 (.fresh 0 0 (L2.ledOf w)) } }) :
  codeAny (model prog w) A (.call (.builtin "set.__new__") ⟨[.type "set",a],[]⟩) (wants Q₁ E) s:=by
 refine codeAny_of_tree ?_
 show wpAny _ A.in1 (do checkBuiltinCall "set.__new__" ⟨[.type "set",a],[]⟩;again (.builtin "set.__new__" ⟨[.type "set",a],[]⟩)) _ _ s
 refine wpAny_bind (wpAny_of_eq (F.newCall_set_1 a) (wpAny_pure ⟨plainId_quiet F.plain_set_new _,codeAny_builtin F.entry_set_new ?_⟩))
 rw [Around.under_plainId F.plain_set_new _]
 unfold Builtin.«set.__new__» Builtin.Frozenset.newClass
 have hsub:=sub_set_self
 obtain ⟨hp,g,d,tk,os⟩:=s
 dsimp only
 wp_walk
 refine wpAny_askSetting (wpAny_pure ?_)
 dsimp only
 simp only [newObj]
 refine wpAny_bind (wpAny_alloc (wpAny_pure ?_))
 exact wpAny_pure h
set_option maxHeartbeats 3200000 in
theorem set_of_list {l:Addr} {its:List Value} {ns:List Int} {nl:Nat} {sl:Array (Option Value)} {dd:Option Addr} {Q:Value→Shared→Prop} (hh:A.handled=none) (hol:s.heap.get? l=some { cls:=.type "list",dict:=dd,data:=.seq its.toArray nl,slots:=sl }) (hi:PyProof.Rows.IntsAre its ns) (hb:ns.length+1 < scanBound)
  (h:∀ (h':Heap) (tk:Nat),L2.SetAt prog w h' s.heap.objs.size (L2.ledOf w) (L2.dedup ns)→(∀ b o,s.heap.get? b=some o→h'.get? b=some o)→Q (.ref s.heap.objs.size) { s with heap:=h',toks:=tk }) :
  wpAny (model prog w) A (call (.type "set") [.ref l]) Q E s:=by
 obtain ⟨c,tl,hmro⟩:=F.called_set.mro
 have hmade:=F.called_set.made
 have hsub:=F.called_set.sub
 refine wpAny_call (codeAny_of_tree ?_)
 show wpAny _ _ (callAny (.type "set") _) _ _ _
 refine wpAny_pure ⟨Code.quiet_builtin _ (by decide +kernel),codeAny_builtin F.entry_type_call ?_⟩
 rw [Around.under_plain (weight_type_call_type "set" [.ref l] []) rfl]
 have h1:=F.called_set.notType
 have h2:=F.called_set.canCreate
 have hct:=F.typeCall_set_1 (.ref l)
 repeat (any_goals (first | assumption | wp_step))
 refine codeAny_mono (jad (.ref l) (E:=E) (Q₁:=fun obj s₁=>obj=.ref s.heap.objs.size∧s₁={ s with heap:=s.heap.push { cls:=.type "set",dict:=none,data:=.set #[] 0 (.fresh 0 0 (L2.ledOf w)) } }) ⟨rfl,rfl⟩) fun r s₁ hr=>?_
 cases r with
 | error e=>exact hr
 | ok fl=>
  cases fl with
  | ret obj=>
   obtain ⟨rfl,rfl⟩:=hr
   have hS:(s.heap.push { cls:=.type "set",dict:=none,data:=.set #[] 0 (.fresh 0 0 (L2.ledOf w)) }).get? s.heap.objs.size=some { cls:=.type "set",dict:=none,data:=.set #[] 0 (.fresh 0 0 (L2.ledOf w)) }:=Heap.get?_push_size _ rfl
   have hT:Shared.TypeIs { s with heap:=s.heap.push { cls:=.type "set",dict:=none,data:=.set #[] 0 (.fresh 0 0 (L2.ledOf w)) } } (.ref s.heap.objs.size) "set":=⟨_,hS,rfl⟩
   have hli:=F.called_set.init.lookup
   have hbi:=F.called_set.init.bind (.ref s.heap.objs.size)
   repeat (any_goals (first | assumption | wp_step))
   refine codeAny_mono (codeAny_call_builtin (R:=wants (fun r s₂=>r=.none∧∃ h' tk,s₂={ s with heap:=h',toks:=tk }∧L2.SetAt prog w h' s.heap.objs.size (L2.ledOf w) (L2.dedup ns)∧
     (∀ b o,s.heap.get? b=some o→h'.get? b=some o)) E) F.called_set.init.plain F.entry_set_init (check_set_init_1 hT ?_)) fun r₂ s₂ hr₂=>?_
   ·have hol':(s.heap.push { cls:=.type "set",dict:=none,data:=.set #[] 0 (.fresh 0 0 (L2.ledOf w)) }).get? l=some { cls:=.type "list",dict:=dd,data:=.seq its.toArray nl,slots:=sl }:=Heap.get?_push_of_some _ hol
    have hsls:=F.sub_list_set
    have hslf:=F.sub_list_frozenset
    have hne:(Value.type "list" == Value.type "dict")=false:=by decide
    have hl1:(s.heap.push { cls:=.type "set",dict:=none,data:=.set #[] 0 (.fresh 0 0 (L2.ledOf w)) }).IsList l its.toArray:=⟨_,hol',rfl,nl,rfl⟩
    unfold Builtin.«set.__init__» noKeywords Builtin.Frozenset.updateFrom
    generalize hPI:pyIter=PI
    wp_walk
    subst hPI
    refine wpAny_pyIter_list hl1 ?_
    refine wpAny_bind (wpAny_runValue ?_)
    have hlS:l < s.heap.objs.size:=Heap.lt_size hol
    have hh3:A.in1.in1.handled=none:=by simp [hh]
    have lt1:s.heap.objs.size < (s.heap.push { cls:=.type "set",dict:=none,data:=.set #[] 0 (.fresh 0 0 (L2.ledOf w)) }).objs.size:=Heap.lt_size hS
    refine L2.set_loop (its:=its) (ns:=ns) (led:=L2.ledOf w) hh3 hi (Nat.ne_of_gt hlS) (Nat.ne_of_lt lt1) (Nat.ne_of_lt (Nat.lt_trans hlS lt1)) hb ns.length 0 _ (by omega) ?_ ?_ ?_ ?_
    ·exact ⟨_,Heap.get?_push_size _ rfl,rfl,rfl⟩
    ·exact hl1.push _
    ·refine ⟨#[],0,.fresh 0 0 (L2.ledOf w),?_,fun e he=>by simp at he,⟨[],.nil,.nil⟩,by decide,rfl,⟨rfl,rfl,List.Pairwise.nil⟩⟩
     exact Heap.get?_push_of_some _ hS
    ·intro h' tk hk hS'
     show wpAny _ _ _ _ _ _
     refine wpAny_pure ?_
     show wpAny _ _ (ret Value.none) _ _ _
     refine wpAny_pure ⟨rfl,h',tk,rfl,hS',fun b o e=>?_⟩
     have hb0:=Heap.lt_size e
     exact hk b o (Nat.ne_of_lt hb0) (Nat.ne_of_lt (Nat.lt_trans hb0 lt1)) (Heap.get?_push_of_some _ (Heap.get?_push_of_some _ e))
   ·cases r₂ with
    | error e=>exact hr₂
    | ok fl₂=>
     cases fl₂ with
     | ret r=>
      obtain ⟨rfl,h',tk,rfl,hS',hk'⟩:=hr₂
      repeat (any_goals (first | assumption | wp_step))
      exact h _ _ hS' hk'
     | _=>exact hr₂.elim
  | _=>exact hr.elim
end
namespace F
theorem slot_seti_next:Slot "set_iterator" "__next__" "set_iterator.__next__":=
 .of (owner:="set_iterator") (n:="__next__") (by rw [typeLookup_type,builtinLookup_eq_fast];kernel_rfl) (by decide +kernel) (by decide +kernel) (by decide +kernel)
  (by first | exact .inl (by decide +kernel) | exact .inr (by decide +kernel)) (by rw [isSubtype_type];kernel_rfl)
theorem entry_seti_next:entryFor table "set_iterator.__next__" = some Builtin.«set_iterator.__next__»:=entryFor_of_tree (by kernel_rfl)
theorem args_seti_next (a:Value):argsOk "set_iterator.__next__" ⟨[a],[]⟩:=by unfold argsOk;kernel_rfl
theorem entry_set_iter':entryFor table "set.__iter__" = some Builtin.«frozenset.__iter__»:=entryFor_alias (id':="frozenset.__iter__") (by kernel_rfl) (by first | rfl | decide +kernel) (by decide +kernel) (by kernel_rfl)
end F
end PySem
namespace L2
open PySem PySem.Spec PyProof.Rows PySem.W
abbrev JF (es:Array (Int×Value)) (ep:Nat) (t:SetTable):Obj:={ cls:=.type "set",dict:=none,data:=.set es ep t }
abbrev YU (first:Value) (i:Nat) (a:Addr) (n ep:Nat):Obj:={ cls:=.type "set_iterator",data:=.fields #[first,.int i 0,.ref a,.int n 0,.int ep 0] }
def Yb (es:Array (Int×Value)) (t:SetTable):Bool:=!t.plain && decide (es.size > 1)
section
variable {prog:Program} {w:World} {A:Around} {E:Value→Shared→Prop} {s:Shared}
theorem jbI {src:Source} {n:Nat} {Q:Nat→Shared→Prop} (hn:n≠0) (h:∀ i d',i < n→Q i { s with drawn:=d' }):wpAny (model prog w) A (choose src n) Q E s:=by
 intro Γ p hΓ
 show Sem.wp _ _ (.choose src n .pure) _ _ _ _
 rw [Sem.wp_choose]
 exact ⟨hn,h _ _ (Nat.mod_lt _ (Nat.pos_of_ne_zero hn))⟩
theorem yZ {α:Type}:∀ {l:List α} {i:Nat} {x:α},l[i]?=some x→(x :: l.eraseIdx i).Perm l
 | [],i,x,e=>by simp at e
 | a :: l,0,x,e=>by
  simp at e
  subst e
  exact List.Perm.refl _
 | a :: l,i+1,x,e=>by
  simp at e
  have ih:=yZ (l:=l) (i:=i) (x:=x) e
  show (x :: a :: l.eraseIdx i).Perm (a :: l)
  exact (List.Perm.swap a x _).trans (ih.cons a)
theorem Yc {α:Type}:∀ (n:Nat) (xs:List α) (s:Shared) (Q:List α→Shared→Prop),xs.length=n→(∀ ys d',ys.Perm xs→Q ys { s with drawn:=d' })→wpAny (model prog w) A (drawOrder n xs) Q E s
 | 0,xs,s,Q,hl,h=>by
  have:xs=[]:=List.length_eq_zero_iff.mp hl
  subst this
  unfold drawOrder
  exact wpAny_pure (h [] s.drawn (List.Perm.refl _))
 | n+1,[],s,Q,hl,h=>by simp at hl
 | n+1,x :: xs,s,Q,hl,h=>by
  unfold drawOrder
  refine wpAny_bind (jbI (by simp) fun i d' hi=>?_)
  have hg:(x :: xs)[i]?=some (x :: xs)[i]:=List.getElem?_eq_getElem hi
  rw [hg]
  dsimp only
  refine wpAny_bind (Yc n _ _ _ (by rw [List.length_eraseIdx,if_pos hi];omega) fun ys d2 hp=>?_)
  exact wpAny_pure (h _ d2 ((hp.cons _).trans (yZ hg)))
theorem jcO {α:Type} (next:Nat→Nat) (xs:Array α):(pickOrder next xs).toList.Perm xs.toList:=by
 have key:∀ (f k:Nat) (left:List α) (out:Array α),left.length=f→(pickOrder.go next f k left out).toList.Perm (out.toList++left):=by
  intro f
  induction f with
  | zero=>
   intro k left out h
   have:left=[]:=List.length_eq_zero_iff.mp h
   subst this
   unfold pickOrder.go
   rw [List.append_nil]
  | succ f ih=>
   intro k left out h
   unfold pickOrder.go
   have hm:next k % left.length < left.length:=Nat.mod_lt _ (by omega)
   have hg:left[next k % left.length]?=some (left[next k % left.length]'hm):=List.getElem?_eq_getElem hm
   rw [hg]
   dsimp only
   refine (ih (k+1) _ _ (by rw [List.length_eraseIdx,if_pos hm];omega)).trans ?_
   rw [Array.toList_push,List.append_assoc]
   exact (yZ hg).append_left _
 have:=key xs.size 0 xs.toList #[] (by simp)
 simpa [pickOrder] using this
theorem yG {I a:Addr} {first:Value} {i:Nat} {es:Array (Int×Value)} {ep:Nat} {t:SetTable} {Q:Option Value→Shared→Prop} (hI:s.heap.get? I=some (YU first i a es.size ep)) (ha:s.heap.get? a=some (JF es ep t)) (hf:t.fits es.size=true)
  (h:wpAny (model prog w) A.in1 (if let .int slot _:=first then
   (do match ← setNext a slot.toNat i ep with
    | some (x,next)=>
     setField (.ref I) 0 (rawInt next)
     setField (.ref I) 1 (rawInt ((i:Int)+1))
     ret x
    | none=>setField (.ref I) 2 .none;raiseNew (← newExc (.type "StopIteration") []):Sem Fin)
   else (do
    let some places ← seqItems? first | unsupported "internal:set_iterator"
    match places[i]? with
    | some (.int place _)=>
     let x ← setNextDrawn a place.toNat ep
     setField (.ref I) 1 (rawInt ((i:Int)+1))
     ret x
    | some _=>unsupported "internal:set_iterator"
    | none=>setField (.ref I) 0 (rawInt 0);setField (.ref I) 2 .none;raiseNew (← newExc (.type "StopIteration") []):Sem Fin))
   (fun fin s'=>∃ v,fin=.done (.ret v)∧Q (some v) s') (fun e s'=>∃ c o,e=.ref c∧s'.heap.get? c=some o∧o.cls=.type "StopIteration"∧Q none s') s):wpAny (model prog w) A (pyNext (.ref I)) Q E s:=by
 have hT:s.TypeIs (.ref I) "set_iterator":=⟨_,hI,rfl⟩
 unfold pyNext
 refine wpAny_bind (wpAny_attempt (wpAny_callSpecial?_slot (name:=Str.ofString "__next__") hT F.slot_seti_next
  (wpAny_call_entry F.slot_seti_next hT F.entry_seti_next ?_ (F.args_seti_next _))))
 unfold Builtin.«set_iterator.__next__»
 refine wpAny_bind (wpAny_pure (wpAny_bind (wpAny_fieldsOf hI rfl ?_)))
 dsimp only
 refine wpAny_bind ?_
 unfold setEntries
 refine wpAny_bind (wpAny_setState_of ha rfl hf (wpAny_pure ?_))
 rw [if_neg (by simp)]
 simp only [Int.toNat_natCast]
 refine wpAny_mono h (fun fin s' x=>?_) fun e s' x=>?_
 ·obtain ⟨v,rfl,q⟩:=x
  exact ⟨v,rfl,wpAny_pure q⟩
 ·obtain ⟨c,o,rfl,e1,e2,q⟩:=x
  refine wpAny_bind (wpAny_isInstance (T:="StopIteration") ⟨o,e1,e2⟩ isSubtype_stop ?_)
  rw [if_pos rfl]
  exact wpAny_pure q
def ItSt (w:World) (h:Heap) (I a:Addr) (es:Array (Int×Value)) (ep:Nat) (t:SetTable) (vals:List Value) (i:Nat):Prop:=h.get? a=some (JF es ep t)∧
 ((w.params.followText "set-order" = true∧h.get? I=some (YU (.int 0 0) i a es.size ep)∧vals=(pickOrder (w.params.setOrder a ep) es).toList.map (·.2))∨
   (w.params.followText "set-order" = false∧∃ (T:Addr) (ps:List Nat),h.get? I=some (YU (.ref T) i a es.size ep)∧h.get? T=some { cls:=.type "tuple",data:=.seq (ps.map fun (p:Nat)=>rawInt p).toArray }∧T≠I∧(∀ p∈ps,p < es.size)∧vals=ps.map fun p=>(es.getD p (0,.none)).2)∨
   (w.params.followText "set-order" = false∧Yb es t=false∧∃ slot:Nat,h.get? I=some (YU (.int slot 0) i a es.size ep)∧SetTable.below t.place slot=i∧vals=es.toList.map (·.2)))
theorem Ze {I:Addr} {o:Obj} {vs:Array Value} {k:Nat} {x:Value} {Q:Option Value→Shared→Prop} (hh:A.handled=none) (hI:s.heap.get? I=some o) (hd:o.data=.fields vs) (hk:k < vs.size) (h:∀ h',(∀ b u,b≠I→s.heap.get? b=some u→h'.get? b=some u)→Q none { s with heap:=h' }) :
  wpAny (model prog w) A.in1 (do setField (.ref I) k x;raiseNew (← newExc (.type "StopIteration") []):Sem Fin) (fun fin s'=>∃ v,fin=.done (.ret v)∧Q (some v) s') (fun e s'=>∃ c o,e=.ref c∧s'.heap.get? c=some o∧o.cls=.type "StopIteration"∧Q none s') s:=by
 refine wpAny_bind (wpAny_setField hI hd hk ?_)
 refine wpAny_bind ?_
 simp only [newExc,newTuple]
 refine wpAny_bind (wpAny_newObj_type ?_ (by size_fits))
 refine wpAny_bind (m:=firstArgMember _ _) (wpAny_of_eq (a:=Value.none) (by first | rfl | (simp only [firstArgMember];rfl)) ?_)
 refine wpAny_newObj_type ?_ (by size_fits)
 simp only [raiseNew]
 refine wpAny_bind (wpAny_handled ?_)
 rw [show A.in1.handled=none from hh]
 refine wpAny_bind (wpAny_pure (wpAny_throw ?_))
 refine ⟨_,_,rfl,Heap.get?_push_size _ rfl,rfl,h _ fun b u hb e=>?_⟩
 exact Heap.get?_push_of_some _ (Heap.get?_push_of_some _ ((Heap.get?_update_ne _ _ _ _ hb).trans e))
theorem yd {Q:Bool→Shared→Prop} (h:Q (w.params.followText "set-order") s):wpAny (model prog w) A setsByText Q E s:=by
 unfold setsByText
 exact wpAny_bind (wpAny_askSetting (wpAny_pure h))
theorem JE {I:Addr} {first:Value} {i:Nat} {a:Addr} {n ep k:Nat} {x:Value} {Q:Unit→Shared→Prop} (hI:s.heap.get? I=some (YU first i a n ep)) (hk:k < 5)
  (h:∀ h',h'.get? I=some { cls:=.type "set_iterator",data:=.fields (#[first,.int i 0,.ref a,.int n 0,.int ep 0].setIfInBounds k x) }→(∀ b u,b≠I→s.heap.get? b=some u→h'.get? b=some u)→Q () { s with heap:=h' }):wpAny (model prog w) A (setField (.ref I) k x) Q E s:=
 wpAny_setField_rec hI hk fun h' e sb=>h h' e fun b u hb e=>(sb.2 b hb).trans e
theorem jcZ {I a:Addr} {es:Array (Int×Value)} {ep:Nat} {t:SetTable} {vals:List Value} {i:Nat} {Q:Option Value→Shared→Prop} (hf:t.fits es.size=true) (ht:TabOk (ledOf w) t) (hIa:a≠I) (hst:ItSt w s.heap I a es ep t vals i) (hi:i < vals.length)
  (h:∀ h',ItSt w h' I a es ep t vals (i+1)→(∀ b u,b≠I→s.heap.get? b=some u→h'.get? b=some u)→Q (some (vals.getD i Value.none)) { s with heap:=h' }):wpAny (model prog w) A (pyNext (.ref I)) Q E s:=by
 obtain ⟨ha,hm⟩:=hst
 rcases hm with ⟨hb,hI,hv⟩ | ⟨hb,T,ps,hI,hT,hTI,hps,hv⟩ | ⟨hb,hd,slot,hI,hs,hv⟩
 ·refine yG hI ha hf ?_
  show wpAny _ _ (setNext a (Int.toNat 0) i ep >>= _) _ _ _
  refine wpAny_bind ?_
  unfold setNext
  refine wpAny_bind (wpAny_setState_of ha rfl hf (wpAny_bind (yd ?_)))
  dsimp only
  rw [hb,if_pos rfl,if_neg (by simp)]
  refine wpAny_bind ?_
  unfold setWalk
  refine wpAny_bind (wpAny_setState_of ha rfl hf (wpAny_bind (yd ?_)))
  rw [hb,if_pos rfl]
  refine wpAny_bind (wpAny_askSetting (wpAny_pure (wpAny_pure ?_)))
  have hg:(pickOrder (w.params.setOrder a ep) es)[i]?=some ((pickOrder (w.params.setOrder a ep) es)[i]'(by rw [hv] at hi;simpa using hi)):=Array.getElem?_eq_getElem _
  have hvi:vals.getD i Value.none=((pickOrder (w.params.setOrder a ep) es)[i]'(by rw [hv] at hi;simpa using hi)).2:=by
   subst hv
   have hi':i < (pickOrder (w.params.setOrder a ep) es).size:=by simpa using hi
   simp [hi']
  show wpAny _ _ (match ((pickOrder (w.params.setOrder a ep) es)[i]?).map fun e=>(e.2,Int.toNat 0) with | some (x,next)=>_ | none=>_) _ _ _
  rw [hg]
  dsimp only [Option.map]
  refine wpAny_bind (JE hI (by decide) fun h1 e1 k1=>?_)
  refine wpAny_bind (JE (s:={ s with heap:=h1 }) (first:=.int 0 0) e1 (by decide) fun h2 e2 k2=>wpAny_pure ⟨_,rfl,?_⟩)
  rw [← hvi]
  refine h h2 ⟨k2 _ _ hIa (k1 _ _ hIa ha),.inl ⟨hb,?_,hv⟩⟩ fun b u hb e=>k2 _ _ hb (k1 _ _ hb e)
  exact e2
 ·refine yG hI ha hf ?_
  show wpAny _ _ (seqItems? (.ref T) >>= _) _ _ _
  refine wpAny_bind (wpAny_seqItems hT rfl ?_)
  have hi':i < ps.length:=by rw [hv,List.length_map] at hi;exact hi
  have hg:(List.map (fun (p:Nat)=>rawInt p) ps).toArray[i]?=some (rawInt ps[i]):=by simp [hi']
  dsimp only
  rw [hg]
  have hpl:=hps _ (List.getElem_mem hi')
  show wpAny _ _ (setNextDrawn a (Int.toNat (ps[i]:Nat)) ep >>= _) _ _ _
  rw [Int.toNat_natCast]
  refine wpAny_bind ?_
  unfold setNextDrawn
  refine wpAny_bind (wpAny_setState_of ha rfl hf ?_)
  dsimp only
  rw [if_neg (by simp),Array.getElem?_eq_getElem hpl]
  refine wpAny_pure ?_
  refine wpAny_bind (JE hI (by decide) fun h1 e1 k1=>wpAny_pure ⟨_,rfl,?_⟩)
  have hvi:vals.getD i Value.none=es[ps[i]].2:=by
   subst hv
   simp [hi',hpl]
  show Q (some es[ps[i]].2) _
  rw [← hvi]
  refine h h1 ⟨k1 _ _ hIa ha,.inr (.inl ⟨hb,T,ps,?_,k1 _ _ hTI hT,hTI,hps,hv⟩)⟩ k1
  exact e1
 ·refine yG hI ha hf ?_
  show wpAny _ _ (setNext a (Int.toNat (slot:Nat)) i ep >>= _) _ _ _
  rw [Int.toNat_natCast]
  refine wpAny_bind ?_
  unfold setNext
  refine wpAny_bind (wpAny_setState_of ha rfl hf (wpAny_bind (yd ?_)))
  dsimp only
  rw [hb,if_neg Bool.false_ne_true]
  have hi':i < es.size:=by rw [hv,List.length_map,Array.length_toList] at hi;exact hi
  have hled:t.led=true:=by rw [ht.led_];unfold ledOf;rw [hb];rfl
  have hpz:t.place.size=es.size:=by
   simp only [SetTable.fits,Bool.and_eq_true,beq_iff_eq] at hf
   exact hf.1
  show wpAny _ _ (if Yb es t=true then _ else _) _ _ _
  rw [hd,if_neg Bool.false_ne_true]
  refine wpAny_bind ?_
  show wpAny _ _ (if (!t.led && !es.isEmpty)=true then _ else _) _ _ _
  rw [hled,if_neg (by simp)]
  refine wpAny_pure (wpAny_pure ?_)
  rw [hs,Array.getElem?_eq_getElem hi',Array.getElem?_eq_getElem (by omega)]
  dsimp only
  refine wpAny_bind (JE hI (by decide) fun h1 e1 k1=>?_)
  refine wpAny_bind (JE (s:={ s with heap:=h1 }) (first:=.int ((t.place[i]'(by omega)+1:Nat):Int) 0) e1 (by decide) fun h2 e2 k2=>wpAny_pure ⟨_,rfl,?_⟩)
  have hvi:vals.getD i Value.none=es[i].2:=by
   subst hv
   simp [hi']
  rw [← hvi]
  refine h h2 ⟨k2 _ _ hIa (k1 _ _ hIa ha),.inr (.inr ⟨hb,hd,t.place[i]'(by omega)+1,?_,?_,hv⟩)⟩ fun b u hb e=>k2 _ _ hb (k1 _ _ hb e)
  ·exact e2
  ·obtain ⟨b1,b2,b3⟩:=Yj ht.up (t.place[i]'(by omega)+1)
   have eg:t.place.getD i 0=t.place[i]'(by omega):=by
    have hlt:i < t.place.size:=by omega
    simp [Array.getD,hlt]
   have h1:i < SetTable.below t.place (t.place[i]'(by omega)+1):=by
    rcases Nat.lt_or_ge i (SetTable.below t.place (t.place[i]'(by omega)+1)) with z | z
    ·exact z
    ·have:=b3 i z (by omega)
     omega
   rcases Nat.lt_or_ge (i+1) (SetTable.below t.place (t.place[i]'(by omega)+1)) with z | z
   ·have h2:=b2 (i+1) z
    have h3:=jbP ht.up (i:=i) (j:=i+1) (by omega) (by omega)
    omega
   ·omega
theorem jeo {I a:Addr} {es:Array (Int×Value)} {ep:Nat} {t:SetTable} {vals:List Value} {i:Nat} {Q:Option Value→Shared→Prop} (hh:A.handled=none) (hf:t.fits es.size=true) (ht:TabOk (ledOf w) t) (hIa:a≠I) (hst:ItSt w s.heap I a es ep t vals i) (hi:i=vals.length)
  (h:∀ h',(∀ b u,b≠I→s.heap.get? b=some u→h'.get? b=some u)→Q none { s with heap:=h' }):wpAny (model prog w) A (pyNext (.ref I)) Q E s:=by
 obtain ⟨ha,hm⟩:=hst
 rcases hm with ⟨hb,hI,hv⟩ | ⟨hb,T,ps,hI,hT,hTI,hps,hv⟩ | ⟨hb,hd,slot,hI,hs,hv⟩
 ·refine yG hI ha hf ?_
  show wpAny _ _ (setNext a (Int.toNat 0) i ep >>= _) _ _ _
  refine wpAny_bind ?_
  unfold setNext
  refine wpAny_bind (wpAny_setState_of ha rfl hf (wpAny_bind (yd ?_)))
  dsimp only
  rw [hb,if_pos rfl,if_neg (by simp)]
  refine wpAny_bind ?_
  unfold setWalk
  refine wpAny_bind (wpAny_setState_of ha rfl hf (wpAny_bind (yd ?_)))
  rw [hb,if_pos rfl]
  refine wpAny_bind (wpAny_askSetting (wpAny_pure (wpAny_pure ?_)))
  have hg:(pickOrder (w.params.setOrder a ep) es)[i]?=none:=by
   rw [hi,hv]
   simp
  show wpAny _ _ (match ((pickOrder (w.params.setOrder a ep) es)[i]?).map fun e=>(e.2,Int.toNat 0) with | some (x,next)=>_ | none=>_) _ _ _
  rw [hg]
  exact Ze hh hI rfl (by simp) h
 ·refine yG hI ha hf ?_
  show wpAny _ _ (seqItems? (.ref T) >>= _) _ _ _
  refine wpAny_bind (wpAny_seqItems hT rfl ?_)
  have hg:(List.map (fun (p:Nat)=>rawInt p) ps).toArray[i]?=none:=by
   rw [hi,hv]
   simp
  dsimp only
  rw [hg]
  dsimp only
  refine wpAny_bind (JE hI (by decide) fun h1 e1 k1=>?_)
  exact Ze (s:={ s with heap:=h1 }) hh e1 rfl (by simp) fun h' k=>h h' fun b u hb e=>k _ _ hb (k1 _ _ hb e)
 ·refine yG hI ha hf ?_
  show wpAny _ _ (setNext a (Int.toNat (slot:Nat)) i ep >>= _) _ _ _
  rw [Int.toNat_natCast]
  refine wpAny_bind ?_
  unfold setNext
  refine wpAny_bind (wpAny_setState_of ha rfl hf (wpAny_bind (yd ?_)))
  dsimp only
  rw [hb,if_neg Bool.false_ne_true]
  have hled:t.led=true:=by rw [ht.led_];unfold ledOf;rw [hb];rfl
  show wpAny _ _ (if Yb es t=true then _ else _) _ _ _
  rw [hd,if_neg Bool.false_ne_true]
  refine wpAny_bind ?_
  show wpAny _ _ (if (!t.led && !es.isEmpty)=true then _ else _) _ _ _
  rw [hled,if_neg (by simp)]
  refine wpAny_pure (wpAny_pure ?_)
  have hg:es[i]?=none:=by
   rw [hi,hv]
   simp
  rw [hs,hg]
  dsimp only
  exact Ze hh hI rfl (by simp) h
end
section
variable {prog:Program} {w:World} {A:Around} {E:Value→Shared→Prop} {s:Shared}
theorem ItSt.kept {h h':Heap} {I a:Addr} {es:Array (Int×Value)} {ep:Nat} {t:SetTable} {vals:List Value} {i:Nat} (x:ItSt w h I a es ep t vals i) (k:∀ b o,h.get? b=some o→o.cls≠.type "list"→h'.get? b=some o):ItSt w h' I a es ep t vals i:=by
 obtain ⟨ha,hm⟩:=x
 refine ⟨k _ _ ha (by simp),?_⟩
 rcases hm with ⟨hb,hI,hv⟩ | ⟨hb,T,ps,hI,hT,r⟩ | ⟨hb,hd,slot,hI,r⟩
 ·exact .inl ⟨hb,k _ _ hI (by simp),hv⟩
 ·exact .inr (.inl ⟨hb,T,ps,k _ _ hI (by simp),k _ _ hT (by simp),r⟩)
 ·exact .inr (.inr ⟨hb,hd,slot,k _ _ hI (by simp),r⟩)
theorem jez {a:Addr} {es:Array (Int×Value)} {ep:Nat} {t:SetTable} {Q:Value→Shared→Prop} (ha:s.heap.get? a=some (JF es ep t)) (hf:t.fits es.size=true) (ht:TabOk (ledOf w) t) (hz:es.size≤1000)
  (h:∀ I h' d' vals,s.heap.objs.size≤I→ItSt w h' I a es ep t vals 0→vals.Perm (es.toList.map (·.2))→(∀ b o,s.heap.get? b=some o→h'.get? b=some o)→Q (.ref I) { s with heap:=h',drawn:=d' }):wpAny (model prog w) A (pyIter (.ref a)) Q E s:=by
 have hT:s.TypeIs (.ref a) "set":=⟨_,ha,rfl⟩
 refine wpAny_pyIter_slot hT PySem.F.slot_set_iter (wpAny_call_entry PySem.F.slot_set_iter hT PySem.F.entry_set_iter' ?_ (PySem.F.args_set_iter_1 _))
 unfold Builtin.«frozenset.__iter__»
 refine wpAny_bind (wpAny_pure (wpAny_bind ?_))
 unfold Builtin.Frozenset.sizeOf setEntries
 refine wpAny_bind (wpAny_bind (wpAny_setState_of ha rfl hf (wpAny_pure (wpAny_pure ?_))))
 refine wpAny_bind ?_
 unfold setDrawn
 refine wpAny_bind (wpAny_setState_of ha rfl hf (wpAny_bind (yd (wpAny_pure ?_))))
 dsimp only
 show wpAny _ _ (if (!(w.params.followText "set-order") && Yb es t)=true then _ else _) _ _ _
 have fin:∀ (first:Value) (s1:Shared) (vals:List Value),s1.heap.get? a=some (JF es ep t)→vals.Perm (es.toList.map (·.2))→(∀ b o,s.heap.get? b=some o→s1.heap.get? b=some o)→s1.gens=s.gens→s1.toks=s.toks→s1.os=s.os→s.heap.objs.size≤s1.heap.objs.size→
   (∀ h' I,(∀ b o,s1.heap.get? b=some o→h'.get? b=some o)→s1.heap.objs.size=I→h'.get? I=some (YU first 0 a es.size ep)→ItSt w h' I a es ep t vals 0)→
   wpAny (model prog w) A.in1 (do let e ← setEpoch a;let i ← newFields "set_iterator" [first,rawInt 0,.ref a,rawInt es.size,rawInt e];ret i) (fun fin s'=>∃ v,fin=Fin.done (Flow.ret v)∧∃ T' r,s'.TypeIs v T'∧typeLookup (.type T') "__next__" = pure (some r)∧Q v s') E s1:=by
  intro first s1 vals h1 hp hk eg et eo hle hst
  refine wpAny_bind (wpAny_setEpoch_of h1 rfl hf ?_)
  refine wpAny_bind (wpAny_newObj_type (wpAny_pure ⟨_,rfl,"set_iterator",_,⟨_,Heap.get?_push_size _ rfl,rfl⟩,PySem.F.slot_seti_next.lookup,?_⟩))
  obtain ⟨hp1,g1,d1,t1,o1⟩:=s1
  dsimp only at eg et eo
  subst eg et eo
  exact h _ _ d1 vals hle (hst _ _ (fun b o e=>Heap.get?_push_of_some _ e) rfl (Heap.get?_push_size _ rfl)) hp fun b o e=>Heap.get?_push_of_some _ (hk b o e)
 cases hb:w.params.followText "set-order" with
 | true=>
  rw [if_neg (by simp)]
  refine wpAny_bind (wpAny_pure ?_)
  refine fin (rawInt 0) s ((pickOrder (w.params.setOrder a ep) es).toList.map (·.2)) ha ((jcO _ _).map _) (fun _ _ e=>e) rfl rfl rfl (Nat.le_refl _) fun h' I k _ hI=>?_
  exact ⟨k _ _ ha,.inl ⟨hb,hI,rfl⟩⟩
 | false=>
  cases hd:Yb es t with
  | true=>
   rw [if_pos (by simp)]
   refine wpAny_bind (Yc es.size (List.range es.size) s _ (by simp) fun ps d' hp=>?_)
   refine wpAny_bind (wpAny_newObj_type ?_ (by show (List.map _ ps).length≤_;rw [List.length_map,hp.length_eq,List.length_range];exact Nat.le_of_lt (jz hz)))
   have hps:∀ p∈ps,p < es.size:=fun p h=>List.mem_range.mp (hp.mem_iff.mp h)
   have hvp:(ps.map fun p=>(es.getD p (0,.none)).2).Perm (es.toList.map (·.2)):=by
    have h1:=hp.map fun p=>(es.getD p (0,.none)).2
    have e:((List.range es.size).map fun p=>(es.getD p (0,Value.none)).2)=es.toList.map (·.2):=by
     apply List.ext_getElem
     ·simp
     ·intro i h1 h2
      have hi:i < es.size:=by simpa using h1
      simp [hi]
    rw [e] at h1
    exact h1
   have lt:∀ o:Obj,s.heap.objs.size < (s.heap.push o).objs.size:=fun o=>by rw [size_push'];exact Nat.lt_succ_self _
   refine fin (.ref s.heap.objs.size) _ (ps.map fun p=>(es.getD p (0,.none)).2) (Heap.get?_push_of_some _ ha) hvp (fun b o e=>Heap.get?_push_of_some _ e) rfl rfl rfl (Nat.le_of_lt (lt _)) fun h' I k eI hI=>?_
   refine ⟨k _ _ (Heap.get?_push_of_some _ ha),.inr (.inl ⟨hb,s.heap.objs.size,ps,hI,k _ _ (Heap.get?_push_size _ rfl),?_,hps,rfl⟩)⟩
   rw [← eI]
   exact Nat.ne_of_lt (lt _)
  | false=>
   rw [if_neg (by simp)]
   refine wpAny_bind (wpAny_pure ?_)
   refine fin (rawInt 0) s (es.toList.map (·.2)) ha (List.Perm.refl _) (fun _ _ e=>e) rfl rfl rfl (Nat.le_refl _) fun h' I k _ hI=>?_
   refine ⟨k _ _ ha,.inr (.inr ⟨hb,hd,0,hI,?_,rfl⟩)⟩
   obtain ⟨b1,b2,b3⟩:=Yj ht.up 0
   rcases Nat.eq_zero_or_pos (SetTable.below t.place 0) with z | z
   ·exact z
   ·exact absurd (b2 0 z) (Nat.not_lt_zero _)
theorem jaM {S I a:Addr} {es:Array (Int×Value)} {ep:Nat} {t:SetTable} {vals:List Value} {res:Value} {R:Result→Shared→Prop} (hh:A.handled=none) (hf:t.fits es.size=true) (ht:TabOk (ledOf w) t) (hIa:a≠I) (hSI:S≠I) (hz:vals.length≤1000) :
  ∀ (k i:Nat) (s:Shared) (c:Nat),i+k=vals.length→ItSt w s.heap I a es ep t vals i→s.heap.get? S=some { cls:=.type "list",dict:=none,data:=.seq (vals.take i).toArray c,slots:=#[] }→
   (∀ h' c',h'.get? S=some { cls:=.type "list",dict:=none,data:=.seq vals.toArray c',slots:=#[] }→(∀ b o,b≠S→b≠I→s.heap.get? b=some o→h'.get? b=some o)→R (.ok (.ret res)) { s with heap:=h' })→
   codeAny (model prog w) A (.builtin "list.extend.loop" ⟨[.ref S,.ref I,res],[]⟩) R s:=by
 intro k
 induction k with
 | zero=>
  intro i s c hk hst hS hR
  have hi:i=vals.length:=by omega
  refine codeAny_builtin PySem.F.entry_extend_loop ?_
  rw [Around.under_plainId PySem.F.plain_extend_loop _]
  show wpAny _ A.in1 (pyNext (.ref I) >>= _) _ _ s
  refine wpAny_bind (jeo (A:=A.in1) hh hf ht hIa hst hi fun h1 k1=>?_)
  refine wpAny_pure ?_
  rw [hi,List.take_length] at hS
  exact hR h1 c (k1 _ _ hSI hS) fun b o _ hb e=>k1 _ _ hb e
 | succ k ih=>
  intro i s c hk hst hS hR
  have hi:i < vals.length:=by omega
  refine codeAny_builtin PySem.F.entry_extend_loop ?_
  rw [Around.under_plainId PySem.F.plain_extend_loop _]
  show wpAny _ A.in1 (pyNext (.ref I) >>= _) _ _ s
  refine wpAny_bind (jcZ (A:=A.in1) hf ht hIa hst hi fun h1 st1 k1=>?_)
  dsimp only
  have hS1:=k1 _ _ hSI hS
  refine wpAny_bind ?_
  show wpAny _ _ (updateSeq S (·.push (vals.getD i Value.none))) _ _ _
  refine wpAny_updateSeq hS1 rfl ?_ (by simp only [List.size_toArray,List.length_take];exact Nat.le_of_lt (jz (by omega))) (by simp only [Array.size_push,List.size_toArray,List.length_take];exact Nat.le_succ_of_le (Nat.le_of_lt (jz (by omega))))
  refine wpAny_pure ⟨plainId_quiet PySem.F.plain_extend_loop _,?_⟩
  obtain ⟨c2,hS2⟩:∃ c2,(h1.update S (Obj.mapSeq (·.push (vals.getD i Value.none)))).get? S=some (seqObj "list" ((vals.take i).toArray.push (vals.getD i Value.none)) c2):=⟨_,get?_update_seq hS1 _⟩
  have oth:∀ b o,b≠S→h1.get? b=some o→(h1.update S (Obj.mapSeq (·.push (vals.getD i Value.none)))).get? b=some o:=fun b o hb e=>(Heap.get?_update_other _ _ (Ne.symm hb)).trans e
  have et:((vals.take i).toArray.push (vals.getD i Value.none))=(vals.take (i+1)).toArray:=by
   rw [List.take_succ,List.getElem?_eq_getElem hi]
   simp [hi]
  rw [et] at hS2
  refine ih (i+1) _ c2 (by omega) (st1.kept fun b o e hc=>oth b o (fun z=>?_) e) hS2 fun h' c' e1 e2=>hR h' c' e1 fun b o hb hb2 e=>e2 b o hb hb2 (oth b o hb (k1 _ _ hb2 e))
  rw [z,hS1] at e
  cases e
  exact hc rfl
end
open PySem PySem.Spec PySem.Calls PyProof.Rows PySem.W
section
variable {prog:Program} {w:World} {A:Around} {E:Value→Shared→Prop} {s:Shared}
theorem jeC {r:Addr} {Q:Bool→Shared→Prop} (hT:s.TypeIs (.ref r) "set") (h:Q false s):wpAny (model prog w) A (Builtin.List.listLengthHint (.ref r)) Q E s:=by
 unfold Builtin.List.listLengthHint
 refine wpAny_bind (wpAny_specialOf hT PySem.F.slot_set_len.lookup ?_)
 generalize hid:("set.__len__" : String)=id0
 wp_delta
 rw [show splitId id0=some ("set","__len__") from by subst hid;decide +kernel]
 subst hid
 refine wpAny_bind (wpAny_isInstance (T:="set") (b:=true) hT (by rw [isSubtype_type];kernel_rfl) ?_)
 refine wpAny_ite_split (fun hab=>absurd hab (by decide)) (fun _=>?_)
 refine wpAny_ite_split (fun _=>?_) (fun hab=>absurd (by decide +kernel) hab)
 exact wpAny_bind (wpAny_typeOf hT (wpAny_pure h))
theorem jaW {a:Addr} {es:Array (Int×Value)} {ep:Nat} {t:SetTable} {R:List Value→Shared→Prop} (hh:A.handled=none) (ha:s.heap.get? a=some (JF es ep t)) (hf:t.fits es.size=true) (ht:TabOk (ledOf w) t) (hz:es.size≤1000)
  (h:∀ h' d' vals,vals.Perm (es.toList.map (·.2))→(∀ b o,s.heap.get? b=some o→h'.get? b=some o)→R vals { s with heap:=h',drawn:=d' }):wpAny (model prog w) A (collect (.ref a)) R E s:=by
 have haS:a < s.heap.objs.size:=Heap.lt_size ha
 unfold collect
 refine wpAny_bind (wpAny_runValue (codeAny_builtin entry_proto_collect' ?_))
 rw [Around.under_plainId PySem.F.plain_proto_collect _]
 show wpAny _ A.in1 (newList [] >>= fun l=>again (.builtin "list.__iadd__" ⟨[l,.ref a],[]⟩)) _ _ s
 refine wpAny_bind (wpAny_newObj_type ?_)
 refine wpAny_pure ⟨plainId_quiet PySem.F.plain_list_iadd _,codeAny_builtin entry_list_iadd' ?_⟩
 rw [Around.under_plainId PySem.F.plain_list_iadd _]
 show wpAny _ A.in1 (Builtin.List.listExtendWith (.ref s.heap.objs.size) (.ref a) (.ref s.heap.objs.size)) _ _ _
 have hS:(s.heap.push { cls:=.type "list",data:=.seq ([]:List Value).toArray }).get? s.heap.objs.size=some { cls:=.type "list",data:=.seq #[] }:=Heap.get?_push_size _ rfl
 have ha1:(s.heap.push { cls:=.type "list",data:=.seq ([]:List Value).toArray }).get? a=some (JF es ep t):=Heap.get?_push_of_some _ ha
 have old1:∀ b o,s.heap.get? b=some o→(s.heap.push { cls:=.type "list",data:=.seq ([]:List Value).toArray }).get? b=some o:=fun b o e=>Heap.get?_push_of_some _ e
 have sz1:s.heap.objs.size < (s.heap.push { cls:=.type "list",data:=.seq ([]:List Value).toArray }).objs.size:=Heap.lt_size hS
 generalize (s.heap.push { cls:=.type "list",data:=.seq ([]:List Value).toArray })=h1 at *
 unfold Builtin.List.listExtendWith
 refine wpAny_bind (wpAny_typeOf (T:="set") ⟨_,ha1,rfl⟩ ?_)
 have e1:Builtin.List.listSameRef (.ref s.heap.objs.size) (.ref a)=false:=by
  have:s.heap.objs.size≠a:=Nat.ne_of_gt haS
  simp [Builtin.List.listSameRef,this]
 rw [if_neg (by rw [e1];decide)]
 refine wpAny_bind (jez (A:=A.in1) (s:={ s with heap:=h1 }) ha1 hf ht hz fun I h2 d2 vals hI st hp old2=>?_)
 have ha2:=old2 _ _ ha1
 have hS2:=old2 _ _ hS
 have hSI:s.heap.objs.size≠I:=Nat.ne_of_lt (Nat.lt_of_lt_of_le sz1 hI)
 have hIa:a≠I:=Nat.ne_of_lt (Nat.lt_of_lt_of_le (Nat.lt_trans haS sz1) hI)
 have hvz:vals.length≤1000:=by
  rw [hp.length_eq,List.length_map,Array.length_toList]
  exact hz
 refine wpAny_bind (wpAny_holding (jeC ⟨_,ha2,rfl⟩ ?_))
 refine wpAny_ite_split (fun _=>?_) (fun _=>?_)
 ·refine wpAny_bind (wpAny_rule (wpAny_bind ?_))
  show wpAny _ _ (updateSeq s.heap.objs.size (·.push .none) >>= fun _=>updateSeq s.heap.objs.size (·.pop)) _ _ _
  refine wpAny_bind (wpAny_updateSeq hS2 rfl ?_ (by decide) (by show 1≤sizeLine+1;omega))
  obtain ⟨c3,hS3⟩:∃ c3,(h2.update s.heap.objs.size (Obj.mapSeq (·.push Value.none))).get? s.heap.objs.size=some (seqObj "list" (#[].push Value.none) c3):=⟨_,get?_update_seq hS2 _⟩
  refine wpAny_updateSeq hS3 rfl ?_ (by show 1≤sizeLine;rw [sizeLine_eq];decide) (by show 0≤sizeLine+1;omega)
  obtain ⟨c4,hS4⟩:∃ c4,((h2.update s.heap.objs.size (Obj.mapSeq (·.push Value.none))).update s.heap.objs.size (Obj.mapSeq (·.pop))).get? s.heap.objs.size=some (seqObj "list" ((#[].push Value.none).pop) c4):=⟨_,get?_update_seq hS3 _⟩
  have oth:∀ b o,b≠s.heap.objs.size→h2.get? b=some o→((h2.update s.heap.objs.size (Obj.mapSeq (·.push Value.none))).update s.heap.objs.size (Obj.mapSeq (·.pop))).get? b=some o:=fun b o hb e=>(Heap.get?_update_other _ _ (Ne.symm hb)).trans ((Heap.get?_update_other _ _ (Ne.symm hb)).trans e)
  refine wpAny_pure ⟨plainId_quiet PySem.F.plain_extend_loop _,jaM hh hf ht hIa hSI hvz vals.length 0 _ c4 (by omega) (st.kept fun b o e hc=>oth b o (fun z=>?_) e) hS4 fun h' c' e k=>?_⟩
  ·rw [z,hS2] at e
   cases e
   exact hc rfl
  ·show wpAny _ A (load s.heap.objs.size >>= _) _ _ _
   refine wpAny_bind (wpAny_load e (wpAny_pure ?_))
   refine h h' d2 vals hp fun b o q=>?_
   have hb:=Heap.lt_size q
   exact k b o (Nat.ne_of_lt hb) (Nat.ne_of_lt (Nat.lt_of_lt_of_le (Nat.lt_trans hb sz1) hI)) (oth b o (Nat.ne_of_lt hb) (old2 _ _ (old1 _ _ q)))
 ·refine wpAny_pure ⟨plainId_quiet PySem.F.plain_extend_loop _,jaM hh hf ht hIa hSI hvz vals.length 0 _ _ (by omega) st hS2 fun h' c' e k=>?_⟩
  show wpAny _ A (load s.heap.objs.size >>= _) _ _ _
  refine wpAny_bind (wpAny_load e (wpAny_pure ?_))
  refine h h' d2 vals hp fun b o q=>?_
  have hb:=Heap.lt_size q
  exact k b o (Nat.ne_of_lt hb) (Nat.ne_of_lt (Nat.lt_of_lt_of_le (Nat.lt_trans hb sz1) hI)) (old2 _ _ (old1 _ _ q))
end
abbrev jgC (X:Cx) (v:Addr) (σ:List Int):HO:=.ext fun h=>SetAt X.prog X.w h v (ledOf X.w) σ
theorem Inv.drawn {X:Cx} {pins:List (Addr×Obj)} {σ:St} {H:Hp} {s:Shared} {h':Heap} {d':Drawn} (I:Inv X pins σ H s) (k:∀ b u,s.heap.get? b=some u→h'.get? b=some u):Inv X pins σ H { s with heap:=h',drawn:=d' }:=
 I.call (g':=s.gens) (t':=s.toks) (d':=d') (ch:=[]) (Un.kept k) (I.hok.kept k) I.bare fun _ z=>nomatch z
theorem Yz {X:Cx} (hc:X.calm=true):q8 X (.type "set") (fun xs H Q=>∃ (p:Addr) (ns:List Int),xs=[.ref p]∧SqL X.K H p (ns.map V.int)∧ns.length≤1000∧∀ v,H v=none→Q (.ref v) (upd H v (jgC X v (dedup ns)))):=by
 intro pins s σ H xs us Q I r h
 obtain ⟨p,ns,rfl,hq,hz,q⟩:=h
 obtain ⟨u,rfl,rx⟩:=yf r
 cases rx
 obtain ⟨its,rv,⟨⟨c1,d1,t1,l1⟩,n1,o1,z1,z2,z3⟩,hz1⟩:=I.list hq
 simp only at z1 z2 z3
 subst z1 z2 z3
 refine PySem.set_of_list (I.ok.hd hc) o1 (jaH rv) (by unfold scanBound;omega) fun h' tk hS hk=>?_
 have hS':=hS
 obtain ⟨es,ep,t,e,_⟩:=hS'
 refine ⟨.ref s.heap.objs.size,_,I.laid (t':=tk) hk (Nat.le_refl _) (show ObjOk X.prog X.w _ _ _ (jgC X s.heap.objs.size (dedup ns)) from ⟨hS,⟨_,e⟩,fun h1 h2 x k=>x.kept k⟩),rfl,q _ (I.hok.fresh (Nat.le_refl _))⟩
theorem Kg {X:Cx} (hc:X.calm=true):q8 X (.builtin "sorted") (fun xs H Q=>∃ (p:Addr) (τ:List Int),xs=[.ref p]∧H p=some (jgC X p τ)∧τ.length < 64∧∀ (l:Addr) (ns:List Int),H l=none→ns.Perm τ→ns.Pairwise (·≤·)→Q (.ref l) (upd H l (.lst (ns.map V.int)))):=by
 intro pins s σ H xs us Q I r h
 obtain ⟨p,τ,rfl,hp,h64,q⟩:=h
 obtain ⟨u,rfl,rx⟩:=yf r
 cases rx
 obtain ⟨⟨es,ep,t,ho,hel,⟨l0,hI0,hp0⟩,hb,hf,ht⟩,_⟩:=I.hok p _ hp
 have hz:es.size=τ.length:=by
  have h1:=hI0.length
  rw [List.length_map,Array.length_toList] at h1
  rw [h1,hp0.length_eq]
 refine Calls.call_function_entry kind_sorted plain_sorted entry_sorted (args_sorted1 _) ?_
 unfold Builtin.«sorted»
 refine wpAny_bind (m:=checkCount "sorted" 1 1 _) (wpAny_pure (wpAny_bind ?_))
 refine jaW (A:=X.A.in1) (show X.A.in1.handled=none from I.ok.hd hc) ho hf ht (by omega) fun h' d' vals hv hk=>?_
 obtain ⟨ns0,hI,hp1⟩:=JP hI0 hv
 have hl:vals.length=τ.length:=by rw [hI.length,hp1.length_eq,hp0.length_eq]
 refine wpAny_bind (wpAny_newList ?_ (by rw [hl];exact Nat.le_trans (by omega) jes))
 have hoL:(h'.push (seqObj "list" vals.toArray 0)).get? h'.objs.size=some (seqObj "list" vals.toArray 0):=Heap.get?_push_size _ rfl
 refine wpAny_bind (wpAny_holding (wpAny_call_entry slot_list_sort ⟨_,hoL,rfl⟩ entry_list_sort (list_sort_tree hoL hI (by omega) fun out ns' a1 a2 a3=>⟨_,rfl,?_⟩) (args_list_sort _)))
 refine wpAny_pure ⟨_,rfl,?_⟩
 have I1:Inv X pins σ H { s with heap:=h',drawn:=d' }:=I.drawn hk
 obtain ⟨e,he⟩:=sortedHeap_at (out:=out) hoL
 refine ⟨.ref h'.objs.size,_,I1.laid (t':=s.toks) (a:=h'.objs.size) (fun b o hb=>?_) (Nat.le_refl _) (show ObjOk X.prog X.w _ _ _ (.lst (ns'.map V.int)) from ⟨?_,_,e,JA a1,?_⟩),rfl,q _ _ (I1.hok.fresh (Nat.le_refl _)) (a2.trans (hp1.trans hp0)) a3⟩
 ·have hlt:=Heap.lt_size hb
  rw [sortedHeap_old (Nat.ne_of_lt hlt) (by rw [size_push'];exact Nat.lt_succ_of_lt hlt)]
  exact Heap.get?_push_of_some _ hb
 ·rw [List.length_map,a2.length_eq,← hI.length,hl]
  exact Nat.le_trans (by omega) jes
 ·rw [Array.toArray_toList]
  exact he
abbrev jcG (P:Program) (w:World) (v:Addr) (σ:List Int):HO:=.ext fun h=>SetAt P w h v (ledOf w) σ
theorem Yh {X:Cx} {P:Program} {w:World} (hc:X.calm=true) (h1:X.prog=P:=by rfl) (h2:X.w=w:=by rfl):q8 X (.type "set") (fun xs H Q=>∃ (p:Addr) (ns:List Int),xs=[.ref p]∧SqL X.K H p (ns.map V.int)∧ns.length≤1000∧∀ v,H v=none→Q (.ref v) (upd H v (jcG P w v (dedup ns)))):=by
 subst h1 h2
 exact Yz hc
theorem JX {X:Cx} {P:Program} {w:World} (hc:X.calm=true) (h1:X.prog=P:=by rfl) (h2:X.w=w:=by rfl):q8 X (.builtin "sorted") (fun xs H Q=>∃ (p:Addr) (τ:List Int),xs=[.ref p]∧H p=some (jcG P w p τ)∧τ.length < 64∧∀ (l:Addr) (ns:List Int),H l=none→ns.Perm τ→ns.Pairwise (·≤·)→Q (.ref l) (upd H l (.lst (ns.map V.int)))):=by
 subst h1 h2
 exact Kg hc
theorem jdn {X:Cx} {scope:Scope} {own:List Str} {fr:List Nat} {elt tg iter:Expr} {ifs:List Expr} {pos:Pos} {wi:TI} {g:TG} {tt:TT} {te:TE} {use:Option (Value→Sem Unit)} (hc:X.calm=true) (O:CompOk X scope fr) (hi:PI X tg iter wi)
  (hb:∀ s H ex,PG (blk X scope own fr s H ex) tg g∧PTs (blk X scope own fr s H ex) ifs tt∧PE (blk X scope own fr s H ex) elt te)
  (hs:∀ x,foldedSetIterable iter X.env x=pure x) {pins:List (Addr×Obj)} {s:Shared} {σ:St} {H:Hp} {Q:VK} {R:Value→Shared→Prop} (I:Inv X pins σ H s) (h:YD own fr wi g tt te σ H Q) (hx:∀ e s',X.xe e s'↔False)
  (fin:∀ (p C:Addr) (H':Hp) (s':Shared) (m:Str→Option Value),s'.heap.Ns C m→H' C=none→C≠X.env.locals→(∀ x c,X.env.cells.lookup x=some c→c≠C)→X.s₀.heap.objs.size≤C→(∀ p∈X.pn++pins,p.1≠C)→Inv X pins σ H' s'→(∀ h',Heap.SameBut C s'.heap h'→Inv X pins σ H' { s' with heap:=h' })→Q (.ref p) H'→
   compPost (model X.prog X.w) X.A X.xe use R (.ref p) C (.ok .next) s') :
  wpAny (model X.prog X.w) X.A (comprehension (.ListComp elt [⟨tg,iter,ifs,0⟩] scope pos) scope X.env (firstIterPos [⟨tg,iter,ifs,0⟩] pos) (newList []) false (eval iter X.env) use) R X.xe s:=by
 have hsome:∀ x∈scope.names,x.2=.free→(X.env.cells.lookup x.1).isSome=true:=fun x hx' e=>by
  obtain ⟨c,hc⟩:=I.ok.has x.1 (O.frees x hx' e)
  rw [hc];rfl
 have no:∀ (E:Value→Shared→Prop) (x:Value) (s':Shared),X.xe x s'→E x s':=fun E x s' z=>((hx x s').mp z).elim
 refine wpAny_comprehension_free (cl:=yh X.env.cells scope.names []) rfl hs (y4 hsome) O.kind O.loc ?_
 refine thn (hi pins s σ H _ I h) fun v s1 h1=>thn h1 fun itv s2 h2=>?_
 obtain ⟨it,fp,tn,J,H2,e,I2,T,st2,f2,q2⟩:=h2
 subst e
 refine wpAny_newObj_type ?_
 have nw:H2 s2.heap.objs.size=none:=I2.fresh
 obtain ⟨W,⟨m0,w0⟩,turn⟩:=q2 _ nw
 generalize hp:s2.heap.objs.size=p at *
 have I3:Inv X pins σ (upd H2 p (.lst [])) { s2 with heap:=s2.heap.push { cls:=.type "list",dict:=none,data:=.seq ([]:List Value).toArray } }:=by
  have:=I2.lnew (ys:=[]) (its:=[]) (t':=s2.toks) .nil (Nat.zero_le _)
  rw [hp] at this
  exact this
 have lt2:∀ b∈fp,b < s2.heap.objs.size:=fun b hb=>by
  obtain ⟨o,ho,_⟩:=T.obj _ _ st2 b hb
  exact Heap.lt_size ho
 have fpn:∀ b∈fp,(upd H2 p (.lst [])) b=none:=fun b hb=>by
  rw [jg (by rw [← hp];exact Nat.ne_of_lt (lt2 b hb))]
  exact (f2 b hb).1
 generalize hs3:({ s2 with heap:=s2.heap.push { cls:=.type "list",dict:=none,data:=.seq ([]:List Value).toArray } }:Shared)=s3 at *
 have sz3:s3.heap.objs.size=p+1:=by
  rw [← hs3]
  show (s2.heap.push _).objs.size=_
  rw [Heap.size_push,hp]
 have st3:tn 0 s3.heap:=T.keep 0 _ _ st2 fun b hb o e=>by
  rw [← hs3]
  exact Heap.get?_push_of_some _ e
 refine wpAny_newFunctionEnv O.nocell (by intro y hy;simp at hy) (fun h4 hns4 hsb4=>?_) O.kind
 have k4:∀ b o,s3.heap.get? b=some o→h4.get? b=some o:=fun b o e=>hsb4.extBut b o (Nat.ne_of_lt (Heap.lt_size e)) (Heap.get?_push_of_some _ e)
 have hns4':h4.Ns s3.heap.objs.size fun _=>none:=by
  have z:(fun x:Str=>([]:List (Str×Value)).reverse.lookup x)=fun _=>none:=by funext x;rfl
  rw [z] at hns4
  exact hns4
 have fo:∀ b∈fp,Jy X pins (upd H2 p (.lst [])) b∧b < s3.heap.objs.size:=fun b hb=>⟨⟨fpn b hb,(f2 b hb).2⟩,by rw [sz3,← hp];exact Nat.lt_succ_of_lt (lt2 b hb)⟩
 have I4:=ZG (own:=own) (fr:=fr) (t1:=s3.toks+([]:List (Str×Value)).length) I3 O fo hns4' k4
 have st4:tn 0 h4:=T.keep 0 _ _ st3 fun b hb o e=>k4 b o e
 obtain ⟨hg,ht,he⟩:=hb s3 (upd H2 p (.lst [])) fp
 have stat:∀ {H':Hp} {pn:List (Addr×Obj)} {s':Shared} {σ':St},Inv (blk X scope own fr s3 (upd H2 p (.lst [])) fp) [] σ' H' s'→(∀ b∈fp,H' b=none)→∀ b∈fp,Jy (blk X scope own fr s3 (upd H2 p (.lst [])) fp) [] H' b:=fun {H' pn s' σ'} J hn b hb'=>
  ⟨hn b hb',(J.ok.exf b hb').1,J.ok.exfs b hb',.inl hb',(J.ok.exf b hb').2,fun p hp=>absurd hp (by simp [blk])⟩
 have nocells:∀ x c,X.env.cells.lookup x=some c→c≠s3.heap.objs.size:=fun x c e=>by
  obtain ⟨v,q⟩:=I3.cell x c e
  exact Nat.ne_of_lt q.lt
 have loop:∀ s5:Shared,s5={ s3 with heap:=h4,toks:=s3.toks+([]:List (Str×Value)).length }→
   codeAny (model X.prog X.w) X.A (.compLoop (.ListComp elt [⟨tg,iter,ifs,0⟩] scope pos) 0 (.ref it) (.ref p) (blk X scope own fr s3 (upd H2 p (.lst [])) fp).env) (compPost (model X.prog X.w) X.A X.xe use R (.ref p) s3.heap.objs.size) s5:=by
  rintro s5 rfl
  refine Jt (fun n s'=>∃ i σ' H',Inv (blk X scope own fr s3 (upd H2 p (.lst [])) fp) [] σ' H' s'∧tn i s'.heap∧(∀ b∈fp,H' b=none)∧W i n σ' H') ?_ m0 ⟨0,_,_,I4,st4,fpn,w0⟩
  rintro n s6 ⟨i,σ6,H6,I6,st6,fr6,w6⟩
  rcases turn i n σ6 H6 w6 with ⟨stop,qn⟩ | ⟨go,N,hN,step⟩
  ·refine thn (T.done (blk X scope own fr s3 (upd H2 p (.lst [])) fp) rfl rfl rfl hc i [] s6 σ6 H6 _ I6 (stat (pn:=[]) I6 fr6) st6 stop) fun r s7 ⟨hr,I7⟩=>?_
   subst hr
   obtain ⟨m,hm,_⟩:=I7.loc
   exact fin p _ H6 s7 m hm I7.free (Nat.ne_of_gt I3.lt) nocells I3.sz (fun p hp=>Nat.ne_of_lt (Heap.lt_size (I3.pin p hp).1)) (zP I3 fo I7 (Heap.SameBut.refl ..)) (fun h' hs'=>zP I3 fo I7 hs') qn
  ·refine thn (T.item (blk X scope own fr s3 (upd H2 p (.lst [])) fp) rfl rfl rfl hc i [] s6 σ6 H6 _ I6 (stat (pn:=[]) I6 fr6) st6 go) fun r s7 ⟨u,hr,h7⟩=>?_
   subst hr
   refine thn h7 fun _ s8 ⟨x,H8,I8,r8,y8,st8,fr8⟩=>?_
   have I8':=I8.pinned (stat (pn:=[]) I8 fr8) (T.obj _ _ st8)
   refine thn (hg _ s8 σ6 H8 x u _ I8' r8 (step x H8 y8)) fun _ s9 ⟨σ9,H9,I9,q9⟩=>?_
   refine thn (ht _ s9 σ9 H9 _ I9 q9) fun ok s10 ⟨H10,I10,q10⟩=>?_
   have again:∀ {H11:Hp} {s11:Shared},Inv (blk X scope own fr s3 (upd H2 p (.lst [])) fp) ([]++zW fp s8.heap) σ9 H11 s11→(∃ m',m' < n∧W (i+1) m' σ9 H11)→
     ∃ m,m < n∧∃ i σ' H',Inv (blk X scope own fr s3 (upd H2 p (.lst [])) fp) [] σ' H' s11∧tn i s11.heap∧(∀ b∈fp,H' b=none)∧W i m σ' H':=fun {H11 s11} I11 ⟨m',hm,w11⟩=>by
    refine ⟨m',hm,i+1,σ9,H11,I11.unpinned,T.keep _ _ _ st8 fun b hb' o e=>(I11.pin (b,o) (List.mem_append_right _ (List.mem_append_right _ (qm hb' e)))).1,fun b hb'=>?_,w11⟩
    obtain ⟨o,e,d⟩:=T.obj _ _ st8 b hb'
    exact (I11.pin (b,o) (List.mem_append_right _ (List.mem_append_right _ (qm hb' e)))).2.1
   cases ok with
   | false=>
    rw [if_neg Bool.false_ne_true] at q10 ⊢
    exact again I10 (hN _ _ q10)
   | true=>
    rw [if_pos rfl] at q10 ⊢
    refine thn (he _ s10 σ9 H10 _ I10 q10) fun yv s11 ⟨y,H11,I11,r11,ys,hys,hlen,q11⟩=>?_
    have ap:=kF (X:=blk X scope own fr s3 (upd H2 p (.lst [])) fp) ([]++zW fp s8.heap) s11 σ9 H11 (.ref p) [y] (.ref p) [yv] (fun _ H12=>∃ m',m' < n∧W (i+1) m' σ9 H12) I11 rfl (.cons r11 .nil) ⟨p,ys,y,rfl,rfl,hys,hlen,hN _ _ q11⟩
    exact thn ap fun _ s12 ⟨_,H12,I12,_,q12⟩=>again I12 q12
 refine codeAny_compStart_list (loop _ rfl) (T.self X.A 0 _ _ _ st4 (loop _ rfl))
theorem yT {X:Cx} {scope:Scope} {elt tg iter:Expr} {ifs:List Expr} {pos:Pos} {wi:TI} {g:TG} {tt:TT} {te:TE} {i:Nat} {y:Str} {py spos:Pos} (hN:X.N.Nodup) (hi':X.N[i]?=some y) (hy:Loc X.env.scope y) (own:List Str) (fr:List Nat) (hc:X.calm=true) (O:CompOk X scope fr) (hi:PI X.nox tg iter wi)
  (hb:∀ s H ex,PG (blk X.nox scope own fr s H ex) tg g∧PTs (blk X.nox scope own fr s H ex) ifs tt∧PE (blk X.nox scope own fr s H ex) elt te)
  (hs:∀ x,foldedSetIterable iter X.env x=pure x:=by intro _;rfl)
  (hsw:swapsWith (.ListComp elt [⟨tg,iter,ifs,0⟩] scope pos) (some (.Name y py)) spos.line X.env=pure true:=by rfl)
  (hf:X.fn y=true∨X.env.scope.names.lookup y=some .local:=by first | exact .inl rfl | exact .inr rfl | assumption) :
  PS X.nox (.Assign [.Name y py] (.ListComp elt [⟨tg,iter,ifs,0⟩] scope pos) spos) (jbb (YD own fr wi g tt te) (qo i)):=by
 intro pins s σ H D I h
 rw [exec_Assign_Name_used _ _ _ _ hsw]
 refine wpAny_bind (wpAny_standAt (wpAny_bind ?_))
 show wpAny _ _ (do let _ ← comprehension (.ListComp elt [⟨tg,iter,ifs,0⟩] scope pos) scope X.nox.env _ (newList []) false (eval iter X.nox.env) (some (assign (.Name y py) X.nox.env))) _ _ s
 refine wpAny_bind (wpAny_mono (jdn (X:=X.nox) (use:=some (assign (.Name y py) X.nox.env)) (R:=fun _ s'=>SP X.nox pins D .next s') hc ⟨O.kind,O.nocell,O.loc,O.frees,O.fr⟩ hi hb hs I h (fun _ _=>Iff.rfl)
  fun p C H' s' m hm hC hL hcs hz hpn I' back q=>?_) (fun _ s' hq=>wpAny_pure (wpAny_pure hq)) fun _ _ e=>e)
 show wpAny _ _ (assign (.Name y py) X.nox.env (.ref p)) _ _ _
 refine wpAny_assign_Name (YE (v:=.ref p) I' hN hi' hy rfl (fun s2 I2 hsb=>?_) hf)
 obtain ⟨a,hsa,ha⟩:=hsb
 have hCa:C≠a:=by
  rcases ha with rfl | e
  ·exact hL
  ·exact fun z=>hcs _ _ e z.symm
 refine ⟨m,hm.sameBut hsa hCa,fun h' hs'=>?_⟩
 exact ⟨_,H',I2.turned (t':=s2.toks) (fun b o hb e=>(hs'.2 b hb).trans e) hC hL (.inr hz) hcs hpn,q⟩
section
variable {X:Cx} {pins:List (Addr×Obj)} {σ:St} {H:Hp} {s:Shared} {tg:Expr}
theorem Inv.relabel {a:Addr} {u v:HO} (I:Inv X pins σ H s) (hu:H a=some u) (h1:∀ xs,u≠.tup xs) (h2:∀ ps,u≠.tbl ps) (h3:∀ o z,X.H₀ a≠some (.frz o z)) (h4:∀ x,u≠.own x) (hv:ObjOk X.prog X.w (upd H a v) s.heap a v):Inv X pins σ (upd H a v) s:=by
 have ne:∀ b,H b=none→b≠a:=fun b n z=>by rw [z,hu] at n;cases n
 have nt:∀ b xs,H b=some (.tup xs)→b≠a:=fun b xs n z=>by rw [z,hu] at n;exact h1 xs (Option.some.inj n)
 have no:∀ b x,H b=some (.own x)→b≠a:=fun b x n z=>by rw [z,hu] at n;exact h4 x (Option.some.inj n)
 refine ⟨I.ok,I.os,I.bare,⟨I.base.keep,I.base.slot,fun b o e n hx=>?_,I.base.there,fun b xs e=>?_,fun b o z e=>?_,fun b ps e=>?_⟩,I.loc,I.cell,?_,fun x c e=>?_,fun p hp=>?_,fun b o e=>?_,I.len⟩
 ·have q:=I.base.free b o e n hx
  rw [jg (ne b q)];exact q
 ·have q:=I.base.tups b xs e
  rw [jg (nt b xs q)];exact q
 ·have hb:b≠a:=fun z'=>by subst z';exact h3 _ _ e
  rw [jg hb]
  exact I.base.frzs b o z e
 ·obtain ⟨m,q⟩:=I.base.tbls b ps e
  have hb:b≠a:=fun z'=>by rw [z',hu] at q;exact h2 _ (Option.some.inj q)
  exact ⟨m,by rw [jg hb];exact q⟩
 ·rw [jg (ne _ I.free)];exact I.free
 ·rw [jg (ne _ (I.freeC x c e))];exact I.freeC x c e
 ·obtain ⟨q1,q2,q3⟩:=I.pin p hp
  exact ⟨q1,by rw [jg (ne _ q2)];exact q2,q3⟩
 ·by_cases hb:b=a
  ·subst hb
   rw [ja] at e
   cases e
   exact hv
  ·rw [jg hb] at e
   exact (I.hok b o e).stay (fun _ _ _ q=>q) (fun c q=>by rw [jg (no c _ q)];exact q) fun c xs q=>by rw [jg (nt c xs q)];exact q
end
theorem ZT:bootBuiltins "enumerate" = some (.type "enumerate"):=by decide +kernel
end L2
namespace PySem
open AutoSeq1 (wpAny_loadPart')
section
variable {prog:Program} {w:World} {A:Around} {E:Value→Shared→Prop} {s:Shared}
theorem Jc {it t:Addr} {i:Nat} {items} {x:Value} {Q:Value→Shared→Prop} (hit:s.heap.IsTupleIter it t i) (ht:s.heap.IsTuple t items) (hx:items[i]?=some x)
  (hQ:∀ h',h'.IsTupleIter it t (i+1)→Heap.SameBut it s.heap h'→Q x { s with heap:=h' }):wpAny (model prog w) A (Builtin.SmallTypes.nextOf (.ref it)) Q E s:=by
 obtain ⟨o,ho,hc,hd⟩:=id hit
 obtain ⟨ol,hol,_,nl,hdl⟩:=ht
 unfold Builtin.SmallTypes.nextOf
 refine wpAny_bind (wpAny_callSpecial?_slot (name:=Str.ofString "__next__") hit.typeIs F.slot_tuple_iterator_next (wpAny_call_entry F.slot_tuple_iterator_next hit.typeIs F.entry_tuple_iterator_next ?_ (F.args_tuple_iterator_next_1 _)))
 show wpAny _ _ (field (.ref it) 0 >>= _) _ _ s
 refine wpAny_bind (wpAny_field ho hd (x:=.ref t) rfl ?_)
 show wpAny _ _ (if (Value.ref t == Value.none)=true then _ else _) _ _ s
 rw [if_neg (show ¬ ((Value.ref t == Value.none)=true) from Bool.false_ne_true)]
 show wpAny _ _ (field (.ref it) 1 >>= _) _ _ s
 refine wpAny_bind (wpAny_field ho hd (x:=.int i 0) rfl ?_)
 show wpAny _ _ (seqItems? (.ref t) >>= _) _ _ s
 refine wpAny_bind (wpAny_seqItems hol hdl ?_)
 simp only [Int.toNat_natCast,hx]
 refine wpAny_bind (wpAny_setField ho hd (by simp) (wpAny_pure ⟨x,rfl,wpAny_pure (hQ _ ?_ (Heap.SameBut.update ..))⟩))
 exact ⟨_,Heap.get?_update_self _ ho (Obj.isFreed_of_fields (Obj.data_mapFields hd _)),(Obj.cls_mapFields ..).trans hc,by rw [Obj.data_mapFields hd];simp [rawInt]⟩
theorem za {it t:Addr} {i:Nat} {items} {Q:Value→Shared→Prop} (hh:A.handled=none) (hit:s.heap.IsTupleIter it t i) (ht:s.heap.IsTuple t items) (hx:items[i]?=none)
  (hE:∀ h' e,Heap.ExtBut it s.heap h'→(∃ o,h'.get? e=some o∧o.cls=.type "StopIteration")→E (.ref e) { s with heap:=h' }):wpAny (model prog w) A (Builtin.SmallTypes.nextOf (.ref it)) Q E s:=by
 obtain ⟨o,ho,hc,hd⟩:=id hit
 obtain ⟨ol,hol,_,nl,hdl⟩:=ht
 unfold Builtin.SmallTypes.nextOf
 refine wpAny_bind (wpAny_callSpecial?_slot (name:=Str.ofString "__next__") hit.typeIs F.slot_tuple_iterator_next (wpAny_call_entry F.slot_tuple_iterator_next hit.typeIs F.entry_tuple_iterator_next ?_ (F.args_tuple_iterator_next_1 _)))
 show wpAny _ _ (field (.ref it) 0 >>= _) _ _ s
 refine wpAny_bind (wpAny_field ho hd (x:=.ref t) rfl ?_)
 show wpAny _ _ (if (Value.ref t == Value.none)=true then _ else _) _ _ s
 rw [if_neg (show ¬ ((Value.ref t == Value.none)=true) from Bool.false_ne_true)]
 show wpAny _ _ (field (.ref it) 1 >>= _) _ _ s
 refine wpAny_bind (wpAny_field ho hd (x:=.int i 0) rfl ?_)
 show wpAny _ _ (seqItems? (.ref t) >>= _) _ _ s
 refine wpAny_bind (wpAny_seqItems hol hdl ?_)
 simp only [Int.toNat_natCast,hx]
 refine wpAny_bind (wpAny_rule (wpAny_bind (wpAny_setField ho hd (by simp) ?_)))
 show wpAny _ _ (newExc (.type "StopIteration") [] >>= _) _ _ _
 refine wpAny_bind ?_
 simp only [newExc,newTuple]
 refine wpAny_bind (wpAny_newObj_type ?_ (by size_fits))
 refine wpAny_bind (m:=firstArgMember _ _) (wpAny_of_eq (a:=Value.none) (by first | rfl | (simp only [firstArgMember];rfl)) ?_)
 refine wpAny_newObj_type ?_ (by size_fits)
 simp only [raiseNew]
 refine wpAny_bind (wpAny_handled ?_)
 first | rw [show A.in1.handled=none from hh] | rw [hh]
 refine wpAny_bind (wpAny_pure (wpAny_throw ?_))
 exact hE _ _ (((Heap.SameBut.update ..).extBut.push _).push _) ⟨_,Heap.get?_push_size _ rfl,rfl⟩
theorem jde {e it:Addr} {i:Nat} {x old:Value} {Q:Value→Shared→Prop} {St:Heap→Prop} (he:IsEnum s.heap e it i old) (hne:e≠it)
  (hin:∀ Q':Value→Shared→Prop,(∀ h',St h'→Heap.SameBut it s.heap h'→Q' x { s with heap:=h' })→wpAny (model prog w) A (Builtin.SmallTypes.nextOf (.ref it)) Q' E s)
  (keep:∀ h h',St h→(∀ o,h.get? it=some o→h'.get? it=some o)→St h')
  (hQ:∀ h',IsEnumOut h' e it ((i:Int)+1) x s.heap.objs.size→St h'→h'.get? s.heap.objs.size=some { cls:=.type "tuple",data:=.seq #[.int i s.toks,x] }→h'.objs.size=s.heap.objs.size+1→
   (∀ b o,b≠e→b≠it→s.heap.get? b=some o→h'.get? b=some o)→Q (.ref s.heap.objs.size) { s with heap:=h',toks:=s.toks+1 }) :
  wpAny (model prog w) A (Builtin.«enumerate.__next__» ⟨[.ref e],[]⟩) (fun fin s'=>∃ v,fin=.done (.ret v)∧Q v s') E s:=by
 obtain ⟨hp,g,d,tk,os⟩:=s
 show wpAny _ _ (field (.ref e) 2 >>= _) _ _ _
 refine wpAny_bind (wpAny_field he rfl (x:=.ref it) rfl ?_)
 refine wpAny_bind (hin _ fun h1 st1 b1=>?_)
 replace b1:Heap.SameBut it hp h1:=b1
 have e1:IsEnum h1 e it i old:=(b1.2 e hne).trans he
 show wpAny _ _ (field (.ref e) 3 >>= _) _ _ ⟨h1,g,d,tk,os⟩
 refine wpAny_bind (wpAny_field e1 rfl (x:=rawInt i) rfl ?_)
 show wpAny _ _ (field (.ref e) 4 >>= _) _ _ ⟨h1,g,d,tk,os⟩
 refine wpAny_bind (wpAny_field e1 rfl (x:=.none) rfl ?_)
 show wpAny _ _ (mkInt i >>= _) _ _ ⟨h1,g,d,tk,os⟩
 refine wpAny_bind (wpAny_mkInt ?_)
 show wpAny _ _ (setField (.ref e) 3 (rawInt ((i:Int)+1)) >>= _) _ _ ⟨h1,g,d,tk+1,os⟩
 refine wpAny_bind (wpAny_setField_rec e1 (by simp) fun h2 e2 b2=>?_)
 replace b2:Heap.SameBut e h1 h2:=b2
 replace e2:IsEnum h2 e it ((i:Int)+1) old:=e2
 show wpAny _ _ (setField (.ref e) 4 .none >>= _) _ _ ⟨h2,g,d,tk+1,os⟩
 refine wpAny_bind (wpAny_setField_rec e2 (by simp) fun h3 e3 b3=>?_)
 replace b3:Heap.SameBut e h2 h3:=b3
 replace e3:IsEnum h3 e it ((i:Int)+1) old:=e3
 show wpAny _ _ (newTuple [.int i tk,x] >>= _) _ _ ⟨h3,g,d,tk+1,os⟩
 refine wpAny_bind (wpAny_newTuple ?_)
 have hsz:h3.objs.size=hp.objs.size:=by rw [b3.1,b2.1,b1.1]
 have st3:St h3:=keep h1 h3 st1 fun o q=>(b3.2 it (Ne.symm hne)).trans ((b2.2 it (Ne.symm hne)).trans q)
 have e4:IsEnum (h3.push { cls:=.type "tuple",data:=.seq #[.int i tk,x] }) e it ((i:Int)+1) old:=Heap.get?_push_of_some _ e3
 have st4:St (h3.push { cls:=.type "tuple",data:=.seq #[.int i tk,x] }):=keep h3 _ st3 fun o q=>Heap.get?_push_of_some _ q
 have t4:(h3.push { cls:=.type "tuple",data:=.seq #[.int i tk,x] }).get? hp.objs.size=some { cls:=.type "tuple",data:=.seq #[.int i tk,x] }:=by rw [← hsz];exact Heap.get?_push_size _ rfl
 have z4:(h3.push { cls:=.type "tuple",data:=.seq #[.int i tk,x] }).objs.size=hp.objs.size+1:=by rw [Heap.size_push,hsz]
 have k4:∀ b o,b≠e→b≠it→hp.get? b=some o→(h3.push { cls:=.type "tuple",data:=.seq #[.int i tk,x] }).get? b=some o:=fun b o hbe hbi hb=>
  Heap.get?_push_of_some _ (b3.extBut b o hbe (b2.extBut b o hbe (b1.extBut b o hbi hb)))
 have hel:e < hp.objs.size:=Heap.lt_size he
 rw [hsz]
 generalize h3.push { cls:=.type "tuple",data:=.seq #[.int i tk,x] }=h4 at *
 clear e3 b3 e2 b2 e1 b1 st1 st3 hsz
 show wpAny _ _ (Builtin.SmallTypes.ownedTupleIsFree (.ref e) >>= _) _ _ ⟨h4,g,d,tk+1,os⟩
 refine wpAny_bind ?_
 unfold Builtin.SmallTypes.ownedTupleIsFree
 refine wpAny_bind (wpAny_field e4 rfl (x:=.none) rfl (wpAny_pure ?_))
 simp only [if_true]
 refine wpAny_bind (wpAny_rule ?_)
 refine wpAny_bind (wpAny_field e4 rfl (x:=old) rfl ?_)
 refine wpAny_bind (wpAny_setField_rec e4 (by simp) fun h5 e5 b5=>?_)
 replace b5:Heap.SameBut e h4 h5:=b5
 replace e5:IsEnum h5 e it ((i:Int)+1) x:=e5
 show wpAny _ _ (Builtin.SmallTypes.ownedTupleHandOut (.ref e) (.ref hp.objs.size) >>= _) _ _ ⟨h5,g,d,tk+1,os⟩
 refine wpAny_bind ?_
 unfold Builtin.SmallTypes.ownedTupleHandOut
 refine wpAny_bind (wpAny_setField_rec e5 (by simp) fun h6 e6 b6=>?_)
 replace b6:Heap.SameBut e h5 h6:=b6
 replace e6:IsEnumOut h6 e it ((i:Int)+1) x hp.objs.size:=e6
 refine wpAny_setField_rec e6 (by simp) fun h7 e7 b7=>?_
 replace b7:Heap.SameBut e h6 h7:=b7
 replace e7:IsEnumOut h7 e it ((i:Int)+1) x hp.objs.size:=e7
 have k7:∀ b o,b≠e→h4.get? b=some o→h7.get? b=some o:=fun b o hb q=>b7.extBut b o hb (b6.extBut b o hb (b5.extBut b o hb q))
 refine wpAny_bind (wpAny_letGo (wpAny_pure ⟨_,rfl,hQ h7 e7 (keep h4 h7 st4 fun o q=>k7 it o (Ne.symm hne) q) (k7 _ _ (Nat.ne_of_gt hel) t4) (by rw [b7.1,b6.1,b5.1,z4]) fun b o hbe hbi hb=>k7 b o hbe (k4 b o hbe hbi hb)⟩))
theorem jaO {e it t:Addr} {i:Nat} {items:Array Value} {x old:Value} {Q:Option Value→Shared→Prop}
  (he:IsEnum s.heap e it i old) (hit:s.heap.IsTupleIter it t i) (ht:s.heap.IsTuple t items) (hx:items[i]?=some x) (hne:e≠it)
  (hQ:∀ h',IsEnumOut h' e it ((i:Int)+1) x s.heap.objs.size→h'.IsTupleIter it t (i+1)→h'.get? s.heap.objs.size=some { cls:=.type "tuple",data:=.seq #[.int i s.toks,x] }→h'.objs.size=s.heap.objs.size+1→
   (∀ b o,b≠e→b≠it→s.heap.get? b=some o→h'.get? b=some o)→Q (some (.ref s.heap.objs.size)) { s with heap:=h',toks:=s.toks+1 }):wpAny (model prog w) A (pyNext (.ref e)) Q E s:=by
 have hT:s.TypeIs (.ref e) "enumerate":=⟨_,he,rfl⟩
 unfold pyNext
 refine wpAny_bind (wpAny_attempt (wpAny_callSpecial?_slot (name:=Str.ofString "__next__") hT F.slot_enumerate_next (wpAny_call_entry F.slot_enumerate_next hT F.entry_enumerate_next ?_ (F.args_enumerate_next_1 _))))
 exact jde (St:=fun h=>h.IsTupleIter it t (i+1)) he hne (fun Q' k=>Jc hit ht hx k) (fun h h' st k=>st.at k) fun h' a b c d k=>wpAny_pure (hQ h' a b c d k)
theorem Ke {e it t:Addr} {i:Nat} {items:Array Value} {old:Value} {Q:Option Value→Shared→Prop} (hh:A.handled=none)
  (he:IsEnum s.heap e it i old) (hit:s.heap.IsTupleIter it t i) (ht:s.heap.IsTuple t items) (hx:items[i]?=none)
  (hQ:∀ h',Heap.ExtBut it s.heap h'→Q none { s with heap:=h' }):wpAny (model prog w) A (pyNext (.ref e)) Q E s:=by
 have hT:s.TypeIs (.ref e) "enumerate":=⟨_,he,rfl⟩
 unfold pyNext
 refine wpAny_bind (wpAny_attempt (wpAny_callSpecial?_slot (name:=Str.ofString "__next__") hT F.slot_enumerate_next (wpAny_call_entry F.slot_enumerate_next hT F.entry_enumerate_next ?_ (F.args_enumerate_next_1 _))))
 show wpAny _ _ (field (.ref e) 2 >>= _) _ _ _
 refine wpAny_bind (wpAny_field he rfl (x:=.ref it) rfl ?_)
 refine wpAny_bind (za hh hit ht hx fun h' x he' hx'=>?_)
 obtain ⟨o,ho,hc⟩:=hx'
 refine wpAny_bind (wpAny_isInstance (T:="StopIteration") (b:=true) ⟨o,ho,hc⟩ isSubtype_stop ?_)
 exact wpAny_pure (hQ _ he')
theorem jeH (l:Addr) (items:Array Value) (n:Nat) (dct:Option Addr) (sl:Array (Option Value)) :
  Meets (Builtin.«enumerate.__new__» ⟨[.type "enumerate",.ref l],[]⟩) (fun _ R s=>s.heap.get? l=some { cls:=.type "tuple",dict:=dct,data:=.seq items n,slots:=sl }∧
   R (.ok (.ret (.ref (s.heap.push { cls:=.type "tuple_iterator",data:=.fields #[.ref l,.int 0 0] }).objs.size)))
    { s with heap:=(s.heap.push { cls:=.type "tuple_iterator",data:=.fields #[.ref l,.int 0 0] }).push { cls:=.type "enumerate",data:=.fields #[.none,.bool false,.ref s.heap.objs.size,rawInt 0,.none,.none] } }):=
 .of_wp fun prog w A R s h=>by
  obtain ⟨hp,g,d,tk,os⟩:=s;obtain ⟨hl,h⟩:=h
  have hsub:=sub_enumerate
  have hL:Heap.IsTuple (Shared.heap ⟨hp,g,d,tk,os⟩) l items:=⟨_,hl,rfl,n,rfl⟩
  wp_walk using wpAny_loadPart' hl
  refine wpAny_stack_any fun st=>wpAny_pure ?_
  split
  ·rename_i c _ _ _ _ _
   cases (c == Value.type "enumerate")
   ·wp_walk using wpAny_loadPart' hl,wpAny_pyIter_tuple hL
    exact ⟨_,rfl,h⟩
   ·wp_walk using wpAny_loadPart' hl,wpAny_pyIter_tuple hL
    exact ⟨_,rfl,h⟩
  ·wp_walk using wpAny_loadPart' hl,wpAny_pyIter_tuple hL
   exact ⟨_,rfl,h⟩
theorem jbJ {l:Addr} {items:Array Value} {Q:Value→Shared→Prop} (hL:s.heap.IsTuple l items)
  (h:∀ h',IsEnum h' (s.heap.objs.size+1) s.heap.objs.size 0 .none→h'.IsTupleIter s.heap.objs.size l 0→h'.objs.size=s.heap.objs.size+2→
   (∀ b o,s.heap.get? b=some o→h'.get? b=some o)→Q (.ref (s.heap.objs.size+1)) { s with heap:=h' }) :
  wpAny (model prog w) A (call (.type "enumerate") [.ref l]) Q E s:=by
 obtain ⟨⟨c,dct,dt,sl⟩,hl,hc,n,hd⟩:=hL
 replace hc:c=.type "tuple":=hc
 replace hd:dt=.seq items n:=hd
 subst hc hd
 refine callType_new F.called_enumerate (by decide) (F.typeCall_enumerate_1 _) (F.newCall_enumerate_1 _) (fun obj=>F.args_object_init_2 obj _) F.entry_enumerate_new (jeH l items n dct sl) ⟨hl,?_⟩
 have hz:(s.heap.push { cls:=.type "tuple_iterator",data:=.fields #[.ref l,.int 0 0] }).objs.size=s.heap.objs.size+1:=Heap.size_push ..
 show _∧_
 rw [hz]
 have he:IsEnum ((s.heap.push { cls:=.type "tuple_iterator",data:=.fields #[.ref l,.int 0 0] }).push { cls:=.type "enumerate",data:=.fields #[.none,.bool false,.ref s.heap.objs.size,rawInt 0,.none,.none] }) (s.heap.objs.size+1) s.heap.objs.size 0 .none:=by
  have:=Heap.get?_push_size (s.heap.push { cls:=.type "tuple_iterator",data:=.fields #[.ref l,.int 0 0] }) (o:={ cls:=.type "enumerate",data:=.fields #[.none,.bool false,.ref s.heap.objs.size,rawInt 0,.none,.none] }) rfl
  rw [hz] at this;exact this
 exact ⟨⟨_,he,rfl⟩,h _ he ⟨_,Heap.get?_push_of_some _ (Heap.get?_push_size _ rfl),rfl,rfl⟩ (by rw [Heap.size_push,hz]) fun b o x=>Heap.get?_push_of_some _ (Heap.get?_push_of_some _ x)⟩
end
end PySem
namespace L2
open PySem PySem.Spec PyProof.Rows
def jeT (K:PySem.W.Frag) (l:Addr):It:=
 ⟨fun i H=>∃ xs x,SqT K H l xs∧xs[i]?=some x,fun i H x H'=>∃ t y,H t=none∧(∀ xs,SqT K H l xs→xs[i]?=some y)∧x=.ref t∧H'=upd H t (.tup [.int i,y]),fun i H=>∃ xs,SqT K H l xs∧xs.length≤i⟩
theorem ja8 {P:Program} {w:World} {K:PySem.W.Frag} {elts:List Expr} {x1:Nat} {tp:Pos} (l e it:Addr) (hne:e≠it):Turn P w K (.Tuple elts x1 tp) (jeT K l) [e,it] e (fun i h=>(∃ old,IsEnum h e it i old)∧h.IsTupleIter it l i) where
 mem:=by simp
 obj:=fun i h st b hb=>by
  obtain ⟨⟨old,h1⟩,o,e2,c,d⟩:=st
  rcases List.mem_cons.mp hb with rfl | hb
  ·exact ⟨_,h1,fun v z=>by cases z⟩
  ·rw [List.mem_singleton.mp hb]
   exact ⟨o,e2,fun v z=>by rw [d] at z;cases z⟩
 keep:=fun i h h' st k=>by
  obtain ⟨⟨old,h1⟩,o,e2,c,d⟩:=st
  exact ⟨⟨old,k e (by simp) _ h1⟩,o,k it (by simp) o e2,c,d⟩
 item:=by
  intro X hP hw hK hc i pins s σ H E I hf st hg
  subst hP hw hK
  obtain ⟨xs,x,hq,hx⟩:=hg
  obtain ⟨⟨old,hE⟩,hit⟩:=st
  obtain ⟨its,rv,p,hz⟩:=I.tuple hq
  obtain ⟨u,hu,ru⟩:=rv.get hx
  obtain ⟨a0,a1,a2,a3,a4,a5⟩:=hf e (by simp)
  obtain ⟨f0,f1,f2,f3,f4,f5⟩:=hf it (by simp)
  refine jaO hE hit (show s.heap.IsTuple l its.toArray from p) (x:=u) (by simpa using hu) hne fun h' o1 o2 o3 o4 o5=>?_
  refine ⟨_,rfl,wpAny_letOwnedTupleGo_enum (s:={ s with heap:=h',toks:=s.toks+1 }) o1 fun h2 g1 g2=>?_⟩
  have hfr:H s.heap.objs.size=none:=I.hok.fresh (Nat.le_refl _)
  have kp:∀ b o,b≠e→b≠it→s.heap.get? b=some o→h2.get? b=some o:=fun b o hb hb' q=>(g2.2 b hb).trans (o5 b o hb hb' q)
  have nt:∀ b o,s.heap.get? b=some o→b≠s.heap.objs.size:=fun b o q=>Nat.ne_of_lt (Heap.lt_size q)
  have ne:∀ b z,H b=some z→b≠e∧b≠it:=fun b z q=>⟨fun t=>(by rw [t,a0] at q;cases q),fun t=>(by rw [t,f0] at q;cases q)⟩
  have het:s.heap.objs.size≠e:=fun z=>absurd (Heap.lt_size hE) (by rw [← z];exact Nat.lt_irrefl _)
  have I1:Inv X pins σ (upd H s.heap.objs.size (.tup [.int i,x])) { s with heap:=h2,gens:=s.gens,drawn:=s.drawn,toks:=s.toks+1 }:=by
   refine I.step (g':=s.gens) (d':=s.drawn) (ch:=[e,it]) (fun b hb=>?_) (fun b o _ _ hc' q _=>kp b o (fun z=>hc' (by simp [z])) (fun z=>hc' (by simp [z])) q) (fun b o _ _ hc' q _=>⟨o.slots,kp b o (fun z=>hc' (by simp [z])) (fun z=>hc' (by simp [z])) q⟩)
    (fun b o _ q n=>by rw [jg (nt b o q)];exact n) (fun b o hc' q=>⟨o,kp b o (fun z=>hc' (by simp [z])) (fun z=>hc' (by simp [z])) q⟩) (fun b ys q=>by rw [jg (jk q hfr)];exact q) (fun b o z q=>by rw [jg (jk q hfr)];exact q)
    (fun b ps q=>⟨#[],by rw [jg (jk q hfr),q];simp⟩) (fun m hm=>?_) (fun b z q=>?_) I.bare
   ·rcases List.mem_cons.mp hb with rfl | hb
    ·exact ⟨a3,a1,a4,a5⟩
    ·rw [List.mem_singleton.mp hb];exact ⟨f3,f1,f4,f5⟩
   ·obtain ⟨o,es,ep,ho,r⟩:=hm
    exact ⟨o,es,ep,kp _ o (Ne.symm a1) (Ne.symm f1) ho,r⟩
   ·by_cases hb:b=s.heap.objs.size
    ·subst hb
     rw [ja] at q
     cases q
     refine ⟨?_,[Value.int (i:Int) s.toks,u],.cons ⟨_,rfl⟩ (.cons ru .nil),_,(g2.2 _ het).trans o3,rfl,0,rfl⟩
     show 2≤sizeLine
     rw [sizeLine_eq]
     decide
    ·rw [jg hb] at q
     refine (I.hok b z q).stay (fun c v hc' q'=>?_) (fun c q'=>by rw [jg (jk q' hfr)];exact q') fun c ys q'=>by rw [jg (jk q' hfr)];exact q'
     rcases hc' with rfl | hc'
     ·exact kp c v (ne c z q).1 (ne c z q).2 q'
     ·exact kp c v (ne c _ hc').1 (ne c _ hc').2 q'
  refine ⟨.ref s.heap.objs.size,_,I1,rfl,⟨_,x,hfr,fun ys hy=>by rw [I.tuple_inj hy hq];exact hx,rfl,rfl⟩,⟨⟨_,g1⟩,?_⟩,fun b hb=>?_⟩
  ·obtain ⟨o,z1,z2,z3⟩:=o2
   exact ⟨o,(g2.2 it (Ne.symm hne)).trans z1,z2,z3⟩
  ·rcases List.mem_cons.mp hb with rfl | hb
   ·rw [jg (Ne.symm het)];exact a0
   ·rw [List.mem_singleton.mp hb]
    have:it≠s.heap.objs.size:=by
     obtain ⟨o,z1,_⟩:=hit
     exact nt it o z1
    rw [jg this];exact f0
 done:=by
  intro X hP hw hK hc i pins s σ H E I hf st hg
  subst hP hw hK
  obtain ⟨xs,hq,hx⟩:=hg
  obtain ⟨⟨old,hE⟩,hit⟩:=st
  obtain ⟨its,rv,p,hz⟩:=I.tuple hq
  obtain ⟨f0,f1,f2,f3,f4,f5⟩:=hf it (by simp)
  have hl:=rv.length
  exact Ke (I.ok.hd hc) hE hit (show s.heap.IsTuple l its.toArray from p) (by simp;omega) fun h' eb=>⟨rfl,I.turned (t':=s.toks) (fun b o hb e=>eb b o hb e) f0 f1 f3 f4 f5⟩
 self:=fun _ _ _ _ _ st h=>by
  obtain ⟨⟨old,hE⟩,_⟩:=st
  exact wpAny_pyIter_enum hE h
section
variable {X:Cx} {elts:List Expr} {x1:Nat} {tp:Pos}
def jeB (K:PySem.W.Frag) (ta:TA):TI:=fun σ H R=>ta σ H fun vs H1=>∃ l,vs=[.ref l]∧(∃ xs,SqT K H1 l xs)∧R (jeT K l) H1
theorem jao {a:Expr} {ta:TA} {p pos:Pos} (hg:Gl X "enumerate") (hm:X.mg "enumerate" = none) (ha:PA X [a] ta) (hs:starEach [a] X.env=[(false,eval a X.env)]:=by rfl):PI X (.Tuple elts x1 tp) (.Call (.Name "enumerate" p) [a] [] pos) (jeB X.K ta):=by
 intro pins s σ H R I h
 refine Call_ (yx I hg hm ZT (PyProof.Rows.callWith_type1 (thn (ha pos pins s σ H _ I h) fun us s1 ⟨vs,H1,I1,r1,q1⟩=>?_) hs rfl))
 obtain ⟨l,e,⟨xs,hq⟩,q⟩:=q1
 subst e
 obtain ⟨u,rfl,rx⟩:=yf r1
 cases rx
 obtain ⟨its,rv,pl,hz⟩:=I1.tuple hq
 refine jbJ (show s1.heap.IsTuple l its.toArray from pl) fun h' g1 g2 g3 g4=>?_
 refine wpAny_pyIter_enum (s:={ s1 with heap:=h' }) g1 ?_
 have I2:Inv X pins σ H1 { s1 with heap:=h' }:=I1.kept (t':=s1.toks) g4
 refine ⟨s1.heap.objs.size+1,[s1.heap.objs.size+1,s1.heap.objs.size],_,_,_,rfl,I2,ja8 l _ _ (Nat.succ_ne_self _),⟨⟨_,g1⟩,g2⟩,fun b hb=>?_,q⟩
 rcases List.mem_cons.mp hb with rfl | hb
 ·exact I1.fpOk (Nat.le_succ _) (I1.hok.fresh (Nat.le_succ _))
 ·rw [List.mem_singleton.mp hb]
  exact I1.fpOk (Nat.le_refl _) (I1.hok.fresh (Nat.le_refl _))
theorem YY {K:PySem.W.Frag} {l:Addr} {xs:List V} {g:TG} {tb:TS} {D:Ends} {σ:St} {H:Hp} (Pv:Nat→St→Hp→Prop) (h0:Pv 0 σ H) (hl:∀ i σ H,i≤xs.length→Pv i σ H→SqT K H l xs)
  (hs:∀ i y σ H t,xs[i]?=some y→Pv i σ H→H t=none→g (.ref t) σ (upd H t (.tup [.int i,y])) fun σ2 H2=>tb { D with nx:=Pv (i+1),ct:=Pv (i+1),bk:=D.nx } σ2 H2) (hd:∀ σ H,Pv xs.length σ H→D.nx σ H) :
  ∃ W:Nat→Nat→St→Hp→Prop,(∃ m,W 0 m σ H)∧∀ i m σ H,W i m σ H→
   ((jeT K l).stop i H∧D.nx σ H)∨((jeT K l).go i H∧∃ N:St→Hp→Prop,(∀ σ' H',N σ' H'→∃ m',m' < m∧W (i+1) m' σ' H')∧∀ x H',(jeT K l).yld i H x H'→g x σ H' fun σ2 H2=>tb { D with nx:=N,ct:=N,bk:=D.nx } σ2 H2):=by
 refine ⟨fun i m σ H=>m=xs.length - i∧i≤xs.length∧Pv i σ H,⟨xs.length,by simp,Nat.zero_le _,h0⟩,?_⟩
 rintro i m σ H ⟨rfl,hi,p⟩
 have q:=hl i σ H hi p
 by_cases hlt:i < xs.length
 ·refine .inr ⟨⟨xs,xs[i],q,by simp [hlt]⟩,Pv (i+1),fun σ' H' p'=>⟨xs.length - (i+1),by omega,rfl,hlt,p'⟩,fun x H' y=>?_⟩
  obtain ⟨t,z,ht,hz,rfl,rfl⟩:=y
  exact hs i z σ H t (hz xs q) p ht
 ·have:i=xs.length:=by omega
  subst this
  exact .inl ⟨⟨xs,q,Nat.le_refl _⟩,hd σ H p⟩
end
open PySem PySem.Spec PyProof.Rows PySem.W
mutual
def dEq:D→D→Bool
 | .int i,.int j=>i == j
 | .str x,.str y=>x == y
 | .tup a,.tup b=>dEqL a b
 | _,_=>false
def dEqL:List D→List D→Bool
 | [],[]=>true
 | a :: as,b :: bs=>dEq a b && dEqL as bs
 | _,_=>false
end
mutual
theorem yJ:∀ {a b:D},dEq a b=true↔a=b
 | .int i,.int j=>by unfold dEq;rw [beq_iff_eq];exact ⟨(fun h=>by rw [h]),(fun h=>by injection h)⟩
 | .str i,.str j=>by unfold dEq;rw [beq_iff_eq];exact ⟨(fun h=>by rw [h]),(fun h=>by injection h)⟩
 | .tup a,.tup b=>by unfold dEq;rw [dEqL_iff];exact ⟨(fun h=>by rw [h]),(fun h=>by injection h)⟩
 | .int i,.str j=>by unfold dEq;exact ⟨(fun h=>by cases h),(fun h=>by cases h)⟩
 | .int i,.tup j=>by unfold dEq;exact ⟨(fun h=>by cases h),(fun h=>by cases h)⟩
 | .str i,.int j=>by unfold dEq;exact ⟨(fun h=>by cases h),(fun h=>by cases h)⟩
 | .str i,.tup j=>by unfold dEq;exact ⟨(fun h=>by cases h),(fun h=>by cases h)⟩
 | .tup i,.int j=>by unfold dEq;exact ⟨(fun h=>by cases h),(fun h=>by cases h)⟩
 | .tup i,.str j=>by unfold dEq;exact ⟨(fun h=>by cases h),(fun h=>by cases h)⟩
theorem dEqL_iff:∀ {a b:List D},dEqL a b=true↔a=b
 | [],[]=>by unfold dEqL;exact ⟨(fun _=>rfl),(fun _=>rfl)⟩
 | a :: as,b :: bs=>by
  unfold dEqL
  rw [Bool.and_eq_true,yJ,dEqL_iff]
  exact ⟨(fun h=>by rw [h.1,h.2]),(fun h=>by injection h with h1 h2;exact ⟨h1,h2⟩)⟩
 | [],b :: bs=>by unfold dEqL;exact ⟨(fun h=>by cases h),(fun h=>by cases h)⟩
 | a :: as,[]=>by unfold dEqL;exact ⟨(fun h=>by cases h),(fun h=>by cases h)⟩
end
instance:DecidableEq D:=fun a b=>if h:dEq a b=true then isTrue (yJ.mp h) else isFalse fun e=>h (yJ.mpr e)
theorem jaU (a b:List D):dEqL a b=decide (a=b):=by
 apply Bool.eq_iff_iff.mpr
 rw [dEqL_iff,decide_eq_true_iff]
mutual
theorem jaI {H:Hp}:∀ {d d':D} {v:V},Held H d v→Held H d' v→d=d'
 | .int i,.int j,v,h,h'=>by unfold Held at h h';subst h;injection h' with h';rw [h']
 | .str i,.str j,v,h,h'=>by unfold Held at h h';subst h;injection h' with h';rw [h']
 | .tup a,.tup b,v,h,h'=>by
  unfold Held at h h'
  obtain ⟨p,xs,rfl,e,h⟩:=h
  obtain ⟨p',xs',e0,e',h'⟩:=h'
  injection e0 with e0
  subst e0
  rw [e] at e'
  injection e' with e'
  injection e' with e'
  subst e'
  rw [heldL_inj h h']
 | .int i,.str j,v,h,h'=>by unfold Held at h h';subst h;cases h'
 | .int i,.tup j,v,h,h'=>by unfold Held at h h';subst h;obtain ⟨p,xs,e,_⟩:=h';cases e
 | .str i,.int j,v,h,h'=>by unfold Held at h h';subst h;cases h'
 | .str i,.tup j,v,h,h'=>by unfold Held at h h';subst h;obtain ⟨p,xs,e,_⟩:=h';cases e
 | .tup i,.int j,v,h,h'=>by unfold Held at h h';subst h';obtain ⟨p,xs,e,_⟩:=h;cases e
 | .tup i,.str j,v,h,h'=>by unfold Held at h h';subst h';obtain ⟨p,xs,e,_⟩:=h;cases e
theorem heldL_inj {H:Hp}:∀ {d d':List D} {v:List V},HeldL H d v→HeldL H d' v→d=d'
 | [],[],_,_,_=>rfl
 | a :: as,b :: bs,v,h,h'=>by
  unfold HeldL at h h'
  obtain ⟨u,r,rfl,h1,h2⟩:=h
  obtain ⟨u',r',e,h1',h2'⟩:=h'
  injection e with e1 e2
  subst e1 e2
  rw [jaI h1 h1',heldL_inj h2 h2']
 | [],b :: bs,v,h,h'=>by unfold HeldL at h h';subst h;obtain ⟨u',r',e,_⟩:=h';cases e
 | a :: as,[],v,h,h'=>by unfold HeldL at h h';subst h';obtain ⟨u',r',e,_⟩:=h;cases e
end
theorem Yg:∀ (a b:List D),((List.range (min a.length b.length)).all (fun j=>dEq (a.getD j (.int 0)) (b.getD j (.int 0))) && a.length == b.length)=dEqL a b:=by
 intro a b
 apply Bool.eq_iff_iff.mpr
 rw [dEqL_iff,Bool.and_eq_true,List.all_eq_true,beq_iff_eq]
 constructor
 ·rintro ⟨h1,h2⟩
  apply List.ext_getElem h2
  intro j hj hj'
  have:=h1 j (List.mem_range.mpr (by omega))
  rw [yJ] at this
  simpa [hj,hj'] using this
 ·rintro rfl
  exact ⟨fun j _=>yJ.mpr rfl,rfl⟩
section
variable {X:Cx} {pins:List (Addr×Obj)} {σ:St} {H:Hp} {s:Shared}
theorem jf1 (I:Inv X pins σ H s):∀ (n:Nat) (A:Around) (d d':D) (x y:V) (u v:Value),d.depth≤n→A.units+n < cLine→Held H d x→Held H d' y→RelV x u→RelV y v→SeqAt.EqAt A s u v (dEq d d'):=by
 intro n
 induction n with
 | zero=>
  intro A d d' x y u v hd hA hx hy ru rv
  have hA':A.units < cLine:=by omega
  cases d with
  | int i=>
   unfold Held at hx;subst hx
   obtain ⟨t,rfl⟩:=ru
   cases d' with
   | int j=>
    unfold Held at hy;subst hy
    obtain ⟨t',rfl⟩:=rv
    unfold dEq
    exact SeqAt.EqAt.int_int i t j t'
   | str j=>
    unfold Held at hy;subst hy
    obtain ⟨t',rfl⟩:=rv
    unfold dEq
    exact SeqAt.EqAt.int_str i t j t'
   | tup ds=>
    unfold Held at hy
    obtain ⟨b,ys,rfl,hb,_⟩:=hy
    cases rv
    obtain ⟨its,_,tb,_⟩:=I.tuple (SqT.of hb)
    unfold dEq
    exact SeqAt.EqAt.int_tuple i t (show s.heap.IsTuple b its.toArray from tb) hA'
  | str i=>
   unfold Held at hx;subst hx
   obtain ⟨t,rfl⟩:=ru
   cases d' with
   | int j=>
    unfold Held at hy;subst hy
    obtain ⟨t',rfl⟩:=rv
    unfold dEq
    exact SeqAt.EqAt.str_int i t j t'
   | str j=>
    unfold Held at hy;subst hy
    obtain ⟨t',rfl⟩:=rv
    unfold dEq
    exact SeqAt.EqAt.str_str i t j t'
   | tup ds=>
    unfold Held at hy
    obtain ⟨b,ys,rfl,hb,_⟩:=hy
    cases rv
    obtain ⟨its,_,tb,_⟩:=I.tuple (SqT.of hb)
    unfold dEq
    exact SeqAt.EqAt.str_tuple i t (show s.heap.IsTuple b its.toArray from tb) hA'
  | tup ds=>unfold D.depth at hd;omega
 | succ n ih=>
  intro A d d' x y u v hd hA hx hy ru rv
  have hA':A.units < cLine:=by omega
  cases d with
  | int i=>exact ih A (.int i) d' x y u v (by unfold D.depth;omega) (by omega) hx hy ru rv
  | str z=>exact ih A (.str z) d' x y u v (by unfold D.depth;omega) (by omega) hx hy ru rv
  | tup ds=>
   have hx0:=hx
   unfold Held at hx
   obtain ⟨a,xs,rfl,ha,hxs⟩:=hx
   cases ru
   obtain ⟨its,rva,ta,_⟩:=I.tuple (SqT.of ha)
   cases d' with
   | int j=>
    unfold Held at hy;subst hy
    obtain ⟨t',rfl⟩:=rv
    unfold dEq
    exact SeqAt.EqAt.tuple_int j t' (show s.heap.IsTuple a its.toArray from ta) hA'
   | str j=>
    unfold Held at hy;subst hy
    obtain ⟨t',rfl⟩:=rv
    unfold dEq
    exact SeqAt.EqAt.tuple_str j t' (show s.heap.IsTuple a its.toArray from ta) hA'
   | tup ds'=>
    have hy0:=hy
    unfold Held at hy
    obtain ⟨b,ys,rfl,hb,hys⟩:=hy
    cases rv
    by_cases hab:a=b
    ·subst hab
     rw [yJ.mpr (jaI hx0 hy0)]
     exact SeqAt.EqAt.same _
    ·obtain ⟨its2,rvb,tb,_⟩:=I.tuple (SqT.of hb)
     refine SeqAt.EqAt.of_refs hab ?_
     have l1:=hxs.length
     have l2:=hys.length
     have l3:=rva.length
     have l4:=rvb.length
     have key:=SeqAt.RcAt.tuples (A:=A) (s:=s) (e:=fun j=>dEq (ds.getD j (.int 0)) (ds'.getD j (.int 0))) (show s.heap.IsTuple a its.toArray from ta) (show s.heap.IsTuple b its2.toArray from tb) (by omega) (fun j h1 h2=>by
      have hj:j < ds.length:=by
       have:j < its.length:=by simpa using h1
       omega
      have hj':j < ds'.length:=by
       have:j < its2.length:=by simpa using h2
       omega
      have ej:ds[j]?=some ds[j]:=List.getElem?_eq_getElem hj
      obtain ⟨x',hx',gx⟩:=hxs.get ej
      obtain ⟨y',hy',gy⟩:=hys.get (List.getElem?_eq_getElem hj')
      obtain ⟨u',hu',ru'⟩:=rva.get hx'
      obtain ⟨v',hv',rv'⟩:=rvb.get hy'
      have eu:its.toArray[j]=u':=by
       have:=(List.getElem?_eq_some_iff.mp hu').2
       simpa using this
      have ev:its2.toArray[j]=v':=by
       have:=(List.getElem?_eq_some_iff.mp hv').2
       simpa using this
      rw [eu,ev]
      unfold D.depth at hd
      have g1:ds.getD j (.int 0)=ds[j]:=by simp [hj]
      have g2:ds'.getD j (.int 0)=ds'[j]:=by simp [hj']
      rw [g1,g2]
      exact ih A.in1 ds[j] ds'[j] x' y' u' v' (by have:=D.depthL_get ej;omega) (by show A.units+1+n < cLine;omega) gx gy ru' rv')
     have e:((List.range (min its.toArray.size its2.toArray.size)).all (fun j=>dEq (ds.getD j (.int 0)) (ds'.getD j (.int 0))) && its.toArray.size == its2.toArray.size)=dEqL ds ds':=by
      have e1:its.toArray.size=ds.length:=by simp;omega
      have e2:its2.toArray.size=ds'.length:=by simp;omega
      rw [e1,e2]
      exact Yg ds ds'
     rw [e] at key
     unfold dEq
     exact key
theorem y0 (I:Inv X pins σ H s) {n:Nat} {A:Around} {ds ds':List D} {xs ys:List V} {its its2:List Value} (hd:D.depthL ds≤n) (hA:A.units+n < cLine) (hxs:HeldL H ds xs) (hys:HeldL H ds' ys) (rva:Vals xs its) (rvb:Vals ys its2) :
  ∀ j (h1:j < its.toArray.size) (h2:j < its2.toArray.size),SeqAt.EqAt A s its.toArray[j] its2.toArray[j] (dEq (ds.getD j (.int 0)) (ds'.getD j (.int 0))):=fun j h1 h2=>by
 have l1:=hxs.length
 have l2:=hys.length
 have l3:=rva.length
 have l4:=rvb.length
 have hj:j < ds.length:=by
  have:j < its.length:=by simpa using h1
  omega
 have hj':j < ds'.length:=by
  have:j < its2.length:=by simpa using h2
  omega
 have ej:ds[j]?=some ds[j]:=List.getElem?_eq_getElem hj
 obtain ⟨x',hx',gx⟩:=hxs.get ej
 obtain ⟨y',hy',gy⟩:=hys.get (List.getElem?_eq_getElem hj')
 obtain ⟨u',hu',ru'⟩:=rva.get hx'
 obtain ⟨v',hv',rv'⟩:=rvb.get hy'
 have eu:its.toArray[j]=u':=by
  have:=(List.getElem?_eq_some_iff.mp hu').2
  simpa using this
 have ev:its2.toArray[j]=v':=by
  have:=(List.getElem?_eq_some_iff.mp hv').2
  simpa using this
 rw [eu,ev]
 have g1:ds.getD j (.int 0)=ds[j]:=by simp [hj]
 have g2:ds'.getD j (.int 0)=ds'[j]:=by simp [hj']
 rw [g1,g2]
 exact jf1 I n A ds[j] ds'[j] x' y' u' v' (by have:=D.depthL_get ej;omega) hA gx gy ru' rv'
theorem jic (n:Nat) (hu:X.A.units+1+n < cLine):OpR X (compareOp .Eq) (fun x y H Q=>∃ a b xs ys ds ds',x=.ref a∧y=.ref b∧H a=some (.tup xs)∧H b=some (.tup ys)∧D.depthL ds≤n∧HeldL H ds xs∧HeldL H ds' ys∧Q (.bl (decide (ds=ds'))) H):=by
 intro pins s σ H x y v u Q I rx ry h
 obtain ⟨a,b,xs,ys,ds,ds',rfl,rfl,ha,hb,hd,hxs,hys,q⟩:=h
 cases rx;cases ry
 obtain ⟨its,rva,ta,_⟩:=I.tuple (SqT.of ha)
 obtain ⟨its2,rvb,tb,_⟩:=I.tuple (SqT.of hb)
 have l1:=hxs.length
 have l2:=hys.length
 have l3:=rva.length
 have l4:=rvb.length
 have key:=SeqAt.RcAt.tuples (A:=X.A) (s:=s) (e:=fun j=>dEq (ds.getD j (.int 0)) (ds'.getD j (.int 0))) (show s.heap.IsTuple a its.toArray from ta) (show s.heap.IsTuple b its2.toArray from tb) (by omega) (y0 I (A:=X.A.in1) hd (by show X.A.units+1+n < cLine;exact hu) hxs hys rva rvb)
 have e:((List.range (min its.toArray.size its2.toArray.size)).all (fun j=>dEq (ds.getD j (.int 0)) (ds'.getD j (.int 0))) && its.toArray.size == its2.toArray.size)=decide (ds=ds'):=by
  have e1:its.toArray.size=ds.length:=by simp;omega
  have e2:its2.toArray.size=ds'.length:=by simp;omega
  rw [e1,e2,Yg,jaU]
 rw [e] at key
 exact key X.prog X.w X.xe _ ⟨.bl (decide (ds=ds')),H,I,rfl,q⟩
theorem jcu {ds ds':List D} (h:ds.length=ds'.length):((List.range ds.length).all fun j=>dEq (ds.getD j (.int 0)) (ds'.getD j (.int 0)))=decide (ds=ds'):=by
 have:=Yg ds ds'
 rw [← h,Nat.min_self,beq_self_eq_true,Bool.and_true,jaU] at this
 exact this
theorem jfG (n:Nat) (hu:X.A.units+1+n < cLine):OpR X (compareOp .Eq) (fun x y H Q=>∃ a b xs ys ds ds',x=.ref a∧y=.ref b∧H a=some (.lst xs)∧H b=some (.lst ys)∧D.depthL ds≤n∧HeldL H ds xs∧HeldL H ds' ys∧Q (.bl (decide (ds=ds'))) H):=by
 intro pins s σ H x y v u Q I rx ry h
 obtain ⟨a,b,xs,ys,ds,ds',rfl,rfl,ha,hb,hd,hxs,hys,q⟩:=h
 cases rx;cases ry
 obtain ⟨its,rva,ta,_⟩:=I.list (SqL.of ha)
 obtain ⟨its2,rvb,tb,_⟩:=I.list (SqL.of hb)
 have l1:=hxs.length
 have l2:=hys.length
 have l3:=rva.length
 have l4:=rvb.length
 have e1:its.toArray.size=ds.length:=by simp;omega
 have e2:its2.toArray.size=ds'.length:=by simp;omega
 by_cases hl:ds.length=ds'.length
 ·have key:=SeqAt.RcAt.lists (A:=X.A) (s:=s) (e:=fun j=>dEq (ds.getD j (.int 0)) (ds'.getD j (.int 0))) ta.isList tb.isList (by rw [e1,e2,hl]) (by omega) (y0 I (A:=X.A.in1) hd (by show X.A.units+1+n < cLine;exact hu) hxs hys rva rvb)
  rw [e1,jcu hl] at key
  exact key X.prog X.w X.xe _ ⟨.bl (decide (ds=ds')),H,I,rfl,q⟩
 ·have key:=SeqAt.RcAt.lists_lengths (A:=X.A) (s:=s) ta.isList tb.isList (by rw [e1,e2];simpa using hl) (by omega)
  rw [decide_eq_false (fun z=>hl (by rw [z]))] at q
  exact key X.prog X.w X.xe _ ⟨.bl false,H,I,rfl,q⟩
theorem jfE (n:Nat) (hu:X.A.units+1+n < cLine):OpR X (compareOp .NotEq) (fun x y H Q=>∃ a b xs ys ds ds',x=.ref a∧y=.ref b∧H a=some (.lst xs)∧H b=some (.lst ys)∧D.depthL ds≤n∧HeldL H ds xs∧HeldL H ds' ys∧Q (.bl (!decide (ds=ds'))) H):=by
 intro pins s σ H x y v u Q I rx ry h
 obtain ⟨a,b,xs,ys,ds,ds',rfl,rfl,ha,hb,hd,hxs,hys,q⟩:=h
 cases rx;cases ry
 obtain ⟨its,rva,ta,_⟩:=I.list (SqL.of ha)
 obtain ⟨its2,rvb,tb,_⟩:=I.list (SqL.of hb)
 have l1:=hxs.length
 have l2:=hys.length
 have l3:=rva.length
 have l4:=rvb.length
 have e1:its.toArray.size=ds.length:=by simp;omega
 have e2:its2.toArray.size=ds'.length:=by simp;omega
 by_cases hl:ds.length=ds'.length
 ·have key:=SeqAt.RcNeAt.lists (A:=X.A) (s:=s) (e:=fun j=>dEq (ds.getD j (.int 0)) (ds'.getD j (.int 0))) ta.isList tb.isList (by rw [e1,e2,hl]) (by omega) (y0 I (A:=X.A.in1) hd (by show X.A.units+1+n < cLine;exact hu) hxs hys rva rvb)
  rw [e1,jcu hl] at key
  exact key X.prog X.w X.xe _ ⟨.bl (!decide (ds=ds')),H,I,rfl,q⟩
 ·have key:=SeqAt.RcNeAt.lists_lengths (A:=X.A) (s:=s) ta.isList tb.isList (by rw [e1,e2];simpa using hl) (by omega)
  rw [decide_eq_false (fun z=>hl (by rw [z]))] at q
  exact key X.prog X.w X.xe _ ⟨.bl true,H,I,rfl,q⟩
end
def LikeV (K:PySem.W.Frag) (H:Hp):Nat→V→V→Prop
 | 0,x,y=>(∃ i,x=.int i∧y=.int i)∨∃ z,x=.str z∧y=.str z
 | n+1,x,y=>LikeV K H n x y∨
  (∃ a b xs ys,x=.ref a∧y=.ref b∧SqT K H a xs∧SqT K H b ys∧xs.length=ys.length∧∀ (j:Nat) x' y',xs[j]?=some x'→ys[j]?=some y'→LikeV K H n x' y')∨
  ∃ a b xs ys,x=.ref a∧y=.ref b∧SqL K H a xs∧SqL K H b ys∧xs.length=ys.length∧∀ (j:Nat) x' y',xs[j]?=some x'→ys[j]?=some y'→LikeV K H n x' y'
theorem qI {K:PySem.W.Frag} {H:Hp} (i:Int):∀ n,LikeV K H n (.int i) (.int i)
 | 0=>.inl ⟨i,rfl,rfl⟩
 | n+1=>.inl (qI i n)
theorem qH {K:PySem.W.Frag} {H:Hp} (z:Str):∀ n,LikeV K H n (.str z) (.str z)
 | 0=>.inr ⟨z,rfl,rfl⟩
 | n+1=>.inl (qH z n)
section
variable {X:Cx} {pins:List (Addr×Obj)} {σ:St} {H:Hp} {s:Shared}
theorem Ki {xs ys:List V} {its its2:List Value} {A:Around} (hl:xs.length=ys.length) (rva:Vals xs its) (rvb:Vals ys its2) (h:∀ (j:Nat) x' y' u' v',xs[j]?=some x'→ys[j]?=some y'→RelV x' u'→RelV y' v'→SeqAt.EqAt A s u' v' true) :
  ∀ j (h1:j < its.toArray.size) (h2:j < its2.toArray.size),SeqAt.EqAt A s its.toArray[j] its2.toArray[j] true:=fun j h1 h2=>by
 have l3:=rva.length
 have h1':j < its.length:=by simpa using h1
 have hx':xs[j]?=some (xs[j]'(by omega)):=List.getElem?_eq_getElem (by omega)
 have hy':ys[j]?=some (ys[j]'(by omega)):=List.getElem?_eq_getElem (by omega)
 obtain ⟨u',hu',ru'⟩:=rva.get hx'
 obtain ⟨v',hv',rv'⟩:=rvb.get hy'
 have eu:its.toArray[j]=u':=by
  have:=(List.getElem?_eq_some_iff.mp hu').2
  simpa using this
 have ev:its2.toArray[j]=v':=by
  have:=(List.getElem?_eq_some_iff.mp hv').2
  simpa using this
 rw [eu,ev]
 exact h j _ _ u' v' hx' hy' ru' rv'
theorem zO (I:Inv X pins σ H s):∀ (n:Nat) (A:Around) (x y:V) (u v:Value),A.units+n < cLine→LikeV X.K H n x y→RelV x u→RelV y v→SeqAt.EqAt A s u v true
 | 0,A,x,y,u,v,hA,h,ru,rv=>by
  rcases h with ⟨i,rfl,rfl⟩ | ⟨z,rfl,rfl⟩
  ·obtain ⟨t,rfl⟩:=ru
   obtain ⟨t',rfl⟩:=rv
   have:=SeqAt.EqAt.int_int (A:=A) (s:=s) i t i t'
   rw [beq_self_eq_true] at this
   exact this
  ·obtain ⟨t,rfl⟩:=ru
   obtain ⟨t',rfl⟩:=rv
   have:=SeqAt.EqAt.str_str (A:=A) (s:=s) z t z t'
   rw [beq_self_eq_true] at this
   exact this
 | n+1,A,x,y,u,v,hA,h,ru,rv=>by
  rcases h with h | ⟨a,b,xs,ys,rfl,rfl,ha,hb,hl,hj⟩ | ⟨a,b,xs,ys,rfl,rfl,ha,hb,hl,hj⟩
  ·exact zO I n A x y u v (by omega) h ru rv
  ·cases ru;cases rv
   by_cases hab:a=b
   ·subst hab;exact SeqAt.EqAt.same _
   ·obtain ⟨its,rva,ta,_⟩:=I.tuple ha
    obtain ⟨its2,rvb,tb,_⟩:=I.tuple hb
    refine SeqAt.EqAt.of_refs hab ?_
    have l3:=rva.length
    have l4:=rvb.length
    have key:=SeqAt.RcAt.tuples (A:=A) (s:=s) (e:=fun _=>true) (show s.heap.IsTuple a its.toArray from ta) (show s.heap.IsTuple b its2.toArray from tb) (by omega) (Ki hl rva rvb fun j x' y' u' v' e1 e2 r1 r2=>zO I n A.in1 x' y' u' v' (by show A.units+1+n < cLine;omega) (hj j x' y' e1 e2) r1 r2)
    have e:((List.range (min its.toArray.size its2.toArray.size)).all (fun _=>true) && its.toArray.size == its2.toArray.size)=true:=by
     have:its.toArray.size=its2.toArray.size:=by simp;omega
     rw [this];simp
    rw [e] at key
    exact key
  ·cases ru;cases rv
   by_cases hab:a=b
   ·subst hab;exact SeqAt.EqAt.same _
   ·obtain ⟨its,rva,ta,_⟩:=I.list ha
    obtain ⟨its2,rvb,tb,_⟩:=I.list hb
    refine SeqAt.EqAt.of_refs hab ?_
    have l3:=rva.length
    have l4:=rvb.length
    have key:=SeqAt.RcAt.lists (A:=A) (s:=s) (e:=fun _=>true) ta.isList tb.isList (by simp;omega) (by omega) (Ki hl rva rvb fun j x' y' u' v' e1 e2 r1 r2=>zO I n A.in1 x' y' u' v' (by show A.units+1+n < cLine;omega) (hj j x' y' e1 e2) r1 r2)
    have e:(List.range its.toArray.size).all (fun _=>true)=true:=by simp
    rw [e] at key
    exact key
end
def TKF (H H':Hp):Prop:=(∀ b xs,H b=some (.tup xs)→H' b=some (.tup xs))∧∀ b o u,H b=some (.frz o u)→H' b=some (.frz o u)
theorem TKF.same {H H':Hp} (h:Same H H'):TKF H H':=⟨fun b xs e=>h b _ e,fun b o u e=>h b _ e⟩
theorem TKF.trans {H H1 H2:Hp} (h:TKF H H1) (h':TKF H1 H2):TKF H H2:=⟨fun b xs e=>h'.1 b xs (h.1 b xs e),fun b o u e=>h'.2 b o u (h.2 b o u e)⟩
theorem TKF.upd {H:Hp} {a:Addr} {o u:HO} (h:H a=some o) (h1:∀ xs,o≠.tup xs) (h2:∀ p z,o≠.frz p z):TKF H (L2.upd H a u):=
 ⟨fun b xs e=>by rw [jg (j4 e h (fun z=>h1 xs z.symm))];exact e,fun b p z e=>by rw [jg (j4 e h (fun t=>h2 p z t.symm))];exact e⟩
theorem TKF.updD {H:Hp} {a:Addr} {kv:List (Key×V)} {u:HO} (h:H a=some (.dK kv)):TKF H (L2.upd H a u):=TKF.upd h (fun _ z=>by cases z) fun _ _ z=>by cases z
theorem TKF.updL {H:Hp} {a:Addr} {xs:List V} {u:HO} (h:H a=some (.lst xs)):TKF H (L2.upd H a u):=TKF.upd h (fun _ z=>by cases z) fun _ _ z=>by cases z
theorem TKF.sqT {K:PySem.W.Frag} {H H':Hp} {a:Addr} {xs:List V} (e:TKF H H') (h:SqT K H a xs):SqT K H' a xs:=by
 rcases h with (h | ⟨o,h⟩) | h
 ·exact .inl (.inl (e.1 _ _ h))
 ·exact .inl (.inr ⟨o,e.2 _ _ _ h⟩)
 ·exact .inr h
theorem Z7:∀ {ys:List Str} {its:List Value},Vals (ys.map V.str) its→StrsAre its ys
 | [],_,r=>by cases r;exact .nil
 | y :: ys,_,r=>by
  cases r with
  | cons h t=>
   obtain ⟨k,rfl⟩:=h
   exact .cons y k (Z7 t)
theorem jfS {X:Cx}:MtR X "str.join" (fun x xs H Q=>∃ (sep:Str) (l:Addr) (ys:List Str),x=.str sep∧xs=[.ref l]∧SqL X.K H l (ys.map V.str)∧(ys.map (·.length)).sum+ys.length * sep.length≤16777216∧Q (.str (Txt.join sep ys)) H):=by
 intro pins s σ H x xs v us Q I rx rs h
 obtain ⟨sep,l,ys,rfl,rfl,hl,hb,q⟩:=h
 obtain ⟨t,rfl⟩:=rx
 obtain ⟨u,rfl,ru⟩:=yf rs
 cases ru
 obtain ⟨its,rv,pl,hz⟩:=I.list hl
 refine join_list pl.isList (by simpa using Z7 rv) hb fun t' k=>?_
 exact ⟨.str (Txt.join sep ys),H,I.kept (t':=k) fun b o e=>e,⟨t',rfl⟩,q⟩
section
variable {prog:Program} {w:World} {A:Around} {E:Value→Shared→Prop} {s:Shared}
theorem jeM {t b:Addr} {vs ws:List Value} {Q:Value→Shared→Prop} (ht:IsTup s.heap t vs.toArray) (hb:IsTup s.heap b ws.toArray) (hv:vs=[]) (h:Q (.ref b) s):wpAny (model prog w) A (binaryOp .Add (.ref t) (.ref b)) Q E s:=by
 obtain ⟨⟨cls,dd,data,sl⟩,ho,hc,n,hd⟩:=id ht
 obtain ⟨⟨cls2,dd2,data2,sl2⟩,ho2,hc2,n2,hd2⟩:=id hb
 simp only at hc hd hc2 hd2
 subst hc hd hc2 hd2
 exact concat_meets ⟨_,ho,rfl⟩ ⟨_,ho2,rfl⟩ noFill_tuple_add seq_tuple_add PySem.F.slot_tuple_add PySem.F.entry_tuple_add (PySem.F.args_tuple_add_2 _ _)
   (tuple_addW0 t b vs.toArray ws.toArray n n2 dd dd2 sl sl2 (by simp [hv])) ⟨ho,ho2,h⟩
end
def jgG:R2:=fun x y H Q=>∃ a b xs ys,x=.ref a∧y=.ref b∧H a=some (.tup xs)∧H b=some (.tup ys)∧xs.length+ys.length≤sizeLine∧∀ p H',Same H H'→H' p=some (.tup (xs++ys))→Q (.ref p) H'
theorem zM {X:Cx}:OpR X (binaryOp .Add) jgG:=by
 intro pins s σ H x y v u Q I rx ry h
 obtain ⟨a,b,xs,ys,rfl,rfl,ha,hb,hz,q⟩:=h
 by_cases hx:xs=[]
 ·cases rx
  cases ry
  obtain ⟨its,r1,p1,_⟩:=I.tuple (SqT.of ha)
  obtain ⟨its2,r2,p2,_⟩:=I.tuple (SqT.of hb)
  subst hx
  exact jeM p1 p2 (r1.nil_iff.mpr rfl) ⟨.ref b,H,I,rfl,q b H (Same.refl _) hb⟩
 ·refine jfH pins s σ H (.ref a) (.ref b) v u Q I rx ry ⟨a,b,xs,ys,rfl,rfl,SqT.of ha,SqT.of hb,hx,hz,fun hy=>q a H (Same.refl _) (by rw [hy,List.append_nil];exact ha),fun _ p hp=>q p _ (fun c o e=>by rw [jg (jk e hp)];exact e) ja⟩
def jgg (t:TS):TS:=fun D σ H=>∃ J:St→Hp→Prop,t { D with nx:=J } σ H∧∀ σ' H',J σ' H'→D.nx σ' H'
theorem jft {X:Cx} {st:Stmt} {t:TS} (h:PS X st t):PS X st (jgg t):=by
 intro pins s σ H D I q
 obtain ⟨J,q,k⟩:=q
 refine thn (h pins s σ H _ I q) fun f s1 q1=>?_
 cases f with
 | next=>
  obtain ⟨σ',H',I',e⟩:=q1
  exact ⟨σ',H',I',k _ _ e⟩
 | cont=>exact q1
 | brk=>exact q1
 | ret v=>exact q1
end L2
namespace LW
open PySem L2
theorem yc {H:Hp}:∀ {ds:List D} {vs:List V} {d:D} {v:V},HeldL H ds vs→Held H d v→HeldL H (ds++[d]) (vs++[v])
 | [],vs,d,v,h,hv=>by
  unfold HeldL at h
  subst h
  exact jf hv jt
 | d' :: ds,vs,d,v,h,hv=>by
  unfold HeldL at h
  obtain ⟨u,r,rfl,h1,h2⟩:=h
  exact jf h1 (yc h2 hv)
mutual
theorem ZK {H H':Hp} (e:∀ b xs,H b=some (.tup xs)→H' b=some (.tup xs)):∀ {d:D} {v:V},Held H d v→Held H' d v
 | .int i,v,h=>by unfold Held at h ⊢;exact h
 | .str x,v,h=>by unfold Held at h ⊢;exact h
 | .tup ds,v,h=>by
  unfold Held at h ⊢
  obtain ⟨a,xs,e1,e2,e3⟩:=h
  exact ⟨a,xs,e1,e a _ e2,heldL_tk e e3⟩
theorem heldL_tk {H H':Hp} (e:∀ b xs,H b=some (.tup xs)→H' b=some (.tup xs)):∀ {ds:List D} {vs:List V},HeldL H ds vs→HeldL H' ds vs
 | [],vs,h=>by unfold HeldL at h ⊢;exact h
 | d :: ds,vs,h=>by
  unfold HeldL at h ⊢
  obtain ⟨v,r,e1,e2,e3⟩:=h
  exact ⟨v,r,e1,ZK e e2,heldL_tk e e3⟩
end
def TK (G G':Hp):Prop:=∀ b xs,G b=some (.tup xs)→G' b=some (.tup xs)
theorem TK.trans {G G1 G2:Hp} (h:TK G G1) (h':TK G1 G2):TK G G2:=fun b xs e=>h' b xs (h b xs e)
theorem TK.same {G G':Hp} (h:Same G G'):TK G G':=fun b xs e=>h b _ e
theorem TK.upd {G:Hp} {a:Addr} {o u:HO} (h:G a=some o) (hn:∀ xs,o≠.tup xs):TK G (L2.upd G a u):=fun b xs e=>by
 rw [jg (j4 e h (fun z=>hn xs z.symm))]
 exact e
theorem TK.heldL {G G':Hp} (h:TK G G') {d:List D} {v:List V} (x:HeldL G d v):HeldL G' d v:=heldL_tk h x
theorem TK.held {G G':Hp} (h:TK G G') {d:D} {v:V} (x:Held G d v):Held G' d v:=ZK h x
def kW (p:List Int):D:=.tup (p.map D.int)
def Ym (least keeps:D) (kind:Str) (p:List Int) (yes no:Nat):D:=.tup [.str "ask",least,keeps,.str kind,kW p,.int yes,.int no]
def kj (S:Nat→D→List Int→List D):Nat→List D→List Int→Nat→List D
 | _,[],_,_=>[]
 | n,st :: jE,ar,k=>S n st (ar++[(k:Int)])++kj S (n+(S n st (ar++[(k:Int)])).length) jE ar (k+1)
def YQ (S:Nat→D→List Int→List D) (n:Nat) (least:D) (b o:List D) (p:List Int):List D:=
 let B:=kj S (n+1) b (p++[0]) 0
 let O:=kj S (n+1+B.length+1) o (p++[1]) 0
 Ym least (.tup []) "" p (n+1) (n+1+B.length+1) :: B++.tup [.str "go",.int ((n+1+B.length+1+O.length:Nat):Int)] :: O
def J6 (S:Nat→D→List Int→List D) (n:Nat) (least keeps:D) (b:List D) (p:List Int):List D:=
 let B:=kj S (n+2) b (p++[0]) 0
 .tup [.str "come"] :: Ym least keeps "enter" p (n+2) (n+2+B.length+1) :: B++[Ym least keeps "keep" p (n+2) (n+2+B.length+1)]
def kJ:Nat→Nat→D→List Int→List D
 | 0,_,_,_=>[]
 | f+1,n,st,p=>match st with
  | .tup [.str k,least,.tup b,.tup o]=>if k = "if" then YQ (kJ f) n least b o p else if k = "while" then J6 (kJ f) n least (.tup b) o p else [.tup [.str "do",st,kW p]]
  | _=>[.tup [.str "do",st,kW p]]
def yM:Nat→D→Prop
 | 0,_=>False
 | f+1,st=>(∃ k r,st=.tup (.str k :: r)∧k≠"if"∧k≠"while")∨(∃ least b o,st=.tup [.str "if",least,.tup b,.tup o]∧(∀ s∈b,yM f s)∧∀ s∈o,yM f s)∨(∃ least keeps b,st=.tup [.str "while",least,.tup keeps,.tup b]∧∀ s∈b,yM f s)
theorem ZC {f n:Nat} {least:D} {b o:List D} {p:List Int}:kJ (f+1) n (.tup [.str "if",least,.tup b,.tup o]) p=YQ (kJ f) n least b o p:=by
 unfold kJ
 dsimp only
 rw [if_pos rfl]
theorem jcb {f n:Nat} {least:D} {ks b:List D} {p:List Int}:kJ (f+1) n (.tup [.str "while",least,.tup ks,.tup b]) p=J6 (kJ f) n least (.tup ks) b p:=by
 unfold kJ
 dsimp only
 rw [if_neg (by decide),if_pos rfl]
theorem ZD {f n:Nat} {k:Str} {r:List D} {p:List Int} (h1:k≠"if") (h2:k≠"while"):kJ (f+1) n (.tup (.str k :: r)) p=[.tup [.str "do",.tup (.str k :: r),kW p]]:=by
 unfold kJ
 split
 ·rename_i k' least b o e
  injection e with e
  injection e with e1 e2
  injection e1 with e1
  subst e1
  rw [if_neg h1,if_neg h2]
 ·rfl
inductive SO (H:Hp):List (Option D)→List V→Prop where
 | nil:SO H [] []
 | non {os:List (Option D)} {vs:List V} (r:SO H os vs):SO H (none :: os) (.non :: vs)
 | tree {d:D} {v:V} {os:List (Option D)} {vs:List V} (h:Held H d v) (r:SO H os vs):SO H (some d :: os) (v :: vs)
theorem SO.length {H:Hp} {os:List (Option D)} {vs:List V} (h:SO H os vs):os.length=vs.length:=by
 induction h with
 | nil=>rfl
 | non _ ih=>rw [List.length_cons,List.length_cons,ih]
 | tree _ _ ih=>rw [List.length_cons,List.length_cons,ih]
theorem SO.append {H:Hp} {os os':List (Option D)} {vs vs':List V} (h:SO H os vs) (h':SO H os' vs'):SO H (os++os') (vs++vs'):=by
 induction h with
 | nil=>exact h'
 | non _ ih=>exact .non ih
 | tree h _ ih=>exact .tree h ih
theorem SO.tk {H H':Hp} (e:TK H H') {os:List (Option D)} {vs:List V} (h:SO H os vs):SO H' os vs:=by
 induction h with
 | nil=>exact .nil
 | non _ ih=>exact .non ih
 | tree h _ ih=>exact .tree (e.held h) ih
theorem SO.set {H:Hp} {d:D} {v:V} (hv:Held H d v) {os:List (Option D)} {vs:List V} (h:SO H os vs):∀ k,SO H (os.set k (some d)) (vs.set k v):=by
 induction h with
 | nil=>intro k;exact .nil
 | non r ih=>intro k;cases k with | zero=>exact .tree hv r | succ k=>exact .non (ih k)
 | tree h r ih=>intro k;cases k with | zero=>exact .tree hv r | succ k=>exact .tree h (ih k)
theorem SO.heldL {H:Hp}:∀ {ds:List D} {vs:List V},SO H (ds.map some) vs→HeldL H ds vs
 | [],_,h=>by cases h;exact jt
 | d :: ds,_,h=>by
  cases h with
  | tree h r=>exact jf h r.heldL
theorem JJ {H:Hp} {p:List Int} {v:V} (h:Held H (kW p) v):∃ a,v=.ref a∧H a=some (.tup (p.map V.int)):=by
 unfold kW Held at h
 obtain ⟨a,xs,e1,e2,e3⟩:=h
 refine ⟨a,e1,?_⟩
 have:∀ {p:List Int} {xs:List V},HeldL H (p.map D.int) xs→xs=p.map V.int:=by
  intro p
  induction p with
  | nil=>intro xs h;simpa [HeldL] using h
  | cons x p ih=>
   intro xs h
   rw [List.map_cons] at h
   unfold HeldL at h
   obtain ⟨v,r,rfl,h1,h2⟩:=h
   unfold Held at h1
   rw [h1,ih h2]
   rfl
 rw [this e3] at e2
 exact e2
theorem qx {H:Hp} {p:List Int} {a:Addr} (h:H a=some (.tup (p.map V.int))):Held H (kW p) (.ref a):=by
 have:∀ p:List Int,HeldL H (p.map D.int) (p.map V.int):=by
  intro p
  induction p with
  | nil=>exact jt
  | cons x p ih=>exact jf jM ih
 exact jL h (this p)
def je7:TE:=fun _ _ _=>False
theorem jap {X:Cx} {e:Expr}:PE X e je7:=fun _ _ _ _ _ _ h=>h.elim
def lkA {α:Type} (L:List (Str×α)) (k:Str):Option α:=(L.find? fun q=>decide (q.1=k)).map (·.2)
def kO {α:Type} (L:List (Str×α)) (k:Str) (v:α):List (Str×α):=if (L.any fun q=>decide (q.1=k))=true then L.map (fun q=>if q.1=k then (q.1,v) else q) else L++[(k,v)]
def nKV (N:List (Str×Int)):List (Key×V):=N.map fun q=>(Sum.inr q.1,V.int q.2)
theorem ZI (x y:Str):decide ((Sum.inr x:Key)=Sum.inr y)=decide (x=y):=by
 rw [decide_eq_decide]
 exact ⟨fun h=>Sum.inr.inj h,fun h=>by rw [h]⟩
theorem jfR (N:List (Str×Int)) (x:Str):qh (nKV N) (Sum.inr x)=(lkA N x).map V.int:=by
 unfold qh lkA nKV
 rw [List.find?_map,Option.map_map,Option.map_map]
 congr 1
 congr 1
 funext q
 exact ZI q.1 x
theorem Zu (N:List (Str×Int)) (x:Str) (n:Int):qy (nKV N) (Sum.inr x) (.int n)=nKV (kO N x n):=by
 unfold qy kO nKV
 have e:((N.map fun q=>((Sum.inr q.1:Key),V.int q.2)).any fun kv=>decide (kv.1=(Sum.inr x:Key)))=N.any fun q=>decide (q.1=x):=by
  rw [List.any_map]
  congr 1
  funext q
  exact ZI q.1 x
 rw [e]
 split
 ·rw [List.map_map,List.map_map]
  apply List.map_congr_left
  intro q _
  show (if (Sum.inr q.1:Key)=Sum.inr x then ((Sum.inr q.1:Key),V.int n) else ((Sum.inr q.1:Key),V.int q.2))=((Sum.inr (if q.1=x then (q.1,n) else q).1:Key),V.int (if q.1=x then (q.1,n) else q).2)
  by_cases h:q.1=x
  ·rw [if_pos (by rw [h]),if_pos h]
  ·rw [if_neg (fun z=>h (Sum.inr.inj z)),if_neg h]
 ·rw [List.map_append]
  rfl
theorem KM {α:Type} (L:List (Str×α)) (k:Str) (v:α):(kO L k v).length≤L.length+1:=by
 unfold kO
 split
 ·rw [List.length_map];omega
 ·rw [List.length_append];simp
def ql (N:List (Str×Int)) (x:Str):Int:=if x = "" then 0 else (lkA N x).getD 0
theorem jV {H:Hp} {x:Int} {v:V} (h:Held H (.int x) v):v=.int x:=by unfold Held at h;exact h
theorem jp {H:Hp} {ds:List D} {v:V} (h:Held H (.tup ds) v):∃ a xs,v=.ref a∧H a=some (.tup xs)∧HeldL H ds xs:=by unfold Held at h;exact h
theorem jw {H:Hp} {vs:List V} (h:HeldL H [] vs):vs=[]:=by unfold HeldL at h;exact h
theorem jb {H:Hp} {d:D} {ds:List D} {vs:List V} (h:HeldL H (d :: ds) vs):∃ v r,vs=v :: r∧Held H d v∧HeldL H ds r:=by unfold HeldL at h;exact h
theorem jv {H:Hp} {x:Str} {v:V} (h:Held H (.str x) v):v=.str x:=by unfold Held at h;exact h
theorem jhd {H:Hp} {x y:Str} {v:V} (h:Held H (.tup [.str x,.str y]) v):∃ a,v=.ref a∧H a=some (.tup [.str x,.str y]):=by
 obtain ⟨a,xs,rfl,ha,h1⟩:=jp h
 obtain ⟨v1,r1,rfl,e1,h2⟩:=jb h1
 obtain ⟨v2,r2,rfl,e2,h3⟩:=jb h2
 cases jw h3
 cases jv e1
 cases jv e2
 exact ⟨a,rfl,ha⟩
theorem jeP {ns:List Int} {k:Int} (h0:0≤k) (h:k < (ns.length:Int)):atI (ns.map V.int) k=some (.int (ns.getD k.toNat 0)):=by
 have hk:k.toNat < ns.length:=by omega
 have:=ze (xs:=ns.map V.int) (j:=k.toNat) (v:=.int (ns.getD k.toNat 0)) (by rw [List.getElem?_map,List.getD_eq_getElem?_getD,List.getElem?_eq_getElem hk];rfl)
 rw [show ((k.toNat:Nat):Int)=k by omega] at this
 exact this
theorem jf8 {xs:List Str} {i:Int} (h0:0≤i) (h:i < (xs.length:Int)):atI (xs.map V.str) i=some (.str (xs.getD i.toNat "")):=by
 have hk:i.toNat < xs.length:=by omega
 have:=ze (xs:=xs.map V.str) (j:=i.toNat) (v:=.str (xs.getD i.toNat "")) (by rw [List.getElem?_map,List.getD_eq_getElem?_getD,List.getElem?_eq_getElem hk];rfl)
 rw [show ((i.toNat:Nat):Int)=i by omega] at this
 exact this
theorem jaF:∀ ys:List Nat,(Txt.join "" (ys.map fun c=>(⟨#[c]⟩:Str))).cps.toList=ys:=by
 intro ys
 have e:Txt.join "" (ys.map fun c=>(⟨#[c]⟩:Str))=("" : Str).join (ys.map fun c=>(⟨#[c]⟩:Str)):=PySem.StrLaws.glued_eq_join _ _
 rw [e]
 clear e
 induction ys with
 | nil=>rfl
 | cons y r ih=>
  cases r with
  | nil=>rfl
  | cons z r=>
   show (((⟨#[y]⟩:Str)++("" : Str))++("" : Str).join ((z :: r).map fun c=>(⟨#[c]⟩:Str))).cps.toList=_
   rw [Str.cps_append,Array.toList_append,ih]
   rfl
def qJ:Str:="abcdefghijklmnopqrstuvwxyz"
theorem Zw:qJ.cps.toList=(List.range 26).map (·+97):=by decide +kernel
def zY (i:Int):Nat:=i.toNat+97
theorem YO {i:Int} (h0:0≤i) (h1:i < 26):atI qJ.cps.toList i=some (zY i):=by
 have hk:i.toNat < 26:=by omega
 have:=ze (xs:=qJ.cps.toList) (j:=i.toNat) (v:=zY i) (by rw [Zw,List.getElem?_map,List.getElem?_range hk];rfl)
 rw [show ((i.toNat:Nat):Int)=i by omega] at this
 exact this
def qzS:Str:="qz"
def qzC (i:Int):Nat:=if i=0 then 113 else 122
theorem jhO {i:Int} (h0:0≤i) (h1:i < 2):atI qzS.cps.toList i=some (qzC i):=by
 have:i=0∨i=1:=by omega
 rcases this with rfl | rfl
 ·decide +kernel
 ·decide +kernel
def KS:List Str:=["row","is","at","set","put","know","lose","start","entry","own","nought","pick","least","lost"]
structure WordsOk (ws:List Str) (n:Nat):Prop where
 len:ws.length=n
 nd:ws.Nodup
 ne:∀ w∈ws,w≠""
 out:∀ w∈ws,w≠"out"
 sz:∀ w∈ws,w.length≤10
theorem yU {α:Type} {n:Nat} {f:Nat→α} (h:∀ i j,i < n→j < n→f i=f j→i=j):((List.range n).map f).Nodup:=by
 unfold List.Nodup
 rw [List.pairwise_map]
 apply List.Pairwise.imp_of_mem (R:=fun a b=>a≠b)
 ·intro a b ha hb hne e
  exact hne (h a b (List.mem_range.mp ha) (List.mem_range.mp hb) e)
 ·exact List.nodup_range
theorem Zv {a:Int} {i j:Nat} {m:Int} {n:Nat} (hn:(n:Int)≤m) (hi:i < n) (hj:j < n) (h:(a+(0+(i:Int))) % m=(a+(0+(j:Int))) % m):i=j:=by
 have hm:0 < m:=by omega
 have h1:=Int.emod_emod_of_dvd (a+(0+(i:Int))) (Int.dvd_refl m)
 have h2:((a+(0+(i:Int))) - (a+(0+(j:Int)))) % m=0:=Int.emod_eq_emod_iff_emod_sub_eq_zero.mp h
 have h3:m ∣ ((i:Int) - j):=by
  have:=Int.dvd_of_emod_eq_zero h2
  rwa [show (a+(0+(i:Int))) - (a+(0+(j:Int)))=(i:Int) - j by omega] at this
 have h4:=Int.eq_zero_of_dvd_of_natAbs_lt_natAbs h3 (by omega)
 omega
def jeb (c:Int) (k:Nat):Str:=KS.getD ((c / 7+(0+(k:Int))) % 14).toNat ""
def jgY (c:Int) (k:Nat):Str:=⟨#[zY ((c / 8+(0+(k:Int))) % 26)]⟩
def bsW (c spot:Int) (k j:Nat):Int:=c / 432+7 * (0+(j:Int)) * (0+(j:Int))+(0+(k:Int)) * (if decide (V.int (0+(j:Int))=V.int spot)=true then 1 else 0)
def lgW (c size spot:Int) (k:Nat):Str:=(⟨#[qzC (c / 144 % 2)]⟩:Str)++Txt.join "" (((List.range size.toNat).map fun j=>zY (bsW c spot k j % 26)).map fun ch=>(⟨#[ch]⟩:Str))
theorem jep {α:Type} {l:List α} (nd:l.Nodup) {i j:Nat} (hi:i < l.length) (hj:j < l.length) (e:l[i]=l[j]):i=j:=by
 have pw:=List.pairwise_iff_getElem.mp nd
 rcases Nat.lt_trichotomy i j with h | h | h
 ·exact absurd e (pw i j hi hj h)
 ·exact h
 ·exact absurd e.symm (pw j i hj hi h)
theorem jbl:KS.Nodup:=by decide +kernel
theorem KR:∀ w∈KS,w≠""∧w≠"out"∧w.length≤10:=by decide +kernel
theorem KQ (c:Int) (k:Nat):jeb c k∈KS:=by
 unfold jeb
 have h0:=Int.emod_nonneg (c / 7+(0+(k:Int))) (b:=14) (by decide)
 have h1:=Int.emod_lt_of_pos (c / 7+(0+(k:Int))) (b:=14) (by decide)
 have hl:KS.length=14:=rfl
 have hk:((c / 7+(0+(k:Int))) % 14).toNat < KS.length:=by omega
 rw [List.getD_eq_getElem?_getD,List.getElem?_eq_getElem hk]
 exact List.getElem_mem hk
theorem jgW {c:Int} {n:Nat} (hn:n≤14):WordsOk ((List.range n).map (jeb c)) n:=by
 refine ⟨by simp,?_,fun w hw=>?_,fun w hw=>?_,fun w hw=>?_⟩
 ·apply yU
  intro i j hi hj e
  unfold jeb at e
  have a0:=Int.emod_nonneg (c / 7+(0+(i:Int))) (b:=14) (by decide)
  have a1:=Int.emod_lt_of_pos (c / 7+(0+(i:Int))) (b:=14) (by decide)
  have b0:=Int.emod_nonneg (c / 7+(0+(j:Int))) (b:=14) (by decide)
  have b1:=Int.emod_lt_of_pos (c / 7+(0+(j:Int))) (b:=14) (by decide)
  have hl:KS.length=14:=rfl
  have hk:((c / 7+(0+(i:Int))) % 14).toNat < KS.length:=by omega
  have hk2:((c / 7+(0+(j:Int))) % 14).toNat < KS.length:=by omega
  rw [List.getD_eq_getElem?_getD,List.getElem?_eq_getElem hk,List.getD_eq_getElem?_getD,List.getElem?_eq_getElem hk2] at e
  have e2:=jep jbl hk hk2 e
  exact Zv (a:=c / 7) (n:=n) (m:=14) (by omega) hi hj (by omega)
 ·obtain ⟨k,_,rfl⟩:=List.mem_map.mp hw
  exact (KR _ (KQ c k)).1
 ·obtain ⟨k,_,rfl⟩:=List.mem_map.mp hw
  exact (KR _ (KQ c k)).2.1
 ·obtain ⟨k,_,rfl⟩:=List.mem_map.mp hw
  exact (KR _ (KQ c k)).2.2
theorem jaC {a b:Int} (ha:0≤a) (hb:0≤b) (h:zY a=zY b):a=b:=by
 unfold zY at h
 omega
theorem jgX {c:Int} {n:Nat} (hn:n≤26):WordsOk ((List.range n).map (jgY c)) n:=by
 refine ⟨by simp,?_,fun w hw=>?_,fun w hw=>?_,fun w hw=>?_⟩
 ·apply yU
  intro i j hi hj e
  unfold jgY at e
  have a0:=Int.emod_nonneg (c / 8+(0+(i:Int))) (b:=26) (by decide)
  have b0:=Int.emod_nonneg (c / 8+(0+(j:Int))) (b:=26) (by decide)
  have e1:zY ((c / 8+(0+(i:Int))) % 26)=zY ((c / 8+(0+(j:Int))) % 26):=by
   injection e with e
   injection e with e
   injection e
  exact Zv (n:=n) (m:=26) (by omega) hi hj (jaC a0 b0 e1)
 ·obtain ⟨k,_,rfl⟩:=List.mem_map.mp hw
  intro z
  have:=congrArg Str.length z
  exact absurd this (by show (1:Nat)≠0;decide)
 ·obtain ⟨k,_,rfl⟩:=List.mem_map.mp hw
  intro z
  have:=congrArg Str.length z
  exact absurd this (by show (1:Nat)≠3;decide)
 ·obtain ⟨k,_,rfl⟩:=List.mem_map.mp hw
  show 1≤10
  decide
theorem Ku (c size spot:Int) (k:Nat):(lgW c size spot k).cps.toList=qzC (c / 144 % 2) :: (List.range size.toNat).map fun j=>zY (bsW c spot k j % 26):=by
 unfold lgW
 rw [Str.cps_append,Array.toList_append,jaF]
 rfl
theorem jhZ {c size spot:Int} {n:Nat} (hn:n≤26) (h0:0≤spot) (h1:spot < size) (h2:size≤7):WordsOk ((List.range n).map (lgW c size spot)) n:=by
 have len:∀ k,(lgW c size spot k).length=1+size.toNat:=fun k=>by
  show (lgW c size spot k).cps.size=_
  rw [← Array.length_toList,Ku]
  simp
  omega
 have q0:∀ k,(lgW c size spot k).cps.toList[0]?=some (qzC (c / 144 % 2)):=fun k=>by rw [Ku];rfl
 refine ⟨by simp,?_,fun w hw=>?_,fun w hw=>?_,fun w hw=>?_⟩
 ·apply yU
  intro i j hi hj e
  have e1:(lgW c size spot i).cps.toList=(lgW c size spot j).cps.toList:=by rw [e]
  rw [Ku,Ku] at e1
  injection e1 with _ e1
  have hs:spot.toNat < size.toNat:=by omega
  have e2:zY (bsW c spot i spot.toNat % 26)=zY (bsW c spot j spot.toNat % 26):=by
   have this:((List.range size.toNat).map fun k=>zY (bsW c spot i k % 26))[spot.toNat]?=((List.range size.toNat).map fun k=>zY (bsW c spot j k % 26))[spot.toNat]?:=by rw [e1]
   rw [List.getElem?_map,List.getElem?_map,List.getElem?_range hs] at this
   exact Option.some.inj this
  have e3:=jaC (Int.emod_nonneg _ (by decide)) (Int.emod_nonneg _ (by decide)) e2
  unfold bsW at e3
  have hd:decide (V.int (0+((spot.toNat:Nat):Int))=V.int spot)=true:=decide_eq_true (congrArg V.int (by omega))
  rw [hd,if_pos rfl,Int.mul_one,Int.mul_one] at e3
  exact Zv (n:=n) (m:=26) (by omega) hi hj e3
 ·obtain ⟨k,_,rfl⟩:=List.mem_map.mp hw
  intro z
  have h:=len k
  rw [z] at h
  have:(0:Nat)=1+size.toNat:=h
  omega
 ·obtain ⟨k,_,rfl⟩:=List.mem_map.mp hw
  intro z
  have h:=q0 k
  rw [z] at h
  have h':some (111:Nat)=some (qzC (c / 144 % 2)):=by
   rw [← h]
   decide +kernel
  unfold qzC at h'
  split at h' <;> cases h'
 ·obtain ⟨k,_,rfl⟩:=List.mem_map.mp hw
  rw [len k]
  omega
end LW
namespace L2
open PySem PySem.Spec PyProof.Rows PySem.W
abbrev RD:=St→Hp→D→Prop
abbrev RDL:=St→Hp→List D→Prop
def tHD (R:RD):TE:=fun σ H Q=>∃ d,R σ H d∧∀ v H',Same H H'→Held H' d v→Q v H'
def jid (R:RDL):TA:=fun σ H Q=>∃ ds,R σ H ds∧∀ vs H',Same H H'→HeldL H' ds vs→Q vs H'
structure PD (X:Cx) (e:Expr) (R:RD):Prop where
 h:PE X e (tHD R)
 m:∀ {σ H H' d},Same H H'→R σ H d→R σ H' d
structure PDs (X:Cx) (es:List Expr) (R:RDL):Prop where
 h:PA X es (jid R)
 m:∀ {σ H H' d},Same H H'→R σ H d→R σ H' d
def rV (i:Nat):RD:=fun σ H d=>∃ v,σ[i]?=some (some v)∧Held H d v
def rK (c:D):RD:=fun _ _ d=>d=c
def rN:RDL:=fun _ _ ds=>ds=[]
def rC (R:RD) (Rs:RDL):RDL:=fun σ H ds=>∃ d r,ds=d :: r∧R σ H d∧Rs σ H r
def rT (R:RDL):RD:=fun σ H d=>∃ ds,d=.tup ds∧ds.length≤1000∧R σ H ds
def rE (t:TE):RD:=fun σ H d=>∀ G,Same H G→∀ Q:VK,(∀ v G',Same G G'→Held G' d v→Q v G')→t σ G Q
theorem PE.weak {X:Cx} {e:Expr} {t t':TE} (h:PE X e t) (w:∀ σ H Q,t' σ H Q→t σ H Q):PE X e t':=fun pins s σ H Q I q=>h pins s σ H Q I (w σ H Q q)
theorem PA.weak {X:Cx} {es:List Expr} {t t':TA} (h:PA X es t) (w:∀ σ H Q,t' σ H Q→t σ H Q):PA X es t':=fun pos pins s σ H Q I q=>h pos pins s σ H Q I (w σ H Q q)
theorem fs {a b c} (h:FnScope a b c:=by exact ⟨rfl,rfl,rfl,by decide +kernel,rfl,by decide +kernel,by decide +kernel⟩):FnScope a b c:=h
theorem ol {p q:Prop} (h:p∨q:=by first|exact .inl rfl|exact .inr rfl):p∨q:=h
theorem jir {i:Nat} {v:V} {σ σ':St} {H:Hp} {Q:St→Hp→Prop} (e:σ.set i (some v)=σ') (h:Q σ' H):qo i v σ H Q:=by subst e;exact h
theorem gs {i:Nat} {v:V} {σ σ':St} {H:Hp} {Q:St→Hp→Prop} (h:Q σ' H) (e:σ.set i (some v)=σ':=by simp only [List.set_cons_succ,List.set_cons_zero];rfl):qo i v σ H Q:=jir e h
theorem yg {t:TS} {D:Ends} {σ σ':St} {H:Hp} (e:σ=σ') (h:t D σ' H):t D σ H:=by subst e;exact h
theorem jG {H:Hp} {p:Addr} (h:H p=none) (o:HO):Same H (upd H p o):=fun b u q=>by rw [jg (jk q h)];exact q
theorem j5 (H:Hp):Same H H:=fun _ _ e=>e
section
variable {X:Cx}
theorem kc (i:Nat) {x:Str} {pos:Pos} (hN:X.N[i]?=some x:=by rfl) (hv:Vis X.env.scope x:=by first | exact Or.inl rfl | exact Or.inr (Or.inl rfl) | exact Or.inr (Or.inr rfl)) (hd:(x == ("__debug__" : Str))=false:=by decide)
  (hcd:(x == ("__classdict__" : Str))=false:=by decide):PD X (.Name x pos) (rV i):=
 ⟨(jd5 hN hv hd hcd).weak fun σ H Q ⟨d,⟨v,e,hv⟩,q⟩=>⟨v,e,q v H (j5 H) hv⟩,fun s ⟨v,e,h⟩=>⟨v,e,h.mono s⟩⟩
theorem qG {i j pos}:PD X (.Constant (.int i) j pos) (rK (.int i)):=⟨jm.weak fun σ H Q ⟨d,e,q⟩=>by cases e;exact q _ H (j5 H) jM,fun _ h=>h⟩
theorem jX {x j pos}:PD X (.Constant (.str x) j pos) (rK (.str x)):=⟨kL.weak fun σ H Q ⟨d,e,q⟩=>by cases e;exact q _ H (j5 H) jD,fun _ h=>h⟩
theorem jhT {e:Expr} {t:TE} (h:PE X e t):PD X e (rE t):=⟨h.weak fun σ H Q ⟨d,r,q⟩=>r H (j5 H) Q q,fun s r G sG Q q=>r G (s.trans sG) Q q⟩
theorem jA:PDs X [] rN:=⟨jq.weak fun σ H Q ⟨d,e,q⟩=>by cases e;exact q _ H (j5 H) jt,fun _ h=>h⟩
theorem jc {e:Expr} {es:List Expr} {R:RD} {Rs:RDL} (h:PD X e R) (hs:PDs X es Rs) (hp:qj e=true:=by rfl):PDs X (e :: es) (rC R Rs):=by
 refine ⟨(ju h.h hs.h hp).weak fun σ H Q ⟨ds,⟨d,r,e,h1,h2⟩,q⟩=>?_,fun s ⟨d,r,e,h1,h2⟩=>⟨d,r,e,h.m s h1,hs.m s h2⟩⟩
 subst e
 exact ⟨d,h1,fun v H1 s1 hv=>⟨r,hs.m s1 h2,fun vs H2 s2 hvs=>q _ _ (s1.trans s2) (jf (hv.mono s2) hvs)⟩⟩
theorem jK {es:List Expr} {R:RDL} {x1} {pos:Pos} (h:PDs X es R):PD X (.Tuple es x1 pos) (rT R):=by
 refine ⟨(kD h.h).weak fun σ H Q ⟨d,⟨ds,e,hl,hr⟩,q⟩=>?_,fun s ⟨ds,e,hl,hr⟩=>⟨ds,e,hl,h.m s hr⟩⟩
 subst e
 refine ⟨ds,hr,fun vs H1 s1 hvs=>⟨?_,fun p hp=>?_⟩⟩
 ·rw [← hvs.length]
  exact Nat.le_of_lt (jz hl)
 ·exact q _ _ (s1.trans (jG hp _)) (jL ja (hvs.mono (jG hp _)))
structure QA (X:Cx) (es:List Expr) (t:TA):Prop where
 h:PA X es t
structure QE (X:Cx) (e:Expr) (t:TE):Prop where
 h:PE X e t
end
end L2
namespace PySem
section
variable {prog:Program} {w:World} {A:Around} {E:Value→Shared→Prop} {s:Shared}
abbrev ye (h:Heap) (z TI TO:Addr) (f0:Value) (b:Bool):Prop:=
 h.get? z=some { cls:=.type "zip",dict:=none,data:=.fields #[f0,.bool b,.bool false,.ref TI,.ref TO],slots:=#[] }
theorem ja3 {z TI TO i1 i2 l1 l2 T:Addr} {oT:Obj} {bb:Bool} {k1 k2:Nat} {xs ys:Array Value} {x y:Value} {Q:Value→Shared→Prop}
  (n1:i1≠z) (n2:i2≠z) (n12:i1≠i2) (m1:l1≠z) (m2:l2≠z) (m21:l2≠i1) (nTz:T≠z) (nTI:TI≠z)
  (hz:ye s.heap z TI TO (rawInt T) bb) (hT:s.heap.get? T=some oT) (hTI:IsPair s.heap TI (.ref i1) (.ref i2))
  (h1:s.heap.IsTupleIter i1 l1 k1) (h2L:s.heap.IsListIter i2 l2 k2) (hl1:s.heap.IsTuple l1 xs) (hl2:s.heap.IsList l2 ys) (hx:xs[k1]?=some x) (hy:ys[k2]?=some y)
  (hQ:∀ h',ye h' z TI TO (rawInt T) true→h'.IsTupleIter i1 l1 (k1+1)→h'.IsListIter i2 l2 (k2+1)→IsPair h' s.heap.objs.size x y→h'.objs.size=s.heap.objs.size+1→
   (∀ c o,c≠z→c≠i1→c≠i2→s.heap.get? c=some o→h'.get? c=some o)→Q (.ref s.heap.objs.size) { s with heap:=h' }) :
  wpAny (model prog w) A (Builtin.«zip.__next__» ⟨[.ref z],[]⟩) (fun fin s'=>∃ v,fin=.done (.ret v)∧Q v s') E s:=by
 show wpAny _ _ (field (.ref z) 2 >>= _) _ _ _
 refine wpAny_bind (wpAny_field hz rfl (x:=.bool false) rfl ?_)
 show wpAny _ _ (field (.ref z) 3 >>= _) _ _ _
 refine wpAny_bind (wpAny_field hz rfl (x:=.ref TI) rfl ?_)
 refine wpAny_bind (wpAny_seqItems hTI rfl ?_)
 show wpAny _ _ (Builtin.SmallTypes.ownedTupleIsFree (.ref z) >>= _) _ _ _
 refine wpAny_bind ?_
 unfold Builtin.SmallTypes.ownedTupleIsFree
 refine wpAny_bind (wpAny_field hz rfl (x:=rawInt T) rfl ?_)
 show wpAny _ _ (loadIfAlive ((T:Int).toNat) >>= _) _ _ _
 rw [Int.toNat_natCast]
 refine wpAny_bind (W.kdx_alive hT ?_)
 simp only [Option.isNone_some,Bool.false_eq_true,if_false]
 refine wpAny_bind (wpAny_field hz rfl (x:=.bool bb) rfl ?_)
 cases bb with
 | true=>
  rw [if_neg (show ¬ ((Value.bool true != Value.bool true)=true) from Bool.false_ne_true)]
  refine wpAny_pure ?_
  simp only [Bool.false_eq_true,if_false,← Array.forIn_toList,List.forIn_cons,List.forIn_nil]
  refine wpAny_bind (wpAny_bind (wpAny_bind (wpAny_holding ?_)))
  show wpAny _ _ (Builtin.SmallTypes.nextOf (.ref i1) >>= _) _ _ _
  refine wpAny_bind (Jc (h1) (hl1) hx fun h2 t2 b2=>wpAny_pure (wpAny_pure ?_))
  dsimp only
  refine wpAny_bind (wpAny_bind (wpAny_holding ?_))
  show wpAny _ _ (Builtin.SmallTypes.nextOf (.ref i2) >>= _) _ _ _
  refine wpAny_bind (wpAny_nextOf_list_item (h2L.extBut b2.extBut n12.symm) (hl2.extBut b2.extBut m21) hy fun h3 t3 b3=>wpAny_pure (wpAny_pure (wpAny_pure ?_)))
  dsimp only
  refine wpAny_bind (wpAny_newTuple (hsz:=by show 2≤sizeLine;decide) (wpAny_pure ⟨_,rfl,?_⟩))
  have sz:h3.objs.size=s.heap.objs.size:=by rw [b3.1,b2.1]
  show Q (.ref h3.objs.size) _
  have hzz:ye h3 z TI TO (rawInt T) true:=b3.extBut _ _ n2.symm (b2.extBut _ _ n1.symm hz)
  have kk:∀ c o,c≠z→c≠i1→c≠i2→s.heap.get? c=some o→h3.get? c=some o:=fun c o c1 c2 c3 e=>b3.extBut _ _ c3 (b2.extBut _ _ c2 (e))
  have t2':h3.IsTupleIter i1 l1 (k1+1):=t2.extBut b3.extBut n12
  have pp:∀ c o,h3.get? c=some o→(h3.push { cls:=.type "tuple",data:=.seq #[x,y] }).get? c=some o:=fun c o e=>Heap.get?_push_of_some _ e
  have np:IsPair (h3.push { cls:=.type "tuple",data:=.seq #[x,y] }) h3.objs.size x y:=Heap.get?_push_size _ rfl
  have zp:(h3.push { cls:=.type "tuple",data:=.seq #[x,y] }).objs.size=s.heap.objs.size+1:=by rw [Heap.size_push,sz]
  rw [sz] at np ⊢
  exact hQ _ (pp _ _ hzz) (t2'.at fun o e=>pp _ o e) (t3.at fun o e=>pp _ o e) np zp fun c o c1 c2 c3 e=>pp _ _ (kk c o c1 c2 c3 e)
 | false=>
  rw [if_pos (show (Value.bool false != Value.bool true)=true from rfl)]
  refine wpAny_bind (wpAny_setField_rec hz (by simp) fun h1' e1 b1=>?_)
  replace b1:Heap.SameBut z s.heap h1':=b1
  replace e1:ye h1' z TI TO (rawInt T) true:=e1
  refine wpAny_pure ?_
  simp only [Bool.false_eq_true,if_false,← Array.forIn_toList,List.forIn_cons,List.forIn_nil]
  refine wpAny_bind (wpAny_bind (wpAny_bind (wpAny_holding ?_)))
  show wpAny _ _ (Builtin.SmallTypes.nextOf (.ref i1) >>= _) _ _ _
  refine wpAny_bind (Jc (h1.extBut b1.extBut n1) (hl1.extBut b1.extBut m1) hx fun h2 t2 b2=>wpAny_pure (wpAny_pure ?_))
  dsimp only
  refine wpAny_bind (wpAny_bind (wpAny_holding ?_))
  show wpAny _ _ (Builtin.SmallTypes.nextOf (.ref i2) >>= _) _ _ _
  refine wpAny_bind (wpAny_nextOf_list_item ((h2L.extBut b1.extBut n2).extBut b2.extBut n12.symm) ((hl2.extBut b1.extBut m2).extBut b2.extBut m21) hy fun h3 t3 b3=>wpAny_pure (wpAny_pure (wpAny_pure ?_)))
  dsimp only
  refine wpAny_bind (wpAny_newTuple (hsz:=by show 2≤sizeLine;decide) (wpAny_pure ⟨_,rfl,?_⟩))
  have sz:h3.objs.size=s.heap.objs.size:=by rw [b3.1,b2.1,b1.1]
  show Q (.ref h3.objs.size) _
  have hzz:ye h3 z TI TO (rawInt T) true:=b3.extBut _ _ n2.symm (b2.extBut _ _ n1.symm e1)
  have kk:∀ c o,c≠z→c≠i1→c≠i2→s.heap.get? c=some o→h3.get? c=some o:=fun c o c1 c2 c3 e=>b3.extBut _ _ c3 (b2.extBut _ _ c2 (b1.extBut _ _ c1 e))
  have t2':h3.IsTupleIter i1 l1 (k1+1):=t2.extBut b3.extBut n12
  have pp:∀ c o,h3.get? c=some o→(h3.push { cls:=.type "tuple",data:=.seq #[x,y] }).get? c=some o:=fun c o e=>Heap.get?_push_of_some _ e
  have np:IsPair (h3.push { cls:=.type "tuple",data:=.seq #[x,y] }) h3.objs.size x y:=Heap.get?_push_size _ rfl
  have zp:(h3.push { cls:=.type "tuple",data:=.seq #[x,y] }).objs.size=s.heap.objs.size+1:=by rw [Heap.size_push,sz]
  rw [sz] at np ⊢
  exact hQ _ (pp _ _ hzz) (t2'.at fun o e=>pp _ o e) (t3.at fun o e=>pp _ o e) np zp fun c o c1 c2 c3 e=>pp _ _ (kk c o c1 c2 c3 e)
theorem ja4 {z TI TO i1 i2 l1 l2:Addr} {k1 k2:Nat} {xs ys:Array Value} {x y a b:Value} {Q:Value→Shared→Prop} (D:ZipApart z TI TO i1 i2 l1 l2)
  (hz:IsZip s.heap z TI TO .none) (hTI:IsPair s.heap TI (.ref i1) (.ref i2)) (hTO:IsPair s.heap TO a b)
  (h1:s.heap.IsTupleIter i1 l1 k1) (h2:s.heap.IsListIter i2 l2 k2) (hl1:s.heap.IsTuple l1 xs) (hl2:s.heap.IsList l2 ys) (hx:xs[k1]?=some x) (hy:ys[k2]?=some y)
  (hQ:∀ h',ye h' z TI TO (rawInt s.heap.objs.size) false→h'.IsTupleIter i1 l1 (k1+1)→h'.IsListIter i2 l2 (k2+1)→IsPair h' s.heap.objs.size x y→h'.objs.size=s.heap.objs.size+1→
   (∀ c o,c≠z→c≠TO→c≠i1→c≠i2→s.heap.get? c=some o→h'.get? c=some o)→Q (.ref s.heap.objs.size) { s with heap:=h' }) :
  wpAny (model prog w) A (Builtin.«zip.__next__» ⟨[.ref z],[]⟩) (fun fin s'=>∃ v,fin=.done (.ret v)∧Q v s') E s:=by
 show wpAny _ _ (field (.ref z) 2 >>= _) _ _ _
 refine wpAny_bind (wpAny_field hz rfl (x:=.bool false) rfl ?_)
 show wpAny _ _ (field (.ref z) 3 >>= _) _ _ _
 refine wpAny_bind (wpAny_field hz rfl (x:=.ref TI) rfl ?_)
 refine wpAny_bind (wpAny_seqItems hTI rfl ?_)
 show wpAny _ _ (Builtin.SmallTypes.ownedTupleIsFree (.ref z) >>= _) _ _ _
 refine wpAny_bind ?_
 unfold Builtin.SmallTypes.ownedTupleIsFree
 refine wpAny_bind (wpAny_field hz rfl (x:=.none) rfl (wpAny_pure ?_))
 simp only [if_true]
 refine wpAny_bind (wpAny_rule ?_)
 refine wpAny_bind (wpAny_field hz rfl (x:=.ref TO) rfl ?_)
 refine wpAny_bind (wpAny_setField_rec hz (by simp) fun g1 z1 b1=>?_)
 replace z1:IsZip g1 z TI TO .ellipsis:=z1
 refine wpAny_bind ?_
 simp only [List.zipIdx_cons,List.zipIdx_nil,List.forIn_cons,List.forIn_nil]
 refine wpAny_bind (wpAny_bind (wpAny_onRaise ?_))
 show wpAny _ _ (Builtin.SmallTypes.nextOf (.ref i1) >>= _) _ _ _
 refine wpAny_bind (Jc (h1.extBut b1.extBut D.i1z) (hl1.extBut b1.extBut D.l1z) hx fun g2 t2 b2=>wpAny_pure ?_)
 have o2:IsPair g2 TO a b:=b2.extBut _ _ D.TOi1 (b1.extBut _ _ D.TOz hTO)
 refine wpAny_bind (wpAny_seqItems o2 rfl ?_)
 refine wpAny_bind (wpAny_updateSeq_pair o2 fun g3 o3 b3=>?_)
 replace o3:IsPair g3 TO x b:=o3
 refine wpAny_bind (wpAny_letGo (wpAny_pure ?_))
 refine wpAny_bind (wpAny_bind (wpAny_onRaise ?_))
 show wpAny _ _ (Builtin.SmallTypes.nextOf (.ref i2) >>= _) _ _ _
 refine wpAny_bind (wpAny_nextOf_list_item (((h2.extBut b1.extBut D.i2z).extBut b2.extBut D.i12.symm).extBut b3.extBut D.TOi2.symm) (((hl2.extBut b1.extBut D.l2z).extBut b2.extBut D.l2i1).extBut b3.extBut D.l2TO) hy fun g4 t4 b4=>wpAny_pure ?_)
 have o4:IsPair g4 TO x b:=b4.extBut _ _ D.TOi2 o3
 refine wpAny_bind (wpAny_seqItems o4 rfl ?_)
 refine wpAny_bind (wpAny_updateSeq_pair o4 fun g5 o5 b5=>?_)
 replace o5:IsPair g5 TO x y:=o5
 refine wpAny_bind (wpAny_letGo (wpAny_pure (wpAny_pure ?_)))
 refine wpAny_bind (wpAny_seqItems o5 rfl ?_)
 refine wpAny_bind (wpAny_newTuple ?_)
 have sz:g5.objs.size=s.heap.objs.size:=by rw [b5.1,b4.1,b3.1,b2.1,b1.1]
 have z5:IsZip g5 z TI TO .ellipsis:=b5.extBut _ _ D.TOz.symm (b4.extBut _ _ D.i2z.symm (b3.extBut _ _ D.TOz.symm (b2.extBut _ _ D.i1z.symm z1)))
 have k5:∀ c o,c≠z→c≠TO→c≠i1→c≠i2→s.heap.get? c=some o→g5.get? c=some o:=fun c o c1 c2 c3 c4 e=>b5.extBut _ _ c2 (b4.extBut _ _ c4 (b3.extBut _ _ c2 (b2.extBut _ _ c3 (b1.extBut _ _ c1 e))))
 have t2':g5.IsTupleIter i1 l1 (k1+1):=((t2.extBut b3.extBut D.TOi1.symm).extBut b4.extBut D.i12).extBut b5.extBut D.TOi1.symm
 have t4':g5.IsListIter i2 l2 (k2+1):=t4.extBut b5.extBut D.TOi2.symm
 have zlt:z < g5.objs.size:=Heap.lt_size z5
 show wpAny _ _ (Builtin.SmallTypes.ownedTupleHandOut (.ref z) (.ref g5.objs.size) >>= _) _ _ _
 refine wpAny_bind ?_
 unfold Builtin.SmallTypes.ownedTupleHandOut
 have z6:IsZip (g5.push { cls:=.type "tuple",data:=.seq #[x,y] }) z TI TO .ellipsis:=Heap.get?_push_of_some _ z5
 refine wpAny_bind (wpAny_setField_rec z6 (by simp) fun g7 z7 b7=>?_)
 replace z7:IsZip g7 z TI TO (rawInt g5.objs.size):=z7
 refine wpAny_setField_rec z7 (by simp) fun g8 z8 b8=>?_
 replace z8:ye g8 z TI TO (rawInt g5.objs.size) false:=z8
 have up:∀ c o,c≠z→g5.get? c=some o→g8.get? c=some o:=fun c o c1 e=>b8.extBut _ _ c1 (b7.extBut _ _ c1 (Heap.get?_push_of_some _ e))
 have p8:IsPair g8 g5.objs.size x y:=b8.extBut _ _ (Nat.ne_of_gt zlt) (b7.extBut _ _ (Nat.ne_of_gt zlt) (Heap.get?_push_size _ rfl))
 have s8:g8.objs.size=g5.objs.size+1:=by rw [b8.1,b7.1,Heap.size_push]
 rw [sz] at z8 p8 s8
 refine wpAny_pure ⟨_,rfl,?_⟩
 show Q (.ref g5.objs.size) _
 rw [sz]
 exact hQ g8 z8 (t2'.at fun o e=>up _ o D.i1z e) (t4'.at fun o e=>up _ o D.i2z e) p8 s8 fun c o c1 c2 c3 c4 e=>up c o c1 (k5 c o c1 c2 c3 c4 e)
theorem KB {z TI TO i1 i2 l1 T:Addr} {oT:Obj} {bb:Bool} {k1:Nat} {xs:Array Value} {Q:Fin→Shared→Prop} (hh:A.handled=none)
  (n1:i1≠z) (m1:l1≠z) (hz:ye s.heap z TI TO (rawInt T) bb) (hT:s.heap.get? T=some oT) (hTI:IsPair s.heap TI (.ref i1) (.ref i2)) (h1:s.heap.IsTupleIter i1 l1 k1) (hl1:s.heap.IsTuple l1 xs) (hx:xs[k1]?=none)
  (hE:∀ h' e,(∀ c o,c≠z→c≠i1→s.heap.get? c=some o→h'.get? c=some o)→(∃ o,h'.get? e=some o∧o.cls=.type "StopIteration")→E (.ref e) { s with heap:=h' }) :
  wpAny (model prog w) A (Builtin.«zip.__next__» ⟨[.ref z],[]⟩) Q E s:=by
 show wpAny _ _ (field (.ref z) 2 >>= _) _ _ _
 refine wpAny_bind (wpAny_field hz rfl (x:=.bool false) rfl ?_)
 show wpAny _ _ (field (.ref z) 3 >>= _) _ _ _
 refine wpAny_bind (wpAny_field hz rfl (x:=.ref TI) rfl ?_)
 refine wpAny_bind (wpAny_seqItems hTI rfl ?_)
 show wpAny _ _ (Builtin.SmallTypes.ownedTupleIsFree (.ref z) >>= _) _ _ _
 refine wpAny_bind ?_
 unfold Builtin.SmallTypes.ownedTupleIsFree
 refine wpAny_bind (wpAny_field hz rfl (x:=rawInt T) rfl ?_)
 show wpAny _ _ (loadIfAlive ((T:Int).toNat) >>= _) _ _ _
 rw [Int.toNat_natCast]
 refine wpAny_bind (W.kdx_alive hT ?_)
 simp only [Option.isNone_some,Bool.false_eq_true,if_false]
 refine wpAny_bind (wpAny_field hz rfl (x:=.bool bb) rfl ?_)
 cases bb with
 | true=>
  rw [if_neg (show ¬ ((Value.bool true != Value.bool true)=true) from Bool.false_ne_true)]
  refine wpAny_pure ?_
  simp only [Bool.false_eq_true,if_false,← Array.forIn_toList,List.forIn_cons,List.forIn_nil]
  refine wpAny_bind (wpAny_bind (wpAny_bind (wpAny_holding ?_)))
  show wpAny _ _ (Builtin.SmallTypes.nextOf (.ref i1) >>= _) _ _ _
  exact wpAny_bind (za hh (h1) (hl1) hx fun h2 e b2 he=>hE h2 e (fun c o c1 c3 x=>b2 _ _ c3 (x)) he)
 | false=>
  rw [if_pos (show (Value.bool false != Value.bool true)=true from rfl)]
  refine wpAny_bind (wpAny_setField_rec hz (by simp) fun h1' e1 b1=>?_)
  replace b1:Heap.SameBut z s.heap h1':=b1
  refine wpAny_pure ?_
  simp only [Bool.false_eq_true,if_false,← Array.forIn_toList,List.forIn_cons,List.forIn_nil]
  refine wpAny_bind (wpAny_bind (wpAny_bind (wpAny_holding ?_)))
  show wpAny _ _ (Builtin.SmallTypes.nextOf (.ref i1) >>= _) _ _ _
  exact wpAny_bind (za hh (h1.extBut b1.extBut n1) (hl1.extBut b1.extBut m1) hx fun h2 e b2 he=>hE h2 e (fun c o c1 c3 x=>b2 _ _ c3 (b1.extBut _ _ c1 x)) he)
theorem Yq {z TI TO i1 i2 l1:Addr} {k1:Nat} {xs:Array Value} {Q:Fin→Shared→Prop} (hh:A.handled=none)
  (n1:i1≠z) (m1:l1≠z) (hz:IsZip s.heap z TI TO .none) (hTI:IsPair s.heap TI (.ref i1) (.ref i2)) (h1:s.heap.IsTupleIter i1 l1 k1) (hl1:s.heap.IsTuple l1 xs) (hx:xs[k1]?=none)
  (hE:∀ h' e,(∀ c o,c≠z→c≠i1→s.heap.get? c=some o→h'.get? c=some o)→(∃ o,h'.get? e=some o∧o.cls=.type "StopIteration")→E (.ref e) { s with heap:=h' }) :
  wpAny (model prog w) A (Builtin.«zip.__next__» ⟨[.ref z],[]⟩) Q E s:=by
 show wpAny _ _ (field (.ref z) 2 >>= _) _ _ _
 refine wpAny_bind (wpAny_field hz rfl (x:=.bool false) rfl ?_)
 show wpAny _ _ (field (.ref z) 3 >>= _) _ _ _
 refine wpAny_bind (wpAny_field hz rfl (x:=.ref TI) rfl ?_)
 refine wpAny_bind (wpAny_seqItems hTI rfl ?_)
 show wpAny _ _ (Builtin.SmallTypes.ownedTupleIsFree (.ref z) >>= _) _ _ _
 refine wpAny_bind ?_
 unfold Builtin.SmallTypes.ownedTupleIsFree
 refine wpAny_bind (wpAny_field hz rfl (x:=.none) rfl (wpAny_pure ?_))
 simp only [if_true]
 refine wpAny_bind (wpAny_rule ?_)
 refine wpAny_bind (wpAny_field hz rfl (x:=.ref TO) rfl ?_)
 refine wpAny_bind (wpAny_setField_rec hz (by simp) fun g1 z1 b1=>?_)
 replace z1:IsZip g1 z TI TO .ellipsis:=z1
 refine wpAny_bind ?_
 simp only [List.zipIdx_cons,List.zipIdx_nil,List.forIn_cons,List.forIn_nil]
 refine wpAny_bind (wpAny_bind (wpAny_onRaise ?_))
 show wpAny _ _ (Builtin.SmallTypes.nextOf (.ref i1) >>= _) _ _ _
 refine wpAny_bind (za hh (h1.extBut b1.extBut n1) (hl1.extBut b1.extBut m1) hx fun g2 e b2 he=>?_)
 obtain ⟨oe,hoe,hce⟩:=he
 have z2:IsZip g2 z TI TO .ellipsis:=b2 _ _ n1.symm z1
 have hez:e≠z:=fun x=>by subst x;rw [z2] at hoe;cases hoe;simp at hce
 exact wpAny_setField_rec z2 (by simp) fun g3 _ b3=>hE g3 e (fun c o c1 c3 x=>b3.extBut _ _ c1 (b2 _ _ c3 (b1.extBut _ _ c1 x))) ⟨oe,b3.extBut _ _ hez hoe,hce⟩
end
abbrev jeX (h:Heap) (l1:Addr):Heap:=h.push { cls:=.type "tuple_iterator",data:=.fields #[.ref l1,.int 0 0] }
abbrev jeW (h:Heap) (l1 l2:Addr):Heap:=(jeX h l1).push { cls:=.type "list_iterator",data:=.fields #[.ref l2,.int 0 0] }
abbrev jeV (h:Heap) (l1 l2:Addr):Heap:=(jeW h l1 l2).push { cls:=.type "tuple",data:=.seq #[.ref h.objs.size,.ref (jeX h l1).objs.size] }
abbrev jeU (h:Heap) (l1 l2:Addr):Heap:=(jeV h l1 l2).push { cls:=.type "tuple",data:=.seq #[.none,.none] }
abbrev ja1 (h:Heap) (l1 l2:Addr):Heap:=(jeU h l1 l2).push { cls:=.type "zip",data:=.fields #[.none,.bool false,.bool false,.ref (jeW h l1 l2).objs.size,.ref (jeV h l1 l2).objs.size] }
theorem jdx (l1 l2:Addr) (xs ys:Array Value) :
  Meets (Builtin.«zip.__new__» ⟨[.type "zip",.ref l1,.ref l2],[]⟩) (fun _ R s=>s.heap.IsTuple l1 xs∧s.heap.IsList l2 ys∧R (.ok (.ret (.ref (jeU s.heap l1 l2).objs.size))) { s with heap:=ja1 s.heap l1 l2 }):=
 .of_wp fun prog w A R s h=>by
  obtain ⟨hp,g,d,tk,os⟩:=s;obtain ⟨hl1,hl2,h⟩:=h
  have hsub:=sub_zip
  have hL1:Heap.IsTuple (Shared.heap ⟨hp,g,d,tk,os⟩) l1 xs:=hl1
  have hL2:Heap.IsList (Shared.heap ⟨hp.push { cls:=.type "tuple_iterator",data:=.fields #[.ref l1,.int 0 0] },g,d,tk,os⟩) l2 ys:=Heap.IsList.push hl2 _
  wp_walk using wpAny_pyIter_tuple hL1,wpAny_pyIter_list hL2
  exact ⟨_,rfl,h⟩
section
variable {prog:Program} {w:World} {A:Around} {E:Value→Shared→Prop} {s:Shared}
theorem jdq {l1 l2:Addr} {xs ys:Array Value} {Q:Value→Shared→Prop} (hl1:s.heap.IsTuple l1 xs) (hl2:s.heap.IsList l2 ys)
  (h:∀ h',IsZip h' (s.heap.objs.size+4) (s.heap.objs.size+2) (s.heap.objs.size+3) .none→IsPair h' (s.heap.objs.size+2) (.ref s.heap.objs.size) (.ref (s.heap.objs.size+1))→
   IsPair h' (s.heap.objs.size+3) .none .none→h'.IsTupleIter s.heap.objs.size l1 0→h'.IsListIter (s.heap.objs.size+1) l2 0→h'.objs.size=s.heap.objs.size+5→
   (∀ c o,s.heap.get? c=some o→h'.get? c=some o)→Q (.ref (s.heap.objs.size+4)) { s with heap:=h' }) :
  wpAny (model prog w) A (call (.type "zip") [.ref l1,.ref l2]) Q E s:=by
 refine callType_new F.called_zip (by decide) (F.typeCall_zip_2 _ _) (F.newCall_zip_2 _ _) (fun obj=>F.args_object_init_3 obj _ _) F.entry_zip_new (jdx l1 l2 xs ys) ⟨hl1,hl2,?_⟩
 have z1:(jeX s.heap l1).objs.size=s.heap.objs.size+1:=Heap.size_push ..
 have z2:(jeW s.heap l1 l2).objs.size=s.heap.objs.size+2:=by rw [Heap.size_push,z1]
 have z3:(jeV s.heap l1 l2).objs.size=s.heap.objs.size+3:=by rw [Heap.size_push,z2]
 have z4:(jeU s.heap l1 l2).objs.size=s.heap.objs.size+4:=by rw [Heap.size_push,z3]
 have z5:(ja1 s.heap l1 l2).objs.size=s.heap.objs.size+5:=by rw [Heap.size_push,z4]
 have up:∀ (h:Heap) (o:Obj) c u,h.get? c=some u→(h.push o).get? c=some u:=fun h o c u e=>Heap.get?_push_of_some _ e
 have g5:(ja1 s.heap l1 l2).get? (jeU s.heap l1 l2).objs.size=some _:=Heap.get?_push_size _ rfl
 have g4:(ja1 s.heap l1 l2).get? (jeV s.heap l1 l2).objs.size=some _:=up _ _ _ _ (Heap.get?_push_size _ rfl)
 have g3:(ja1 s.heap l1 l2).get? (jeW s.heap l1 l2).objs.size=some _:=up _ _ _ _ (up _ _ _ _ (Heap.get?_push_size _ rfl))
 have g2:(ja1 s.heap l1 l2).get? (jeX s.heap l1).objs.size=some _:=up _ _ _ _ (up _ _ _ _ (up _ _ _ _ (Heap.get?_push_size _ rfl)))
 have g1:(ja1 s.heap l1 l2).get? s.heap.objs.size=some _:=up _ _ _ _ (up _ _ _ _ (up _ _ _ _ (up _ _ _ _ (Heap.get?_push_size _ rfl))))
 show _∧_
 rw [z2,z3,z4] at g5
 rw [z1,z2] at g3
 rw [z3] at g4
 rw [z1] at g2
 rw [z4]
 exact ⟨⟨_,g5,rfl⟩,h _ g5 g3 g4 ⟨_,g1,rfl,rfl⟩ ⟨_,g2,rfl,rfl⟩ z5 fun c o x=>up _ _ _ _ (up _ _ _ _ (up _ _ _ _ (up _ _ _ _ (up _ _ _ _ x))))⟩
end
open Sem (wp)
namespace F
theorem lk_zip_keys:typeLookup (.type "zip") "keys" = pure none:=by rw [typeLookup_type,builtinLookup_eq_fast];kernel_rfl
theorem lk_zip_getattr:typeLookup (.type "zip") "__getattr__" = pure none:=by rw [typeLookup_type,builtinLookup_eq_fast];kernel_rfl
theorem entry_zip_ga:entryFor table "zip.__getattribute__" = some Builtin.«object.__getattribute__»:=entryFor_alias (id':="object.__getattribute__") (by kernel_rfl) (by first | rfl | decide +kernel) (by decide +kernel) (by kernel_rfl)
end F
section
variable {prog:Program} {w:World} {A:Around} {E:Value→Shared→Prop} {h:Heap} {g:Array GenState} {d:Drawn} {t:Nat} {os:OsState} {a:Addr} {its:Array Value} {n:Nat} {sl:Array (Option Value)}
theorem jfT:(Str.ofString (toString "'"++toString ((Manifest.find? "zip").elim "zip" fun x=>x.tpName)++toString "' object has no attribute '")++Str.ofString "keys"++Str.ofString "'").length≤sizeLine:=by
 rw [sizeLine_eq]
 decide +kernel
theorem Yw {tk:Tok} {Q:Fin→Shared→Prop} (hh:A.handled=none) (hx:h.get? a=some { cls:=.type "zip",dict:=none,data:=.fields its,slots:=sl })
   (hq:∀ h' t' e,(∀ b u,h.get? b=some u→h'.get? b=some u)→(∃ oe,h'.get? e=some oe∧oe.cls=.type "AttributeError")→E (.ref e) ⟨h',g,d,t',os⟩) :
  wpAny (model prog w) A (Builtin.«object.__getattribute__» ⟨[.ref a,.str "keys" tk],[]⟩) Q E ⟨h,g,d,t,os⟩:=by
 have hT:(⟨h,g,d,t,os⟩:Shared).TypeIs (.ref a) "zip":=⟨_,hx,rfl⟩
 have f4:=F.lk_zip_keys
 repeat (any_goals (first | assumption | wp_step))
 exact jbL jfT hh hq
theorem Zs {tk:Tok} {R:Result→Shared→Prop} (hh:A.handled=none) (hx:h.get? a=some { cls:=.type "zip",dict:=none,data:=.fields its,slots:=sl })
   (hq:∀ h' t' e,(∀ b u,h.get? b=some u→h'.get? b=some u)→(∃ oe,h'.get? e=some oe∧oe.cls=.type "AttributeError")→R (.error (.ref e)) ⟨h',g,d,t',os⟩) :
  codeAny (model prog w) A (.call (.builtin "zip.__getattribute__") ⟨[.ref a,.str "keys" tk],[]⟩) R ⟨h,g,d,t,os⟩:=
 codeAny_call_builtin F.slot_zip_getattribute.plain F.entry_zip_ga (F.slot_zip_getattribute.check _ _ _ _ _ _ _ _ (show (⟨h,g,d,t,os⟩:Shared).TypeIs (.ref a) "zip" from ⟨_,hx,rfl⟩) (F.args_zip_getattribute_2 _ _) (Yw hh hx hq))
theorem jbt {tk:Tok} {Q:Value→Shared→Prop} (hh:A.handled=none) (hx:h.get? a=some { cls:=.type "zip",dict:=none,data:=.fields its,slots:=sl })
   (hq:∀ h' t' e,(∀ b u,h.get? b=some u→h'.get? b=some u)→(∃ oe,h'.get? e=some oe∧oe.cls=.type "AttributeError")→E (.ref e) ⟨h',g,d,t',os⟩) :
  wpAny (model prog w) A (getAttrBy (.ref a) (.str "keys" tk) false) Q E ⟨h,g,d,t,os⟩:=by
 have hT:(⟨h,g,d,t,os⟩:Shared).TypeIs (.ref a) "zip":=⟨_,hx,rfl⟩
 have f2:=F.slot_zip_getattribute.lookup
 have f3:=F.slot_zip_getattribute.bind (.ref a)
 have f4:=F.lk_zip_getattr
 repeat (any_goals (first | assumption | wp_step))
 refine Zs hh hx fun h' t' e k hoe=>?_
 obtain ⟨oe,e1,e2⟩:=hoe
 have hTe:(⟨h',g,d,t',os⟩:Shared).TypeIs (.ref e) "AttributeError":=⟨_,e1,e2⟩
 show wpAny (model prog w) A (getattributeRaised (Value.ref a) (Value.str (Str.ofString "keys") tk) (Value.type "zip") (.ref e) none false false) Q E _
 unfold getattributeRaised
 refine wpAny_bind (wpAny_isInstance hTe F.sub_attr_attr ?_)
 rw [if_pos rfl]
 refine wpAny_bind ?_
 show wpAny _ _ (typeLookup (.type "zip") "__getattr__") _ _ _
 rw [f4]
 refine wpAny_pure ?_
 show wpAny _ _ (attributeErrorLeaves _ _ _ false false) _ _ _
 unfold attributeErrorLeaves
 dsimp only
 rw [if_pos (show (!false)=true from rfl)]
 refine wpAny_bind (wpAny_throw ?_)
 exact hq h' t' e k ⟨oe,e1,e2⟩
theorem nokeysZ {s:Shared} {Q:Option Value→Shared→Prop} (hh:A.handled=none) (hx:s.heap.get? a=some { cls:=.type "zip",dict:=none,data:=.fields its,slots:=sl })
   (hq:∀ h' t',(∀ b u,s.heap.get? b=some u→h'.get? b=some u)→Q none { s with heap:=h',toks:=t' }) :
  wpAny (model prog w) A (getAttr? (.ref a) "keys") Q E s:=by
 obtain ⟨h,g,d,t,os⟩:=s
 unfold getAttr? getAttrBy?
 refine wpAny_bind (wpAny_mkText (wpAny_bind (wpAny_attempt ?_)))
 refine jbt hh hx fun h' t' e k hoe=>?_
 obtain ⟨oe,e1,e2⟩:=hoe
 have hTe:(⟨h',g,d,t',os⟩:Shared).TypeIs (.ref e) "AttributeError":=⟨_,e1,e2⟩
 dsimp only
 refine wpAny_bind (wpAny_isInstance hTe F.sub_attr_attr ?_)
 rw [if_pos rfl]
 exact wpAny_pure (hq h' t' k)
end
structure ZipSt (h:Heap) (z TI TO i1 i2 l1 l2:Addr) (i:Nat):Prop where
 ti:IsPair h TI (.ref i1) (.ref i2)
 a:h.IsTupleIter i1 l1 i
 b:h.IsListIter i2 l2 i
 c:(IsZip h z TI TO .none∧∃ a b,IsPair h TO a b)∨∃ (T:Addr) (oT:Obj) (bb:Bool),ye h z TI TO (rawInt T) bb∧h.get? T=some oT∧T≠z∧T≠i1∧T≠i2
section
variable {prog:Program} {w:World} {A:Around} {E:Value→Shared→Prop} {s:Shared}
theorem jcA {z TI TO i1 i2 l1 l2:Addr} {i:Nat} {xs ys:Array Value} {x y:Value} {Q:Option Value→Shared→Prop} (D:ZipApart z TI TO i1 i2 l1 l2) (Z:ZipSt s.heap z TI TO i1 i2 l1 l2 i) (hl1:s.heap.IsTuple l1 xs) (hl2:s.heap.IsList l2 ys) (hx:xs[i]?=some x) (hy:ys[i]?=some y)
  (hQ:∀ h',ZipSt h' z TI TO i1 i2 l1 l2 (i+1)→IsPair h' s.heap.objs.size x y→(∀ c o,c≠z→c≠TO→c≠i1→c≠i2→s.heap.get? c=some o→h'.get? c=some o)→Q (some (.ref s.heap.objs.size)) { s with heap:=h' }) :
  wpAny (model prog w) A (pyNext (.ref z)) Q E s:=by
 have lt:∀ {c o},s.heap.get? c=some o→s.heap.objs.size≠c:=fun e=>Nat.ne_of_gt (Heap.lt_size e)
 have l1':s.heap.objs.size≠i1:=by obtain ⟨_,e,_⟩:=Z.a;exact lt e
 have l2':s.heap.objs.size≠i2:=by obtain ⟨_,e,_⟩:=Z.b;exact lt e
 rcases Z.c with ⟨hz,a,b,hTO⟩ | ⟨T,oT,bb,hz,hT,t1,t2,t3⟩
 ·have hT:s.TypeIs (.ref z) "zip":=⟨_,hz,rfl⟩
  unfold pyNext
  refine wpAny_bind (wpAny_attempt (wpAny_callSpecial?_slot (name:=Str.ofString "__next__") hT F.slot_zip_next (wpAny_call_entry F.slot_zip_next hT F.entry_zip_next ?_ (F.args_zip_next_1 _))))
  exact ja4 D hz Z.ti hTO Z.a Z.b hl1 hl2 hx hy fun h' a1 a2 a3 a4 a5 k=>wpAny_pure (hQ h' ⟨k _ _ D.TIz D.TITO D.TIi1 D.TIi2 Z.ti,a2,a3,.inr ⟨_,_,false,a1,a4,lt hz,l1',l2'⟩⟩ a4 k)
 ·have hT':s.TypeIs (.ref z) "zip":=⟨_,hz,rfl⟩
  unfold pyNext
  refine wpAny_bind (wpAny_attempt (wpAny_callSpecial?_slot (name:=Str.ofString "__next__") hT' F.slot_zip_next (wpAny_call_entry F.slot_zip_next hT' F.entry_zip_next ?_ (F.args_zip_next_1 _))))
  exact ja3 D.i1z D.i2z D.i12 D.l1z D.l2z D.l2i1 t1 D.TIz hz hT Z.ti Z.a Z.b hl1 hl2 hx hy fun h' a1 a2 a3 a4 a5 k=>wpAny_pure (hQ h' ⟨k _ _ D.TIz D.TIi1 D.TIi2 Z.ti,a2,a3,.inr ⟨T,oT,true,a1,k _ _ t1 t2 t3 hT,t1,t2,t3⟩⟩ a4 fun c o c1 _ c3 c4 e=>k c o c1 c3 c4 e)
theorem jdy {z TI TO i1 i2 l1 l2:Addr} {i:Nat} {xs:Array Value} {Q:Option Value→Shared→Prop} (hh:A.handled=none) (D:ZipApart z TI TO i1 i2 l1 l2) (Z:ZipSt s.heap z TI TO i1 i2 l1 l2 i) (hl1:s.heap.IsTuple l1 xs) (hx:xs[i]?=none)
  (hQ:∀ h',(∀ c o,c≠z→c≠i1→s.heap.get? c=some o→h'.get? c=some o)→Q none { s with heap:=h' }):wpAny (model prog w) A (pyNext (.ref z)) Q E s:=by
 have hT':s.TypeIs (.ref z) "zip":=by
  rcases Z.c with ⟨hz,_⟩ | ⟨T,oT,bb,hz,_⟩
  ·exact ⟨_,hz,rfl⟩
  ·exact ⟨_,hz,rfl⟩
 unfold pyNext
 refine wpAny_bind (wpAny_attempt (wpAny_callSpecial?_slot (name:=Str.ofString "__next__") hT' F.slot_zip_next (wpAny_call_entry F.slot_zip_next hT' F.entry_zip_next ?_ (F.args_zip_next_1 _))))
 rcases Z.c with ⟨hz,_⟩ | ⟨T,oT,bb,hz,hT,t1,t2,t3⟩
 ·refine Yq hh D.i1z D.l1z hz Z.ti Z.a hl1 hx fun h' e k he=>?_
  obtain ⟨o,ho,hc⟩:=he
  refine wpAny_bind (wpAny_isInstance (T:="StopIteration") (b:=true) ⟨o,ho,hc⟩ isSubtype_stop ?_)
  exact wpAny_pure (hQ _ k)
 ·refine KB hh D.i1z D.l1z hz hT Z.ti Z.a hl1 hx fun h' e k he=>?_
  obtain ⟨o,ho,hc⟩:=he
  refine wpAny_bind (wpAny_isInstance (T:="StopIteration") (b:=true) ⟨o,ho,hc⟩ isSubtype_stop ?_)
  exact wpAny_pure (hQ _ k)
theorem jar {T:Addr} {x y:Value} {Q:List Value→Shared→Prop} (h:IsPair s.heap T x y) (hq:Q [x,y] s):wpAny (model prog w) A (Builtin.Dict.pairItems (.ref T)) Q E s:=by
 unfold Builtin.Dict.pairItems
 refine wpAny_bind (wpAny_typeOf (T:="tuple") ⟨_,h,rfl⟩ ?_)
 rw [if_pos (by decide)]
 refine wpAny_bind ?_
 unfold seqItems?
 refine wpAny_bind (wpAny_load h ?_)
 exact wpAny_pure (wpAny_pure hq)
end
end PySem
namespace L2
open PySem PySem.Spec PyProof.Rows PySem.W
def zKV (names:List Str) (vs:List V):List (Key×V):=(names.zip vs).map fun q=>(Sum.inr q.1,q.2)
theorem ZipSt.keepD {h h':Heap} {z TI TO i1 i2 l1 l2 d:Addr} {i:Nat} (Z:ZipSt h z TI TO i1 i2 l1 l2 i) (nTI:TI≠d) (n1:i1≠d) (n2:i2≠d) (nz:z≠d) (nTO:TO≠d) (hd:∃ o,h'.get? d=some o) (k:∀ b o,b≠d→h.get? b=some o→h'.get? b=some o):ZipSt h' z TI TO i1 i2 l1 l2 i:=by
 refine ⟨k _ _ nTI Z.ti,Z.a.at fun o e=>k _ o n1 e,Z.b.at fun o e=>k _ o n2 e,?_⟩
 rcases Z.c with ⟨hz,a,b,hTO⟩ | ⟨T,oT,bb,hz,hT,t1,t2,t3⟩
 ·exact .inl ⟨k _ _ nz hz,a,b,k _ _ nTO hTO⟩
 ·refine .inr ⟨T,?_⟩
  by_cases e:T=d
  ·obtain ⟨o,ho⟩:=hd
   exact ⟨o,bb,k _ _ nz hz,by rw [e];exact ho,t1,t2,t3⟩
  ·exact ⟨oT,bb,k _ _ nz hz,k _ _ e hT,t1,t2,t3⟩
section
variable {prog:Program} {w:World} {A:Around} {E:Value→Shared→Prop} {R:Result→Shared→Prop}
theorem jcB {d z TI TO i1 i2 l1 l2:Addr} {xs ys:List Value} {names:List Str} {vs:List V} (hh:A.handled=none) (D:ZipApart z TI TO i1 i2 l1 l2) (nTI:TI≠d) (n1:i1≠d) (n2:i2≠d) (nz:z≠d) (nTO:TO≠d) (m1:l1≠d) (m2:l2≠d)
  (rx:Vals (names.map V.str) xs) (ry:Vals vs ys) (hl:names.length=vs.length) (nd:names.Nodup) (hz:names.length≤sizeLine) :
  ∀ (k i:Nat) (s:Shared) (acc:List (Key×Value)),i+k=names.length→ZipSt s.heap z TI TO i1 i2 l1 l2 i→s.heap.IsTuple l1 xs.toArray→s.heap.IsList l2 ys.toArray→s.heap.DictOf (ko prog w) d acc→KV (zKV (names.take i) (vs.take i)) acc→
   (∀ h' tk acc',(∀ b o,b≠d→b≠z→b≠TO→b≠i1→b≠i2→s.heap.get? b=some o→h'.get? b=some o)→h'.DictOf (ko prog w) d acc'→KV (zKV names vs) acc'→R (.ok (.ret .none)) { s with heap:=h',toks:=tk })→
   ∀ c:Int,codeAny (model prog w) A (.builtin "dict.update.loop" ⟨[.ref d,.ref z,rawInt c,.none],[]⟩) R s:=by
 intro k
 have lx:=rx.length
 have ly:=ry.length
 rw [List.length_map] at lx
 induction k with
 | zero=>
  intro i s acc hk Z ht hl2 hd hkv hR c
  have hin:i=names.length:=by omega
  refine codeAny_builtin yz ?_
  rw [Around.under_plainId qF _]
  show wpAny _ A.in1 (pyNext (.ref z) >>= _) _ _ s
  refine wpAny_bind (jdy (A:=A.in1) hh D Z ht (by simp;omega) fun h1 he1=>?_)
  show wpAny _ A.in1 (Builtin.Dict.addKeywords d [] >>= _) _ _ _
  refine wpAny_bind (wpAny_pure (wpAny_pure ?_))
  obtain ⟨o,es,ep,ho,x⟩:=hd
  subst hin
  rw [List.take_length,hl,List.take_length] at hkv
  exact hR h1 s.toks acc (fun b o _ b2 _ b4 _ e=>he1 b o b2 b4 e) ⟨o,es,ep,he1 d o (Ne.symm nz) (Ne.symm n1) ho,x⟩ hkv
 | succ k ih=>
  intro i s acc hk Z ht hl2 hd hkv hR c
  have hlt:i < names.length:=by omega
  have hxi:(names.map V.str)[i]?=some (.str names[i]):=by rw [List.getElem?_map,List.getElem?_eq_getElem hlt];rfl
  have hvi:vs[i]?=some (vs[i]'(by omega)):=List.getElem?_eq_getElem (by omega)
  obtain ⟨x,ex,rx'⟩:=rx.get hxi
  obtain ⟨y,ey,ry'⟩:=ry.get hvi
  refine codeAny_builtin yz ?_
  rw [Around.under_plainId qF _]
  show wpAny _ A.in1 (pyNext (.ref z) >>= _) _ _ s
  refine wpAny_bind (jcA D Z ht hl2 (x:=x) (y:=y) (by simpa using ex) (by simpa using ey) fun h1 Z1 hp1 k1=>?_)
  have ht1:h1.IsTuple l1 xs.toArray:=ht.at fun o e=>k1 _ o D.l1z D.l1TO D.l1i1 D.l1i2 e
  have hl21:h1.IsList l2 ys.toArray:=hl2.at fun o e=>k1 _ o D.l2z D.l2TO D.l2i1 D.l2i2 e
  have hd1:h1.DictOf (ko prog w) d acc:=by
   obtain ⟨o,es,ep,ho,x⟩:=hd
   exact ⟨o,es,ep,k1 d o (Ne.symm nz) (Ne.symm nTO) (Ne.symm n1) (Ne.symm n2) ho,x⟩
  dsimp only
  refine wpAny_bind (wpAny_holding (wpAny_bind (wpAny_tryCatch (jar hp1 ?_))))
  dsimp only
  have hal:acc.length=i:=by
   have:=Paired.length hkv
   unfold zKV at this
   rw [List.length_map,List.length_zip,List.length_take,List.length_take] at this
   omega
  refine wpAny_holding (wpAny_dictSet_pairs (k:=(Sum.inr names[i]:Key)) (YS (k:=Sum.inr names[i]) rx') hd1 (fun h2 hd2 hs2=>?_) (by omega))
  refine wpAny_pure ⟨plainId_quiet qF _,?_⟩
  have hb2:∀ b o,b≠d→h1.get? b=some o→h2.get? b=some o:=fun b o hb e=>(hs2.2 b hb).trans e
  have fresh:(acc.any fun kv=>decide (kv.1=(Sum.inr names[i]:Key)))=false:=by
   rw [List.any_eq_false]
   intro kv hm
   have h1:kv.1∈acc.map (·.1):=List.mem_map.mpr ⟨kv,hm,rfl⟩
   rw [jfX hkv] at h1
   unfold zKV at h1
   rw [List.map_map] at h1
   obtain ⟨q,hq,e⟩:=List.mem_map.mp h1
   intro zz
   have z':kv.1=Sum.inr names[i]:=of_decide_eq_true zz
   rw [← e] at z'
   have hqi:q.1=names[i]:=Sum.inr.inj z'
   have hmem:names[i]∈names.take i:=by
    rw [← hqi]
    exact (List.of_mem_zip hq).1
   obtain ⟨j,hj,hje⟩:=List.mem_iff_getElem.mp hmem
   rw [List.length_take] at hj
   rw [List.getElem_take] at hje
   exact (List.pairwise_iff_getElem.mp nd) j i (by omega) hlt (by omega) hje
  have hst:stored acc (Sum.inr names[i]) y=acc++[((Sum.inr names[i]:Key),y)]:=by
   unfold stored
   rw [fresh,if_neg Bool.false_ne_true]
  rw [hst] at hd2
  have hkv2:KV (zKV (names.take (i+1)) (vs.take (i+1))) (acc++[((Sum.inr names[i]:Key),y)]):=by
   have e1:zKV (names.take (i+1)) (vs.take (i+1))=zKV (names.take i) (vs.take i)++[((Sum.inr names[i]:Key),vs[i]'(by omega))]:=by
    unfold zKV
    rw [List.take_succ,List.getElem?_eq_getElem hlt,List.take_succ,hvi,List.zip_append (by rw [List.length_take,List.length_take];omega),List.map_append]
    rfl
   rw [e1]
   exact jfW hkv ry'
  have hdx:∃ o,h2.get? d=some o:=by obtain ⟨o,es,ep,ho,_⟩:=hd2;exact ⟨o,ho⟩
  exact ih (i+1) { s with heap:=h2,toks:=_ } _ (by omega) (ZipSt.keepD Z1 nTI n1 n2 nz nTO hdx hb2) (ht1.at fun o e=>hb2 _ o m1 e) (hl21.at fun o e=>hb2 _ o m2 e) hd2 hkv2 (fun h' tk acc' hk' hd' hkv'=>hR h' tk acc' (fun b o b1 b2 b3 b4 b5 e=>hk' b o b1 b2 b3 b4 b5 (hb2 b o b1 (k1 b o b2 b3 b4 b5 e))) hd' hkv') (c+1)
end
def tDZ (K:W.Frag) (t:TA):TE:=fun σ H Q=>t σ H fun vs H1=>∃ (a b:Addr) (names:List Str) (ys:List V),vs=[.ref a,.ref b]∧SqT K H1 a (names.map V.str)∧H1 b=some (.lst ys)∧names.length=ys.length∧names.Nodup∧names.length≤1000∧
 ∀ l:Addr,H1 l=none→Q (.ref l) (upd H1 l (.dK (zKV names ys)))
theorem nlt {x y:Nat} (h:x < y∨y < x):x≠y:=by omega
theorem jcz {S a b:Nat} (ha:a < S) (hb:b < S):ZipApart (S+4) (S+2) (S+3) S (S+1) a b:=by
 constructor <;> exact nlt (by omega)
theorem jbK:bootBuiltins "zip" = some (.type "zip"):=by decide +kernel
theorem jfy {X:Cx} {p pos p2 pos2:Pos} {e1 e2:Expr} {t:TA} (hc:X.calm=true) (hg:Gl X "dict") (hm:X.mg "dict" = none) (hv:bootBuiltins "dict" = some (.type "dict")) (hg2:Gl X "zip") (hm2:X.mg "zip" = none) (hv2:bootBuiltins "zip" = some (.type "zip")) (ha:PA X [e1,e2] t) (hp1:qj e1=true:=by rfl) (hp2:qj e2=true:=by rfl) :
  PE X (.Call (.Name "dict" p) [.Call (.Name "zip" p2) [e1,e2] [] pos2] [] pos) (tDZ X.K t):=by
 intro pins s σ H Q I h
 refine wpAny_Call_Name_kw (yx I hg hm hv ?_)
 refine PyProof.Rows.callWith_type1 ?_ rfl rfl
 show wpAny _ _ (spliced [(false,eval (.Call (.Name "zip" p2) [e1,e2] [] pos2) X.env)]) _ _ s
 refine Calls.spliced_cons ?_
 refine wpAny_Call_Name_kw (yx I hg2 hm2 hv2 ?_)
 refine PyProof.Rows.callWith_type1 (thn (ha pos2 pins s σ H _ I h) fun us s1 z=>?_) (zn hp1 _ _) (JG _ _ [e2] (by simp [hp2]))
 obtain ⟨vs,H1,I1,r1,a,b,names,ys,rfl,hta,hb,hl,nd,hz,q⟩:=z
 clear I h
 obtain ⟨u1,u2,rfl,r1a,r1b⟩:=jdA r1
 cases r1a
 cases r1b
 obtain ⟨xs,rx,htup,_⟩:=I1.tuple hta
 obtain ⟨hzy,its,n,ry,ho⟩:=I1.hok b _ hb
 have hlist:s1.heap.IsList b its.toArray:=⟨_,ho,rfl,n,rfl⟩
 refine jdq htup hlist fun h' zz zp zo zi1 zi2 zs zk=>?_
 refine Calls.spliced_nil ?_
 have hbig:(h'.objs.size == sysModules)=false:=by
  have:=I1.big
  exact beq_eq_false_iff_ne.mpr (by rw [zs];exact Nat.ne_of_gt (Nat.lt_of_lt_of_le this (Nat.le_add_right _ _)))
 refine callType_codes (Q₁:=fun obj s₁=>obj=.ref h'.objs.size∧s₁={ s1 with heap:=h'.push { cls:=.type "dict",data:=.dict #[] } }) PySem.F.kt_called_dict (PySem.F.kt_typeCall_dict_1 _) PySem.F.entry_dict_init (PySem.kt_code_dict_new _ ⟨rfl,rfl⟩) ?_
 rintro obj s₁ ⟨rfl,rfl⟩
 have hnew:(h'.push { cls:=.type "dict",data:=.dict #[] }).DictOf (ko X.prog X.w) h'.objs.size []:=Heap.DictOf.new h'
 have hp1:∀ b o,h'.get? b=some o→(h'.push { cls:=.type "dict",data:=.dict #[] }).get? b=some o:=fun b o e=>Heap.get?_push_of_some _ e
 refine ⟨hnew.typeIs,PySem.F.args_dict_init_2 _ _,?_⟩
 unfold Builtin.«dict.__init__»
 refine wpAny_bind ?_
 unfold Builtin.Dict.selfAndRest
 refine wpAny_bind (wpAny_notOrdered_dict hnew.typeIs ?_)
 show wpAny _ _ (pure (h'.objs.size,[Value.ref (s1.heap.objs.size+4)])) _ _ _
 refine wpAny_pure ?_
 show wpAny _ _ (Builtin.Dict.updateFrom "dict.__init__" h'.objs.size (.ref (s1.heap.objs.size+4)) [] .none) _ _ _
 unfold Builtin.Dict.updateFrom
 have ho1:=hp1 _ _ zz
 refine wpAny_bind (wpAny_typeOf (T:="zip") ⟨_,ho1,rfl⟩ ?_)
 rw [if_pos (by decide)]
 refine wpAny_bind (PySem.nokeysZ (show X.A.in1.in1.handled=none from I1.ok.hd hc) ho1 fun h2 t2 k2=>?_)
 rw [if_pos (show (none:Option Value).isNone=true from rfl)]
 have k20:∀ c o,h'.get? c=some o→h2.get? c=some o:=fun c o e=>k2 c o (hp1 c o e)
 refine wpAny_bind (wpAny_rule (wpAny_bind (wpAny_pyIter_zip (show IsZip h2 _ _ _ .none from k20 _ _ zz) ?_)))
 refine wpAny_pure ⟨plainId_quiet qF _,?_⟩
 have hd2:h2.DictOf (ko X.prog X.w) h'.objs.size []:=by
  obtain ⟨o,es,ep,ho,x⟩:=hnew
  exact ⟨o,es,ep,k2 _ _ ho,x⟩
 have lta:a < s1.heap.objs.size:=by obtain ⟨o,e,_⟩:=htup;exact Heap.lt_size e
 have ltb:b < s1.heap.objs.size:=Heap.lt_size ho
 generalize hS:s1.heap.objs.size=S at *
 have D:=jcz lta ltb
 rw [zs] at hd2 hbig ⊢
 refine jcB (A:=X.A.in1) (xs:=xs) (ys:=its) (names:=names) (vs:=ys) (show X.A.in1.handled=none from I1.ok.hd hc) D (nlt (by omega)) (nlt (by omega)) (nlt (by omega)) (nlt (by omega)) (nlt (by omega)) (Nat.ne_of_lt (Nat.lt_of_lt_of_le lta (Nat.le_add_right _ _))) (Nat.ne_of_lt (Nat.lt_of_lt_of_le ltb (Nat.le_add_right _ _))) rx ry hl nd (Nat.le_of_lt (jz hz)) names.length 0 _ [] (by omega) ⟨k20 _ _ zp,zi1.at fun o e=>k20 _ o e,zi2.at fun o e=>k20 _ o e,.inl ⟨k20 _ _ zz,_,_,k20 _ _ zo⟩⟩ (Heap.IsTuple.at htup fun o e=>k20 _ o (zk _ o e)) (hlist.at fun o e=>k20 _ o (zk _ o e)) hd2 .nil ?_ 0
 intro h3 tk acc' hk hd' hkv'
 refine ⟨rfl,.ref (S+5),_,I1.laid (t':=tk) (fun c o e=>?_) (by omega) (ZO (kvs:=zKV names ys) ?_ hbig hkv' hd'),rfl,q _ (I1.hok.fresh (by omega))⟩
 ·have lc:=Heap.lt_size e
  rw [hS] at lc
  have g:∀ k,c≠S+k:=fun k=>Nat.ne_of_lt (Nat.lt_of_lt_of_le lc (Nat.le_add_right _ _))
  exact hk c o (g 5) (g 4) (g 3) (g 0) (g 1) (k20 _ _ (zk _ _ e))
 ·unfold zKV
  rw [List.length_map,List.length_zip,← hl,Nat.min_self]
  exact Nat.le_of_lt (jz hz)
structure MkFn (P:Program) (w:World) (K:W.Frag) (mg:Str→Option Value) (base:Heap) (k:Nat) (x:Str) (C:Addr) (ps:List Str) (sp:Sp):Prop where
 ex:∃ f fd,Mk K C f∧FnOk P w K mg base CX0 k f fd ps sp∧Binds K fd ps []∧mg x=some (.ref C)
theorem jhR {X:Cx} {k k':Nat} {x:Str} {C:Addr} {ps:List Str} {sp:Sp} {e:Expr} {es:List Expr} {t:TA} {p pos:Pos} (F:MkFn X.prog X.w X.K X.mg X.base k x C ps sp) (hr:Room k' X.A) (ha:PA X (e :: es) t) (hk:k+1≤k':=by decide) (hg:Gl X x:=by rfl)
  (hd:(x == ("__debug__" : Str))=false:=by decide) (hp:(e :: es).all qj=true:=by rfl):PE X (.Call (.Name x p) (e :: es) [] pos) (jdG C sp [] E0 t):=by
 obtain ⟨f,fd,M,G,b,m⟩:=F.ex
 rw [List.all_cons,Bool.and_eq_true] at hp
 exact jfw M G (hr.mono hk) hg m b .nil jgo ha hd (zn hp.1 es X.env) (JG pos X.env es hp.2)
theorem K8 {env:Env} (kx vx gens scope pos):eval (.DictComp kx vx gens scope pos) env=comprehension (.DictComp kx vx gens scope pos) scope env (firstIterPos gens pos) newDict (firstAsync gens) (firstIter gens env):=rfl
theorem Yy {prog:Program} {w:World} {A:Around} {s:Shared} {kx vx target iter:Expr} {ifs:List Expr} {scope:Scope} {pos:Pos} {it:Value} {D:Addr} {env:Env} {R:Result→Shared→Prop} (I:Nat→Shared→Prop)
  (turn:∀ n s,I n s→wpAny (model prog w) A (pyNext it) (fun r s1=>match r with
   | none=>R (.ok .next) s1
   | some v=>wpAny (model prog w) A (letOwnedTupleGo target it v) (fun _ s1'=>wpAny (model prog w) A (assign target env v) (fun _ s2=>
     wpAny (model prog w) A (forIn ifs true fun c r=>if r=true then do let ok ← isTrue c env (eval c env);pure (ForInStep.yield ok) else pure (ForInStep.yield r)) (fun ok s3=>
      if ok=true then wpAny (model prog w) A (eval kx env) (fun kv s4=>wpAny (model prog w) A (eval vx env) (fun vv s5=>
       wpAny (model prog w) A (dictSet D kv vv) (fun _ s6=>∃ m,m < n∧I m s6) (fun _ _=>False) s5) (fun _ _=>False) s4) (fun _ _=>False) s3
      else ∃ m,m < n∧I m s3) (fun _ _=>False) s2) (fun _ _=>False) s1') (fun _ _=>False) s1) (fun _ _=>False) s)
  (n:Nat) (h:I n s):codeAny (model prog w) A (.compLoop (.DictComp kx vx [⟨target,iter,ifs,0⟩] scope pos) 0 it (.ref D) env) R s:=by
 have no:∀ (x:Value) (s':Shared),False→notedBy (model prog w) A env (fun e s'=>R (.error e) s') x s':=fun _ _ z=>z.elim
 refine codeAny_loop rfl I (fun n s hI=>?_) n h
 show wpAny _ A ((compTurn (.DictComp kx vx [⟨target,iter,ifs,0⟩] scope pos) 0 it (.ref D) env).onRaise (fun x=>do noteFrame x env;theTreesLotGoes x)) _ _ s
 refine wpAny_noted ?_
 rw [compTurn_dict]
 refine wpAny_bind (wpAny_standAt (wpAny_bind (wpAny_mono (turn n s hI) (fun r s1 h1=>?_) no)))
 cases r with
 | none=>exact wpAny_pure h1
 | some v=>
  refine wpAny_bind (wpAny_mono h1 (fun _ s1' h1'=>?_) no)
  refine wpAny_bind (wpAny_mono h1' (fun _ s2 h2=>wpAny_bind (wpAny_mono h2 (fun ok s3 h3=>?_) no)) no)
  cases ok with
  | false=>exact wpAny_pure ⟨rfl,h3⟩
  | true=>
   exact wpAny_bind (wpAny_bind (wpAny_mono h3 (fun kv s4 h4=>wpAny_bind (wpAny_holding (wpAny_mono h4 (fun vv s5 h5=>wpAny_bind (wpAny_standAt (wpAny_holding (wpAny_mono h5 (fun _ s6 h6=>wpAny_pure ⟨rfl,h6⟩) no)))) no))) no))
def jcw (J:It) (p:Addr) (g:TG) (tt:TT) (tk tv:TE) (Q:VK) (σ:St) (H:Hp):Prop:=∃ W:Nat→Nat→St→Hp→Prop,(∃ m,W 0 m σ H)∧
 ∀ i m σ' H',W i m σ' H'→(J.stop i H'∧Q (.ref p) H')∨(J.go i H'∧∃ N:St→Hp→Prop,(∀ σ3 H3,N σ3 H3→∃ m',m' < m∧W (i+1) m' σ3 H3)∧∀ x H2,J.yld i H' x H2→g x σ' H2 fun σ3 H3=>tt σ3 H3 fun c H4=>
  if c=true then tk σ3 H4 fun ky H5=>tv σ3 H5 fun y H6=>∃ kvs k,ky=kV k∧H6 p=some (.dK kvs)∧kvs.length < sizeLine∧N σ3 (upd H6 p (.dK (qy kvs k y))) else N σ3 H4)
def jba (own:List Str) (fr:List Nat) (wi:TI) (g:TG) (tt:TT) (tk tv:TE):TE:=fun σ H Q=>wi σ H fun J H1=>∀ p,H1 p=none→jcw J p g tt tk tv Q (jdr own fr σ) (upd H1 p (.dK []))
theorem jdk {X:Cx} {scope:Scope} {own:List Str} {fr:List Nat} {kx vx tg iter:Expr} {ifs:List Expr} {pos:Pos} {wi:TI} {g:TG} {tt:TT} {tk tv:TE} {use:Option (Value→Sem Unit)} (hc:X.calm=true) (O:CompOk X scope fr) (hi:PI X tg iter wi)
  (hb:∀ s H ex,PG (blk X scope own fr s H ex) tg g∧PTs (blk X scope own fr s H ex) ifs tt∧PE (blk X scope own fr s H ex) kx tk∧PE (blk X scope own fr s H ex) vx tv)
  (hs:∀ x,foldedSetIterable iter X.env x=pure x) {pins:List (Addr×Obj)} {s:Shared} {σ:St} {H:Hp} {Q:VK} {R:Value→Shared→Prop} (I:Inv X pins σ H s) (h:jba own fr wi g tt tk tv σ H Q) (hx:∀ e s',X.xe e s'↔False)
  (fin:∀ (p C:Addr) (H':Hp) (s':Shared) (m:Str→Option Value),s'.heap.Ns C m→H' C=none→C≠X.env.locals→(∀ x c,X.env.cells.lookup x=some c→c≠C)→Inv X pins σ H' s'→(∀ h',Heap.SameBut C s'.heap h'→Inv X pins σ H' { s' with heap:=h' })→Q (.ref p) H'→
   compPost (model X.prog X.w) X.A X.xe use R (.ref p) C (.ok .next) s') :
  wpAny (model X.prog X.w) X.A (comprehension (.DictComp kx vx [⟨tg,iter,ifs,0⟩] scope pos) scope X.env (firstIterPos [⟨tg,iter,ifs,0⟩] pos) newDict false (eval iter X.env) use) R X.xe s:=by
 have hsome:∀ x∈scope.names,x.2=.free→(X.env.cells.lookup x.1).isSome=true:=fun x hx' e=>by
  obtain ⟨c,hc⟩:=I.ok.has x.1 (O.frees x hx' e)
  rw [hc];rfl
 have no:∀ (E:Value→Shared→Prop) (x:Value) (s':Shared),X.xe x s'→E x s':=fun E x s' z=>((hx x s').mp z).elim
 refine wpAny_comprehension_free (cl:=yh X.env.cells scope.names []) rfl hs (y4 hsome) O.kind O.loc ?_
 refine thn (hi pins s σ H _ I h) fun v s1 h1=>thn h1 fun itv s2 h2=>?_
 obtain ⟨it,fp,tn,J,H2,e,I2,T,st2,f2,q2⟩:=h2
 subst e
 unfold newDict
 refine wpAny_newObj_type ?_
 have nw:H2 s2.heap.objs.size=none:=I2.fresh
 obtain ⟨W,⟨m0,w0⟩,turn⟩:=q2 _ nw
 generalize hp:s2.heap.objs.size=p at *
 have I3:Inv X pins σ (upd H2 p (.dK [])) { s2 with heap:=s2.heap.push { cls:=.type "dict",data:=.dict #[] } }:=by
  have:=I2.laid (a:=s2.heap.objs.size) (o:=.dK []) (t':=s2.toks) (fun _ _ q=>Heap.get?_push_of_some { cls:=.type "dict",data:=.dict #[] } q) (Nat.le_refl _) (jeJ s2.heap I2.big)
  rw [hp] at this
  exact this
 have lt2:∀ b∈fp,b < s2.heap.objs.size:=fun b hb=>by
  obtain ⟨o,ho,_⟩:=T.obj _ _ st2 b hb
  exact Heap.lt_size ho
 have fpn:∀ b∈fp,(upd H2 p (.dK [])) b=none:=fun b hb=>by
  rw [jg (by rw [← hp];exact Nat.ne_of_lt (lt2 b hb))]
  exact (f2 b hb).1
 generalize hs3:({ s2 with heap:=s2.heap.push { cls:=.type "dict",data:=.dict #[] } }:Shared)=s3 at *
 have sz3:s3.heap.objs.size=p+1:=by
  rw [← hs3]
  show (s2.heap.push _).objs.size=_
  rw [Heap.size_push,hp]
 have st3:tn 0 s3.heap:=T.keep 0 _ _ st2 fun b hb o e=>by
  rw [← hs3]
  exact Heap.get?_push_of_some _ e
 refine wpAny_newFunctionEnv O.nocell (by intro y hy;simp at hy) (fun h4 hns4 hsb4=>?_) O.kind
 have k4:∀ b o,s3.heap.get? b=some o→h4.get? b=some o:=fun b o e=>hsb4.extBut b o (Nat.ne_of_lt (Heap.lt_size e)) (Heap.get?_push_of_some _ e)
 have hns4':h4.Ns s3.heap.objs.size fun _=>none:=by
  have z:(fun x:Str=>([]:List (Str×Value)).reverse.lookup x)=fun _=>none:=by funext x;rfl
  rw [z] at hns4
  exact hns4
 have fo:∀ b∈fp,Jy X pins (upd H2 p (.dK [])) b∧b < s3.heap.objs.size:=fun b hb=>⟨⟨fpn b hb,(f2 b hb).2⟩,by rw [sz3,← hp];exact Nat.lt_succ_of_lt (lt2 b hb)⟩
 have I4:=ZG (own:=own) (fr:=fr) (t1:=s3.toks+([]:List (Str×Value)).length) I3 O fo hns4' k4
 have st4:tn 0 h4:=T.keep 0 _ _ st3 fun b hb o e=>k4 b o e
 obtain ⟨hg,ht,hk',hv'⟩:=hb s3 (upd H2 p (.dK [])) fp
 have stat:∀ {H':Hp} {pn:List (Addr×Obj)} {s':Shared} {σ':St},Inv (blk X scope own fr s3 (upd H2 p (.dK [])) fp) [] σ' H' s'→(∀ b∈fp,H' b=none)→∀ b∈fp,Jy (blk X scope own fr s3 (upd H2 p (.dK [])) fp) [] H' b:=fun {H' pn s' σ'} J hn b hb'=>
  ⟨hn b hb',(J.ok.exf b hb').1,J.ok.exfs b hb',.inl hb',(J.ok.exf b hb').2,fun p hp=>absurd hp (by simp [blk])⟩
 have nocells:∀ x c,X.env.cells.lookup x=some c→c≠s3.heap.objs.size:=fun x c e=>by
  obtain ⟨v,q⟩:=I3.cell x c e
  exact Nat.ne_of_lt q.lt
 have loop:∀ s5:Shared,s5={ s3 with heap:=h4,toks:=s3.toks+([]:List (Str×Value)).length }→
   codeAny (model X.prog X.w) X.A (.compLoop (.DictComp kx vx [⟨tg,iter,ifs,0⟩] scope pos) 0 (.ref it) (.ref p) (blk X scope own fr s3 (upd H2 p (.dK [])) fp).env) (compPost (model X.prog X.w) X.A X.xe use R (.ref p) s3.heap.objs.size) s5:=by
  rintro s5 rfl
  refine Yy (fun n s'=>∃ i σ' H',Inv (blk X scope own fr s3 (upd H2 p (.dK [])) fp) [] σ' H' s'∧tn i s'.heap∧(∀ b∈fp,H' b=none)∧W i n σ' H') ?_ m0 ⟨0,_,_,I4,st4,fpn,w0⟩
  rintro n s6 ⟨i,σ6,H6,I6,st6,fr6,w6⟩
  rcases turn i n σ6 H6 w6 with ⟨stop,qn⟩ | ⟨go,N,hN,step⟩
  ·refine thn (T.done (blk X scope own fr s3 (upd H2 p (.dK [])) fp) rfl rfl rfl hc i [] s6 σ6 H6 _ I6 (stat (pn:=[]) I6 fr6) st6 stop) fun r s7 ⟨hr,I7⟩=>?_
   subst hr
   obtain ⟨m,hm,_⟩:=I7.loc
   exact fin p _ H6 s7 m hm I7.free (Nat.ne_of_gt I3.lt) nocells (zP I3 fo I7 (Heap.SameBut.refl ..)) (fun h' hs'=>zP I3 fo I7 hs') qn
  ·refine thn (T.item (blk X scope own fr s3 (upd H2 p (.dK [])) fp) rfl rfl rfl hc i [] s6 σ6 H6 _ I6 (stat (pn:=[]) I6 fr6) st6 go) fun r s7 ⟨u,hr,h7⟩=>?_
   subst hr
   refine thn h7 fun _ s8 ⟨x,H8,I8,r8,y8,st8,fr8⟩=>?_
   have I8':=I8.pinned (stat (pn:=[]) I8 fr8) (T.obj _ _ st8)
   refine thn (hg _ s8 σ6 H8 x u _ I8' r8 (step x H8 y8)) fun _ s9 ⟨σ9,H9,I9,q9⟩=>?_
   refine thn (ht _ s9 σ9 H9 _ I9 q9) fun ok s10 ⟨H10,I10,q10⟩=>?_
   have again:∀ {H11:Hp} {s11:Shared},Inv (blk X scope own fr s3 (upd H2 p (.dK [])) fp) ([]++zW fp s8.heap) σ9 H11 s11→(∃ m',m' < n∧W (i+1) m' σ9 H11)→
     ∃ m,m < n∧∃ i σ' H',Inv (blk X scope own fr s3 (upd H2 p (.dK [])) fp) [] σ' H' s11∧tn i s11.heap∧(∀ b∈fp,H' b=none)∧W i m σ' H':=fun {H11 s11} I11 ⟨m',hm,w11⟩=>by
    refine ⟨m',hm,i+1,σ9,H11,I11.unpinned,T.keep _ _ _ st8 fun b hb' o e=>(I11.pin (b,o) (List.mem_append_right _ (List.mem_append_right _ (qm hb' e)))).1,fun b hb'=>?_,w11⟩
    obtain ⟨o,e,d⟩:=T.obj _ _ st8 b hb'
    exact (I11.pin (b,o) (List.mem_append_right _ (List.mem_append_right _ (qm hb' e)))).2.1
   cases ok with
   | false=>
    rw [if_neg Bool.false_ne_true] at q10 ⊢
    exact again I10 (hN _ _ q10)
   | true=>
    rw [if_pos rfl] at q10 ⊢
    refine thn (hk' _ s10 σ9 H10 _ I10 q10) fun kv s11 ⟨ky,H11,I11,r11,q11⟩=>?_
    refine thn (hv' _ s11 σ9 H11 _ I11 q11) fun vv s12 ⟨y,H12,I12,r12,kvs,k,ek,hkv,hlen,q12⟩=>?_
    subst ek
    obtain ⟨z,hd,vs,rel,dd⟩:=jck I12.hok hkv
    have hl:(qy kvs k y).length≤sizeLine:=by have:=yw kvs k y;omega
    refine wpAny_dictSet_pairs (YS r11) dd (fun h' dd' hs'=>?_) (by rw [← rel.length];exact z)
    have hex':∃ q,h'.get? p=some q:=let ⟨q,_,_,hq,_⟩:=dd';⟨q,hq⟩
    exact again (Kw (t':=s12.toks+1) I12 (by rw [hkv];exact True.intro) hs' hex' (ZO hl hd (rel.put k r12) dd')) (hN _ _ q12)
 refine codeAny_compStart_dict (loop _ rfl) (T.self X.A 0 _ _ _ st4 (loop _ rfl))
theorem jd8 {X:Cx} {scope:Scope} {kx vx tg iter:Expr} {ifs:List Expr} {pos:Pos} {wi:TI} {g:TG} {tt:TT} {tk tv:TE} (own:List Str) (fr:List Nat) (hc:X.calm=true) (O:CompOk X scope fr) (hi:PI X.nox tg iter wi)
  (hb:∀ s H ex,PG (blk X.nox scope own fr s H ex) tg g∧PTs (blk X.nox scope own fr s H ex) ifs tt∧PE (blk X.nox scope own fr s H ex) kx tk∧PE (blk X.nox scope own fr s H ex) vx tv)
  (hs:∀ x,foldedSetIterable iter X.env x=pure x:=by intro _;rfl):PE X.nox (.DictComp kx vx [⟨tg,iter,ifs,0⟩] scope pos) (jba own fr wi g tt tk tv):=by
 intro pins s σ H Q I h
 rw [K8]
 refine jdk (X:=X.nox) (use:=none) (Q:=Q) hc ⟨O.kind,O.nocell,O.loc,O.frees,O.fr⟩ hi hb hs I h (fun _ _=>Iff.rfl) fun p C H' s' m hm hC _ _ I' back q=>?_
 exact ⟨m,hm,fun h' hs'=>⟨.ref p,H',back h' hs',rfl,q⟩⟩
section
variable {p:Addr} {g:TG} {tt:TT} {tk tv:TE} {σ:St} {H:Hp} {Q:VK}
theorem Y1 {K:W.Frag} {a:Addr} {xs:List V} (Pv:Nat→St→Hp→Prop) (h0:Pv 0 σ H) (hl:∀ i σ' H',i≤xs.length→Pv i σ' H'→SqT K H' a xs)
  (hs:∀ i x σ' H',xs[i]?=some x→Pv i σ' H'→g x σ' H' fun σ3 H3=>tt σ3 H3 fun c H4=>if c=true then tk σ3 H4 fun ky H5=>tv σ3 H5 fun y H6=>∃ kvs k,ky=kV k∧H6 p=some (.dK kvs)∧kvs.length < sizeLine∧Pv (i+1) σ3 (upd H6 p (.dK (qy kvs k y))) else Pv (i+1) σ3 H4)
  (hd:∀ σ' H',Pv xs.length σ' H'→Q (.ref p) H'):jcw (Itt K a) p g tt tk tv Q σ H:=by
 refine ⟨fun i m σ H=>m=xs.length - i∧i≤xs.length∧Pv i σ H,⟨xs.length,by simp,Nat.zero_le _,h0⟩,?_⟩
 rintro i m σ1 H1 ⟨rfl,hi,pv⟩
 have q:=hl i σ1 H1 hi pv
 by_cases hlt:i < xs.length
 ·refine .inr ⟨⟨xs,xs[i],q,by simp [hlt]⟩,Pv (i+1),fun σ3 H3 q=>⟨xs.length - (i+1),by omega,rfl,hlt,q⟩,fun x H2 y=>?_⟩
  obtain ⟨e1,e2⟩:=y
  subst e1
  exact hs i x σ1 _ (e2 xs q) pv
 ·have e:i=xs.length:=by omega
  subst e
  exact .inl ⟨⟨xs,q,Nat.le_refl _⟩,hd σ1 H1 pv⟩
end
end L2
namespace HT
open PySem PySem.Spec PyProof.Rows L2
open PySem.SeqAt
open PySem.AutoSeq1 (wpAny_loadPart')
open PySem.MeetsSeq PySem.MeetsSeq2 PySem.MeetsSeq3
section
variable {prog:Program} {w:World} {A:Around} {E:Value→Shared→Prop} {s:Shared}
theorem getItem_tuple_whole {t sl:Addr} {items:Array Value} {vl vu:Value} {lo hi:Option Int} {Q:Value→Shared→Prop} (ht:IsTup s.heap t items) (hs:s.heap.IsSliceOf sl vl vu .none) (pl:IsPart vl lo) (pu:IsPart vu hi)
  (hw:sIx items.size 0 lo=0∧sIx items.size items.size hi=items.size) (h:Q (.ref t) s):wpAny (model prog w) A (getItem (.ref t) (.ref sl)) Q E s:=by
 obtain ⟨os,hos,hcs,hds⟩:=id hs
 have hTs:s.TypeIs (.ref sl) "slice":=⟨os,hos,hcs⟩
 unfold getItem
 try with_reducible refine wpAny_holding ?_
 first | refine wpAny_bind (wpAny_pure ?_) | skip
 refine wpAny_bind (wpAny_sequenceKey ht.typeIs (by decide) ?_)
 refine wpAny_bind (wpAny_callSpecial?_slot (name:=Str.ofString "__getitem__") ht.typeIs PyProof.Rows.slot_tuple_getitem
  (wpAny_call_entry PyProof.Rows.slot_tuple_getitem ht.typeIs entry_tuple_getitem ?_ (args_tuple_getitem _ _)))
 show wpAny _ _ (Builtin.Tuple.tupleItemsOf (.ref t) >>= _) _ _ s
 refine wpAny_bind (tupleItemsOf_ ht ?_)
 refine wpAny_bind (wpAny_typeOf hTs ?_)
 rw [if_pos (by decide)]
 refine wpAny_bind (zH hs pl pu ?_)
 have hyes:(((sIx items.size 0 lo:Nat):Int) == 0 && (1:Int) == 1 && (sIx items.size items.size hi - sIx items.size 0 lo) == items.size)=true:=by
  rw [hw.1,hw.2]
  simp
 show wpAny _ _ (if (((sIx items.size 0 lo:Nat):Int) == 0 && (1:Int) == 1 && (sIx items.size items.size hi - sIx items.size 0 lo) == items.size)=true then _ else _) _ _ s
 rw [if_pos hyes]
 refine wpAny_bind ?_
 unfold Builtin.Tuple.tupleIsExact
 first
  | refine wpAny_bind (wpAny_typeOf ht.typeIs (wpAny_pure ?_))
  | trace_state
 rw [if_pos (by decide)]
 refine wpAny_bind (wpAny_rule ?_)
 exact wpAny_pure ⟨_,rfl,wpAny_pure h⟩
end
end HT
namespace L2
open PySem PySem.Spec PyProof.Rows
def jhJ (K:W.Frag):V→Option Int→Option Int→Hp→VK→Prop:=fun x lo hi H Q=>∃ a xs,x=.ref a∧SqT K H a xs∧
 ((HT.sIx xs.length 0 lo=0∧HT.sIx xs.length xs.length hi=xs.length)→Q (.ref a) H)∧(¬ (HT.sIx xs.length 0 lo=0∧HT.sIx xs.length xs.length hi=xs.length)→∀ p,H p=none→Q (.ref p) (upd H p (.tup (qZ xs lo hi))))
theorem jfb {X:Cx}:SlR X (jhJ X.K):=by
 intro pins s σ H x v vl vu lo hi sl Q I rx hs pl pu h
 obtain ⟨a,xs,rfl,hx,q1,q2⟩:=h
 by_cases hw:HT.sIx xs.length 0 lo=0∧HT.sIx xs.length xs.length hi=xs.length
 ·cases rx
  obtain ⟨its,r,ht,hz⟩:=I.tuple hx
  have hlen:its.toArray.size=xs.length:=by rw [List.size_toArray];exact r.length.symm
  refine ⟨"tuple",_,PyProof.Rows.slot_tuple_getitem.lookup,ht.typeIs,?_⟩
  exact HT.getItem_tuple_whole ht hs pl pu (by rw [hlen];exact hw) ⟨.ref a,H,I,rfl,q1 hw⟩
 ·exact zC pins s σ H (.ref a) v vl vu lo hi sl Q I rx hs pl pu ⟨a,xs,rfl,hx,hw,q2 hw⟩
theorem jbF {xs:List V} {lo hi:Option Int} (h:HT.sIx xs.length 0 lo=0∧HT.sIx xs.length xs.length hi=xs.length):qZ xs lo hi=xs:=by
 unfold qZ
 rw [h.1,h.2,List.drop_zero,Nat.sub_zero,List.take_length]
def jhI (K:W.Frag):V→Option Int→Option Int→Hp→VK→Prop:=fun x lo hi H Q=>∃ a xs,x=.ref a∧SqT K H a xs∧∀ p H',Same H H'→SqT K H' p (qZ xs lo hi)→Q (.ref p) H'
theorem jbZ {X:Cx}:SlR X (jhI X.K):=by
 intro pins s σ H x v vl vu lo hi sl Q I rx hs pl pu h
 obtain ⟨a,xs,e,hx,q⟩:=h
 refine jfb pins s σ H x v vl vu lo hi sl Q I rx hs pl pu ⟨a,xs,e,hx,fun hw=>q a H (Same.refl _) (by rw [jbF hw];exact hx),fun _ p hp=>q p _ (fun b u z=>by rw [jg (jk z hp)];exact z) (SqT.of ja)⟩
variable {X:Cx}
variable {X:Cx} {pos:Pos}
def jge (i j l:Nat) (ta:TA):TS:=fun D σ H=>ta σ H fun vs H1=>∃ v w u,vs=[v,w,u]∧D.nx (((σ.set i (some v)).set j (some w)).set l (some u)) H1
theorem jfs {i j l:Nat} {x y z:Str} {a b c:Expr} {ta:TA} {px py pz pt:Pos} {kt k2 pt2} (hc:X.calm=true) (hN:X.N.Nodup) (hi:X.N[i]?=some x) (hj:X.N[j]?=some y) (hl:X.N[l]?=some z) (hij:i≠j) (hil:i≠l) (hjl:j≠l)
  (hx:Loc X.env.scope x) (hy:Loc X.env.scope y) (hz:Loc X.env.scope z) (ha:PA X [a,b,c] ta)
  (hw:swappedStores [.Tuple [.Name x px,.Name y py,.Name z pz] kt pt] (.Tuple [a,b,c] k2 pt2) X.env=pure (some [x,y,z]))
  (fx:X.fn x=true∨X.env.scope.names.lookup x=some .local) (fy:X.fn y=true∨X.env.scope.names.lookup y=some .local) (fz:X.fn z=true∨X.env.scope.names.lookup z=some .local)
  (hs:swapsWithSole [.Tuple [.Name x px,.Name y py,.Name z pz] kt pt] (.Tuple [a,b,c] k2 pt2) pos.line X.env=pure false:=by rfl) :
  PS X (.Assign [.Tuple [.Name x px,.Name y py,.Name z pz] kt pt] (.Tuple [a,b,c] k2 pt2) pos) (jge i j l ta):=by
 intro pins s σ H D I h
 rw [exec_Assign_arm]
 refine wpAny_bind (wpAny_standAt ?_)
 rw [hs]
 refine wpAny_bind (wpAny_pure ?_)
 rw [if_neg (by decide)]
 refine wpAny_bind (Tuple_ (thn (ha _ pins s σ H _ I h) fun us s1 ⟨vs,H1,I1,r1,q1⟩=>?_))
 obtain ⟨v,w,u,e1,q1⟩:=q1
 subst e1
 obtain ⟨u1,u2,u3,rfl,rv,rw',ru⟩:∃ u1 u2 u3,us=[u1,u2,u3]∧RelV v u1∧RelV w u2∧RelV u u3:=by
  cases r1 with
  | cons p q=>
   cases q with
   | cons p' q'=>
    cases q' with
    | cons p2 q2=>
     cases q2
     exact ⟨_,_,_,rfl,p,p',p2⟩
 refine wpAny_newObj_type ?_ (by show 3≤sizeLine;decide)
 have I2:Inv X pins σ H1 { s1 with heap:=s1.heap.push { cls:=.type "tuple",data:=.seq [u1,u2,u3].toArray } }:=I1.kept (t':=s1.toks) fun b o e=>Heap.get?_push_of_some _ e
 rw [hw]
 refine wpAny_bind (wpAny_pure ?_)
 show wpAny (model X.prog X.w) X.A (do rule "assign.swapped-stores";let items ← unpackItems (.ref s1.heap.objs.size) 3 none;assignInOrder [fun v=>bindName X.env z v,fun v=>bindName X.env y v,fun v=>bindName X.env x v] items.reverse;pure Flow.next) _ _ _
 refine wpAny_bind (wpAny_rule (wpAny_bind (unpackItems_tuple (items:=#[u1,u2,u3]) (I.ok.hd hc) (IsTup.new s1.heap _) fun h' hx'=>?_)))
 have I3:=I2.kept (h':=h') (t':=s1.toks) fun b o e=>hx' b o (Nat.ne_of_lt (Heap.lt_size e)) e
 show wpAny _ _ (assignInOrder [fun v=>bindName X.env z v,fun v=>bindName X.env y v,fun v=>bindName X.env x v] [u3,u2,u1] >>= fun _=>pure Flow.next) _ _ _
 refine wpAny_bind (assignInOrder_cons (wpAny_bindName (yk I3 hN hl hz ru (fun s2 I4=>?_) fz)))
 refine assignInOrder_cons (wpAny_bindName (yk I4 hN hj hy rw' (fun s3 I5=>?_) fy))
 refine assignInOrder_cons (wpAny_bindName (yk I5 hN hi hx rv (fun s4 I6=>assignInOrder_nil (wpAny_pure ?_)) fx))
 have e:((σ.set l (some u)).set j (some w)).set i (some v)=((σ.set i (some v)).set j (some w)).set l (some u):=by
  rw [List.set_comm _ _ (Ne.symm hjl),List.set_comm _ _ (Ne.symm hil),List.set_comm _ _ (Ne.symm hij)]
 rw [e] at I6
 exact ⟨_,H1,I6,q1⟩
def Z3 (kvs more:List (Key×V)):List (Key×V):=more.foldl (fun l q=>qy l q.1 q.2) kvs
theorem KL (kvs:List (Key×V)) (k:Key) (v:V):(qy kvs k v).length≤kvs.length+1:=by
 unfold qy
 split
 ·rw [List.length_map];omega
 ·rw [List.length_append];simp
theorem Z2:∀ (more kvs:List (Key×V)),(Z3 kvs more).length≤kvs.length+more.length
 | [],kvs=>Nat.le_refl _
 | q :: r,kvs=>by
  have h1:=Z2 r (qy kvs q.1 q.2)
  have h2:=KL kvs q.1 q.2
  unfold Z3 at h1 ⊢
  rw [List.foldl_cons,List.length_cons]
  omega
theorem jew:∀ {more:List (Key×V)} {ms:List (Key×Value)} {kvs:List (Key×V)} {vs:List (Key×Value)},KV more ms→KV kvs vs→KV (Z3 kvs more) (merged vs ms)
 | [],[],kvs,vs,_,r=>r
 | q :: m,p :: t,kvs,vs,h,r=>by
  unfold KV at h
  cases h with
  | cons h1 h2=>
   unfold Z3 merged
   rw [List.foldl_cons,List.foldl_cons]
   have e:KV (qy kvs q.1 q.2) (stored vs p.1 p.2):=by rw [← h1.1];exact r.put q.1 h1.2
   exact jew (more:=m) (ms:=t) h2 e
theorem jc0 {X:Cx}:MtR X "dict.update" (fun x xs H Q=>∃ (d o:Addr) (kvs more:List (Key×V)),x=.ref d∧xs=[.ref o]∧d≠o∧H d=some (.dK kvs)∧H o=some (.dK more)∧kvs.length+more.length≤1000∧Q .non (upd H d (.dK (Z3 kvs more)))):=by
 intro pins s σ H x xs v us Q I rx rs h
 obtain ⟨d,o,kvs,more,rfl,rfl,hne,hd,ho,hz,q⟩:=h
 cases rx
 obtain ⟨u,rfl,ru⟩:=yf rs
 cases ru
 obtain ⟨z,hsd,vs,rel,dd⟩:=jck I.hok hd
 obtain ⟨z2,hso,ms,rel2,dd2⟩:=jck I.hok ho
 refine call_meetsIn PySem.F.slot_dict_update dd.typeIs PySem.F.entry_dict_update (PySem.F.args_dict_update_2 _ _) (meets_dict_update (ko X.prog X.w) d o hne hso) ⟨vs,ms,dd,dd2,by rw [← rel.length,← rel2.length];exact Nat.le_of_lt (jz hz),fun h' dd' _ hs=>?_⟩
 have he:∃ q,h'.get? d=some q:=let ⟨q,_,_,hq,_⟩:=dd';⟨q,hq⟩
 refine ⟨.non,_,Kw (t':=s.toks) I (by rw [hd];exact True.intro) hs he (ZO (kvs:=Z3 kvs more) ?_ hsd (jew rel2 rel) dd'),rfl,q⟩
 exact Nat.le_trans (Z2 more kvs) (Nat.le_of_lt (jz hz))
theorem jfx {X:Cx} {K:W.Frag} {e:Expr} {f:Str} {pos:Pos} {ta:TE} (h:PE X e ta) (hb:attributeBase e f X.env (eval e X.env)=eval e X.env) (hK:X.K=K:=by rfl):PE X (.Attribute e f pos) (je8 K ta f):=by subst hK;exact jd7 h hb
structure QT (X:Cx) (e:Expr) (t:TT):Prop where
 h:PT X e t
structure QW (X:Cx) (e:Expr) (t:TT):Prop where
 h:PW X e t
structure QG (X:Cx) (e:Expr) (t:TG):Prop where
 h:PG X e t
structure QGs (X:Cx) (e:List Expr) (t:TGs):Prop where
 h:PGs X e t
structure QI (X:Cx) (tg e:Expr) (t:TI):Prop where
 h:PI X tg e t
structure QO (X:Cx) (e:Option Expr) (t:TO):Prop where
 h:PO X e t
structure QTs (X:Cx) (e:List Expr) (t:TT):Prop where
 h:PTs X e t
theorem QW.pt {X:Cx} {e:Expr} {t:TT} (h:QW X e t):QT X e t:=⟨h.h.pt⟩
theorem y7 {X:Cx} {e:Expr} {t:TE} (h:QE X e t) (he:∀ whole,isTrue e X.env whole=(do let v ← whole;standAt e.pos;holding [v] (truthy v)):=by intro _;rfl):QT X e (tB t):=⟨jgM h.h he⟩
theorem jeZ {X:Cx} {pos:Pos} {o i:Expr} {to ti:TE} {t:jgb} (ho:QE X o to) (hi:QE X i ti) (hs:jhp X t)
  (ha:∀ v,assign (.Subscript o i pos) X.env v=(do
   let ov ← holding [v] (eval o X.env)
   let iv ← holding [v,ov] (eval i X.env)
   standAt pos
   holding [v,ov,iv] (setItem ov iv v)
   release [v,ov,iv] []):=by intro _;rfl):QG X (.Subscript o i pos) (jh3 to ti t):=⟨KO ho.h hi.h hs ha⟩
theorem zpv {X:Cx} (i:Nat) {x:Str} {pos:Pos} (h1:(Cx.N X)[i]?=some x:=by rfl) (h2:Vis (Env.scope (Cx.env X)) x:=by first | exact Or.inl rfl | exact Or.inr (Or.inl rfl) | exact Or.inr (Or.inr rfl)) (h3:(x == Str.ofString "__debug__")=false:=by decide) (h4:(x == Str.ofString "__classdict__")=false:=by decide):QE X (Expr.Name x pos) (jgx i):=
 ⟨@pv _ i _ _ h1 h2 h3 h4⟩
theorem jh {X:Cx} {i:Int} {j:Nat} {pos:Pos}:QE X (Expr.Constant (Const.int i) j pos) (tC (V.int i)):=
 ⟨@jm _ _ _ _⟩
theorem kh {X:Cx} {x:Str} {j:Nat} {pos:Pos}:QE X (Expr.Constant (Const.str x) j pos) (tC (V.str x)):=
 ⟨@kL _ _ _ _⟩
theorem jdw {X:Cx} {b:Bool} {j:Nat} {pos:Pos}:QE X (Expr.Constant (Const.bool b) j pos) (tC (V.bl b)):=
 ⟨@jhS _ _ _ _⟩
theorem kz {X:Cx} {j:Nat} {pos:Pos}:QE X (Expr.Constant Const.none j pos) (tC V.non):=
 ⟨@jd6 _ _ _⟩
theorem KA {X:Cx} {x:Str} {v:V} {u:Value} {pos:Pos} (h1:Gl X x) (h2:Cx.mg X x=none) (h3:bootBuiltins x=some u) (h4:RelV v u) (h5:x≠Str.ofString "__name__":=by decide) (h6:(x == Str.ofString "__debug__")=false:=by decide):QE X (Expr.Name x pos) (tC v):=
 ⟨@jfB _ _ _ _ _ h1 h2 h3 h4 h5 h6⟩
theorem jC {X:Cx} {a b:Expr} {ta tb:TE} {pos:Pos} {op:Operator} {r:R2} (h1:OpR X (binaryOp op) r) (h2:QE X a ta) (h3:QE X b tb):QE X (Expr.BinOp a op b pos) (tOp r ta tb):=
 ⟨@jy _ _ _ _ _ _ _ _ h1 h2.h h3.h⟩
theorem Za {X:Cx} {a:Expr} {ta:TE} {pos:Pos} {op:UnaryOp} {r:V→Hp→VK→Prop} (h1:UnR X (unaryOp op) r) (h2:QE X a ta):QE X (Expr.UnaryOp op a pos) (tUn r ta):=
 ⟨@jhQ _ _ _ _ _ _ h1 h2.h⟩
theorem Kz {X:Cx} {a b:Expr} {ta tb:TE} {pos:Pos} {op:CmpOp} {r:R2} (h1:OpR X (compareOp op) r) (h2:QE X a ta) (h3:QE X b tb) (h4:behindInMarks op b=false):QE X (Expr.Compare a [op] [b] pos) (tOp r ta tb):=
 ⟨@Ks _ _ _ _ _ _ _ _ h1 h2.h h3.h h4⟩
theorem je1 {X:Cx} {a:Expr} {pos:Pos} {op:BoolOp} {t:TE} (h1:QE X a t):QE X (Expr.BoolOp op [a] pos) t:=
 ⟨@jgS _ _ _ _ _ h1.h⟩
theorem je3 {X:Cx} {a b:Expr} {ta tb:TE} {pos:Pos} {jE:List Expr} (h1:QE X a ta) (h2:QE X (Expr.BoolOp BoolOp.And (b :: jE) pos) tb):QE X (Expr.BoolOp BoolOp.And (a :: b :: jE) pos) (jgj ta tb):=
 ⟨@jgU _ _ _ _ _ _ _ h1.h h2.h⟩
theorem qN {X:Cx} {e:Expr} {te:TE} {lo hi:Option Expr} {tl th:TO} {pos p2:Pos} {r:V→Option Int→Option Int→Hp→VK→Prop} (h1:SlR X r) (h2:QE X e te) (h3:QO X lo tl) (h4:QO X hi th):QE X (Expr.Subscript e (Expr.Slice lo hi none p2) pos) (tSl r te tl th):=
 ⟨@zL _ _ _ _ _ _ _ _ _ _ h1 h2.h h3.h h4.h⟩
theorem zF {X:Cx} {o i:Expr} {pos:Pos} {td ty:TE} (h1:Around.units (Cx.A X)+1 < cLine) (h2:QE X o td) (h3:QE X i ty) (h4:jhr i):QE X (Expr.Subscript o i pos) (jgi td ty):=
 ⟨@jfz _ _ _ _ _ _ h1 h2.h h3.h h4⟩
theorem jO {X:Cx} {a b:Expr} {ta tb:TE} {pos:Pos} {r:R2} (h1:IxR X r) (h2:QE X a ta) (h3:QE X b tb) (h4:jcv b):QE X (Expr.Subscript a b pos) (tOp r ta tb):=
 ⟨@kI _ _ _ _ _ _ _ h1 h2.h h3.h h4⟩
theorem qd {X:Cx} {es:List Expr} {t:TA} {pos:Pos} (h1:QA X es t):QE X (Expr.List es pos) (jgz t):=
 ⟨@zt _ _ _ _ h1.h⟩
theorem kH {X:Cx} {es:List Expr} {t:TA} {pos:Pos} {x1:Nat} (h1:QA X es t):QE X (Expr.Tuple es x1 pos) (jhx t):=
 ⟨@kD _ _ _ _ _ h1.h⟩
theorem ZX {X:Cx} {scope:Scope} {elt tg iter:Expr} {ifs:List Expr} {pos:Pos} {wi:TI} {g:TG} {tt:TT} {te:TE} (own:List Str) (fr:List Nat) (h1:Cx.calm X=true) (h2:CompOk X scope fr) (h3:QI (Cx.nox X) tg iter wi) (h4:∀ (s:PySem.Shared) (H:Hp) (ex:List PySem.Addr),QG (blk (Cx.nox X) scope own fr s H ex) tg g∧QTs (blk (Cx.nox X) scope own fr s H ex) ifs tt∧QE (blk (Cx.nox X) scope own fr s H ex) elt te) (h5:∀ (x:Value),foldedSetIterable iter (Cx.env X) x=pure x:=by intro _;rfl):QE (Cx.nox X) (Expr.ListComp elt [{ target:=tg,iter:=iter,ifs:=ifs,is_async:=0 }] scope pos) (YD own fr wi g tt te):=
 ⟨@Kr _ _ _ _ _ _ _ _ _ _ _ own fr h1 h2 h3.h (fun s H ex=>⟨(h4 s H ex).1.h,(h4 s H ex).2.1.h,(h4 s H ex).2.2.h⟩) h5⟩
theorem YB {X:Cx} {scope:Scope} {kx vx tg iter:Expr} {ifs:List Expr} {pos:Pos} {wi:TI} {g:TG} {tt:TT} {tk tv:TE} (own:List Str) (fr:List Nat) (h1:Cx.calm X=true) (h2:CompOk X scope fr) (h3:QI (Cx.nox X) tg iter wi) (h4:∀ (s:PySem.Shared) (H:Hp) (ex:List PySem.Addr),QG (blk (Cx.nox X) scope own fr s H ex) tg g∧QTs (blk (Cx.nox X) scope own fr s H ex) ifs tt∧QE (blk (Cx.nox X) scope own fr s H ex) kx tk∧QE (blk (Cx.nox X) scope own fr s H ex) vx tv) (h5:∀ (x:Value),foldedSetIterable iter (Cx.env X) x=pure x:=by intro _;rfl):QE (Cx.nox X) (Expr.DictComp kx vx [{ target:=tg,iter:=iter,ifs:=ifs,is_async:=0 }] scope pos) (jba own fr wi g tt tk tv):=
 ⟨@jd8 _ _ _ _ _ _ _ _ _ _ _ _ _ own fr h1 h2 h3.h (fun s H ex=>⟨(h4 s H ex).1.h,(h4 s H ex).2.1.h,(h4 s H ex).2.2.1.h,(h4 s H ex).2.2.2.h⟩) h5⟩
theorem jI {X:Cx} {e:Expr} {f:Str} {pos:Pos} {ta:TE} (h1:QE X e ta) (h2:attributeBase e f (Cx.env X) (eval e (Cx.env X))=eval e (Cx.env X)):QE X (Expr.Attribute e f pos) (je8 (Cx.K X) ta f):=
 ⟨@jd7 _ _ _ _ _ h1.h h2⟩
theorem ja2 {X:Cx} {k k':Nat} {x:Str} {C:Addr} {ps:List Str} {sp:Sp} {e:Expr} {es:List Expr} {t:TA} {p pos:Pos} (h1:MkFn (Cx.prog X) (Cx.w X) (Cx.K X) (Cx.mg X) (Cx.base X) k x C ps sp) (h2:Room k' (Cx.A X)) (h3:QA X (e :: es) t) (h4:k+1≤k':=by decide) (h5:Gl X x:=by rfl) (h6:(x == Str.ofString "__debug__")=false:=by decide) (h7:List.all (e :: es) qj=true:=by rfl):QE X (Expr.Call (Expr.Name x p) (e :: es) [] pos) (jdG C sp [] E0 t):=
 ⟨@jhR _ _ _ _ _ _ _ _ _ _ _ _ h1 h2 h3.h h4 h5 h6 h7⟩
theorem jR {X:Cx} {k k':Nat} {x:Str} {ps:List Str} {sp:Sp} {e:Expr} {es:List Expr} {t:TA} {p pos:Pos} (h1:Fn (Cx.prog X) (Cx.w X) (Cx.K X) (Cx.mg X) (Cx.base X) k x ps sp) (h2:Room k' (Cx.A X)) (h3:QA X (e :: es) t) (h4:k≤k':=by decide) (h5:Gl X x:=by rfl) (h6:(x == Str.ofString "__debug__")=false:=by decide) (h7:List.all (e :: es) qj=true:=by rfl):QE X (Expr.Call (Expr.Name x p) (e :: es) [] pos) (jdH sp [] E0 t):=
 ⟨@kP _ _ _ _ _ _ _ _ _ _ _ h1 h2 h3.h h4 h5 h6 h7⟩
theorem zQ {X:Cx} {x:Str} {p pos:Pos} {e:Expr} {es:List Expr} {t:TA} {id:String} {r:List V→Hp→VK→Prop} (h1:q8 X (Value.builtin id) r) (h2:Gl X x) (h3:Cx.mg X x=none) (h4:bootBuiltins x=some (Value.builtin id)) (h5:QA X (e :: es) t) (h6:List.all (e :: es) qj=true:=by rfl) (h7:x≠Str.ofString "__name__":=by decide) (h8:(x == Str.ofString "__debug__")=false:=by decide):QE X (Expr.Call (Expr.Name x p) (e :: es) [] pos) (tCB r t):=
 ⟨@Jo _ _ _ _ _ _ _ _ _ h1 h2 h3 h4 h5.h h6 h7 h8⟩
theorem Jz {X:Cx} {x:Str} {p pos:Pos} {e:Expr} {es:List Expr} {t:TA} {T:String} {r:List V→Hp→VK→Prop} (h1:q8 X (Value.type T) r) (h2:Gl X x) (h3:Cx.mg X x=none) (h4:bootBuiltins x=some (Value.type T)) (h5:QA X (e :: es) t) (h6:List.all (e :: es) qj=true:=by rfl) (h7:x≠Str.ofString "__name__":=by decide) (h8:(x == Str.ofString "__debug__")=false:=by decide):QE X (Expr.Call (Expr.Name x p) (e :: es) [] pos) (tCB r t):=
 ⟨@Jn _ _ _ _ _ _ _ _ _ h1 h2 h3 h4 h5.h h6 h7 h8⟩
theorem Zb {X:Cx} {o e:Expr} {es:List Expr} {to:TE} {t:TA} {name:Str} {apos cpos:Pos} {T id:String} {r:V→List V→Hp→VK→Prop} (h1:PlainAttrs T) (h2:Slot T name id) (h3:typeOf (Value.builtin id)=pure (Value.type "method_descriptor")) (h4:MtR X id r) (h5:QE X o to) (h6:QA X (e :: es) t) (h7:attributeBase o name (Cx.env X) (eval o (Cx.env X))=eval o (Cx.env X):=by rfl) (h8:(((List.all (backTo cpos (starEach (e :: es) (Cx.env X))) fun x=>!Prod.fst x) && List.all (backToKw cpos (keywordEach [] (Cx.env X))) fun x=>Option.isSome (Prod.fst x)) && decide ((List.length (e :: es)+List.length ([]:List PySem.Keyword)+if List.isEmpty ([]:List PySem.Keyword)=true then 0 else 1) < 30))=true:=by rfl) (h9:(Pos.endLine apos == Pos.line cpos)=true:=by rfl) (h10:starEach (e :: es) (Cx.env X)=(false,eval e (Cx.env X)) :: starEach es (Cx.env X):=by rfl) (h11:(List.any (backTo cpos (starEach es (Cx.env X))) fun x=>Prod.fst x)=false:=by rfl):QE X (Expr.Call (Expr.Attribute o name apos) (e :: es) [] cpos) (tBM (Cx.K X) T r to t):=
 ⟨@yN _ _ _ _ _ _ _ _ _ _ _ _ h1 h2 h3 h4 h5.h h6.h h7 h8 h9 h10 h11⟩
theorem je2 {X:Cx} {o:Expr} {to:TE} {name:Str} {apos cpos:Pos} {T id:String} {r:V→List V→Hp→VK→Prop} (h1:PlainAttrs T) (h2:Slot T name id) (h3:typeOf (Value.builtin id)=pure (Value.type "method_descriptor")) (h4:MtR X id r) (h5:QE X o to) (h6:attributeBase o name (Cx.env X) (eval o (Cx.env X))=eval o (Cx.env X):=by rfl) (h7:(Pos.endLine apos == Pos.line cpos)=true:=by rfl):QE X (Expr.Call (Expr.Attribute o name apos) [] [] cpos) (jhC (Cx.K X) T r to):=
 ⟨@jgT _ _ _ _ _ _ _ _ _ h1 h2 h3 h4 h5.h h6 h7⟩
theorem Ky {X:Cx} {p pos p2 pos2:Pos} {e1 e2:Expr} {t:TA} (h1:Cx.calm X=true) (h2:Gl X (Str.ofString "dict")) (h3:Cx.mg X (Str.ofString "dict")=none) (h4:bootBuiltins (Str.ofString "dict")=some (Value.type "dict")) (h5:Gl X (Str.ofString "zip")) (h6:Cx.mg X (Str.ofString "zip")=none) (h7:bootBuiltins (Str.ofString "zip")=some (Value.type "zip")) (h8:QA X [e1,e2] t) (h9:qj e1=true:=by rfl) (h10:qj e2=true:=by rfl):QE X (Expr.Call (Expr.Name (Str.ofString "dict") p) [Expr.Call (Expr.Name (Str.ofString "zip") p2) [e1,e2] [] pos2] [] pos) (tDZ (Cx.K X) t):=
 ⟨@jfy _ _ _ _ _ _ _ _ h1 h2 h3 h4 h5 h6 h7 h8.h h9 h10⟩
theorem Y9 {X:Cx} {a:Expr} {pos:Pos} {tA:TT} (h1:QT X a tA):QT X (Expr.UnaryOp UnaryOp.Not a pos) (jhz tA):=
 ⟨@jgN _ _ _ _ h1.h⟩
theorem jQ {X:Cx} {a b:Expr} {ta tb:TE} {pos:Pos} {op:CmpOp} {r:R2} (h1:OpR X (compareOp op) r) (h2:QE X a ta) (h3:QE X b tb) (h4:behindInMarks op b=false):QT X (Expr.Compare a [op] [b] pos) (jgc (tOp r ta tb)):=
 ⟨@kE _ _ _ _ _ _ _ _ h1 h2.h h3.h h4⟩
theorem jbO {X:Cx} {a b:Expr} {pos:Pos} {tA tB':TT} {jE:List Expr} (h1:QT X a tA) (h2:QW X (Expr.BoolOp BoolOp.And (b :: jE) pos) tB'):QW X (Expr.BoolOp BoolOp.And (a :: b :: jE) pos) (jhD tA tB'):=
 ⟨@jgK _ _ _ _ _ _ _ h1.h h2.h⟩
theorem ZW {X:Cx} {a:Expr} {pos:Pos} {tA:TT} (h1:QT X a tA):QW X (Expr.BoolOp BoolOp.And [a] pos) tA:=
 ⟨@jfq _ _ _ _ h1.h⟩
theorem Y8 {X:Cx} {a b:Expr} {pos:Pos} {tA tB':TT} {jE:List Expr} (h1:QT X a tA) (h2:QW X (Expr.BoolOp BoolOp.Or (b :: jE) pos) tB'):QW X (Expr.BoolOp BoolOp.Or (a :: b :: jE) pos) (tOr tA tB'):=
 ⟨@jhP _ _ _ _ _ _ _ h1.h h2.h⟩
theorem jbN {X:Cx} {a:Expr} {pos:Pos} {tA:TT} (h1:QT X a tA):QW X (Expr.BoolOp BoolOp.Or [a] pos) tA:=
 ⟨@jgJ _ _ _ _ h1.h⟩
theorem yi {X:Cx}:QO X none jbR:=
 ⟨@yF _⟩
theorem qB {X:Cx} {e:Expr} {te:TE} (h1:QE X e te):QO X (some e) (jgd te):=
 ⟨@yE _ _ _ h1.h⟩
theorem zh {X:Cx} {tg a:Expr} {ta:TA} {p pos:Pos} (h1:Gl X (Str.ofString "range")) (h2:Cx.mg X (Str.ofString "range")=none) (h3:QA X [a] ta) (h4:starEach [a] (Cx.env X)=[(false,eval a (Cx.env X))]:=by rfl):QI X tg (Expr.Call (Expr.Name (Str.ofString "range") p) [a] [] pos) (jgp ta):=
 ⟨@zf _ _ _ _ _ _ h1 h2 h3.h h4⟩
theorem jdu {X:Cx} {tg l:Expr} {tl:TE} (h1:QE X l tl):QI X tg l (jgq (Cx.K X) tl):=
 ⟨@Kq _ _ _ _ h1.h⟩
theorem Ja {X:Cx} {tg l:Expr} {tl:TE} (h1:QE X l tl):QI X tg l (jh1 (Cx.K X) tl):=
 ⟨@KN _ _ _ _ h1.h⟩
theorem jcy {X:Cx} {elts:List Expr} {x1:Nat} {tp:Pos} {a:Expr} {ta:TA} {p pos:Pos} (h1:Gl X (Str.ofString "enumerate")) (h2:Cx.mg X (Str.ofString "enumerate")=none) (h3:QA X [a] ta) (h4:starEach [a] (Cx.env X)=[(false,eval a (Cx.env X))]:=by rfl):QI X (Expr.Tuple elts x1 tp) (Expr.Call (Expr.Name (Str.ofString "enumerate") p) [a] [] pos) (jeB (Cx.K X) ta):=
 ⟨@jao _ _ _ _ _ _ _ _ h1 h2 h3.h h4⟩
theorem jF {X:Cx} {pos:Pos} {i:Nat} {x:Str} {e:Expr} {te:TE} {pos':Pos} (h1:List.Nodup (Cx.N X)) (h2:(Cx.N X)[i]?=some x) (h3:L2.Loc (Env.scope (Cx.env X)) x) (h4:QE X e te) (h5:swapsWith e (some (Expr.Name x pos')) (Pos.line pos) (Cx.env X)=pure false:=by rfl) (h6:Cx.fn X x=true∨List.lookup x (Scope.names (Env.scope (Cx.env X)))=some NameKind.local:=by first | exact .inl rfl | exact .inr rfl | assumption):QS X (Stmt.Assign [Expr.Name x pos'] e pos) (jbb te (qo i)):=
 ⟨@jW _ _ _ _ _ _ _ h1 h2 h3 h4.h h5 h6⟩
theorem qS {X:Cx} {scope:Scope} {elt tg iter:Expr} {ifs:List Expr} {pos:Pos} {wi:TI} {g:TG} {tt:TT} {te:TE} {i:Nat} {y:Str} {py spos:Pos} (h1:List.Nodup (Cx.N X)) (h2:(Cx.N X)[i]?=some y) (h3:L2.Loc (Env.scope (Cx.env X)) y) (own:List Str) (fr:List Nat) (h4:Cx.calm X=true) (h5:CompOk X scope fr) (h6:QI (Cx.nox X) tg iter wi) (h7:∀ (s:PySem.Shared) (H:Hp) (ex:List PySem.Addr),QG (blk (Cx.nox X) scope own fr s H ex) tg g∧QTs (blk (Cx.nox X) scope own fr s H ex) ifs tt∧QE (blk (Cx.nox X) scope own fr s H ex) elt te) (h8:∀ (x:Value),foldedSetIterable iter (Cx.env X) x=pure x:=by intro _;rfl) (h9:swapsWith (Expr.ListComp elt [{ target:=tg,iter:=iter,ifs:=ifs,is_async:=0 }] scope pos) (some (Expr.Name y py)) (Pos.line spos) (Cx.env X)=pure true:=by rfl) (h10:Cx.fn X y=true∨List.lookup y (Scope.names (Env.scope (Cx.env X)))=some NameKind.local:=by first | exact .inl rfl | exact .inr rfl | assumption):QS (Cx.nox X) (Stmt.Assign [Expr.Name y py] (Expr.ListComp elt [{ target:=tg,iter:=iter,ifs:=ifs,is_async:=0 }] scope pos) spos) (jbb (YD own fr wi g tt te) (qo i)):=
 ⟨@yT _ _ _ _ _ _ _ _ _ _ _ _ _ _ _ h1 h2 h3 own fr h4 h5 h6.h (fun s H ex=>⟨(h7 s H ex).1.h,(h7 s H ex).2.1.h,(h7 s H ex).2.2.h⟩) h8 h9 h10⟩
theorem y9 {X:Cx} {o i value:Expr} {pos pos':Pos} {td ty tv:TE} (h1:Around.units (Cx.A X)+1 < cLine) (h2:QE X o td) (h3:QE X i ty) (h4:QE X value tv) (h5:swapsWith value (some (Expr.Subscript o i pos')) (Pos.line pos) (Cx.env X)=pure false):QS X (Stmt.Assign [Expr.Subscript o i pos'] value pos) (jgm td ty tv):=
 ⟨@jfu _ _ _ _ _ _ _ _ _ h1 h2.h h3.h h4.h h5⟩
theorem kQ {X:Cx} {o value:Expr} {f:Str} {pos pos':Pos} {ta tv:TE} (h1:QE X o ta) (h2:QE X value tv) (h3:swapsWith value (some (Expr.Attribute o f pos')) (Pos.line pos) (Cx.env X)=pure false):QS X (Stmt.Assign [Expr.Attribute o f pos'] value pos) (jhH (Cx.K X) ta tv f):=
 ⟨@jgO _ _ _ _ _ _ _ _ h1.h h2.h h3⟩
theorem qA {X:Cx} {pos:Pos} {tg e:Expr} {te:TE} {g:TG} (h1:QE X e te) (h2:QG X tg g) (h3:swapsWithSole [tg] e (Pos.line pos) (Cx.env X)=pure false:=by rfl) (h4:swappedStores [tg] e (Cx.env X)=pure none:=by rfl) (h5:List.map (fun x=>Prod.snd x) (assignEach [tg] (Cx.env X))=[assign tg (Cx.env X)]:=by rfl):QS X (Stmt.Assign [tg] e pos) (jbb te g):=
 ⟨@zr _ _ _ _ _ _ h1.h h2.h h3 h4 h5⟩
theorem jT {X:Cx} {e:Expr} {te:TE} {pos:Pos} (h1:QE X e te):QS X (Stmt.Return (some e) pos) (jhy te):=
 ⟨@km _ _ _ _ h1.h⟩
theorem kl {X:Cx} {t u:TS} {pos:Pos} {c:Expr} {a b:List Stmt} {tc:TT} (h1:QT X c tc) (h2:QSs X a t) (h3:QSs X b u):QS X (Stmt.If c a b pos) (jhA tc t u):=
 ⟨@qV _ _ _ _ _ _ _ _ h1.h h2.h h3.h⟩
theorem Kh {X:Cx} {tg iter:Expr} {body:List Stmt} {wi:TI} {g:TG} {tb:TS} {pos:Pos} (h1:PassesOwn (model (Cx.prog X) (Cx.w X)) (Cx.A X) (Cx.env X) (Cx.xe X)) (h2:Cx.calm X=true) (h3:QI X tg iter wi) (h4:QG X tg g) (h5:QSs X body tb) (h6:∀ (x:Value),foldedSetIterable iter (Cx.env X) x=pure x:=by intro _;rfl):QS X (Stmt.For tg iter body [] pos) (jhB wi g tb):=
 ⟨@zV _ _ _ _ _ _ _ _ h1 h2 h3.h h4.h h5.h h6⟩
theorem yQ {X:Cx} {o value:Expr} {f:Str} {pos tpos:Pos} {ta tv:TE} {op:Operator} {rd:V→V→Hp→VK→Prop} (h1:QE X o ta) (h2:QE X value tv) (h3:jhs X op rd):QS X (Stmt.AugAssign (Expr.Attribute o f tpos) op value pos) (jb3 (Cx.K X) ta tv rd f):=
 ⟨@jcL _ _ _ _ _ _ _ _ _ _ h1.h h2.h h3⟩
theorem jcx {X:Cx} {pos:Pos} {c:Expr} {body:List Stmt} {tc:TT} {tb:TS} (h1:PassesOwn (model (Cx.prog X) (Cx.w X)) (Cx.A X) (Cx.env X) (Cx.xe X)) (h2:QT X c tc) (h3:QSs X body tb):QS X (Stmt.While c body [] pos) (ja9 tc tb):=
 ⟨@jam _ _ _ _ _ _ h1 h2.h h3.h⟩
theorem zE {X:Cx} {e:Expr} {te:TE} {pos:Pos} (h1:QE X e te) (h2:swapsWith e none (Pos.line pos) (Cx.env X)=pure false:=by rfl):QS X (Stmt.Expr e pos) (jgh te):=
 ⟨@kR _ _ _ _ h1.h h2⟩
theorem js {X:Cx} {pos:Pos} {i:Nat} {x:Str} (h1:List.Nodup (Cx.N X)) (h2:(Cx.N X)[i]?=some x) (h3:L2.Loc (Env.scope (Cx.env X)) x) (h4:Cx.fn X x=true∨List.lookup x (Scope.names (Env.scope (Cx.env X)))=some NameKind.local:=by first | exact .inl rfl | exact .inr rfl | assumption):QG X (Expr.Name x pos) (qo i):=
 ⟨@jS _ _ _ _ h1 h2 h3 h4⟩
theorem qQ {X:Cx} {pos:Pos} {es:List Expr} {k:Nat} {t:TGs} {n:Nat} (h1:Cx.calm X=true) (h2:QGs X es t) (h3:List.length (assignEach es (Cx.env X))=n:=by rfl) (h4:List.findIdx? (fun x=>Prod.fst x) (assignEach es (Cx.env X))=none:=by rfl):QG X (Expr.Tuple es k pos) (jhf (Cx.K X) n t):=
 ⟨@qO _ _ _ _ _ _ h1 h2.h h3 h4⟩
theorem je0 {X:Cx} {pos:Pos} {es:List Expr} {k:Nat} {t:TGs} {n:Nat} (h1:Cx.calm X=true) (h2:QGs X es t) (h3:List.length (assignEach es (Cx.env X))=n:=by rfl) (h4:List.findIdx? (fun x=>Prod.fst x) (assignEach es (Cx.env X))=none:=by rfl):QG X (Expr.Tuple es k pos) (jh5 (Cx.K X) n t):=
 ⟨@jgR _ _ _ _ _ _ h1 h2.h h3 h4⟩
theorem qg {X:Cx}:QGs X [] jh4:=
 ⟨@qp _⟩
theorem jx {X:Cx} {e:Expr} {es:List Expr} {t:TG} {u:TGs} (h1:QG X e t) (h2:QGs X es u) (h3:List.map (fun x=>Prod.snd x) (assignEach (e :: es) (Cx.env X))=assign e (Cx.env X) :: List.map (fun x=>Prod.snd x) (assignEach es (Cx.env X)):=by rfl):QGs X (e :: es) (jgs t u):=
 ⟨@jU _ _ _ _ _ h1.h h2.h h3⟩
theorem jY {X:Cx}:QSs X [] jgf:=
 ⟨@qe _⟩
theorem jr {X:Cx} {st:Stmt} {t:TS} (h1:QS X st t):QSs X [st] t:=
 ⟨@jB _ _ _ h1.h⟩
theorem jd {X:Cx} {st:Stmt} {jE:List Stmt} {t u:TS} (h1:QS X st t) (h2:QSs X jE u):QSs X (st :: jE) (jgy t u):=
 ⟨@jo _ _ _ _ _ h1.h h2.h⟩
theorem qz {X:Cx}:QTs X [] yK:=
 ⟨@yD _⟩
theorem ji {X:Cx}:QA X [] jcE:=
 ⟨@jq _⟩
theorem je {X:Cx} {e:Expr} {es:List Expr} {te:TE} {t:TA} (h1:QE X e te) (h2:QA X es t) (h3:qj e=true:=by rfl):QA X (e :: es) (jbS te t):=
 ⟨@ju _ _ _ _ _ h1.h h2.h h3⟩
theorem Kx {X:Cx} {K:W.Frag} {e:Expr} {f:Str} {pos:Pos} {ta:TE} (h1:QE X e ta) (h2:attributeBase e f (Cx.env X) (eval e (Cx.env X))=eval e (Cx.env X)) (h3:Cx.K X=K:=by rfl):QE X (Expr.Attribute e f pos) (je8 K ta f):=
 ⟨@jfx _ _ _ _ _ _ h1.h h2 h3⟩
theorem jdt {X:Cx} {pos:Pos} {i j l:Nat} {x y z:Str} {a b c:Expr} {ta:TA} {px py pz pt:Pos} {kt k2:Nat} {pt2:Pos} (h1:Cx.calm X=true) (h2:List.Nodup (Cx.N X)) (h3:(Cx.N X)[i]?=some x) (h4:(Cx.N X)[j]?=some y) (h5:(Cx.N X)[l]?=some z) (h6:i≠j) (h7:i≠l) (h8:j≠l) (h9:L2.Loc (Env.scope (Cx.env X)) x) (h10:L2.Loc (Env.scope (Cx.env X)) y) (h11:L2.Loc (Env.scope (Cx.env X)) z) (h12:QA X [a,b,c] ta) (h13:swappedStores [Expr.Tuple [Expr.Name x px,Expr.Name y py,Expr.Name z pz] kt pt] (Expr.Tuple [a,b,c] k2 pt2) (Cx.env X)=pure (some [x,y,z])) (h14:Cx.fn X x=true∨List.lookup x (Scope.names (Env.scope (Cx.env X)))=some NameKind.local) (h15:Cx.fn X y=true∨List.lookup y (Scope.names (Env.scope (Cx.env X)))=some NameKind.local) (h16:Cx.fn X z=true∨List.lookup z (Scope.names (Env.scope (Cx.env X)))=some NameKind.local) (h17:swapsWithSole [Expr.Tuple [Expr.Name x px,Expr.Name y py,Expr.Name z pz] kt pt] (Expr.Tuple [a,b,c] k2 pt2) (Pos.line pos) (Cx.env X)=pure false:=by rfl):QS X (Stmt.Assign [Expr.Tuple [Expr.Name x px,Expr.Name y py,Expr.Name z pz] kt pt] (Expr.Tuple [a,b,c] k2 pt2) pos) (jge i j l ta):=
 ⟨@jfs _ _ _ _ _ _ _ _ _ _ _ _ _ _ _ _ _ _ _ h1 h2 h3 h4 h5 h6 h7 h8 h9 h10 h11 h12.h h13 h14 h15 h16 h17⟩
theorem jdv {X:Cx} {x:Str} {v:V} {u:Value} {pos:Pos} (h1:Gl X x) (h2:Cx.mg X x=some u) (h3:RelV v u) (h4:(x == Str.ofString "__debug__")=false:=by decide):QE X (Expr.Name x pos) (tC v):=
 ⟨@jb5 _ _ _ _ _ h1 h2 h3 h4⟩
theorem zg {X:Cx} {st:Stmt} {t:TS} (h:QS X st t):QS X st (jgg t):=⟨jft h.h⟩
theorem Fun.okZ {P:Program} {w:World} {K:W.Frag} {mg:Str→Option Value} {base:Heap} {x qual:Str} {st:Stmt} {f:Addr} {fd:FuncData} {N ps:List Str} {k:Nat} {sp:Sp} (F:Fun K x qual st f fd) (S:FnScope N ps (jl st)) (len:∀ vs H Q E,sp vs H Q E→vs.length=ps.length)
  (hbody:∀ (cdv:Value) (A:Around) (outer:List Env) (s:Shared) (H:Hp) (vs:List V) (Q:VK) (E:XK),Room k (A.deeper (envOfC qual (jl st) s.heap.objs.size f cdv))→sp vs H Q E→
   ∃ t,QSs (jbE CX0 P w K mg base N qual (jl st) f cdv A outer s H E).nox (zB st) t∧t { nx:=fun _ H'=>Q .non H',rt:=Q } (Je N vs) H):FnOk P w K mg base CX0 (k+1) f fd ps sp:=
 F.ok S len fun cdv A outer s H vs Q E hr h=>let ⟨t,a,b⟩:=hbody cdv A outer s H vs Q E hr h;⟨t,a.h,b⟩
theorem qC {X:Cx} {e:Expr} {t:TE} (h:QE X e t):PD X e (rE t):=jhT h.h
theorem zpd {X:Cx} {e:Expr} {R:RD} (h:PD X e R):QE X e (tHD R):=⟨h.h⟩
end L2
namespace Tim
open PySem PyProof.Rows
section
variable {prog:Program} {w:World} {A:Around} {E:Value→Shared→Prop} {s:Shared} {κ:KeyKind}
def kq (κ:KeyKind) (p:Keyed):κ.α:=(κ.keyOf p.1).getD κ.dflt
def Yo (κ:KeyKind) (p:Keyed):Prop:=∃ a,κ.keyOf p.1=some a
end
abbrev SL (κ:KeyKind) (l:List Keyed):Prop:=l.Pairwise fun p q=>κ.kle (kq κ p) (kq κ q)
abbrev Le (κ:KeyKind) (p q:Keyed):Prop:=κ.kle (kq κ p) (kq κ q)
section
variable {κ:KeyKind} {A B L:List Keyed} {ia ib:Nat}
structure LoI (κ:KeyKind) (A B L:List Keyed) (ia ib:Nat):Prop where
 perm:L.Perm (A.take ia++B.take ib)
 srt:SL κ L
 ba:∀ x∈L,∀ y∈A.drop ia,Le κ x y
 bb:∀ x∈L,∀ y∈B.drop ib,Le κ x y
theorem LoI.swap (I:LoI κ A B L ia ib):LoI κ B A L ib ia:=⟨I.perm.trans List.perm_append_comm,I.srt,I.bb,I.ba⟩
def Y7 (κ:KeyKind) (A B M:List Keyed):Prop:=M.Perm (A++B)∧SL κ M
theorem LoI.done (I:LoI κ A B L ia ib) (sa:SL κ A) (sb:SL κ B) (h:∀ x∈A.drop ia,∀ y∈B.drop ib,Le κ x y):Y7 κ A B (L++A.drop ia++B.drop ib):=by
 refine ⟨?_,?_⟩
 ·have e1:=List.take_append_drop ia A
  have e2:=List.take_append_drop ib B
  have h1:(L++A.drop ia++B.drop ib).Perm ((A.take ia++B.take ib)++(A.drop ia++B.drop ib)):=by
   rw [List.append_assoc]
   exact I.perm.append_right _
  refine h1.trans ?_
  have h2:((A.take ia++B.take ib)++(A.drop ia++B.drop ib)).Perm ((A.take ia++A.drop ia)++(B.take ib++B.drop ib)):=by
   rw [List.append_assoc,List.append_assoc]
   refine List.Perm.append_left _ ?_
   rw [← List.append_assoc,← List.append_assoc]
   exact List.perm_append_comm.append_right _
  rw [e1,e2] at h2
  exact h2
 ·refine List.pairwise_append.mpr ⟨List.pairwise_append.mpr ⟨I.srt,sa.drop,I.ba⟩,sb.drop,fun x hx y hy=>?_⟩
  rcases List.mem_append.mp hx with hx | hx
  ·exact I.bb x hx y hy
  ·exact h x hx y hy
theorem LoI.last (I:LoI κ A B L ia ib) (sa:SL κ A) (sb:SL κ B) (h:∀ x∈B.drop ib,∀ y∈A.drop ia,Le κ x y):Y7 κ A B (L++B.drop ib++A.drop ia):=by
 obtain ⟨h1,h2⟩:=I.swap.done sb sa h
 exact ⟨h1.trans List.perm_append_comm,h2⟩
end
theorem jaN {a:Array Keyed} {i j:Nat}:(a.extract i j).toList=(a.toList.drop i).take (j - i):=by
 simp
theorem jcj {a:Array Keyed} {i:Nat}:(a.extract i a.size).toList=a.toList.drop i:=by
 rw [jaN,List.take_of_length_le (by rw [List.length_drop];simp)]
abbrev jbC (a b out:Array Keyed) (ia ib:Nat):Array Keyed:=out++a.extract ia a.size++b.extract ib b.size
section
variable {prog:Program} {w:World} {A:Around} {E:Value→Shared→Prop} {s:Shared} {κ:KeyKind} {a b:Array Keyed}
structure MC (κ:KeyKind) (a b:Array Keyed):Prop where
 ka:∀ i (h:i < a.size),Yo κ a[i]
 kb:∀ i (h:i < b.size),Yo κ b[i]
 sa:SL κ a.toList
 sb:SL κ b.toList
 last:∀ j (h:j < b.size) (h':a.size - 1 < a.size),Le κ b[j] a[a.size - 1]
structure Alive (κ:KeyKind) (a b:Array Keyed) (N:Nat) (out:Array Keyed) (ia ib:Nat):Prop where
 inv:LoI κ a.toList b.toList out.toList ia ib
 la:ia+1 < a.size
 lb:ib < b.size
 many:N≤ia+ib
theorem jdj {out:Array Keyed} {ia ib:Nat}:(jbC a b out ia ib).toList=out.toList++a.toList.drop ia++b.toList.drop ib:=by
 unfold jbC
 rw [Array.toList_append,Array.toList_append,jcj,jcj]
theorem MC.fin {out:Array Keyed} {ia ib:Nat} (C:MC κ a b) (I:LoI κ a.toList b.toList out.toList ia ib) (h:ia=a.size∨ib=b.size):Y7 κ a.toList b.toList (jbC a b out ia ib).toList:=by
 rw [jdj]
 refine I.done C.sa C.sb fun x hx y hy=>?_
 rcases h with rfl | rfl
 ·rw [List.drop_eq_nil_of_le (by simp)] at hx;cases hx
 ·rw [List.drop_eq_nil_of_le (by simp)] at hy;cases hy
variable {st:SortSt} {N:Nat}
theorem Alive.le {M:Nat} {out:Array Keyed} {ia ib:Nat} (h:Alive κ a b N out ia ib) (hm:M≤N):Alive κ a b M out ia ib:=⟨h.inv,h.la,h.lb,Nat.le_trans hm h.many⟩
end
section
variable {κ:KeyKind} {A B L:List Keyed} {na nb:Nat}
structure HiI (κ:KeyKind) (A B L:List Keyed) (na nb:Nat):Prop where
 perm:L.Perm (A.drop na++B.drop nb)
 srt:L.Pairwise fun p q=>Le κ q p
 ba:∀ x∈L,∀ y∈A.take na,Le κ y x
 bb:∀ x∈L,∀ y∈B.take nb,Le κ y x
theorem HiI.swap (I:HiI κ A B L na nb):HiI κ B A L nb na:=⟨I.perm.trans List.perm_append_comm,I.srt,I.bb,I.ba⟩
theorem HiI.done (I:HiI κ A B L na nb) (sa:SL κ A) (sb:SL κ B) (h:∀ x∈A.take na,∀ y∈B.take nb,Le κ x y):Y7 κ A B (A.take na++B.take nb++L.reverse):=by
 refine ⟨?_,?_⟩
 ·have e1:=List.take_append_drop na A
  have e2:=List.take_append_drop nb B
  have h1:(A.take na++B.take nb++L.reverse).Perm ((A.take na++B.take nb)++(A.drop na++B.drop nb)):=((List.reverse_perm L).trans I.perm).append_left _
  refine h1.trans ?_
  have h2:((A.take na++B.take nb)++(A.drop na++B.drop nb)).Perm ((A.take na++A.drop na)++(B.take nb++B.drop nb)):=by
   rw [List.append_assoc,List.append_assoc]
   refine List.Perm.append_left _ ?_
   rw [← List.append_assoc,← List.append_assoc]
   exact List.perm_append_comm.append_right _
  rw [e1,e2] at h2
  exact h2
 ·refine List.pairwise_append.mpr ⟨List.pairwise_append.mpr ⟨sa.take,sb.take,h⟩,List.pairwise_reverse.mpr I.srt,fun x hx y hy=>?_⟩
  have hy':=List.mem_reverse.mp hy
  rcases List.mem_append.mp hx with hx | hx
  ·exact I.ba y hy' x hx
  ·exact I.bb y hy' x hx
theorem HiI.first (I:HiI κ A B L na nb) (sa:SL κ A) (sb:SL κ B) (h:∀ x∈B.take nb,∀ y∈A.take na,Le κ x y):Y7 κ A B (B.take nb++A.take na++L.reverse):=by
 obtain ⟨h1,h2⟩:=I.swap.done sb sa h
 exact ⟨h1.trans List.perm_append_comm,h2⟩
end
abbrev jbD (a b out:Array Keyed) (na nb:Nat):Array Keyed:=a.extract 0 na++b.extract 0 nb++out.reverse
section
variable {prog:Program} {w:World} {A:Around} {E:Value→Shared→Prop} {s:Shared} {κ:KeyKind} {a b:Array Keyed}
theorem jaL {l:Array Keyed} {n:Nat}:(l.extract 0 n).toList=l.toList.take n:=by
 rw [jaN,List.drop_zero,Nat.sub_zero]
theorem jaQ {out:Array Keyed} {na nb:Nat}:(jbD a b out na nb).toList=a.toList.take na++b.toList.take nb++out.toList.reverse:=by
 unfold jbD
 rw [Array.toList_append,Array.toList_append,jaL,jaL,Array.toList_reverse]
structure MD (κ:KeyKind) (a b:Array Keyed):Prop where
 ka:∀ i (h:i < a.size),Yo κ a[i]
 kb:∀ i (h:i < b.size),Yo κ b[i]
 sa:SL κ a.toList
 sb:SL κ b.toList
 first:∀ i (h:i < a.size) (h':0 < b.size),Le κ b[0] a[i]
structure AliveH (κ:KeyKind) (a b:Array Keyed) (N:Nat) (out:Array Keyed) (na nb:Nat):Prop where
 inv:HiI κ a.toList b.toList out.toList na nb
 la:0 < na
 la2:na≤a.size
 lb:1 < nb
 lb2:nb≤b.size
 many:N+na+nb≤a.size+b.size
theorem MD.fin {out:Array Keyed} {na nb:Nat} (C:MD κ a b) (I:HiI κ a.toList b.toList out.toList na nb) (h:na=0∨nb=0):Y7 κ a.toList b.toList (jbD a b out na nb).toList:=by
 rw [jaQ]
 refine I.done C.sa C.sb fun x hx y hy=>?_
 rcases h with rfl | rfl
 ·cases hx
 ·cases hy
variable {st:SortSt} {N:Nat}
theorem AliveH.le {M:Nat} {out:Array Keyed} {na nb:Nat} (h:AliveH κ a b N out na nb) (hm:M≤N):AliveH κ a b M out na nb:=⟨h.inv,h.la,h.la2,h.lb,h.lb2,by have:=h.many;omega⟩
end
def jho (lo a nrem:Nat):StateT SortSt Sem AscSt:=
 forIn [a:nrem] ((none,a):AscSt) fun _ c=>do
  let x ← ltAt' (lo+c.snd) (lo+c.snd - 1)
  match x with
  | some smaller=>if smaller=true then pure (ForInStep.done (none,c.snd)) else pure (ForInStep.yield (none,c.snd+1))
  | _=>pure (ForInStep.done (some none,c.snd))
def jdF (lo n nrem:Nat):StateT SortSt Sem (Option Nat):=do
 reverseSlice' lo (lo+n)
 let c ← jho lo n nrem
 match c.fst with
 | some r=>pure r
 | none=>pure (some c.snd)
def jgt (lo n nrem:Nat):StateT SortSt Sem DescSt:=
 forIn [n:nrem] ((none,n,0):DescSt) fun _ c=>do
  let x ← ltAt' (lo+c.snd.fst) (lo+c.snd.fst - 1)
  match x with
  | some smaller=>
   if smaller=true then
    if c.snd.snd > 0 then do
     reverseSlice' (lo+c.snd.fst - (c.snd.snd+1)) (lo+c.snd.fst)
     pure (ForInStep.yield (none,c.snd.fst+1,0))
    else pure (ForInStep.yield (none,c.snd.fst+1,0))
   else do
    let x ← ltAt' (lo+c.snd.fst - 1) (lo+c.snd.fst)
    match x with
    | some larger=>
     if larger=true then pure (ForInStep.done (none,c.snd.fst,c.snd.snd))
     else pure (ForInStep.yield (none,c.snd.fst+1,c.snd.snd+1))
    | _=>pure (ForInStep.done (some none,c.snd.fst,c.snd.snd))
  | _=>pure (ForInStep.done (some none,c.snd.fst,c.snd.snd))
def jea (lo n nrem:Nat):StateT SortSt Sem (Option Nat):=do
 liftM (rule "list.sort.descending-run")
 let c ← jgt lo (n+1) nrem
 match c.fst with
 | some r=>pure r
 | none=>
  if c.snd.snd > 0 then do
   reverseSlice' (lo+c.snd.fst - (c.snd.snd+1)) (lo+c.snd.fst)
   jdF lo c.snd.fst nrem
  else jdF lo c.snd.fst nrem
theorem ZP (lo nrem:Nat):countRun' lo nrem=(do
  let c ← jho lo 1 nrem
  match c.fst with
  | some r=>pure r
  | none=>
   if (c.snd == nrem)=true then pure (some c.snd)
   else if c.snd > 1 then do
    let x ← ltAt' lo (lo+c.snd - 1)
    match x with
    | some rose=>if rose=true then pure (some c.snd) else do
      reverseSlice' lo (lo+c.snd)
      jea lo c.snd nrem
    | _=>pure none
   else jea lo c.snd nrem):=by
 rw [countRun'_eq]
 dsimp only
 unfold jea jdF jgt jho
 congr 1
 funext c
 obtain ⟨r,n⟩:=c
 cases r with
 | some r=>rfl
 | none=>
  dsimp only
  split
  ·rfl
  ·split
   ·congr 1
    funext x
    cases x with
    | none=>rfl
    | some rose=>
     dsimp only
     split
     ·rfl
     ·congr 1
      funext _r
      congr 1
      funext u1
      congr 1
      congr 1
      funext d
      obtain ⟨d1,d2,d3⟩:=d
      cases d1 with
      | some _=>rfl
      | none=>
       dsimp only
       split
       ·congr 1
        funext u2
        congr 1
        funext u3
        congr 1
        funext e
        obtain ⟨e1,e2⟩:=e
        cases e1 <;> rfl
       ·congr 1
        funext u3
        congr 1
        funext e
        obtain ⟨e1,e2⟩:=e
        cases e1 <;> rfl
   ·congr 1
    funext u1
    congr 1
    congr 1
    funext d
    obtain ⟨d1,d2,d3⟩:=d
    cases d1 with
    | some _=>rfl
    | none=>
     dsimp only
     split
     ·congr 1
      funext u2
      congr 1
      funext u3
      congr 1
      funext e
      obtain ⟨e1,e2⟩:=e
      cases e1 <;> rfl
     ·congr 1
      funext u3
      congr 1
      funext e
      obtain ⟨e1,e2⟩:=e
      cases e1 <;> rfl
section
variable {prog:Program} {w:World} {A:Around} {E:Value→Shared→Prop} {s:Shared} {a₀ ar0:Array Keyed} {κ:KeyKind} {P:Array (Nat×Nat×Nat)} {lo:Nat}
structure TB (a₀:Array Keyed) (P:Array (Nat×Nat×Nat)) (lo:Nat) (ar0:Array Keyed) (st:SortSt):Prop where
 perm:(arrOf st).Perm a₀
 kind:kindOf st=oneType'
 failed:failedOf st=none
 pend:pendingOf st=P
 low:∀ k,k < lo→(arrOf st)[k]?=ar0[k]?
theorem TB.size {st:SortSt} (h:TB a₀ P lo ar0 st):(arrOf st).size=a₀.size:=h.perm.size_eq
theorem TB.key {st:SortSt} (T:TB a₀ P lo ar0 st) (keys:KeysOf κ a₀) {i:Nat} (below:i < a₀.size):∃ li:i < (arrOf st).size,Yo κ ((arrOf st)[i]):=
 ⟨by rw [T.size];exact below,keys _ ((Array.perm_iff_toList_perm.mp T.perm).mem_iff.mp (Array.getElem_mem_toList _))⟩
theorem grown {R:Nat→Nat→Prop} (refl:∀ i,R i i) (trans:∀ i j k,R i j→R j k→R i k) {lo top:Nat} (low:lo < top) (old:∀ i j,lo≤i→i≤j→j < top→R i j) (new:R (top - 1) top):∀ i j,lo≤i→i≤j→j < top+1→R i j:=fun i j a b c=>by
 rcases Nat.lt_or_ge j top with d | d
 ·exact old i j a b d
 have ej:j=top:=by omega
 rcases Nat.lt_or_ge i j with f | f
 ·rw [ej];exact trans _ _ _ (old i (top - 1) a (by omega) (by omega)) new
 ·rw [show i=j by omega];exact refl j
end
section
variable {prog:Program} {w:World} {A:Around} {E:Value→Shared→Prop} {s:Shared}
theorem wpS_ltP {st:SortSt} {i j:Nat} {x y:Keyed} {v:Bool} {Q:Option Bool→SortSt→Prop} (hi:(arrOf st)[i]?=some x) (hj:(arrOf st)[j]?=some y)
  (ask:wpAny (model prog w) A (keyLt' (kindOf st) x.1 y.1) (fun b s'=>s'=s∧b=v) (fun _ _=>False) s) (q:Q (some v) st):wpS (model prog w) A E s (ltAt' i j) Q st:=by
 rw [ltAt'_eq]
 refine wpS_bind (wpS_get ?_)
 dsimp only
 rw [elem'_eq,hi]
 refine wpS_bind (wpS_pure ?_)
 rw [elem'_eq,hj]
 refine wpS_bind (wpS_pure ?_)
 rw [lt'_eq]
 refine wpS_bind (wpS_get ?_)
 refine wpS_bind (wpS_lift (wpAny_attempt (wpAny_mono ask (fun b s' h=>?_) (fun _ _ h=>h.elim))))
 obtain ⟨h1,h2⟩:=h
 subst h2
 exact ⟨h1,wpS_pure q⟩
theorem Zc {st:SortSt} {N:Nat} {Q:Option Nat→SortSt→Prop} (h1:1≤N)
  (asks:∀ i,1≤i→i < N→∀ Q':Option Bool→SortSt→Prop,Q' (some false) st→wpS (model prog w) A E s (ltAt' i (i - 1)) Q' st) (q:Q (some N) st):wpS (model prog w) A E s (countRun' 0 N) Q st:=by
 rw [ZP]
 refine wpS_bind (wpS_forRange (I:=fun n c sn=>sn=st∧c=(none,n)) (fun n c sn an bn J=>?_) (fun c sn J=>?_) ⟨rfl,rfl⟩)
 ·obtain ⟨rfl,rfl⟩:=J
  dsimp only
  rw [Nat.zero_add]
  refine wpS_bind (asks n an bn _ ?_)
  exact wpS_pure ⟨rfl,rfl⟩
 ·obtain ⟨rfl,rfl⟩:=J
  have e:max 1 N=N:=by omega
  rw [e]
  dsimp only
  rw [if_pos (by simp)]
  exact wpS_pure q
theorem ZY {st:SortSt} {n:Nat} {Q:Bool→SortSt→Prop} (h1:1≤n) (q:Q true st):wpS (model prog w) A E s (binarySort' 0 n n) Q st:=by
 rw [binarySort'_eq]
 refine wpS_bind (wpS_forRange (I:=fun _ c sn=>sn=st∧c=(none,())) (fun k c sn ak bk J=>?_) (fun c sn J=>?_) ⟨rfl,rfl⟩)
 ·omega
 ·obtain ⟨rfl,rfl⟩:=J
  exact wpS_pure q
theorem wpS_sortAsc {st:SortSt} {N:Nat} {Q:Unit→SortSt→Prop} (hN:(arrOf st).size=N) (h1:1≤N) (hp:pendingOf st=#[])
  (asks:∀ i,1≤i→i < N→∀ Q':Option Bool→SortSt→Prop,Q' (some false) st→wpS (model prog w) A E s (ltAt' i (i - 1)) Q' st)
  (q:∀ sn,arrOf sn=arrOf st→failedOf sn=failedOf st→Q () sn):wpS (model prog w) A E s sortRuns' Q st:=by
 rw [sortRuns'_eq]
 refine wpS_bind (wpS_get ?_)
 dsimp only
 rw [hN]
 generalize minRun' N N 0=mr
 refine wpS_bind (wpS_mono (wpS_forRange (I:=fun (x:Nat) (c:Option Unit×Nat) (st':SortSt)=>(x=0∧c=(none,0)∧st'=st)∨(1≤x∧c=(none,N)∧arrOf st'=arrOf st∧failedOf st'=failedOf st∧(pendingOf st').size=1))
  (Q:=fun (c:Option Unit×Nat) (st':SortSt)=>c=(none,N)∧arrOf st'=arrOf st∧failedOf st'=failedOf st∧(pendingOf st').size=1) ?step ?fin (.inl ⟨rfl,rfl,rfl⟩)) ?post)
 case fin=>
  rintro c st' (⟨h,_⟩ | ⟨_,h2,h3,h4,h5⟩)
  ·omega
  ·exact ⟨h2,h3,h4,h5⟩
 case step=>
  rintro x c st' _ hx (⟨rfl,rfl,rfl⟩ | ⟨_,rfl,h3,h4,h5⟩)
  ·dsimp only
   rw [if_neg (by omega)]
   refine wpS_bind ?_
   rw [Nat.sub_zero]
   refine Zc h1 asks ?_
   dsimp only
   split
   ·rename_i hm
    refine wpS_bind (wpS_lift (wpAny_rule ⟨rfl,?_⟩))
    have e:min N mr=N:=by omega
    rw [e]
    refine wpS_bind (ZY h1 ?_)
    simp only [Bool.not_true,Bool.false_eq_true,if_false]
    refine wpS_bind (wpS_get ?_)
    rw [hp]
    refine wpS_bind (wpS_modify (wpS_pure (.inr ⟨by omega,?_,rfl,rfl,?_⟩)))
    ·rw [Nat.zero_add]
    ·show ((pendingOf st').push _).size=1
     rw [hp]
     rfl
   ·refine wpS_bind (wpS_get ?_)
    rw [hp]
    refine wpS_bind (wpS_modify (wpS_pure (.inr ⟨by omega,?_,rfl,rfl,?_⟩)))
    ·rw [Nat.zero_add]
    ·show ((pendingOf st').push _).size=1
     rw [hp]
     rfl
  ·dsimp only
   rw [if_pos (Nat.le_refl _)]
   exact wpS_pure ⟨rfl,h3,h4,h5⟩
 case post=>
  rintro c st' ⟨rfl,h3,h4,h5⟩
  dsimp only
  refine wpS_bind (wpS_mono (wpS_forRange (I:=fun (x:Nat) (c:Option Unit×Unit) (st4:SortSt)=>c=(none,())∧st4=st')
   (Q:=fun (c:Option Unit×Unit) (st4:SortSt)=>c=(none,())∧st4=st') ?step4 (fun _ _ h=>h) ⟨rfl,rfl⟩) ?post4)
  case step4=>
   rintro x c st4 _ hx ⟨rfl,rfl⟩
   refine wpS_bind (wpS_get ?_)
   rw [if_pos (by omega)]
   exact wpS_pure ⟨rfl,rfl⟩
  case post4=>
   rintro c st4 ⟨rfl,rfl⟩
   exact wpS_pure (q _ h3 h4)
end
end Tim
namespace L2
open PySem PySem.Spec PyProof.Rows PySem.W
theorem JM:1000≤(sizeLine:Nat):=by rw [sizeLine_eq];decide
section
variable {prog:Program} {w:World} {A:Around} {E:Value→Shared→Prop} {s:Shared}
theorem Zt {ps:List (Int×Int)} (h:ps.Pairwise fun x y=>x.1 < y.1):(ps.map (·.1)).Nodup:=by
 unfold List.Nodup
 rw [List.pairwise_map]
 exact h.imp fun z=>Int.ne_of_lt z
theorem jac {a:Addr} {vs:List Value} {ps:List (Int×Int)} {n:Nat} {P:Fin→Shared→Prop} (ho:s.heap.get? a=some (seqObj "list" vs.toArray n)) (hl:vs.length=ps.length)
  (hv:∀ i (h:i < ps.length),PairAt s.heap (vs.getD i Value.none) ps[i]) (asc:ps.Pairwise fun x y=>x.1 < y.1) (most:ps.length≤1000)
  (h:P (.done (.ret .none)) { s with heap:=sortedHeap s.heap a vs vs.toArray }) :
  wpAny (model prog w) A (Builtin.«list.sort» ⟨[.ref a],[]⟩) P E s:=by
 have ha:a < s.heap.objs.size:=Heap.lt_size ho
 have nd:=Zt asc
 have hsz:vs.toArray.size=vs.length:=by simp
 have line:vs.length≤sizeLine:=by
  have:=JM
  omega
 obtain ⟨e1,ho1⟩:∃ e1,(s.heap.update a (Obj.mapSeq fun _=>#[])).get? a=some (seqObj "list" #[] e1):=⟨_,get?_update_seq ho (fun _=>#[])⟩
 have ho2:(((s.heap.update a (Obj.mapSeq fun _=>#[])).push (seqObj "tuple" vs.toArray 0)).push (seqObj "list" #[] 0)).get? a=some (seqObj "list" #[] e1):=Heap.get?_push_of_some _ (Heap.get?_push_of_some _ ho1)
 have hv2:∀ i (h:i < ps.length),PairAt (((s.heap.update a (Obj.mapSeq fun _=>#[])).push (seqObj "tuple" vs.toArray 0)).push (seqObj "list" #[] 0)) (vs.getD i Value.none) ps[i]:=fun i hi=>(hv i hi).kept fun b o e c=>by
  have hb:b≠a:=fun z=>by
   rw [z,ho] at e
   cases e
   exact absurd c (by simp)
  exact Heap.get?_push_of_some _ (Heap.get?_push_of_some _ ((Heap.get?_update_ne _ _ _ _ hb).trans e))
 rw [list_sort_plain]
 refine wpAny_bind (listItems_at ho rfl (wpAny_bind (listUpdate_at ho rfl ?_ (by rw [hsz];omega) (Nat.zero_le _))))
 refine wpAny_bind (seqEpoch_at ho1 rfl (wpAny_bind (wpAny_newTuple ?_ line)))
 refine wpAny_bind (wpAny_newList (wpAny_holding ?_) (Nat.zero_le _))
 generalize hh:(((s.heap.update a (Obj.mapSeq fun _=>#[])).push (seqObj "tuple" vs.toArray 0)).push (seqObj "list" #[] 0))=h2 at *
 show wpAny (model prog w) A _ P E { s with heap:=h2 }
 dsimp only
 have hout:((vs.toArray.zip vs.toArray).map (·.2))=vs.toArray:=by
  apply Array.ext
  ·simp
  ·intro i h1 h2
   simp
 by_cases h2':vs.toArray.size < 2
 ·rw [if_pos h2',if_pos h2']
  refine wpAny_bind (wpAny_pure ?_)
  rw [StateT.run_pure]
  refine wpAny_bind (wpAny_pure ?_)
  dsimp only
  refine wpAny_bind (seqEpoch_at ho2 rfl (wpAny_bind (listUpdate_at ho2 rfl ?_ (Nat.zero_le _) ?_)))
  ·simp only [bne_self_eq_false,Bool.false_eq_true,if_false]
   refine wpAny_pure ?_
   have g:=h
   unfold sortedHeap at g
   rw [hh] at g
   rw [← hout] at g
   exact g
  ·show ((vs.toArray.zip vs.toArray).map (·.2)).size≤_
   rw [hout,hsz]
   omega
 ·rw [if_neg h2',if_neg h2']
  obtain ⟨fs,t1,t2,t3⟩:=KP (h:=h2) hl hv2
  refine wpAny_bind (kat_kind (s:={ s with heap:=h2 }) (T:=.type "int") t1 (by omega) (fun v hv=>?_) (by decide) ?_)
  ·obtain ⟨x,t,rfl⟩:=t3 v hv
   exact Looks.of_pure rfl
  have hk:(Value.type "int" != Value.type "tuple")=true:=by decide
  rw [hk]
  have zsz:(vs.toArray.zip vs.toArray).size=ps.length:=by simp [hl]
  have hat:∀ i,i < ps.length→(vs.toArray.zip vs.toArray)[i]?=some (vs.getD i Value.none,vs.getD i Value.none):=fun i hi=>by
   have hi':i < vs.length:=by omega
   rw [Array.getElem?_eq_getElem (by rw [zsz];exact hi)]
   simp [hi']
  refine wpAny_bind (wpAny_mono (Tim.wpS_sortAsc (prog:=prog) (w:=w) (A:=A) (E:=E) (s:={ s with heap:=h2 }) (st:=SortSt.mk' (tuples' true) (vs.toArray.zip vs.toArray) #[] 7 none) (N:=ps.length) (Q:=fun _ sn=>arrOf sn=vs.toArray.zip vs.toArray∧failedOf sn=none) zsz (by omega) rfl (fun i a1 a2 Q' q'=>?_) (fun sn b1 b2=>⟨b1,b2⟩)) (fun o sh J=>?_) fun _ _ e=>e)
  ·refine Tim.wpS_ltP (hat i a2) (hat (i - 1) (by omega)) (v:=false) ?_ q'
   have g:=jds (prog:=prog) (w:=w) (A:=A) (s:={ s with heap:=h2 }) (C:=fun b s'=>s'={ s with heap:=h2 }∧b=false) hl hv2 nd a2 (show i - 1 < ps.length by omega) (by
    refine ⟨rfl,decide_eq_false ?_⟩
    have pw:=List.pairwise_iff_getElem.mp asc (i - 1) i (by omega) a2 (by omega)
    have gi:ps.getD i (0,0)=ps[i]:=by simp [a2]
    have gj:ps.getD (i - 1) (0,0)=ps[i - 1]:=by
     have:i - 1 < ps.length:=by omega
     simp [this]
    rw [gi,gj]
    omega)
   exact g
  obtain ⟨⟨⟩,st'⟩:=o
  obtain ⟨rfl,b1,b2⟩:=J
  dsimp only at b1 b2 ⊢
  rw [b1,hout]
  refine wpAny_bind (seqEpoch_at ho2 rfl (wpAny_bind (listUpdate_at ho2 rfl ?_ (Nat.zero_le _) ?_)))
  ·rw [b2]
   simp only [bne_self_eq_false,Bool.false_eq_true,if_false]
   refine wpAny_pure ?_
   have g:=h
   unfold sortedHeap at g
   rw [hh] at g
   exact g
  ·rw [hsz]
   omega
end
theorem y6 {X:Cx}:q8 X (.builtin "sorted") (fun xs H Q=>∃ (p:Addr) (qs:List V) (ps:List (Int×Int)),xs=[.ref p]∧SqL X.K H p qs∧PairsL X.K H qs ps∧(ps.Pairwise fun x y=>x.1 < y.1)∧ps.length≤1000∧
  ∀ (l:Addr),H l=none→Q (.ref l) (upd H l (.lst qs))):=by
 intro pins s σ H xs us Q I r h
 obtain ⟨b,qs,ps,rfl,hq,hp,asc,most,q⟩:=h
 obtain ⟨u,rfl,rx⟩:=yf r
 cases rx
 obtain ⟨its,rv,pl,hz⟩:=I.list hq
 have hl1:=rv.length
 have hl:its.length=ps.length:=by rw [← hl1,hp.1]
 have hv:∀ i (h:i < ps.length),PairAt s.heap (its.getD i Value.none) ps[i]:=fun i hi=>by
  obtain ⟨c,e1,e2⟩:=hp.2 i hi
  obtain ⟨v,e3,e4⟩:=rv.get e1
  cases e4
  obtain ⟨ic,rc,⟨o,k1,k2,n,k3⟩,_⟩:=I.tuple e2
  obtain ⟨u1,u2,rfl,⟨t,rfl⟩,⟨t',rfl⟩⟩:=jdA rc
  exact ⟨c,o,t,t',n,by rw [List.getD_eq_getElem?_getD,e3];rfl,k1,k2,k3⟩
 refine Calls.call_function_entry kind_sorted plain_sorted entry_sorted (args_sorted1 _) ?_
 unfold Builtin.«sorted»
 refine wpAny_bind (m:=checkCount "sorted" 1 1 _) (wpAny_pure (wpAny_bind (collect_list pl.isList (wpAny_bind (wpAny_newList ?_ ?_)) ?_)))
 ·have old:∀ b o,s.heap.get? b=some o→((s.heap.push (seqObj "list" #[] 0)).update s.heap.objs.size (Obj.mapSeq (·++its.toArray))).get? b=some o:=fun b o e=>by
   rw [Heap.get?_update_ne _ _ _ _ (Nat.ne_of_lt (Heap.lt_size e))]
   exact Heap.get?_push_of_some _ e
  generalize ((s.heap.push (seqObj "list" #[] 0)).update s.heap.objs.size (Obj.mapSeq (·++its.toArray)))=h1 at *
  have I1:Inv X pins σ H { s with heap:=h1 }:=I.kept (t':=s.toks) old
  have hoL:(h1.push (seqObj "list" its.toArray 0)).get? h1.objs.size=some (seqObj "list" its.toArray 0):=Heap.get?_push_size _ rfl
  refine wpAny_bind (wpAny_holding (wpAny_call_entry slot_list_sort ⟨_,hoL,rfl⟩ entry_list_sort (jac (s:={ s with heap:=h1.push (seqObj "list" its.toArray 0) }) hoL hl (fun i hi=>(hv i hi).kept fun b o e _=>Heap.get?_push_of_some _ (old b o e)) asc most ⟨_,rfl,?_⟩) (args_list_sort _)))
  refine wpAny_pure ⟨_,rfl,?_⟩
  obtain ⟨e,he⟩:=sortedHeap_at (out:=its.toArray) hoL
  refine ⟨.ref _,_,I1.laid (t':=s.toks) (fun b o hb=>?_) (Nat.le_refl _) (show ObjOk X.prog X.w _ _ _ (.lst qs) from ⟨hz,_,e,rv,he⟩),rfl,q _ (I1.hok.fresh (Nat.le_refl _))⟩
  have hlt:=Heap.lt_size hb
  rw [sortedHeap_old (Nat.ne_of_lt hlt) (by rw [size_push'];exact Nat.lt_succ_of_lt hlt)]
  exact Heap.get?_push_of_some _ hb
 ·rw [hl];exact Nat.le_trans most JM
 ·rw [hl];exact Nat.le_trans most JM
end L2
namespace Tim
open PySem PyProof.Rows
def jg4:Value→Option Int
 | .int n _=>some n
 | _=>none
@[reducible] def intKind:PyProof.Rows.KeyKind where
 α:=Int
 blt a b:=decide (a < b)
 irrefl a:=decide_eq_false (Int.lt_irrefl a)
 trans a b c h1 h2:=decide_eq_true (Int.lt_trans (of_decide_eq_true h1) (of_decide_eq_true h2))
 negTrans a b c h:=by
  have:=of_decide_eq_true h
  by_cases x:a < b
  ·exact .inl (decide_eq_true x)
  ·exact .inr (decide_eq_true (by omega))
 total a b h1 h2:=by
  have:=of_decide_eq_false h1
  have:=of_decide_eq_false h2
  omega
 keyOf:=jg4
 dflt:=0
end Tim
namespace L2
open PySem PySem.Spec PyProof.Rows PySem.W
theorem LikeV.tup {K:W.Frag} {H:Hp} {n:Nat} {a b:Addr} {xs ys:List V} (ha:H a=some (.tup xs)) (hb:H b=some (.tup ys)) (hl:xs.length=ys.length) (h:∀ (j:Nat) x' y',xs[j]?=some x'→ys[j]?=some y'→LikeV K H n x' y'):LikeV K H (n+1) (.ref a) (.ref b):=.inr (.inl ⟨a,b,xs,ys,rfl,rfl,SqT.of ha,SqT.of hb,hl,h⟩)
theorem LikeV.lst {K:W.Frag} {H:Hp} {n:Nat} {a b:Addr} {xs ys:List V} (ha:H a=some (.lst xs)) (hb:H b=some (.lst ys)) (hl:xs.length=ys.length) (h:∀ (j:Nat) x' y',xs[j]?=some x'→ys[j]?=some y'→LikeV K H n x' y'):LikeV K H (n+1) (.ref a) (.ref b):=.inr (.inr ⟨a,b,xs,ys,rfl,rfl,SqL.of ha,SqL.of hb,hl,h⟩)
def LikeL (K:W.Frag) (H:Hp) (n:Nat) (xs ys:List V):Prop:=xs.length=ys.length∧∀ (j:Nat) x' y',xs[j]?=some x'→ys[j]?=some y'→LikeV K H n x' y'
theorem LikeL.nil {K:W.Frag} {H:Hp} {n:Nat}:LikeL K H n [] []:=⟨rfl,fun j x y h _=>by simp at h⟩
theorem LikeL.cons {K:W.Frag} {H:Hp} {n:Nat} {x y:V} {xs ys:List V} (h:LikeV K H n x y) (t:LikeL K H n xs ys):LikeL K H n (x :: xs) (y :: ys):=⟨by rw [List.length_cons,List.length_cons,t.1],fun j x' y' e1 e2=>by
 cases j with
 | zero=>simp at e1 e2;subst e1 e2;exact h
 | succ j=>exact t.2 j x' y' (by simpa using e1) (by simpa using e2)⟩
mutual
theorem held_like {K:W.Frag} {H:Hp}:∀ {n:Nat} {d:D} {x y:V},d.depth≤n→Held H d x→Held H d y→LikeV K H n x y
 | n,.int i,x,y,_,h,h'=>by unfold Held at h h';subst h h';exact qI _ _
 | n,.str i,x,y,_,h,h'=>by unfold Held at h h';subst h h';exact qH _ _
 | n,.tup ds,x,y,hn,h,h'=>by
  unfold Held at h h'
  obtain ⟨a,xs,rfl,ha,h1⟩:=h
  obtain ⟨b,ys,rfl,hb,h2⟩:=h'
  unfold D.depth at hn
  cases n with
  | zero=>omega
  | succ n=>
   have hl:=heldL_like (K:=K) (n:=n) (by omega) h1 h2
   exact LikeV.tup ha hb hl.1 hl.2
theorem heldL_like {K:W.Frag} {H:Hp}:∀ {n:Nat} {ds:List D} {xs ys:List V},D.depthL ds≤n→HeldL H ds xs→HeldL H ds ys→LikeL K H n xs ys
 | n,[],xs,ys,_,h,h'=>by unfold HeldL at h h';subst h h';exact .nil
 | n,d :: ds,xs,ys,hn,h,h'=>by
  unfold HeldL at h h'
  obtain ⟨v,r,rfl,e1,e2⟩:=h
  obtain ⟨v',r',rfl,e1',e2'⟩:=h'
  unfold D.depthL at hn
  exact .cons (held_like (by omega) e1 e1') (heldL_like (by omega) e2 e2')
end
section
variable {X:Cx}
theorem jfF (n:Nat) (hu:X.A.units+1+n < cLine):OpR X (compareOp .Eq) (fun x y H Q=>∃ a b xs ys,x=.ref a∧y=.ref b∧SqT X.K H a xs∧SqT X.K H b ys∧LikeL X.K H n xs ys∧Q (.bl true) H):=by
 intro pins s σ H x y v u Q I rx ry h
 obtain ⟨a,b,xs,ys,rfl,rfl,ha,hb,⟨hl,hj⟩,q⟩:=h
 cases rx;cases ry
 obtain ⟨its,rva,ta,_⟩:=I.tuple ha
 obtain ⟨its2,rvb,tb,_⟩:=I.tuple hb
 have l3:=rva.length
 have l4:=rvb.length
 have key:=SeqAt.RcAt.tuples (A:=X.A) (s:=s) (e:=fun _=>true) (show s.heap.IsTuple a its.toArray from ta) (show s.heap.IsTuple b its2.toArray from tb) (by omega) (Ki hl rva rvb fun j x' y' u' v' e1 e2 r1 r2=>zO I n X.A.in1 x' y' u' v' (by show X.A.units+1+n < cLine;exact hu) (hj j x' y' e1 e2) r1 r2)
 have e:((List.range (min its.toArray.size its2.toArray.size)).all (fun _=>true) && its.toArray.size == its2.toArray.size)=true:=by
  have:its.toArray.size=its2.toArray.size:=by simp;omega
  rw [this];simp
 rw [e] at key
 exact key X.prog X.w X.xe _ ⟨.bl true,H,I,rfl,q⟩
end
end L2
namespace LW
open PySem L2
theorem jj {H:Hp} {p:Addr} (h:H p=none) (o:HO):Same H (upd H p o):=fun b u q=>by rw [jg (jk q h)];exact q
theorem zG {n:Nat} (h:n≤1000):n≤sizeLine:=Nat.le_of_lt (jz h)
theorem sm {n:Nat} (h:n.ble 1000=true):n≤sizeLine:=zG (Nat.le_of_ble_eq_true h)
theorem K3 {n j:Nat} (h:j < n):ixN n (j:Int)=some j:=by
 unfold ixN
 rw [if_pos (by omega),if_pos (by omega)];simp
def Zf:Sp:=fun vs H Q _=>∃ (sl:Addr) (ss:List V),vs=[.ref sl]∧H sl=some (.lst ss)∧ss.length≤900∧Q (.int ss.length) (upd H sl (.lst (ss++[.non])))
def KG (f:Nat):Sp:=fun vs H Q _=>∃ (sl:Addr) (vb va:V) (ss:List V) (os:List (Option D)) (body:List D) (ar:List Int),vs=[.ref sl,vb,va]∧H sl=some (.lst ss)∧SO H os ss∧Held H (.tup body) vb∧Held H (kW ar) va∧(∀ st∈body,yM f st)∧os.length+(kj (kJ f) os.length body ar 0).length≤900∧ar.length+2 * f≤500∧
 ∀ H' ss',(∀ b o,b≠sl→H b=some o→H' b=some o)→H' sl=some (.lst ss')→SO H' (os++(kj (kJ f) os.length body ar 0).map some) ss'→Q .non H'
def JD (k:Str) (f:Nat):Sp:=fun vs H Q _=>∃ (sl:Addr) (vb va:V) (ss:List V) (os:List (Option D)) (st:D) (r:List D) (p:List Int),vs=[.ref sl,vb,va]∧st=.tup (.str k :: r)∧H sl=some (.lst ss)∧SO H os ss∧Held H st vb∧Held H (kW p) va∧yM f st∧os.length+(kJ f os.length st p).length≤900∧p.length+2 * f≤501∧
 ∀ H' ss',(∀ b o,b≠sl→H b=some o→H' b=some o)→H' sl=some (.lst ss')→SO H' (os++(kJ f os.length st p).map some) ss'→Q .non H'
section
variable {P:Program} {w:World} {K:W.Frag} {mg:Str→Option Value} {base:Heap}
theorem Jp {S:Nat→D→List Int→List D}:∀ (n:Nat) (a b:List D) (ar:List Int) (k:Nat),kj S n (a++b) ar k=kj S n a ar k++kj S (n+(kj S n a ar k).length) b ar (k+a.length)
 | n,[],b,ar,k=>by simp [kj]
 | n,st :: a,b,ar,k=>by
  have e:∀ (c:List D),kj S n (st :: c) ar k=S n st (ar++[(k:Int)])++kj S (n+(S n st (ar++[(k:Int)])).length) c ar (k+1):=fun c=>rfl
  rw [List.cons_append,e,e,Jp _ a b ar (k+1),List.append_assoc,List.length_append,List.length_cons,Nat.add_assoc n,Nat.add_assoc k,Nat.add_comm 1 a.length]
theorem JR {H:Hp} {k:Str} {r:List D} {v:V} (h:Held H (.tup (.str k :: r)) v):∃ a xs,v=.ref a∧H a=some (.tup (.str k :: xs))∧HeldL H r xs:=by
 unfold Held at h
 obtain ⟨a,xs,e1,e2,e3⟩:=h
 unfold HeldL at e3
 obtain ⟨v,r',rfl,h1,h2⟩:=e3
 unfold Held at h1
 subst h1
 exact ⟨a,r',e1,e2,h2⟩
theorem jcs {x:V} {xs:List V}:atI (x :: xs) 0=some x:=ze (j:=0) rfl
theorem jeF {f:Nat} {st:D} (h:yM f st):∃ k r,st=.tup (.str k :: r):=by
 cases f with
 | zero=>exact h.elim
 | succ f=>
  rcases h with ⟨k,r,rfl,_⟩ | ⟨l,b,o,rfl,_⟩ | ⟨l,ks,b,rfl,_⟩
  ·exact ⟨_,_,rfl⟩
  ·exact ⟨_,_,rfl⟩
  ·exact ⟨_,_,rfl⟩
theorem Z6 {α:Type} {l:List α} {i:Nat} {x:α} (h:l[i]?=some x):l.take (i+1)=l.take i++[x]:=by
 rw [List.take_succ,h]
 rfl
theorem jaD {S:Nat→D→List Int→List D} {n:Nat} {st:D} {ar:List Int} {k:Nat}:kj S n [st] ar k=S n st (ar++[(k:Int)]):=by
 unfold kj
 unfold kj
 rw [List.append_nil]
theorem ZE {S:Nat→D→List Int→List D} {n:Nat} {b:List D} {ar:List Int} {i:Nat} {st:D} (h:b[i]?=some st):(kj S n (b.take i) ar 0).length+(S (n+(kj S n (b.take i) ar 0).length) st (ar++[(i:Int)])).length≤(kj S n b ar 0).length:=by
 have hi:=(List.getElem?_eq_some_iff.mp h).1
 have e2:=Jp (S:=S) n (b.take (i+1)) (b.drop (i+1)) ar 0
 rw [List.take_append_drop] at e2
 rw [e2,Z6 h,Jp,jaD,List.length_append,List.length_append,List.length_take,Nat.zero_add,Nat.min_eq_left (by omega)]
 omega
end
theorem Kk {α:Type} {a b:List α} {x y:α} {n:Nat} (h:n=a.length):(a++x :: b).set n y=a++y :: b:=by
 subst h
 rw [List.set_append_right _ _ (Nat.le_refl _),Nat.sub_self]
 rfl
theorem jhg {f:Nat} {r:List D} (h:yM (f+1) (.tup (.str "if" :: r))):∃ least b o,r=[least,.tup b,.tup o]∧(∀ s∈b,yM f s)∧∀ s∈o,yM f s:=by
 rcases h with ⟨k,r',e,h1,_⟩ | ⟨l,b,o,e,h1,h2⟩ | ⟨l,ks,b,e,_⟩
 ·injection e with e;injection e with e1 e2;injection e1 with e1;exact absurd e1.symm h1
 ·injection e with e;injection e with e1 e2;exact ⟨l,b,o,e2,h1,h2⟩
 ·injection e with e;injection e with e1 e2;injection e1 with e1;exact absurd e1 (by decide)
theorem jdd {f:Nat} {r:List D} (h:yM (f+1) (.tup (.str "while" :: r))):∃ least ks b,r=[least,.tup ks,.tup b]∧∀ s∈b,yM f s:=by
 rcases h with ⟨k,r',e,_,h1⟩ | ⟨l,b,o,e,_⟩ | ⟨l,ks,b,e,h1⟩
 ·injection e with e;injection e with e1 e2;injection e1 with e1;exact absurd e1.symm h1
 ·injection e with e;injection e with e1 e2;injection e1 with e1;exact absurd e1 (by decide)
 ·injection e with e;injection e with e1 e2;exact ⟨l,ks,b,e2,h1⟩
theorem jgr {H:Hp} {a b c:D} {xs:List V} (h:HeldL H [a,b,c] xs):∃ x y z,xs=[x,y,z]∧Held H a x∧Held H b y∧Held H c z:=by
 unfold HeldL at h
 obtain ⟨x,r,rfl,h1,h⟩:=h
 unfold HeldL at h
 obtain ⟨y,r,rfl,h2,h⟩:=h
 unfold HeldL at h
 obtain ⟨z,r,rfl,h3,h⟩:=h
 unfold HeldL at h
 subst h
 exact ⟨x,y,z,rfl,h1,h2,h3⟩
def jbW (f:Nat):Sp:=fun vs H Q _=>∃ (pr:Addr) (x0 x1 x2 x3 x4 x5 vb:V) (body:List D),vs=[.ref pr]∧H pr=some (.tup [x0,x1,x2,x3,x4,x5,vb])∧Held H (.tup body) vb∧(∀ st∈body,yM f st)∧(kj (kJ f) 0 body [] 0).length≤900∧2 * f≤500∧
 ∀ sl ss H',Same H H'→H sl=none→H' sl=some (.lst ss)→HeldL H' (kj (kJ f) 0 body [] 0) ss→Q (.ref sl) H'
def jN (base:Int) (ps:List (Int×Int)) (p:Int):Int:=ps.foldl (fun f q=>if q.1≤p then q.2 else f) base
theorem YW (b p:Int):jN b [] p=b:=rfl
theorem yb (b:Int) (ps:List (Int×Int)) (q:Int×Int) (p:Int):jN b (ps++[q]) p=if q.1≤p then q.2 else jN b ps p:=by unfold jN;rw [List.foldl_append];rfl
theorem kA {p:Int}:∀ {ps:List (Int×Int)} {b:Int},(∀ q∈ps,¬ q.1≤p)→jN b ps p=b
 | [],_,_=>rfl
 | q :: r,b,h=>by
  show jN (if q.1≤p then q.2 else b) r p=b
  rw [if_neg (h q List.mem_cons_self)]
  exact kA fun q hq=>h q (List.mem_cons_of_mem _ hq)
theorem zN {p:Int}:∀ {ps:List (Int×Int)} {b:Int},(∀ q∈ps,q.1≤p)→jN b ps p=((ps.getLast?).map (·.2)).getD b
 | [],_,_=>rfl
 | [q],b,h=>by
  show (if q.1≤p then q.2 else b)=q.2
  rw [if_pos (h q List.mem_cons_self)]
 | q :: q' :: r,b,h=>by
  show jN (if q.1≤p then q.2 else b) (q' :: r) p=_
  rw [zN fun q hq=>h q (List.mem_cons_of_mem _ hq),List.getLast?_cons_cons]
  cases e:(q' :: r).getLast? with
  | none=>simp at e
  | some z=>rfl
theorem qK (b:Int) (ps qs:List (Int×Int)) (p:Int):jN b (ps++qs) p=jN (jN b ps p) qs p:=by unfold jN;rw [List.foldl_append]
def Cut (ps:List (Int×Int)) (p:Int) (c:Nat):Prop:=c≤ps.length∧(∀ i (h:i < ps.length),i < c→ps[i].1≤p)∧∀ i (h:i < ps.length),c≤i→p < ps[i].1
theorem jeE {b p:Int} {ps:List (Int×Int)} {c:Nat} (h:Cut ps p c):jN b ps p=if c=0 then b else (ps.getD (c - 1) (0,0)).2:=by
 obtain ⟨h1,h2,h3⟩:=h
 have e:ps=ps.take c++ps.drop c:=(List.take_append_drop c ps).symm
 have a1:∀ q∈ps.take c,q.1≤p:=fun q hq=>by
  obtain ⟨i,hi,rfl⟩:=List.mem_iff_getElem.mp hq
  rw [List.length_take] at hi
  rw [List.getElem_take]
  exact h2 i (by omega) (by omega)
 have a2:∀ q∈ps.drop c,¬ q.1≤p:=fun q hq=>by
  obtain ⟨i,hi,rfl⟩:=List.mem_iff_getElem.mp hq
  rw [List.length_drop] at hi
  rw [List.getElem_drop]
  have:=h3 (c+i) (by omega) (by omega)
  omega
 have e2:jN b ps p=jN b (ps.take c++ps.drop c) p:=congrArg (fun z=>jN b z p) e
 rw [e2,qK,kA a2,zN a1]
 by_cases h0:c=0
 ·subst h0
  rfl
 ·rw [if_neg h0,List.getLast?_eq_getElem?,List.length_take,Nat.min_eq_left h1,List.getElem?_take,if_pos (by omega),List.getElem?_eq_getElem (by omega),List.getD_eq_getElem?_getD,List.getElem?_eq_getElem (by omega)]
  rfl
abbrev ku (ps:List (Int×Int)):Prop:=ps.Pairwise (fun x y=>x.1 < y.1)
theorem YK {ps:List (Int×Int)} (h:ku ps) {i j:Nat} (hi:i < ps.length) (hj:j < ps.length) (l:i≤j):ps[i].1≤ps[j].1:=by
 rcases Nat.lt_or_ge i j with k | k
 ·exact Int.le_of_lt (List.pairwise_iff_getElem.mp h i j hi hj k)
 ·have:i=j:=by omega
  subst this
  exact Int.le_refl _
def StepsAt (K:W.Frag) (H:Hp) (qs:List V) (ps:List (Int×Int)):Prop:=qs.length=ps.length∧∀ i (h:i < ps.length),∃ c,qs[i]?=some (.ref c)∧SqT K H c [.int ps[i].1,.int ps[i].2]
structure RowAt (K:W.Frag) (H:Hp) (v:V) (r:Int×List (Int×Int)):Prop where
 ex:∃ a b qs,v=.ref a∧SqT K H a [.int r.1,.ref b]∧SqT K H b qs∧StepsAt K H qs r.2
theorem StepsAt.mono {K:W.Frag} {H H':Hp} {qs:List V} {ps:List (Int×Int)} (e:Same H H') (h:StepsAt K H qs ps):StepsAt K H' qs ps:=⟨h.1,fun i hi=>by
 obtain ⟨c,e1,e2⟩:=h.2 i hi
 exact ⟨c,e1,e.sqT e2⟩⟩
theorem RowAt.mono {K:W.Frag} {H H':Hp} {v:V} {r:Int×List (Int×Int)} (e:Same H H') (h:RowAt K H v r):RowAt K H' v r:=by
 obtain ⟨a,b,qs,e1,e2,e3,e4⟩:=h.ex
 exact ⟨a,b,qs,e1,e.sqT e2,e.sqT e3,e4.mono e⟩
def jh9 (r:Int×List (Int×Int)):Prop:=ku r.2∧r.2.length≤600
def stN (base:Int) (ps:List (Int×Int)):Int×List (Int×Int):=ps.foldl (fun st q=>if q.2=st.1 then st else (q.2,st.2++[q])) (base,[])
theorem zj (base:Int) (ps:List (Int×Int)) (q:Int×Int):stN base (ps++[q])=if q.2=(stN base ps).1 then stN base ps else (q.2,(stN base ps).2++[q]):=by unfold stN;rw [List.foldl_append];rfl
theorem jdI {base:Int} {ps:List (Int×Int)} {i:Nat} (h:i < ps.length):stN base (ps.take (i+1))=if ps[i].2=(stN base (ps.take i)).1 then stN base (ps.take i) else (ps[i].2,(stN base (ps.take i)).2++[ps[i]]):=by
 rw [List.take_succ,List.getElem?_eq_getElem h]
 exact zj _ _ _
theorem Kj (base:Int) (ps:List (Int×Int)):(stN base ps).2.length≤ps.length:=by
 have key:∀ (ps:List (Int×Int)) (st:Int×List (Int×Int)),(ps.foldl (fun st q=>if q.2=st.1 then st else (q.2,st.2++[q])) st).2.length≤st.2.length+ps.length:=by
  intro ps
  induction ps with
  | nil=>intro st;exact Nat.le_refl _
  | cons q r ih=>
   intro st
   rw [List.foldl_cons]
   refine Nat.le_trans (ih _) ?_
   split
   ·simp
   ·simp;omega
 have:=key ps (base,[])
 simpa [stN] using this
def Ka (base:Int) (ps:List (Int×Int)):D:=.tup [.int base,.tup (ps.map pD)]
def J7 (b:Int) (L:List (Int×Int)):Int:=((L.getLast?).map (·.2)).getD b
theorem K2 (b:Int) (L:List (Int×Int)) (x:Int×Int):J7 b (L++[x])=x.2:=by
 unfold J7
 rw [List.getLast?_concat]
 rfl
theorem zm {P:List (Int×Int)→Prop} (h0:P []) (h1:∀ L x,P L→P (L++[x])) (L:List (Int×Int)):P L:=by
 have key:∀ M:List (Int×Int),P M.reverse:=by
  intro M
  induction M with
  | nil=>exact h0
  | cons x r ih=>rw [List.reverse_cons];exact h1 _ _ ih
 have:=key L.reverse
 rwa [List.reverse_reverse] at this
theorem jfa (b:Int) (L:List (Int×Int)):(stN b L).1=J7 b L:=by
 refine zm (P:=fun L=>(stN b L).1=J7 b L) rfl (fun L x ih=>?_) L
 rw [K2,zj]
 split
 ·next h=>exact h.symm
 ·rfl
theorem jgB (b:Int) (L:List (Int×Int)):(stN b L).2.Sublist L:=by
 refine zm (P:=fun L=>(stN b L).2.Sublist L) (List.Sublist.refl _) (fun L x ih=>?_) L
 rw [zj]
 split
 ·exact ih.trans (List.sublist_append_left _ _)
 ·exact ih.append (List.Sublist.refl _)
theorem J1 {L:List (Int×Int)} {x:Int×Int} (h:ku (L++[x])):ku L∧∀ y∈L,y.1 < x.1:=by
 obtain ⟨h1,_,h3⟩:=List.pairwise_append.mp h
 exact ⟨h1,fun y hy=>h3 y hy x (by simp)⟩
theorem jcf (b:Int) (L:List (Int×Int)) (h:ku L) (p:Int):jN b (stN b L).2 p=jN b L p:=by
 refine zm (P:=fun L=>ku L→jN b (stN b L).2 p=jN b L p) (fun _=>rfl) (fun L x ih h=>?_) L h
 obtain ⟨h1,h2⟩:=J1 h
 rw [zj,yb]
 split
 ·next e=>
  rw [ih h1]
  split
  ·next hp=>
   rw [zN fun q hq=>by have:=h2 q hq;omega]
   rw [jfa] at e
   exact e.symm
  ·rfl
 ·show jN b ((stN b L).2++[x]) p=_
  rw [yb,ih h1]
def YM:Int→List (Int×Int)→Prop
 | _,[]=>True
 | b,q :: r=>q.2≠b∧YM q.2 r
theorem KU:∀ {L:List (Int×Int)} {b:Int} {x:Int×Int},YM b L→x.2≠J7 b L→YM b (L++[x])
 | [],b,x,_,h=>⟨h,trivial⟩
 | q :: r,b,x,h,hx=>by
  refine ⟨h.1,KU h.2 ?_⟩
  intro e
  apply hx
  rw [e]
  unfold J7
  cases r with
  | nil=>rfl
  | cons q' r'=>
   rw [List.getLast?_cons_cons]
   cases e':(q' :: r').getLast? with
   | none=>simp at e'
   | some z=>rfl
theorem jev (b:Int) (L:List (Int×Int)):J7 b (stN b L).2=(stN b L).1:=by
 refine zm (P:=fun L=>J7 b (stN b L).2=(stN b L).1) rfl (fun L x ih=>?_) L
 rw [zj]
 split
 ·exact ih
 ·exact K2 _ _ _
theorem jen (b:Int) (L:List (Int×Int)):YM b (stN b L).2:=by
 refine zm (P:=fun L=>YM b (stN b L).2) trivial (fun L x ih=>?_) L
 rw [zj]
 split
 ·exact ih
 ·next h=>
  refine KU ih ?_
  rw [jev]
  exact h
structure Canon (b:Int) (L:List (Int×Int)):Prop where
 up:ku L
 no:YM b L
theorem jaY (b:Int) {L:List (Int×Int)} (h:ku L):Canon b (stN b L).2:=⟨h.sublist (jgB b L),jen b L⟩
theorem kM (b:Int) (q:Int×Int) (r:List (Int×Int)) (p:Int):jN b (q :: r) p=jN (if q.1≤p then q.2 else b) r p:=rfl
theorem zA {q:Int×Int} {r:List (Int×Int)} (h:ku (q :: r)):ku r∧∀ y∈r,q.1 < y.1:=⟨(List.pairwise_cons.mp h).2,(List.pairwise_cons.mp h).1⟩
theorem Ju:∀ {L M:List (Int×Int)} {b:Int},Canon b L→Canon b M→(∀ p,jN b L p=jN b M p)→L=M
 | [],[],_,_,_,_=>rfl
 | [],y :: M,b,_,hM,h=>by
  have e:=h y.1
  rw [YW,kM,if_pos (Int.le_refl _),kA fun q hq=>by have:=(zA hM.up).2 q hq;omega] at e
  exact absurd e.symm hM.no.1
 | x :: L,[],b,hL,_,h=>by
  have e:=h x.1
  rw [YW,kM,if_pos (Int.le_refl _),kA fun q hq=>by have:=(zA hL.up).2 q hq;omega] at e
  exact absurd e hL.no.1
 | x :: L,y :: M,b,hL,hM,h=>by
  have rL:=zA hL.up
  have rM:=zA hM.up
  have nL:∀ {c:Int} (p:Int),p≤x.1→jN c L p=c:=fun p hp=>kA fun q hq=>by have:=rL.2 q hq;omega
  have nM:∀ {c:Int} (p:Int),p≤y.1→jN c M p=c:=fun p hp=>kA fun q hq=>by have:=rM.2 q hq;omega
  rcases Int.lt_trichotomy x.1 y.1 with c | c | c
  ·have e:=h x.1
   rw [kM,kM,if_pos (Int.le_refl _),if_neg (by omega),nL _ (Int.le_refl _),nM _ (by omega)] at e
   exact absurd e hL.no.1
  ·have e:=h x.1
   rw [kM,kM,if_pos (Int.le_refl _),if_pos (by omega),nL _ (Int.le_refl _),nM _ (by omega)] at e
   have exy:x=y:=Prod.ext c e
   subst exy
   have:=Ju (L:=L) (M:=M) (b:=x.2) ⟨rL.1,hL.no.2⟩ ⟨rM.1,hM.no.2⟩ fun p=>by
    by_cases hp:x.1≤p
    ·have e:=h p
     rw [kM,kM,if_pos hp] at e
     exact e
    ·rw [nL p (by omega),nM p (by omega)]
   rw [this]
  ·have e:=h y.1
   rw [kM,kM,if_pos (Int.le_refl _),if_neg (by omega),nM _ (Int.le_refl _),nL _ (by omega)] at e
   exact absurd e.symm hM.no.1
theorem K5 (b:Int) (L:List (Int×Int)) (h:ku L) (p:Int):((∀ y∈L,¬ y.1≤p)∧jN b L p=b)∨∃ x∈L,x.1≤p∧(∀ y∈L,y.1≤p→y.1≤x.1)∧jN b L p=x.2:=by
 refine zm (P:=fun L=>ku L→((∀ y∈L,¬ y.1≤p)∧jN b L p=b)∨∃ x∈L,x.1≤p∧(∀ y∈L,y.1≤p→y.1≤x.1)∧jN b L p=x.2) (fun _=>.inl ⟨fun y hy=>(by cases hy),rfl⟩) (fun L x ih h=>?_) L h
 obtain ⟨h1,h2⟩:=J1 h
 rw [yb]
 by_cases hp:x.1≤p
 ·rw [if_pos hp]
  refine .inr ⟨x,by simp,hp,fun y hy _=>?_,rfl⟩
  rcases List.mem_append.mp hy with hy | hy
  ·have:=h2 y hy;omega
  ·rw [List.mem_singleton.mp hy];exact Int.le_refl _
 ·rw [if_neg hp]
  rcases ih h1 with ⟨a,e⟩ | ⟨z,hz,a1,a2,e⟩
  ·refine .inl ⟨fun y hy=>?_,e⟩
   rcases List.mem_append.mp hy with hy | hy
   ·exact a y hy
   ·rw [List.mem_singleton.mp hy];exact hp
  ·refine .inr ⟨z,List.mem_append_left _ hz,a1,fun y hy hyp=>?_,e⟩
   rcases List.mem_append.mp hy with hy | hy
   ·exact a2 y hy hyp
   ·rw [List.mem_singleton.mp hy] at hyp;exact absurd hyp hp
theorem Yx {L:List (Int×Int)} (h:ku L) {x y:Int×Int} (hx:x∈L) (hy:y∈L) (e:x.1=y.1):x=y:=by
 obtain ⟨i,hi,rfl⟩:=List.mem_iff_getElem.mp hx
 obtain ⟨j,hj,rfl⟩:=List.mem_iff_getElem.mp hy
 have pw:=List.pairwise_iff_getElem.mp h
 rcases Nat.lt_trichotomy i j with c | c | c
 ·have:=pw i j hi hj c;omega
 ·subst c;rfl
 ·have:=pw j i hj hi c;omega
theorem held_like {b:Int} {L:List (Int×Int)} (h:ku L) {p q:Int} (hpq:p≤q) (no:∀ y∈L,¬ (p < y.1∧y.1≤q)):jN b L q=jN b L p:=by
 rcases K5 b L h q with ⟨a,e⟩ | ⟨z,hz,a1,a2,e⟩
 ·rw [e,kA fun y hy=>by have:=a y hy;omega]
 ·rcases K5 b L h p with ⟨a,_⟩ | ⟨z',hz',b1,b2,e'⟩
  ·exact absurd ⟨by have:=a z hz;omega,a1⟩ (no z hz)
  ·rw [e,e']
   have hzp:z.1≤p:=by have:=no z hz;omega
   have c1:=b2 z hz hzp
   have c2:=a2 z' hz' (by omega)
   rw [Yx h hz hz' (by omega)]
def wrN (b:Int) (ps:List (Int×Int)) (c1 c2:Nat) (p v:Int):List (Int×Int):=ps.take c1++[(p,v),(p+1,jN b ps (p+1))]++ps.drop c2
theorem Jr {ps:List (Int×Int)} {p:Int} {c:Nat} (h:Cut ps p c):(∀ y∈ps.take c,y.1≤p)∧∀ y∈ps.drop c,p < y.1:=by
 obtain ⟨h1,h2,h3⟩:=h
 refine ⟨fun q hq=>?_,fun q hq=>?_⟩
 ·obtain ⟨i,hi,rfl⟩:=List.mem_iff_getElem.mp hq
  rw [List.length_take] at hi
  rw [List.getElem_take]
  exact h2 i (by omega) (by omega)
 ·obtain ⟨i,hi,rfl⟩:=List.mem_iff_getElem.mp hq
  rw [List.length_drop] at hi
  rw [List.getElem_drop]
  exact h3 (c+i) (by omega) (by omega)
theorem jgu {b:Int} {ps:List (Int×Int)} {c1 c2:Nat} {p v:Int} (h1:Cut ps (p - 1) c1) (h2:Cut ps (p+1) c2):(wrN b ps c1 c2 p v).length≤ps.length+2:=by
 have:c1≤c2:=by
  rcases Nat.lt_or_ge c2 c1 with c | c
  ·have:=h1.1
   have a:=h1.2.1 c2 (by omega) c
   have b:=h2.2.2 c2 (by omega) (Nat.le_refl _)
   omega
  ·exact c
 have:=h1.1
 have:=h2.1
 unfold wrN
 simp only [List.length_append,List.length_take,List.length_drop,List.length_cons,List.length_nil]
 omega
theorem jhu {b:Int} {ps:List (Int×Int)} {c1 c2:Nat} {p v:Int} (h:ku ps) (h1:Cut ps (p - 1) c1) (h2:Cut ps (p+1) c2):ku (wrN b ps c1 c2 p v):=by
 have t1:=(Jr h1).1
 have t2:=(Jr h2).2
 unfold wrN
 refine List.pairwise_append.mpr ⟨List.pairwise_append.mpr ⟨h.sublist (List.take_sublist _ _),?_,fun x hx y hy=>?_⟩,h.sublist (List.drop_sublist _ _),fun x hx y hy=>?_⟩
 ·refine List.pairwise_cons.mpr ⟨fun y hy=>?_,List.pairwise_singleton _ _⟩
  rw [List.mem_singleton.mp hy]
  show p < p+1
  omega
 ·have:=t1 x hx
  rcases List.mem_cons.mp hy with rfl | hy
  ·show x.1 < p;omega
  ·rw [List.mem_singleton.mp hy];show x.1 < p+1;omega
 ·have:=t2 y hy
  rcases List.mem_append.mp hx with hx | hx
  ·have:=t1 x hx;omega
  ·rcases List.mem_cons.mp hx with rfl | hx
   ·show p < y.1;omega
   ·rw [List.mem_singleton.mp hx];show p+1 < y.1;omega
theorem je5 {b:Int} {ps:List (Int×Int)} {c1 c2:Nat} {p v:Int} (h1:Cut ps (p - 1) c1) (h2:Cut ps (p+1) c2) (q:Int):jN b (wrN b ps c1 c2 p v) q=if q=p then v else jN b ps q:=by
 have t1:=Jr h1
 have t2:=Jr h2
 have a1:∀ z,jN b ps z=jN (jN b (ps.take c1) z) (ps.drop c1) z:=fun z=>by rw [← qK,List.take_append_drop]
 have a2:∀ z,jN b ps z=jN (jN b (ps.take c2) z) (ps.drop c2) z:=fun z=>by rw [← qK,List.take_append_drop]
 have e:jN b (wrN b ps c1 c2 p v) q=jN (if p+1≤q then jN b ps (p+1) else if p≤q then v else jN b (ps.take c1) q) (ps.drop c2) q:=by
  unfold wrN
  rw [qK,qK]
  rfl
 rw [e]
 rcases Int.lt_trichotomy q p with c | c | c
 ·rw [if_neg (by omega),if_neg (by omega),if_neg (by omega),kA (fun y hy=>by have:=t2.2 y hy;omega),a1 q,kA (ps:=ps.drop c1) (fun y hy=>by have:=t1.2 y hy;omega)]
 ·rw [if_neg (by omega),if_pos (by omega),if_pos c,kA (fun y hy=>by have:=t2.2 y hy;omega)]
 ·rw [if_pos (by omega),if_neg (by omega),a2 q,a2 (p+1),kA (p:=p+1) (ps:=ps.drop c2) (fun y hy=>by have:=t2.2 y hy;omega),zN (p:=p+1) (ps:=ps.take c2) t2.1,zN (p:=q) (ps:=ps.take c2) fun y hy=>by have:=t2.1 y hy;omega]
def lk (ps:List (Int×Int)) (p:Int):Option Int:=(ps.find? fun q=>decide (q.1=p)).map (·.2)
structure EndsOk (ps pl:List (Int×Int)) (ms:List Int):Prop where
 up:ms.Pairwise (· < ·)
 mem:∀ m,m∈ms↔(∃ q∈ps,q.1=m)∨∃ q∈pl,q.1=m∨q.1+1=m
def jbc (K:W.Frag):Sp:=fun vs H Q _=>∃ (b:Addr) (p:Int) (qs:List V) (ps:List (Int×Int)),vs=[.ref b,.int p]∧SqT K H b qs∧StepsAt K H qs ps∧ku ps∧ps.length≤600∧∀ c:Nat,Cut ps p c→Q (.int c) H
def Zi (K:W.Frag):Sp:=fun vs H Q _=>∃ (v:V) (p:Int) (r:Int×List (Int×Int)),vs=[v,.int p]∧RowAt K H v r∧jh9 r∧Q (.int (jN r.1 r.2 p)) H
def Z8 (K:W.Frag):Sp:=fun vs H Q _=>∃ (base:Int) (p:Addr) (qs:List V) (ps:List (Int×Int)),vs=[.int base,.ref p]∧SqL K H p qs∧PairsL K H qs ps∧ku ps∧ps.length≤1000∧
 ∀ r H',Same H H'→Held H' (Ka base (stN base ps).2) r→Q r H'
def YF (K:W.Frag):Sp:=fun vs H Q _=>∃ (v:V) (p x b:Int) (ps:List (Int×Int)),vs=[v,.int p,.int x]∧RowAt K H v (b,ps)∧ku ps∧ps.length≤400∧
 ∀ ps' r H',Same H H'→Canon b ps'→(∀ q,jN b ps' q=if q=p then x else jN b ps q)→ps'.length≤ps.length+2→Held H' (Ka b ps') r→Q r H'
theorem jfm {H:Hp} {b:Int} {ps:List (Int×Int)} {v:V} (h:Held H (Ka b ps) v):∃ a c qs,v=.ref a∧H a=some (.tup [.int b,.ref c])∧H c=some (.tup qs)∧HeldL H (ps.map pD) qs:=by
 obtain ⟨a,xs,rfl,ha,h1⟩:=jp h
 obtain ⟨v1,r1,rfl,e1,h2⟩:=jb h1
 obtain ⟨v2,r2,rfl,e2,h3⟩:=jb h2
 cases jw h3
 cases jV e1
 obtain ⟨c,qs,rfl,hb,h4⟩:=jp e2
 exact ⟨a,c,qs,rfl,ha,hb,h4⟩
theorem jgV {H:Hp} {q:Int×Int} {v:V} (h:Held H (pD q) v):∃ a,v=.ref a∧H a=some (.tup [.int q.1,.int q.2]):=by
 obtain ⟨a,xs,rfl,ha,h1⟩:=jp h
 obtain ⟨v1,r1,rfl,e1,h2⟩:=jb h1
 obtain ⟨v2,r2,rfl,e2,h3⟩:=jb h2
 cases jw h3
 cases jV e1
 cases jV e2
 exact ⟨a,rfl,ha⟩
theorem zi {K:W.Frag} {H:Hp} {ps:List (Int×Int)} {qs:List V} (hq:HeldL H (ps.map pD) qs):StepsAt K H qs ps:=by
 have hl:=hq.length
 rw [List.length_map] at hl
 refine ⟨hl.symm,fun i hi=>?_⟩
 obtain ⟨v,e1,e2⟩:=hq.get (j:=i) (d:=pD ps[i]) (by rw [List.getElem?_map,List.getElem?_eq_getElem hi];rfl)
 obtain ⟨c,rfl,hc⟩:=jgV e2
 exact ⟨c,e1,SqT.of hc⟩
theorem yp {K:W.Frag} {H:Hp} {b:Int} {ps:List (Int×Int)} {v:V} (h:Held H (Ka b ps) v):RowAt K H v (b,ps):=by
 obtain ⟨a,c,qs,rfl,ha,hb,hq⟩:=jfm h
 exact ⟨a,c,qs,rfl,SqT.of ha,SqT.of hb,zi hq⟩
theorem YL {K:W.Frag} {H:Hp} {qs qs':List V} {ps ps':List (Int×Int)} (h:PairsL K H qs ps) (h':PairsL K H qs' ps'):PairsL K H (qs++qs') (ps++ps'):=by
 refine ⟨by rw [List.length_append,List.length_append,h.1,h'.1],fun i hi=>?_⟩
 rw [List.length_append] at hi
 by_cases c:i < ps.length
 ·obtain ⟨a,e1,e2⟩:=h.2 i c
  refine ⟨a,?_,?_⟩
  ·rw [List.getElem?_append_left (by rw [h.1];exact c)];exact e1
  ·rw [List.getElem_append_left c];exact e2
 ·obtain ⟨a,e1,e2⟩:=h'.2 (i - ps.length) (by omega)
  refine ⟨a,?_,?_⟩
  ·rw [List.getElem?_append_right (by rw [h.1];omega),h.1];exact e1
  ·rw [List.getElem_append_right (by omega)];exact e2
theorem jbj {K:W.Frag} {H:Hp} {qs:List V} {ps:List (Int×Int)} (h:PairsL K H qs ps) (n:Nat):PairsL K H (qs.take n) (ps.take n):=by
 refine ⟨by rw [List.length_take,List.length_take,h.1],fun i hi=>?_⟩
 rw [List.length_take] at hi
 obtain ⟨a,e1,e2⟩:=h.2 i (by omega)
 exact ⟨a,by rw [List.getElem?_take,if_pos (by omega)];exact e1,by rw [List.getElem_take];exact e2⟩
theorem jbk {K:W.Frag} {H:Hp} {qs:List V} {ps:List (Int×Int)} (h:PairsL K H qs ps) (n:Nat):PairsL K H (qs.drop n) (ps.drop n):=by
 refine ⟨by rw [List.length_drop,List.length_drop,h.1],fun i hi=>?_⟩
 rw [List.length_drop] at hi
 obtain ⟨a,e1,e2⟩:=h.2 (n+i) (by omega)
 exact ⟨a,by rw [List.getElem?_drop];exact e1,by rw [List.getElem_drop];exact e2⟩
theorem jcR {K:W.Frag} {H:Hp} {a b:Addr} {x y x' y':Int} (h1:H a=some (.tup [.int x,.int y])) (h2:H b=some (.tup [.int x',.int y'])):PairsL K H [.ref a,.ref b] [(x,y),(x',y')]:=by
 refine ⟨rfl,fun i hi=>?_⟩
 match i,hi with
 | 0,_=>exact ⟨a,rfl,SqT.of h1⟩
 | 1,_=>exact ⟨b,rfl,SqT.of h2⟩
theorem jcQ {K:W.Frag} {G:Hp} {l:Addr} {ys:List V} {o:HO} {qs:List V} {ps:List (Int×Int)} (hl:G l=some (.lst ys)) (h:PairsL K G qs ps):PairsL K (upd G l o) qs ps:=⟨h.1,fun i hi=>by
 obtain ⟨c,e1,e2⟩:=h.2 i hi
 refine ⟨c,e1,?_⟩
 rcases e2 with (e2 | ⟨u,e2⟩) | e2
 ·exact .inl (.inl (by rw [jg (j4 e2 hl (by intro z;cases z))];exact e2))
 ·exact .inl (.inr ⟨u,by rw [jg (j4 e2 hl (by intro z;cases z))];exact e2⟩)
 ·exact .inr e2⟩
abbrev j0:=Int×List (Int×Int)×List (Int×Int)
def kr (q:j0) (p:Int):Int:=q.2.2.foldl (fun f z=>if z.1=p then z.2 else f) (jN q.1 q.2.1 p)
theorem yX (b:Int) (ps ws:List (Int×Int)) (p v z:Int):kr (b,ps,ws++[(p,v)]) z=if z=p then v else kr (b,ps,ws) z:=by
 unfold kr
 dsimp only
 rw [List.foldl_append]
 show (if p=z then v else _)=_
 by_cases h:p=z
 ·rw [if_pos h,if_pos h.symm]
 ·rw [if_neg h,if_neg (fun t=>h t.symm)]
def kY (L:List (Str×j0)) (r:Str):j0:=(lkA L r).getD (0,[],[])
def RowIs (K:W.Frag) (H:Hp) (q:j0) (v:V):Prop:=∃ R,RowAt K H v (q.1,R)∧Canon q.1 R∧R.length≤40+2 * q.2.2.length∧∀ z,jN q.1 R z=kr q z
theorem jcF {K:W.Frag} {H H':Hp} {qs:List V} {ps:List (Int×Int)} (t:TKF H H') (h:StepsAt K H qs ps):StepsAt K H' qs ps:=⟨h.1,fun i hi=>by
 obtain ⟨c,e1,e2⟩:=h.2 i hi
 exact ⟨c,e1,t.sqT e2⟩⟩
theorem jfl {K:W.Frag} {H H':Hp} {v:V} {r:Int×List (Int×Int)} (t:TKF H H') (h:RowAt K H v r):RowAt K H' v r:=by
 obtain ⟨a,b,qs,e1,e2,e3,e4⟩:=h.ex
 exact ⟨a,b,qs,e1,t.sqT e2,t.sqT e3,jcF t e4⟩
theorem RowIs.tk {K:W.Frag} {H H':Hp} {q:j0} {v:V} (t:TKF H H') (h:RowIs K H q v):RowIs K H' q v:=by
 obtain ⟨R,h1,h2⟩:=h
 exact ⟨R,jfl t h1,h2⟩
def RV (K:W.Frag) (H:Hp) (n:Nat):List (Key×V)→List (Str×j0)→Prop
 | [],[]=>True
 | p :: r,q :: t=>(p.1=Sum.inr q.1∧RowIs K H q.2 p.2∧q.2.2.2.length≤n)∧RV K H n r t
 | _,_=>False
theorem RV.tk {K:W.Frag} {H H':Hp} {n:Nat} (t:TKF H H'):∀ {rvs:List (Key×V)} {L:List (Str×j0)},RV K H n rvs L→RV K H' n rvs L
 | [],[],_=>trivial
 | _ :: _,_ :: _,⟨⟨h1,h2,h3⟩,h4⟩=>⟨⟨h1,h2.tk t,h3⟩,RV.tk t h4⟩
theorem RV.up {K:W.Frag} {H:Hp} {n m:Nat} (hm:n≤m):∀ {rvs:List (Key×V)} {L:List (Str×j0)},RV K H n rvs L→RV K H m rvs L
 | [],[],_=>trivial
 | _ :: _,_ :: _,⟨⟨h1,h2,h3⟩,h4⟩=>⟨⟨h1,h2,Nat.le_trans h3 hm⟩,RV.up hm h4⟩
theorem RV.len {K:W.Frag} {H:Hp} {n:Nat}:∀ {rvs:List (Key×V)} {L:List (Str×j0)},RV K H n rvs L→rvs.length=L.length
 | [],[],_=>rfl
 | _ :: _,_ :: _,⟨_,h4⟩=>by rw [List.length_cons,List.length_cons,RV.len h4]
theorem RV.val {K:W.Frag} {H:Hp} {n:Nat} (r:Str):∀ {rvs:List (Key×V)} {L:List (Str×j0)},RV K H n rvs L→(qh rvs (Sum.inr r)=none∧lkA L r=none)∨∃ v q,qh rvs (Sum.inr r)=some v∧lkA L r=some q∧RowIs K H q v∧q.2.2.length≤n
 | [],[],_=>.inl ⟨rfl,rfl⟩
 | p :: rvs,q :: L,⟨⟨h1,h2,h3⟩,h4⟩=>by
  by_cases h:q.1=r
  ·refine .inr ⟨p.2,q.2,kS (by rw [h1,h]),?_,h2,h3⟩
   unfold lkA
   rw [List.find?_cons,decide_eq_true h]
   rfl
  ·have e1:qh (p :: rvs) (Sum.inr r)=qh rvs (Sum.inr r):=kT (by rw [h1];exact fun z=>h (Sum.inr.inj z))
   have e2:lkA (q :: L) r=lkA L r:=by
    unfold lkA
    rw [List.find?_cons,decide_eq_false h]
   rw [e1,e2]
   exact RV.val r h4
theorem RV.any {K:W.Frag} {H:Hp} {n:Nat} (r:Str):∀ {rvs:List (Key×V)} {L:List (Str×j0)},RV K H n rvs L→(rvs.any fun kv=>decide (kv.1=(Sum.inr r:Key)))=L.any fun q=>decide (q.1=r)
 | [],[],_=>rfl
 | p :: rvs,q :: L,⟨⟨h1,_,_⟩,h4⟩=>by rw [List.any_cons,List.any_cons,RV.any r h4,h1,ZI]
theorem RV.snoc {K:W.Frag} {H:Hp} {n:Nat} {r:Str} {v:V} {q:j0} (hq:RowIs K H q v) (hn:q.2.2.length≤n):∀ {rvs:List (Key×V)} {L:List (Str×j0)},RV K H n rvs L→RV K H n (rvs++[(Sum.inr r,v)]) (L++[(r,q)])
 | [],[],_=>⟨⟨rfl,hq,hn⟩,trivial⟩
 | _ :: _,_ :: _,⟨h1,h4⟩=>⟨h1,RV.snoc hq hn h4⟩
theorem RV.repl {K:W.Frag} {H:Hp} {n:Nat} {r:Str} {v:V} {q:j0} (hq:RowIs K H q v) (hn:q.2.2.length≤n):∀ {rvs:List (Key×V)} {L:List (Str×j0)},RV K H n rvs L→RV K H n (rvs.map fun kv=>if kv.1=(Sum.inr r:Key) then (kv.1,v) else kv) (L.map fun z=>if z.1=r then (z.1,q) else z)
 | [],[],_=>trivial
 | p :: rvs,z :: L,⟨⟨h1,h2,h3⟩,h4⟩=>by
  refine ⟨?_,RV.repl hq hn h4⟩
  dsimp only
  by_cases h:z.1=r
  ·rw [if_pos h,if_pos (by rw [h1,h])]
   exact ⟨h1,hq,hn⟩
  ·rw [if_neg h,if_neg (by rw [h1];exact fun t=>h (Sum.inr.inj t))]
   exact ⟨h1,h2,h3⟩
theorem RV.put {K:W.Frag} {H:Hp} {n:Nat} {rvs:List (Key×V)} {L:List (Str×j0)} (h:RV K H n rvs L) {r:Str} {v:V} {q:j0} (hq:RowIs K H q v) (hn:q.2.2.length≤n):RV K H n (qy rvs (Sum.inr r) v) (kO L r q):=by
 unfold qy kO
 rw [h.any r]
 split
 ·exact h.repl hq hn
 ·exact h.snoc hq hn
inductive Tm where
 | is (x:Str) | at_ (r x:Str) (d:Int)
def plD (x:Str) (d:Int):D:=.tup [.str x,.int d]
def Tm.toD:Tm→D
 | .is x=>.tup [.str "is",.str x]
 | .at_ r x d=>.tup [.str "at",.str r,plD x d]
def Tm.val (N:List (Str×Int)) (L:List (Str×j0)):Tm→Int
 | .is x=>ql N x
 | .at_ r x d=>kr (kY L r) (ql N x+d)
theorem jd3 {H:Hp} {x:Str} {d:Int} {v:V} (h:Held H (plD x d) v):∃ a,v=.ref a∧H a=some (.tup [.str x,.int d]):=by
 obtain ⟨a,xs,rfl,ha,h1⟩:=jp h
 obtain ⟨v1,r1,rfl,e1,h2⟩:=jb h1
 obtain ⟨v2,r2,rfl,e2,h3⟩:=jb h2
 cases jw h3
 cases jv e1
 cases jV e2
 exact ⟨a,rfl,ha⟩
theorem jhn {H:Hp} {r x:Str} {d:Int} {v:V} (h:Held H (Tm.at_ r x d).toD v):∃ a b,v=.ref a∧H a=some (.tup [.str "at",.str r,.ref b])∧H b=some (.tup [.str x,.int d]):=by
 obtain ⟨a,xs,rfl,ha,h1⟩:=jp h
 obtain ⟨v1,r1,rfl,e1,h2⟩:=jb h1
 obtain ⟨v2,r2,rfl,e2,h3⟩:=jb h2
 obtain ⟨v3,r3,rfl,e3,h4⟩:=jb h3
 cases jw h4
 cases jv e1
 cases jv e2
 obtain ⟨b,rfl,hb⟩:=jd3 e3
 exact ⟨a,b,rfl,ha,hb⟩
inductive Rw where
 | set (x:Str) (t:Tm) (c:Int) | put (r x:Str) (d:Int) (t:Tm) (c:Int) | any (x:Str) | lose (r:Str)
def Rw.toD:Rw→D
 | .set x t c=>.tup [.str "set",.str x,t.toD,.int c]
 | .put r x d t c=>.tup [.str "put",.str r,plD x d,t.toD,.int c]
 | .any x=>.tup [.str "any",.str x]
 | .lose r=>.tup [.str "lose",.str r]
theorem jfe {H:Hp} {x:Str} {t:Tm} {c:Int} {v:V} (h:Held H (Rw.set x t c).toD v):∃ a u,v=.ref a∧H a=some (.tup [.str "set",.str x,u,.int c])∧Held H t.toD u:=by
 obtain ⟨a,xs,rfl,ha,h1⟩:=jp h
 obtain ⟨v1,r1,rfl,e1,h2⟩:=jb h1
 obtain ⟨v2,r2,rfl,e2,h3⟩:=jb h2
 obtain ⟨v3,r3,rfl,e3,h4⟩:=jb h3
 obtain ⟨v4,r4,rfl,e4,h5⟩:=jb h4
 cases jw h5
 cases jv e1
 cases jv e2
 cases jV e4
 exact ⟨a,v3,rfl,ha,e3⟩
theorem jfr {H:Hp} {r x:Str} {d c:Int} {t:Tm} {v:V} (h:Held H (Rw.put r x d t c).toD v):∃ a b u,v=.ref a∧H a=some (.tup [.str "put",.str r,.ref b,u,.int c])∧H b=some (.tup [.str x,.int d])∧Held H t.toD u:=by
 obtain ⟨a,xs,rfl,ha,h1⟩:=jp h
 obtain ⟨v1,r1,rfl,e1,h2⟩:=jb h1
 obtain ⟨v2,r2,rfl,e2,h3⟩:=jb h2
 obtain ⟨v3,r3,rfl,e3,h4⟩:=jb h3
 obtain ⟨v4,r4,rfl,e4,h5⟩:=jb h4
 obtain ⟨v5,r5,rfl,e5,h6⟩:=jb h5
 cases jw h6
 cases jv e1
 cases jv e2
 cases jV e5
 obtain ⟨b,rfl,hb⟩:=jd3 e3
 exact ⟨a,b,v4,rfl,ha,hb,e4⟩
def qT:Sp:=fun vs H Q _=>∃ (x:Str) (m:Addr) (N:List (Str×Int)),vs=[.str x,.ref m]∧H m=some (.dK (nKV N))∧Q (.int (ql N x)) H
def yS:Sp:=fun vs H Q _=>∃ (a:Addr) (x:Str) (d:Int) (m:Addr) (N:List (Str×Int)),vs=[.ref a,.ref m]∧H a=some (.tup [.str x,.int d])∧H m=some (.dK (nKV N))∧Q (.int (ql N x+d)) H
def Z9 (K:W.Frag):Sp:=fun vs H Q _=>∃ (r:Str) (n:Addr) (k:Nat) (rvs:List (Key×V)) (L:List (Str×j0)),vs=[.str r,.ref n]∧H n=some (.dK rvs)∧RV K H k rvs L∧
 ∀ v R,RowAt K H v ((kY L r).1,R)→Canon (kY L r).1 R→R.length≤40+2 * (kY L r).2.2.length→(kY L r).2.2.length≤k→(∀ z,jN (kY L r).1 R z=kr (kY L r) z)→Q v H
def JC (K:W.Frag):Sp:=fun vs H Q _=>∃ (v:V) (t:Tm) (m n:Addr) (k:Nat) (N:List (Str×Int)) (rvs:List (Key×V)) (L:List (Str×j0)),vs=[v,.ref m,.ref n]∧Held H t.toD v∧H m=some (.dK (nKV N))∧H n=some (.dK rvs)∧RV K H k rvs L∧k≤100∧Q (.int (t.val N L)) H
structure Bare (K:W.Frag) (mg:Str→Option Value):Prop where
 ex:∃ ba eb:Addr,mg "BARE_ROW" = some (.ref ba)∧(∀ H,SqT K H ba [.int 0,.ref eb])∧∀ H,SqT K H eb []
theorem jeN {K:W.Frag} {H:Hp} {a b:Addr} (h1:SqT K H a [.int 0,.ref b]) (h2:SqT K H b []):RowAt K H (.ref a) (0,[]):=⟨a,b,[],rfl,h1,h2,rfl,fun i h=>absurd h (by simp)⟩
inductive Cl where
 | least (a b:Tm) (c:Int)
def Cl.toD:Cl→D
 | .least a b c=>.tup [.str "least",a.toD,b.toD,.int c]
def bnd (way:Str) (v b:Int):Bool:=if way = ">=" then decide (b≤v) else decide (v≤b)
def Cl.Tru (N:List (Str×Int)) (L:List (Str×j0)):Cl→Prop
 | .least a b c=>b.val N L+c≤a.val N L
theorem jb8 {H:Hp} {a b:Tm} {c:Int} {v:V} (h:Held H (Cl.least a b c).toD v):∃ p u w,v=.ref p∧H p=some (.tup [.str "least",u,w,.int c])∧Held H a.toD u∧Held H b.toD w:=by
 obtain ⟨p,xs,rfl,ha,h1⟩:=jp h
 obtain ⟨v1,r1,rfl,e1,h2⟩:=jb h1
 obtain ⟨v2,r2,rfl,e2,h3⟩:=jb h2
 obtain ⟨v3,r3,rfl,e3,h4⟩:=jb h3
 obtain ⟨v4,r4,rfl,e4,h5⟩:=jb h4
 cases jw h5
 cases jv e1
 cases jV e4
 exact ⟨p,v2,v3,rfl,ha,e2,e3⟩
def yl (ok:Cl→Prop) (K:W.Frag):Sp:=fun vs H Q _=>∃ (v:V) (C:Cl) (m n:Addr) (i:Nat) (N:List (Str×Int)) (rvs:List (Key×V)) (L:List (Str×j0)),vs=[v,.ref m,.ref n]∧Held H C.toD v∧ok C∧H m=some (.dK (nKV N))∧H n=some (.dK rvs)∧RV K H i rvs L∧i≤100∧
 ∀ b H',Same H H'→(b=true↔C.Tru N L)→Q (.bl b) H'
def jh0:Cl→Prop | .least ..=>True
def top (i:Nat):Stmt:=PySem.Challenge.pw_outlineward_k72_loops_that_look.main.body.getD i (.Pass ⟨0,0,0,0⟩)
abbrev yB:Stmt:=top 21
abbrev zJ:Stmt:=top 22
abbrev zT:Stmt:=top 23
abbrev qu:Stmt:=top 24
abbrev jb0:Stmt:=top 25
section
variable {P:Program} {w:World} {K:W.Frag} {mg:Str→Option Value} {base:Heap}
theorem jfK {f:Addr} {fd:FuncData} (F:Fun K "room" "room" jb0 f fd) (B:Free0 mg):FnOk P w K mg base CX0 1 f fd ["steps"] Zf:=by
 have sc:FnScope ["steps"] ["steps"] (jl jb0):=fs
 refine F.ok sc (fun vs H Q E h=>?_) (fun cdv A outer s H vs Q E hr h=>?_)
 ·obtain ⟨sl,ss,rfl,_⟩:=h
  rfl
 obtain ⟨sl,ss,rfl,hs,hl,q⟩:=h
 refine ⟨_,(jo (kR (yN PySem.F.plainAttrs_list PySem.F.slot_list_append PySem.F.type_list_append kF (pv 0) (ju jd6 jq)))
   (jB (km (jy qY (Jo j9 (by rfl) B.len_ q5 (ju (pv 0) jq)) jm)))),?_⟩
 refine ⟨_,rfl,.inl ⟨rfl,_,SqL.of hs⟩,sl,_,_,rfl,rfl,hs,jz (by omega),?_⟩
 refine ⟨_,rfl,sl,_,rfl,.inl (SqL.of ja),_,_,rfl,rfl,?_⟩
 show Q (.int ((((ss++[V.non]).length:Nat):Int) - 1)) _
 rw [show ((((ss++[V.non]).length:Nat):Int) - 1)=(ss.length:Int) by rw [List.length_append,List.length_singleton];omega]
 exact q
theorem J3 {k f':Nat} {f:Addr} {fd:FuncData} (F:Fun K "lay_body" "lay_body" zJ f fd) (B:Free0 mg) (Z_enumerate:mg "enumerate" = none) (F_lay_if:Fn P w K mg base k "lay_if" ["steps","statement","path"] (JD "if" f')) (F_lay_while:Fn P w K mg base k "lay_while" ["steps","statement","path"] (JD "while" f')):FnOk P w K mg base CX0 (k+1) f fd ["steps","body","around"] (KG f'):=by
 have sc:FnScope ["steps","body","around","k","statement","path"] ["steps","body","around"] (jl zJ):=fs
 refine F.ok sc (fun vs H Q E h=>?_) (fun cdv A outer s H vs Q E hr h=>?_)
 ·obtain ⟨sl,vb,va,ss,os,body,ar,rfl,_⟩:=h
  rfl
 obtain ⟨sl,vb,va,ss,os,body,ar,rfl,hs,hO,hb,ha,hfit,hlen,har,q⟩:=h
 refine ⟨_,(jB (zV PassesOwn.never rfl (jao (by rfl) Z_enumerate (ju (pv 1) jq)) (qO rfl (jU (jS (i:=3) sc.nd rfl ol) (jU (jS (i:=4) sc.nd rfl ol) qp))) (jo (jW (i:=5) sc.nd rfl ol (jy zM (pv 2) (kD (ju (pv 3) jq))))
   (jB (qV (kE kX (kI jP (pv 4) jm (fun _ _=>rfl)) kL (jJ _)) (jB (kR (kP F_lay_if hr (ju (pv 0) (ju (pv 4) (ju (pv 5) jq))) (hk:=Nat.le_refl _)))) (jB (qV (kE kX (kI jP (pv 4) jm (fun _ _=>rfl)) kL (jJ _)) (jB (kR (kP F_lay_while hr (ju (pv 0) (ju (pv 4) (ju (pv 5) jq))) (hk:=Nat.le_refl _)))) (jB (kR (yN PySem.F.plainAttrs_list PySem.F.slot_list_append PySem.F.type_list_append kF (pv 0) (ju (kD (ju kL (ju (pv 4) (ju (pv 5) jq)))) jq))))))))))),?_⟩
 obtain ⟨ba,bs,rfl,eb,hbs⟩:=(show ∃ a xs,vb=.ref a∧H a=some (.tup xs)∧HeldL H body xs by unfold Held at hb;exact hb)
 obtain ⟨pa,rfl,epa⟩:=JJ ha
 have hbl:=hbs.length
 refine ⟨_,rfl,ba,rfl,⟨_,SqT.of eb⟩,?_⟩
 refine YY (xs:=bs) (fun i σ G=>∃ (u3 u4 u5:Option V) (ss':List V),σ=[some (.ref sl),some (.ref ba),some (.ref pa),u3,u4,u5]∧(∀ b o,b≠sl→H b=some o→G b=some o)∧G sl=some (.lst ss')∧SO G (os++(kj (kJ f') os.length (body.take i) ar 0).map some) ss') ⟨none,none,none,ss,rfl,fun b o _ e=>e,hs,by rw [List.take_zero];unfold kj;rw [List.map_nil,List.append_nil];exact hO⟩ ?_ ?_ ?_
 ·rintro i σ G _ ⟨u3,u4,u5,ss',rfl,kG,_⟩
  exact SqT.of (kG _ _ (j4 eb hs (by intro z;cases z)) eb)
 ·rintro i y σ G t hy ⟨u3,u4,u5,ss',rfl,kG,eS,hSO⟩ ht
  have hi:i < body.length:=by have:=(List.getElem?_eq_some_iff.mp hy).1;omega
  have hst:body[i]?=some body[i]:=List.getElem?_eq_getElem hi
  have hF:=hfit _ (List.getElem_mem hi)
  obtain ⟨y',hy',hyH⟩:=hbs.get hst
  rw [hy] at hy'
  cases hy'
  have htake:=Z6 hst
  have hle:=ZE (S:=kJ f') (n:=os.length) (ar:=ar) hst
  generalize body[i]=st at *
  obtain ⟨kd,r,rfl⟩:=jeF hF
  have s1:=jj ht (.tup [V.int i,y])
  have tkG:TK H G:=fun b xs e=>kG _ _ (j4 e hs (by intro z;cases z)) e
  have e1:upd G t (.tup [V.int i,y]) t=some (.tup [V.int i,y]):=ja
  have eS1:=s1 _ _ eS
  have hy1:=(tkG.held hyH).mono s1
  have hSO1:=hSO.tk (TK.same s1)
  have hpa1:=s1 _ _ (tkG _ _ epa)
  have k1:∀ b o,b≠sl→H b=some o→upd G t (.tup [V.int i,y]) b=some o:=fun b o hb e=>s1 _ _ (kG b o hb e)
  generalize upd G t (.tup [V.int i,y])=G1 at *
  obtain ⟨ya,xs,rfl,eya,hr'⟩:=JR hy1
  refine ⟨t,_,rfl,SqT.of e1,rfl,_,_,rfl,_,_,rfl,rfl,?_⟩
  refine ⟨_,rfl,_,rfl,sm rfl,fun c hc=>?_⟩
  have s2:=jj hc (.tup [V.int i])
  have e2:upd G1 c (.tup [V.int i]) c=some (.tup [V.int i]):=ja
  generalize upd G1 c (.tup [V.int i])=G2 at *
  refine ⟨pa,c,_,_,rfl,rfl,s2 _ _ hpa1,e2,zG (by rw [List.length_map,List.length_singleton];omega),fun pp G3 s3 epp=>?_⟩
  have s13:=s2.trans s3
  have hpp:Held G3 (kW (ar++[(i:Int)])) (.ref pp):=qx (by rw [List.map_append];exact epp)
  have eya3:=s13 _ _ eya
  have eS3:=s13 _ _ eS1
  have hst3:=hy1.mono s13
  have hSO3:=hSO1.tk (TK.same s13)
  have k3:∀ b o,b≠sl→H b=some o→G3 b=some o:=fun b o hb e=>s13 _ _ (k1 b o hb e)
  have hl3:(os++(kj (kJ f') os.length (body.take i) ar 0).map some).length=os.length+(kj (kJ f') os.length (body.take i) ar 0).length:=by rw [List.length_append,List.length_map]
  clear s1 s2 s3 s13 e1 e2 eS1 hy1 hSO1 hpa1 k1 hr' eya epp
  have fin:∀ G4 ss4,(∀ b o,b≠sl→G3 b=some o→G4 b=some o)→G4 sl=some (.lst ss4)→SO G4 ((os++(kj (kJ f') os.length (body.take i) ar 0).map some)++(kJ f' (os++(kj (kJ f') os.length (body.take i) ar 0).map some).length (.tup (.str kd :: r)) (ar++[(i:Int)])).map some) ss4→∀ σ,σ=[some (.ref sl),some (.ref ba),some (.ref pa),some (.int i),some (.ref ya),some (.ref pp)]→∃ (u3 u4 u5:Option V) (ss':List V),σ=[some (.ref sl),some (.ref ba),some (.ref pa),u3,u4,u5]∧(∀ b o,b≠sl→H b=some o→G4 b=some o)∧G4 sl=some (.lst ss')∧SO G4 (os++(kj (kJ f') os.length (body.take (i+1)) ar 0).map some) ss':=by
   intro G4 ss4 k4 e4 h4 σ hσ
   refine ⟨_,_,_,ss4,hσ,fun b o hb e=>k4 b o hb (k3 b o hb e),e4,?_⟩
   rw [htake,Jp,jaD,List.map_append,← List.append_assoc,Nat.zero_add,List.length_take,Nat.min_eq_left (by omega)]
   rw [hl3] at h4
   exact h4
  refine ⟨_,rfl,ya,_,_,_,rfl,rfl,SqT.of eya3,jcs,rfl,_,rfl,j7 (fun d=>?_) (fun d=>?_)⟩
  ·have hk:kd = "if":=by have:=of_decide_eq_true d;injection this
   subst hk
   refine ⟨_,rfl,_,rfl,_,rfl,sl,_,_,ss',_,_,r,ar++[(i:Int)],rfl,rfl,eS3,hSO3,hst3,hpp,hF,by rw [hl3];omega,by rw [List.length_append,List.length_singleton];omega,fun G4 ss4 k4 e4 h4=>?_⟩
   exact fin G4 ss4 k4 e4 h4 _ rfl
  ·have hk1:kd≠"if":=fun e=>d (decide_eq_true (by rw [e]))
   refine ⟨_,rfl,ya,_,_,_,rfl,rfl,SqT.of eya3,jcs,rfl,_,rfl,j7 (fun d=>?_) (fun d=>?_)⟩
   ·have hk:kd = "while":=by have:=of_decide_eq_true d;injection this
    subst hk
    refine ⟨_,rfl,_,rfl,_,rfl,sl,_,_,ss',_,_,r,ar++[(i:Int)],rfl,rfl,eS3,hSO3,hst3,hpp,hF,by rw [hl3];omega,by rw [List.length_append,List.length_singleton];omega,fun G4 ss4 k4 e4 h4=>?_⟩
    exact fin G4 ss4 k4 e4 h4 _ rfl
   ·have hk2:kd≠"while":=fun e=>d (decide_eq_true (by rw [e]))
    obtain ⟨f'',rfl⟩:∃ f'',f'=f''+1:=by
     cases f' with
     | zero=>exact hF.elim
     | succ f''=>exact ⟨f'',rfl⟩
    refine ⟨_,rfl,.inl ⟨rfl,_,SqL.of eS3⟩,_,rfl,_,rfl,sm rfl,fun nw hnw=>?_⟩
    have s4:=jj hnw (.tup [V.str "do",V.ref ya,V.ref pp])
    have e4:upd G3 nw (.tup [V.str "do",V.ref ya,V.ref pp]) nw=some (.tup [V.str "do",V.ref ya,V.ref pp]):=ja
    have eS4:=s4 _ _ eS3
    have hst4:=hst3.mono s4
    have hpp4:=hpp.mono s4
    have hSO4:=hSO3.tk (TK.same s4)
    have hll:=hSO3.length
    generalize upd G3 nw (.tup [V.str "do",V.ref ya,V.ref pp])=G4 at *
    refine ⟨sl,_,_,rfl,rfl,eS4,jz (by omega),?_⟩
    have tk5:TK G4 (upd G4 sl (.lst (ss'++[.ref nw]))):=TK.upd eS4 (fun _ z=>by cases z)
    refine fin _ (ss'++[.ref nw]) (fun b o hb e=>by rw [jg hb];exact s4 _ _ e) ja ?_ _ rfl
    rw [ZD hk1 hk2]
    refine (hSO4.tk tk5).append (.tree ?_ .nil)
    exact jL (tk5 _ _ e4) (jf jD (jf (tk5.held hst4) (jf (tk5.held hpp4) jt)))
 ·rintro σ G ⟨u3,u4,u5,ss',rfl,kG,eS,hSO⟩
  rw [← hbl,List.take_length] at hSO
  exact q G ss' kG eS hSO
end
section
variable {P:Program} {w:World} {K:W.Frag} {mg:Str→Option Value} {base:Heap}
theorem jcU {k f':Nat} {f:Addr} {fd:FuncData} (F:Fun K "lay_if" "lay_if" zT f fd) (B:Free0 mg) (hk1:1≤k) (F_room:Fn P w K mg base 1 "room" ["steps"] Zf) (F_lay_body:Fn P w K mg base k "lay_body" ["steps","body","around"] (KG f')):FnOk P w K mg base CX0 (k+1) f fd ["steps","statement","path"] (JD "if" (f'+1)):=by
 have sc:FnScope ["steps","statement","path","least","body","other","ask","go"] ["steps","statement","path"] (jl zT):=fs
 refine F.ok sc (fun vs H Q E h=>?_) (fun cdv A outer s H vs Q E hr h=>?_)
 ·obtain ⟨sl,vb,va,ss,os,st,r,p,rfl,_⟩:=h
  rfl
 obtain ⟨sl,vb,va,ss,os,st,r,p,rfl,rfl,hs,hO,hb,ha,hF,hlen,hp,q⟩:=h
 obtain ⟨least,b,o,rfl,hfb,hfo⟩:=jhg hF
 rw [ZC] at hlen q
 obtain ⟨sa,xs,rfl,esa,hxs⟩:=JR hb
 obtain ⟨vl,vb,vo,rfl,hl,hvb,hvo⟩:=jgr hxs
 obtain ⟨pa,rfl,epa⟩:=JJ ha
 refine ⟨_,(jo (zr (zL zC (pv 1) (yE jm) yF) (qO rfl (jU (jS (i:=3) sc.nd rfl ol) (jU (jS (i:=4) sc.nd rfl ol) (jU (jS (i:=5) sc.nd rfl ol) qp)))))
   (jo (jW (i:=6) sc.nd rfl ol (kP F_room hr (ju (pv 0) jq) (hk:=hk1)))
   (jo (kR (kP F_lay_body hr (ju (pv 0) (ju (pv 4) (ju (jy zM (pv 2) (kD (ju jm jq))) jq))) (hk:=Nat.le_refl _)))
   (jo (jW (i:=7) sc.nd rfl ol (kP F_room hr (ju (pv 0) jq) (hk:=hk1)))
   (jo (kR (kP F_lay_body hr (ju (pv 0) (ju (pv 5) (ju (jy zM (pv 2) (kD (ju jm jq))) jq))) (hk:=Nat.le_refl _)))
   (jo (zr (kD (ju kL (ju (pv 3) (ju (kD jq) (ju kL (ju (pv 2) (ju (jy jH (pv 6) jm) (ju (jy jH (pv 7) jm) jq)))))))) (KO (pv 0) (pv 6) ym))
   (jB (zr (kD (ju kL (ju (Jo j9 (by rfl) B.len_ q5 (ju (pv 0) jq)) jq))) (KO (pv 0) (pv 7) ym))))))))),?_⟩
 have hos:=hO.length
 refine ⟨_,rfl,_,rfl,sa,_,rfl,SqT.of esa,(fun h=>absurd h.1 (by show ¬ (HT.sIx 4 0 (some 1)=0);decide)),fun t ht=>?_⟩
 rw [show qZ [V.str "if",vl,vb,vo] (some 1) none=[vl,vb,vo] from rfl]
 have s1:=jj ht (.tup [vl,vb,vo])
 have e1:upd H t (.tup [vl,vb,vo]) t=some (.tup [vl,vb,vo]):=ja
 have eS1:=s1 _ _ hs
 have hO1:=hO.tk (TK.same s1)
 have epa1:=s1 _ _ epa
 have hl1:=hl.mono s1
 have hvb1:=hvb.mono s1
 have hvo1:=hvo.mono s1
 have k1:∀ b o,b≠sl→H b=some o→upd H t (.tup [vl,vb,vo]) b=some o:=fun b o _ e=>s1 _ _ e
 generalize upd H t (.tup [vl,vb,vo])=H1 at *
 clear s1
 refine ⟨t,_,rfl,SqT.of e1,rfl,_,_,rfl,_,_,rfl,_,_,rfl,rfl,?_⟩
 clear e1
 refine ⟨_,rfl,sl,ss,rfl,eS1,by omega,?_⟩
 have tk2:TK H1 (upd H1 sl (.lst (ss++[.non]))):=TK.upd eS1 (fun _ z=>by cases z)
 have eS2:upd H1 sl (.lst (ss++[.non])) sl=some (.lst (ss++[.non])):=ja
 have k2:∀ b o,b≠sl→H b=some o→upd H1 sl (.lst (ss++[.non])) b=some o:=fun b o hb e=>by rw [jg hb];exact k1 b o hb e
 have hO2:=(hO1.tk tk2).append (.non .nil)
 have epa2:=tk2 _ _ epa1
 have hl2:=tk2.held hl1
 have hvb2:=tk2.held hvb1
 have hvo2:=tk2.held hvo1
 generalize upd H1 sl (.lst (ss++[.non]))=H2 at *
 clear tk2 eS1 hO1 epa1 hl1 hvb1 hvo1 k1
 refine ⟨_,rfl,_,rfl,_,rfl,sm rfl,fun c hc=>?_⟩
 have s3:=jj hc (.tup [V.int 0])
 have e3:upd H2 c (.tup [V.int 0]) c=some (.tup [V.int 0]):=ja
 generalize upd H2 c (.tup [V.int 0])=H3 at *
 refine ⟨pa,c,_,_,rfl,rfl,s3 _ _ epa2,e3,zG (by rw [List.length_map,List.length_singleton];omega),fun pp H4 s4 epp=>?_⟩
 have s24:=s3.trans s4
 have hpp:Held H4 (kW (p++[0])) (.ref pp):=qx (by rw [List.map_append];exact epp)
 have hlo:(os++[none]).length=os.length+1:=by rw [List.length_append,List.length_singleton]
 have hlif:(YQ (kJ f') os.length least b o p).length=1+(kj (kJ f') (os.length+1) b (p++[0]) 0).length+1+(kj (kJ f') (os.length+1+(kj (kJ f') (os.length+1) b (p++[0]) 0).length+1) o (p++[1]) 0).length:=by
  unfold YQ
  rw [List.length_append,List.length_cons,List.length_cons]
  omega
 refine ⟨sl,_,_,ss++[.non],os++[none],b,p++[0],rfl,s24 _ _ eS2,hO2.tk (TK.same s24),hvb2.mono s24,hpp,hfb,by rw [hlo];omega,by rw [List.length_append,List.length_singleton];omega,fun H5 ss5 k5 eS5 hO5=>?_⟩
 rw [hlo] at hO5
 have k5':∀ b o,b≠sl→H2 b=some o→H5 b=some o:=fun b o hb e=>k5 b o hb (s24 _ _ e)
 have tk5:TK H2 H5:=fun b xs e=>k5' b _ (j4 e eS2 (by intro z;cases z)) e
 have kH5:∀ b o,b≠sl→H b=some o→H5 b=some o:=fun b o hb e=>k5' b o hb (k2 b o hb e)
 have epa5:=tk5 _ _ epa2
 have hl5:=tk5.held hl2
 have hvo5:=tk5.held hvo2
 clear s3 s4 s24 e3 hpp epp k5 k5' tk5 hO2 eS2 epa2 hl2 hvb2 hvo2 k2 hc
 generalize hB:kj (kJ f') (os.length+1) b (p++[0]) 0=Bs at *
 have hl5n:=hO5.length
 rw [List.length_append,hlo,List.length_map] at hl5n
 refine ⟨_,rfl,sl,ss5,rfl,eS5,by omega,?_⟩
 have tk6:TK H5 (upd H5 sl (.lst (ss5++[.non]))):=TK.upd eS5 (fun _ z=>by cases z)
 have eS6:upd H5 sl (.lst (ss5++[.non])) sl=some (.lst (ss5++[.non])):=ja
 have k6:∀ b o,b≠sl→H b=some o→upd H5 sl (.lst (ss5++[.non])) b=some o:=fun b o hb e=>by rw [jg hb];exact kH5 b o hb e
 have hO6:=(hO5.tk tk6).append (.non .nil)
 have epa6:=tk6 _ _ epa5
 have hl6:=tk6.held hl5
 have hvo6:=tk6.held hvo5
 generalize upd H5 sl (.lst (ss5++[.non]))=H6 at *
 clear tk6 eS5 hO5 epa5 hl5 hvo5 kH5
 refine ⟨_,rfl,_,rfl,_,rfl,sm rfl,fun c hc=>?_⟩
 have s7:=jj hc (.tup [V.int 1])
 have e7:upd H6 c (.tup [V.int 1]) c=some (.tup [V.int 1]):=ja
 generalize upd H6 c (.tup [V.int 1])=H7 at *
 refine ⟨pa,c,_,_,rfl,rfl,s7 _ _ epa6,e7,zG (by rw [List.length_map,List.length_singleton];omega),fun pp H8 s8 epp=>?_⟩
 have s68:=s7.trans s8
 have hpp:Held H8 (kW (p++[1])) (.ref pp):=qx (by rw [List.map_append];exact epp)
 have hlo2:(os++[none]++Bs.map some++[none]).length=os.length+1+Bs.length+1:=by rw [List.length_append,List.length_append,hlo,List.length_map,List.length_singleton]
 refine ⟨sl,_,_,ss5++[.non],os++[none]++Bs.map some++[none],o,p++[1],rfl,s68 _ _ eS6,hO6.tk (TK.same s68),hvo6.mono s68,hpp,hfo,by rw [hlo2];omega,by rw [List.length_append,List.length_singleton];omega,fun H9 ss9 k9 eS9 hO9=>?_⟩
 rw [hlo2] at hO9
 have k9':∀ b o,b≠sl→H6 b=some o→H9 b=some o:=fun b o hb e=>k9 b o hb (s68 _ _ e)
 have tk9:TK H6 H9:=fun b xs e=>k9' b _ (j4 e eS6 (by intro z;cases z)) e
 have kH9:∀ b o,b≠sl→H b=some o→H9 b=some o:=fun b o hb e=>k9' b o hb (k6 b o hb e)
 have epa9:=tk9 _ _ epa6
 have hl9:=tk9.held hl6
 clear s7 s8 s68 e7 hpp epp k9 k9' tk9 hO6 eS6 epa6 hl6 hvo6 k6 hc
 generalize hOs:kj (kJ f') (os.length+1+Bs.length+1) o (p++[1]) 0=Os at *
 have hl9n:=hO9.length
 rw [List.length_append,hlo2,List.length_map] at hl9n
 refine ⟨_,rfl,sm rfl,fun e he=>?_⟩
 have sa1:=jj he (.tup [])
 have ee:upd H9 e (.tup []) e=some (.tup []):=ja
 generalize upd H9 e (.tup [])=G1 at *
 refine ⟨_,rfl,_,rfl,_,_,rfl,rfl,_,rfl,_,_,rfl,rfl,sm rfl,fun nw hnw=>?_⟩
 have sa2:=jj hnw (.tup [V.str "ask",vl,.ref e,V.str "",.ref pa,V.int (ss.length+1),V.int (ss5.length+1)])
 have en:upd G1 nw (.tup [V.str "ask",vl,.ref e,V.str "",.ref pa,V.int (ss.length+1),V.int (ss5.length+1)]) nw=some (.tup [V.str "ask",vl,.ref e,V.str "",.ref pa,V.int (ss.length+1),V.int (ss5.length+1)]):=ja
 generalize upd G1 nw (.tup [V.str "ask",vl,.ref e,V.str "",.ref pa,V.int (ss.length+1),V.int (ss5.length+1)])=G2 at *
 have s92:=sa1.trans sa2
 have eS2:=s92 _ _ eS9
 refine ⟨_,rfl,_,rfl,sl,_,_,ss.length,rfl,rfl,eS2,K3 (by omega),?_⟩
 have hask:Held G2 (Ym least (.tup []) "" p (os.length+1) (os.length+1+Bs.length+1)) (.ref nw):=by
  refine jL en (jf jD (jf (hl9.mono s92) (jf (jL (sa2 _ _ ee) jt) (jf jD (jf (qx (s92 _ _ epa9)) (jf ?_ (jf ?_ jt)))))))
  ·rw [hos];exact jM
  ·rw [hl5n];exact jM
 have tk3:TK G2 (upd G2 sl (.lst (ss9.set ss.length (.ref nw)))):=TK.upd eS2 (fun _ z=>by cases z)
 have eS3:upd G2 sl (.lst (ss9.set ss.length (.ref nw))) sl=some (.lst (ss9.set ss.length (.ref nw))):=ja
 have k3:∀ b o,b≠sl→H b=some o→upd G2 sl (.lst (ss9.set ss.length (.ref nw))) b=some o:=fun b o hb z=>by rw [jg hb];exact s92 _ _ (kH9 b o hb z)
 have hO3:=((hO9.tk (TK.same s92)).tk tk3).set (tk3.held hask) ss.length
 generalize upd G2 sl (.lst (ss9.set ss.length (.ref nw)))=G3 at *
 clear sa1 sa2 s92 ee en eS2 hask tk3 hO9 eS9 kH9 hl9 epa9
 refine ⟨_,rfl,sl,_,rfl,.inl (SqL.of eS3),sm rfl,fun nw2 hnw2=>?_⟩
 rw [List.length_set]
 have sa4:=jj hnw2 (.tup [V.str "go",V.int ss9.length])
 have en4:upd G3 nw2 (.tup [V.str "go",V.int ss9.length]) nw2=some (.tup [V.str "go",V.int ss9.length]):=ja
 generalize upd G3 nw2 (.tup [V.str "go",V.int ss9.length])=G4 at *
 have eS4:=sa4 _ _ eS3
 refine ⟨_,rfl,_,rfl,sl,_,_,ss5.length,rfl,rfl,eS4,K3 (by rw [List.length_set];omega),?_⟩
 have tk5:TK G4 (upd G4 sl (.lst ((ss9.set ss.length (.ref nw)).set ss5.length (.ref nw2)))):=TK.upd eS4 (fun _ z=>by cases z)
 have hgo:Held G4 (.tup [.str "go",.int ((os.length+1+Bs.length+1+Os.length:Nat):Int)]) (.ref nw2):=jL en4 (jf jD (jf (by rw [hl9n];exact jM) jt))
 have hO5:=((hO3.tk (TK.same sa4)).tk tk5).set (tk5.held hgo) ss5.length
 refine q _ _ (fun b o hb z=>?_) ja ?_
 ·rw [jg hb];exact sa4 _ _ (k3 b o hb z)
 ·unfold YQ
  rw [hB]
  dsimp only
  rw [hOs]
  have e1:os++[none]++Bs.map some++[none]++Os.map some=os++none :: (Bs.map some++none :: Os.map some):=by simp
  rw [e1,Kk hos.symm] at hO5
  have e2:∀ x:Option D,os++x :: (Bs.map some++none :: Os.map some)=(os++x :: Bs.map some)++none :: Os.map some:=fun x=>by simp
  rw [e2,Kk (by rw [List.length_append,List.length_cons,List.length_map];omega)] at hO5
  rw [List.map_append,List.map_cons,List.map_cons,← List.append_assoc]
  exact hO5
end
section
variable {P:Program} {w:World} {K:W.Frag} {mg:Str→Option Value} {base:Heap}
theorem Zp {k f':Nat} {f:Addr} {fd:FuncData} (F:Fun K "lay_while" "lay_while" qu f fd) (B:Free0 mg) (hk1:1≤k) (F_room:Fn P w K mg base 1 "room" ["steps"] Zf) (F_lay_body:Fn P w K mg base k "lay_body" ["steps","body","around"] (KG f')):FnOk P w K mg base CX0 (k+1) f fd ["steps","statement","path"] (JD "while" (f'+1)):=by
 have sc:FnScope ["steps","statement","path","least","keeps","body","enter","again"] ["steps","statement","path"] (jl qu):=fs
 refine F.ok sc (fun vs H Q E h=>?_) (fun cdv A outer s H vs Q E hr h=>?_)
 ·obtain ⟨sl,vb,va,ss,os,st,r,p,rfl,_⟩:=h
  rfl
 obtain ⟨sl,vb,va,ss,os,st,r,p,rfl,rfl,hs,hO,hb,ha,hF,hlen,hp,q⟩:=h
 obtain ⟨least,ks,b,rfl,hfb⟩:=jdd hF
 rw [jcb] at hlen q
 obtain ⟨sa,xs,rfl,esa,hxs⟩:=JR hb
 obtain ⟨vl,vk,vb,rfl,hl,hvk,hvb⟩:=jgr hxs
 obtain ⟨pa,rfl,epa⟩:=JJ ha
 refine ⟨_,(jo (zr (zL zC (pv 1) (yE jm) yF) (qO rfl (jU (jS (i:=3) sc.nd rfl ol) (jU (jS (i:=4) sc.nd rfl ol) (jU (jS (i:=5) sc.nd rfl ol) qp)))))
   (jo (kR (yN PySem.F.plainAttrs_list PySem.F.slot_list_append PySem.F.type_list_append kF (pv 0) (ju (kD (ju kL jq)) jq)))
   (jo (jW (i:=6) sc.nd rfl ol (kP F_room hr (ju (pv 0) jq) (hk:=hk1)))
   (jo (kR (kP F_lay_body hr (ju (pv 0) (ju (pv 5) (ju (jy zM (pv 2) (kD (ju jm jq))) jq))) (hk:=Nat.le_refl _)))
   (jo (jW (i:=7) sc.nd rfl ol (kP F_room hr (ju (pv 0) jq) (hk:=hk1)))
   (jo (zr (kD (ju kL (ju (pv 3) (ju (pv 4) (ju kL (ju (pv 2) (ju (jy jH (pv 6) jm) (ju (jy jH (pv 7) jm) jq)))))))) (KO (pv 0) (pv 6) ym))
   (jB (zr (kD (ju kL (ju (pv 3) (ju (pv 4) (ju kL (ju (pv 2) (ju (jy jH (pv 6) jm) (ju (jy jH (pv 7) jm) jq)))))))) (KO (pv 0) (pv 7) ym))))))))),?_⟩
 have hos:=hO.length
 have h3:3≤(J6 (kJ f') os.length least (.tup ks) b p).length:=by
  unfold J6
  rw [List.length_append,List.length_cons,List.length_cons,List.length_singleton]
  omega
 refine ⟨_,rfl,_,rfl,sa,_,rfl,SqT.of esa,(fun h=>absurd h.1 (by show ¬ (HT.sIx 4 0 (some 1)=0);decide)),fun t ht=>?_⟩
 rw [show qZ [V.str "while",vl,vk,vb] (some 1) none=[vl,vk,vb] from rfl]
 have s1:=jj ht (.tup [vl,vk,vb])
 have e1:upd H t (.tup [vl,vk,vb]) t=some (.tup [vl,vk,vb]):=ja
 have eS1:=s1 _ _ hs
 have hO1:=hO.tk (TK.same s1)
 have epa1:=s1 _ _ epa
 have hl1:=hl.mono s1
 have hvk1:=hvk.mono s1
 have hvb1:=hvb.mono s1
 have k1:∀ b o,b≠sl→H b=some o→upd H t (.tup [vl,vk,vb]) b=some o:=fun b o _ e=>s1 _ _ e
 generalize upd H t (.tup [vl,vk,vb])=H1 at *
 clear s1
 refine ⟨t,_,rfl,SqT.of e1,rfl,_,_,rfl,_,_,rfl,_,_,rfl,rfl,?_⟩
 clear e1
 refine ⟨_,rfl,.inl ⟨rfl,_,SqL.of eS1⟩,sm rfl,fun cm hcm=>?_⟩
 have sc1:=jj hcm (.tup [V.str "come"])
 have ecm:upd H1 cm (.tup [V.str "come"]) cm=some (.tup [V.str "come"]):=ja
 generalize upd H1 cm (.tup [V.str "come"])=G1 at *
 have eSc:=sc1 _ _ eS1
 refine ⟨sl,_,_,rfl,rfl,eSc,jz (by omega),?_⟩
 have tkc:TK G1 (upd G1 sl (.lst (ss++[.ref cm]))):=TK.upd eSc (fun _ z=>by cases z)
 have tkc2:TK H1 (upd G1 sl (.lst (ss++[.ref cm]))):=(TK.same sc1).trans tkc
 have eS1':upd G1 sl (.lst (ss++[.ref cm])) sl=some (.lst (ss++[.ref cm])):=ja
 have k1':∀ b o,b≠sl→H b=some o→upd G1 sl (.lst (ss++[.ref cm])) b=some o:=fun b o hb e=>by rw [jg hb];exact sc1 _ _ (k1 b o hb e)
 have hO1':=(hO1.tk tkc2).append (.tree (jL (tkc _ _ ecm) (jf (jD (x:="come")) jt)) .nil)
 have epa1':=tkc2 _ _ epa1
 have hl1':=tkc2.held hl1
 have hvk1':=tkc2.held hvk1
 have hvb1':=tkc2.held hvb1
 generalize upd G1 sl (.lst (ss++[.ref cm]))=G2 at *
 clear sc1 ecm eSc tkc tkc2 eS1 hO1 epa1 hl1 hvk1 hvb1 k1
 have hls1:(ss++[V.ref cm]).length=ss.length+1:=by rw [List.length_append,List.length_singleton]
 refine ⟨_,rfl,sl,_,rfl,eS1',by rw [hls1];omega,?_⟩
 have tk2:TK G2 (upd G2 sl (.lst (ss++[.ref cm]++[.non]))):=TK.upd eS1' (fun _ z=>by cases z)
 have eS2:upd G2 sl (.lst (ss++[.ref cm]++[.non])) sl=some (.lst (ss++[.ref cm]++[.non])):=ja
 have k2:∀ b o,b≠sl→H b=some o→upd G2 sl (.lst (ss++[.ref cm]++[.non])) b=some o:=fun b o hb e=>by rw [jg hb];exact k1' b o hb e
 have hO2:=(hO1'.tk tk2).append (.non .nil)
 have epa2:=tk2 _ _ epa1'
 have hl2:=tk2.held hl1'
 have hvk2:=tk2.held hvk1'
 have hvb2:=tk2.held hvb1'
 generalize upd G2 sl (.lst (ss++[.ref cm]++[.non]))=H2 at *
 clear tk2 eS1' hO1' epa1' hl1' hvk1' hvb1' k1'
 refine ⟨_,rfl,_,rfl,_,rfl,sm rfl,fun c hc=>?_⟩
 have s3:=jj hc (.tup [V.int 0])
 have e3:upd H2 c (.tup [V.int 0]) c=some (.tup [V.int 0]):=ja
 generalize upd H2 c (.tup [V.int 0])=H3 at *
 refine ⟨pa,c,_,_,rfl,rfl,s3 _ _ epa2,e3,zG (by rw [List.length_map,List.length_singleton];omega),fun pp H4 s4 epp=>?_⟩
 have s24:=s3.trans s4
 have hpp:Held H4 (kW (p++[0])) (.ref pp):=qx (by rw [List.map_append];exact epp)
 have hlo:(os++[some (D.tup [.str "come"])]++[none]).length=os.length+2:=by rw [List.length_append,List.length_append,List.length_singleton,List.length_singleton]
 have hlwh:(J6 (kJ f') os.length least (.tup ks) b p).length=2+(kj (kJ f') (os.length+2) b (p++[0]) 0).length+1:=by
  unfold J6
  rw [List.length_append,List.length_cons,List.length_cons,List.length_singleton]
  omega
 refine ⟨sl,_,_,_,os++[some (D.tup [.str "come"])]++[none],b,p++[0],rfl,s24 _ _ eS2,hO2.tk (TK.same s24),hvb2.mono s24,hpp,hfb,by rw [hlo];omega,by rw [List.length_append,List.length_singleton];omega,fun H5 ss5 k5 eS5 hO5=>?_⟩
 rw [hlo] at hO5
 have k5':∀ b o,b≠sl→H2 b=some o→H5 b=some o:=fun b o hb e=>k5 b o hb (s24 _ _ e)
 have tk5:TK H2 H5:=fun b xs e=>k5' b _ (j4 e eS2 (by intro z;cases z)) e
 have kH5:∀ b o,b≠sl→H b=some o→H5 b=some o:=fun b o hb e=>k5' b o hb (k2 b o hb e)
 have epa5:=tk5 _ _ epa2
 have hl5:=tk5.held hl2
 have hvk5:=tk5.held hvk2
 clear s3 s4 s24 e3 hpp epp k5 k5' tk5 hO2 eS2 epa2 hl2 hvb2 hvk2 k2 hc
 generalize hB:kj (kJ f') (os.length+2) b (p++[0]) 0=Bs at *
 have hl5n:=hO5.length
 rw [List.length_append,hlo,List.length_map] at hl5n
 refine ⟨_,rfl,sl,ss5,rfl,eS5,by omega,?_⟩
 have tk6:TK H5 (upd H5 sl (.lst (ss5++[V.non]))):=TK.upd eS5 (fun _ z=>by cases z)
 have eS9:upd H5 sl (.lst (ss5++[V.non])) sl=some (.lst (ss5++[V.non])):=ja
 have kH9:∀ b o,b≠sl→H b=some o→upd H5 sl (.lst (ss5++[V.non])) b=some o:=fun b o hb e=>by rw [jg hb];exact kH5 b o hb e
 have hO9:=(hO5.tk tk6).append (.non .nil)
 have epa9:=tk6 _ _ epa5
 have hl9:=tk6.held hl5
 have hvk9:=tk6.held hvk5
 generalize upd H5 sl (.lst (ss5++[V.non]))=H9 at *
 clear tk6 eS5 hO5 epa5 hl5 hvk5 kH5
 have hl9n:(ss5++[V.non]).length=ss5.length+1:=by rw [List.length_append,List.length_singleton]
 refine ⟨_,rfl,_,rfl,_,rfl,_,rfl,_,_,rfl,rfl,_,rfl,_,_,rfl,rfl,sm rfl,fun nw hnw=>?_⟩
 rw [hls1]
 have sa2:=jj hnw (.tup [V.str "ask",vl,vk,V.str "enter",.ref pa,V.int (((ss.length+1:Nat):Int)+1),V.int (ss5.length+1)])
 have en:upd H9 nw (.tup [V.str "ask",vl,vk,V.str "enter",.ref pa,V.int (((ss.length+1:Nat):Int)+1),V.int (ss5.length+1)]) nw=some (.tup [V.str "ask",vl,vk,V.str "enter",.ref pa,V.int (((ss.length+1:Nat):Int)+1),V.int (ss5.length+1)]):=ja
 generalize upd H9 nw (.tup [V.str "ask",vl,vk,V.str "enter",.ref pa,V.int (((ss.length+1:Nat):Int)+1),V.int (ss5.length+1)])=G2 at *
 have eS2:=sa2 _ _ eS9
 refine ⟨_,rfl,_,rfl,sl,_,_,ss.length+1,rfl,rfl,eS2,K3 (by rw [hl9n];omega),?_⟩
 have hask:Held G2 (Ym least (.tup ks) "enter" p (os.length+2) (os.length+2+Bs.length+1)) (.ref nw):=by
  refine jL en (jf jD (jf (hl9.mono sa2) (jf (hvk9.mono sa2) (jf jD (jf (qx (sa2 _ _ epa9)) (jf ?_ (jf ?_ jt)))))))
  ·rw [hos];exact jM
  ·rw [hl5n];exact jM
 have tk3:TK G2 (upd G2 sl (.lst ((ss5++[V.non]).set (ss.length+1) (.ref nw)))):=TK.upd eS2 (fun _ z=>by cases z)
 have eS3:upd G2 sl (.lst ((ss5++[V.non]).set (ss.length+1) (.ref nw))) sl=some (.lst ((ss5++[V.non]).set (ss.length+1) (.ref nw))):=ja
 have k3:∀ b o,b≠sl→H b=some o→upd G2 sl (.lst ((ss5++[V.non]).set (ss.length+1) (.ref nw))) b=some o:=fun b o hb z=>by rw [jg hb];exact sa2 _ _ (kH9 b o hb z)
 have hO3:=((hO9.tk (TK.same sa2)).tk tk3).set (tk3.held hask) (ss.length+1)
 have tk93:=(TK.same sa2).trans tk3
 have hl3:=tk93.held hl9
 have hvk3:=tk93.held hvk9
 have epa3:=tk93 _ _ epa9
 generalize upd G2 sl (.lst ((ss5++[V.non]).set (ss.length+1) (.ref nw)))=G3 at *
 clear sa2 en eS2 hask tk3 tk93 hO9 eS9 kH9 hl9 hvk9 epa9
 refine ⟨_,rfl,_,rfl,_,rfl,_,rfl,_,_,rfl,rfl,_,rfl,_,_,rfl,rfl,sm rfl,fun nw2 hnw2=>?_⟩
 have sa4:=jj hnw2 (.tup [V.str "ask",vl,vk,V.str "keep",.ref pa,V.int (((ss.length+1:Nat):Int)+1),V.int (ss5.length+1)])
 have en4:upd G3 nw2 (.tup [V.str "ask",vl,vk,V.str "keep",.ref pa,V.int (((ss.length+1:Nat):Int)+1),V.int (ss5.length+1)]) nw2=some (.tup [V.str "ask",vl,vk,V.str "keep",.ref pa,V.int (((ss.length+1:Nat):Int)+1),V.int (ss5.length+1)]):=ja
 generalize upd G3 nw2 (.tup [V.str "ask",vl,vk,V.str "keep",.ref pa,V.int (((ss.length+1:Nat):Int)+1),V.int (ss5.length+1)])=G4 at *
 have eS4:=sa4 _ _ eS3
 refine ⟨_,rfl,_,rfl,sl,_,_,ss5.length,rfl,rfl,eS4,K3 (by rw [List.length_set,hl9n];omega),?_⟩
 have tk5:TK G4 (upd G4 sl (.lst (((ss5++[V.non]).set (ss.length+1) (.ref nw)).set ss5.length (.ref nw2)))):=TK.upd eS4 (fun _ z=>by cases z)
 have hkeep:Held G4 (Ym least (.tup ks) "keep" p (os.length+2) (os.length+2+Bs.length+1)) (.ref nw2):=by
  refine jL en4 (jf jD (jf (hl3.mono sa4) (jf (hvk3.mono sa4) (jf jD (jf (qx (sa4 _ _ epa3)) (jf ?_ (jf ?_ jt)))))))
  ·rw [hos];exact jM
  ·rw [hl5n];exact jM
 have hO5:=((hO3.tk (TK.same sa4)).tk tk5).set (tk5.held hkeep) ss5.length
 refine q _ _ (fun b o hb z=>?_) ja ?_
 ·rw [jg hb];exact sa4 _ _ (k3 b o hb z)
 ·unfold J6
  rw [hB]
  dsimp only
  have e1:os++[some (D.tup [.str "come"])]++[none]++Bs.map some++[none]=(os++[some (D.tup [.str "come"])])++none :: (Bs.map some++[none]):=by simp
  have e2:∀ x:Option D,(os++[some (D.tup [.str "come"])])++x :: (Bs.map some++[none])=(os++some (D.tup [.str "come"]) :: x :: Bs.map some)++none :: []:=fun x=>by simp
  have eD:∀ x y:Option D,((os++[some (D.tup [.str "come"])]++[none]++Bs.map some++[none]).set (ss.length+1) x).set ss5.length y=(os++some (D.tup [.str "come"]) :: x :: Bs.map some)++y :: []:=fun x y=>by
   rw [e1,Kk (by rw [List.length_append,List.length_singleton];omega),e2,Kk (by rw [List.length_append,List.length_cons,List.length_cons,List.length_map];omega)]
  rw [eD] at hO5
  rw [List.map_append,List.map_cons,List.map_cons,← List.append_assoc]
  exact hO5
end
section
variable {P:Program} {w:World} {K:W.Frag} {mg:Str→Option Value} {base:Heap}
theorem jat {k f':Nat} {f:Addr} {fd:FuncData} (F:Fun K "steps_of" "steps_of" yB f fd) (F_lay_body:Fn P w K mg base k "lay_body" ["steps","body","around"] (KG f')):FnOk P w K mg base CX0 (k+1) f fd ["proc"] (jbW f'):=by
 have sc:FnScope ["proc","steps"] ["proc"] (jl yB):=fs
 refine F.ok sc (fun vs H Q E h=>?_) (fun cdv A outer s H vs Q E hr h=>?_)
 ·obtain ⟨pr,x0,x1,x2,x3,x4,x5,vb,body,rfl,_⟩:=h
  rfl
 obtain ⟨pr,x0,x1,x2,x3,x4,x5,vb,body,rfl,epr,hb,hf,hlen,h2,q⟩:=h
 refine ⟨_,(jo (jW (i:=1) sc.nd rfl ol (zt jq))
   (jo (kR (kP F_lay_body hr (ju (pv 1) (ju (kI jP (pv 0) jm (fun _ _=>rfl)) (ju (kD jq) jq))) (hk:=Nat.le_refl _)))
   (jB (km (pv 1))))),?_⟩
 refine ⟨sm rfl,fun sl hsl=>?_⟩
 have s1:=jj hsl (.lst [])
 have e1:upd H sl (.lst []) sl=some (.lst []):=ja
 generalize upd H sl (.lst [])=H1 at *
 refine ⟨_,rfl,_,rfl,pr,_,_,_,rfl,rfl,SqT.of (s1 _ _ epr),rfl,sm rfl,fun e he=>?_⟩
 have s2:=jj he (.tup [])
 have e2:upd H1 e (.tup []) e=some (.tup []):=ja
 generalize upd H1 e (.tup [])=H2 at *
 refine ⟨sl,_,_,[],[],body,[],rfl,s2 _ _ e1,.nil,(hb.mono s1).mono s2,qx e2,hf,by rw [List.length_nil,Nat.zero_add];exact hlen,by rw [List.length_nil,Nat.zero_add];exact h2,fun H3 ss k3 e3 h3=>?_⟩
 exact ⟨_,rfl,q sl ss H3 (fun b o z=>k3 b o (jk z hsl) (s2 _ _ (s1 _ _ z))) hsl e3 h3.heldL⟩
theorem jbr {f:Addr} {fd:FuncData} (F:Fun K "lay_if" "lay_if" zT f fd):FnOk P w K mg base CX0 1 f fd ["steps","statement","path"] (JD "if" 0):=by
 have sc:FnScope ["steps","statement","path","least","body","other","ask","go"] ["steps","statement","path"] (jl zT):=fs
 refine F.ok sc (fun vs H Q E h=>?_) (fun cdv A outer s H vs Q E hr h=>?_)
 ·obtain ⟨sl,vb,va,ss,os,st,r,p,rfl,_⟩:=h
  rfl
 obtain ⟨sl,vb,va,ss,os,st,r,p,rfl,rfl,hs,hO,hb,ha,hF,_⟩:=h
 exact hF.elim
theorem Yv {f:Addr} {fd:FuncData} (F:Fun K "lay_while" "lay_while" qu f fd):FnOk P w K mg base CX0 1 f fd ["steps","statement","path"] (JD "while" 0):=by
 have sc:FnScope ["steps","statement","path","least","keeps","body","enter","again"] ["steps","statement","path"] (jl qu):=fs
 refine F.ok sc (fun vs H Q E h=>?_) (fun cdv A outer s H vs Q E hr h=>?_)
 ·obtain ⟨sl,vb,va,ss,os,st,r,p,rfl,_⟩:=h
  rfl
 obtain ⟨sl,vb,va,ss,os,st,r,p,rfl,rfl,hs,hO,hb,ha,hF,_⟩:=h
 exact hF.elim
theorem JN {f1 f2 f3:Addr} {fd1 fd2 fd3:FuncData} (B:Free0 mg) (Z_enumerate:mg "enumerate" = none) (U1:Fun K "lay_body" "lay_body" zJ f1 fd1) (b1:Binds K fd1 ["steps","body","around"] []) (m1:mg "lay_body" = some (.ref f1))
  (U2:Fun K "lay_if" "lay_if" zT f2 fd2) (b2:Binds K fd2 ["steps","statement","path"] []) (m2:mg "lay_if" = some (.ref f2)) (U3:Fun K "lay_while" "lay_while" qu f3 fd3) (b3:Binds K fd3 ["steps","statement","path"] []) (m3:mg "lay_while" = some (.ref f3))
  (F_room:Fn P w K mg base 1 "room" ["steps"] Zf):∀ n,Fn P w K mg base (2 * n+2) "lay_body" ["steps","body","around"] (KG n)
 | 0=>Fn.mk' U1 b1 m1 (J3 U1 B Z_enumerate (Fn.mk' U2 b2 m2 (jbr U2)) (Fn.mk' U3 b3 m3 (Yv U3)))
 | n+1=>Fn.mk' U1 b1 m1 (J3 U1 B Z_enumerate (Fn.mk' U2 b2 m2 (jcU U2 B (by omega) F_room (JN B Z_enumerate U1 b1 m1 U2 b2 m2 U3 b3 m3 F_room n))) (Fn.mk' U3 b3 m3 (Zp U3 B (by omega) F_room (JN B Z_enumerate U1 b1 m1 U2 b2 m2 U3 b3 m3 F_room n))))
end
abbrev Kl:Stmt:=top 1
abbrev Zl:Stmt:=top 2
abbrev Jh:Stmt:=top 3
abbrev zb:Stmt:=top 4
section
variable {P:Program} {w:World} {K:W.Frag} {mg:Str→Option Value} {base:Heap}
theorem jeh {f:Addr} {fd:FuncData} (F:Fun K "steps_up_to" "steps_up_to" zb f fd) (B:Free0 mg):FnOk P w K mg base CX0 1 f fd ["steps","p"] (jbc K):=by
 have sc:FnScope ["steps","p","low","high","middle"] ["steps","p"] (jl zb):=fs
 refine F.ok sc (fun vs H Q E h=>?_) (fun cdv A outer s H vs Q E hr h=>?_)
 ·obtain ⟨b,p,qs,ps,rfl,_⟩:=h
  rfl
 obtain ⟨b,p,qs,ps,rfl,hb,hq,hR,hl,q⟩:=h
 refine ⟨_,(jo (jW (i:=2) sc.nd rfl ol jm)
   (jo (jW (i:=3) sc.nd rfl ol (Jo j9 (by rfl) B.len_ q5 (ju (pv 0) jq)))
   (jo (jam PassesOwn.never (kE jas (pv 2) (pv 3) (jJ _)) (jo (jW (i:=4) sc.nd rfl ol (jy kN (jy jH (pv 2) (pv 3)) jm))
   (jB (qV (kE jb6 (kI jP (kI jP (pv 0) (pv 4) (fun _ _=>rfl)) jm (fun _ _=>rfl)) (pv 1) (jJ _)) (jB (jW (i:=2) sc.nd rfl ol (jy jH (pv 4) jm))) (jB (jW (i:=3) sc.nd rfl ol (pv 4)))))))
   (jB (km (pv 2)))))),?_⟩
 refine ⟨_,rfl,b,_,rfl,.inr hb,?_⟩
 have hlen:=hq.1
 refine jdz (fun σ H1=>∃ (lo hi:Nat) (v:Option V),σ=[some (.ref b),some (.int p),some (.int lo),some (.int hi),v]∧H1=H∧lo≤hi∧hi≤ps.length∧(∀ i (h:i < ps.length),i < lo→ps[i].1≤p)∧∀ i (h:i < ps.length),hi≤i→p < ps[i].1)
  (fun σ _=>match σ with | [_,_,some (.int lo),some (.int hi),_]=>(hi - lo).toNat | _=>0) ?_ ?_ ?_
 ·exact ⟨0,ps.length,none,by rw [hlen];rfl,rfl,Nat.zero_le _,Nat.le_refl _,fun i _ h=>by omega,fun i h h'=>by omega⟩
 ·rintro σ H1 ⟨lo,hi,v,rfl,rfl,h1,h2,h3,h4⟩
  refine ⟨_,rfl,_,rfl,_,_,rfl,rfl,_,rfl,?_⟩
  refine j7 (fun c=>?_) (fun c=>?_)
  ·have c':lo < hi:=by
    have:=of_decide_eq_true c
    omega
   have hm:(((lo:Int)+(hi:Int)) / 2)=(((lo+hi) / 2:Nat):Int):=by omega
   refine ⟨_,rfl,_,rfl,_,_,rfl,rfl,_,_,rfl,rfl,⟨by decide,by decide⟩,?_⟩
   dsimp only
   rw [hm]
   have hmid:(lo+hi) / 2 < ps.length:=by omega
   generalize hg:(lo+hi) / 2=mid at *
   obtain ⟨c1,e1,e2⟩:=hq.2 mid hmid
   refine ⟨_,rfl,_,rfl,b,_,_,_,rfl,rfl,hb,ze e1,c1,_,_,_,rfl,rfl,e2,rfl,_,rfl,_,_,rfl,rfl,_,rfl,?_⟩
   refine j7 (fun d=>?_) (fun d=>?_)
   ·have d':=of_decide_eq_true d
    refine ⟨_,rfl,_,_,rfl,rfl,⟨mid+1,hi,_,rfl,rfl,by omega,h2,fun i hi' hlt=>?_,h4⟩,?_⟩
    ·exact Int.le_trans (YK hR hi' hmid (by omega)) d'
    ·show ((hi:Int) - ((mid:Int)+1)).toNat < ((hi:Int) - (lo:Int)).toNat
     omega
   ·have d':p < ps[mid].1:=by
     have:¬ ps[mid].1≤p:=fun z=>d (decide_eq_true z)
     omega
    refine ⟨_,rfl,⟨lo,mid,_,rfl,rfl,by omega,by omega,h3,fun i hi' hlt=>?_⟩,?_⟩
    ·exact Int.lt_of_lt_of_le d' (YK hR hmid hi' hlt)
    ·show ((mid:Int) - (lo:Int)).toNat < ((hi:Int) - (lo:Int)).toNat
     omega
  ·have c':¬ lo < hi:=fun z=>c (decide_eq_true (by omega))
   refine ⟨_,rfl,q lo ⟨by omega,h3,fun i h h'=>h4 i h (by omega)⟩⟩
 ·intro σ H1 Q1 Q2 hm h
  obtain ⟨v1,e1,v2,e2,i,j,e3,e4,k,e5,h⟩:=h
  exact ⟨v1,e1,v2,e2,i,j,e3,e4,k,e5,hm _ _ h⟩
theorem jel {f:Addr} {fd:FuncData} (F:Fun K "entry" "entry" Zl f fd) (F_steps_up_to:Fn P w K mg base 1 "steps_up_to" ["steps","p"] (jbc K)):FnOk P w K mg base CX0 2 f fd ["row","p"] (Zi K):=by
 have sc:FnScope ["row","p","base","steps","count"] ["row","p"] (jl Zl):=fs
 refine F.ok sc (fun vs H Q E h=>?_) (fun cdv A outer s H vs Q E hr h=>?_)
 ·obtain ⟨v,p,r,rfl,_⟩:=h
  rfl
 obtain ⟨v,p,r,rfl,hv,⟨hR,hl⟩,q⟩:=h
 obtain ⟨a,b,qs,rfl,ha,hb,hq⟩:=hv.ex
 refine ⟨_,(jo (zr (pv 0) (qO rfl (jU (jS (i:=2) sc.nd rfl ol) (jU (jS (i:=3) sc.nd rfl ol) qp))))
   (jo (jW (i:=4) sc.nd rfl ol (kP F_steps_up_to hr (ju (pv 3) (ju (pv 1) jq))))
   (jo (qV (kE kX (pv 4) jm (jJ _)) (jB (km (pv 2))) qe)
   (jB (km (kI jP (kI jP (pv 3) (jy qY (pv 4) jm) (fun _ _=>rfl)) jm (fun _ _=>rfl))))))),?_⟩
 refine ⟨_,rfl,a,_,rfl,ha,rfl,_,_,rfl,_,_,rfl,rfl,?_⟩
 refine ⟨_,rfl,_,rfl,b,p,qs,r.2,rfl,hb,hq,hR,hl,fun c hc=>?_⟩
 rw [jeE hc] at q
 refine ⟨_,rfl,rfl,_,rfl,j7 (fun d=>?_) (fun d=>?_)⟩
 ·have d':c=0:=by
   have:=of_decide_eq_true d
   injection this with this
   omega
  rw [if_pos d'] at q
  exact ⟨_,rfl,q⟩
 ·have d':¬ c=0:=fun z=>d (decide_eq_true (by rw [z];rfl))
  rw [if_neg d'] at q
  have hlt:c - 1 < r.2.length:=by have:=hc.1;omega
  obtain ⟨c1,e1,e2⟩:=hq.2 (c - 1) hlt
  have ei:((c:Int) - 1)=((c - 1:Nat):Int):=by omega
  rw [List.getD_eq_getElem?_getD,List.getElem?_eq_getElem hlt] at q
  refine ⟨_,rfl,_,rfl,_,_,rfl,rfl,b,_,_,_,rfl,rfl,hb,(by rw [ei];exact ze e1),c1,_,_,_,rfl,rfl,e2,rfl,?_⟩
  exact q
theorem jcS {f:Addr} {fd:FuncData} (F:Fun K "stairs" "stairs" Kl f fd) (B:Free0 mg):FnOk P w K mg base CX0 1 f fd ["base","pairs"] (Z8 K):=by
 have sc:FnScope ["base","pairs","steps","ahead","place","value"] ["base","pairs"] (jl Kl):=fs
 refine F.ok sc (fun vs H Q E h=>?_) (fun cdv A outer s H vs Q E hr h=>?_)
 ·obtain ⟨b,p,qs,ps,rfl,_⟩:=h
  rfl
 obtain ⟨b,p,qs2,ps2,rfl,hp,hq,hR,h64,q⟩:=h
 refine ⟨_,(jo (jW (i:=2) sc.nd rfl ol (zt jq))
   (jo (jW (i:=3) sc.nd rfl ol (pv 0))
   (jo (zV PassesOwn.never rfl (Kq (Jo y6 (by rfl) B.sorted_ Y2 (ju (pv 1) jq))) (qO rfl (jU (jS (i:=4) sc.nd rfl ol) (jU (jS (i:=5) sc.nd rfl ol) qp))) (jB (qV (kE jed (pv 5) (pv 3) (jJ _)) (jo (kR (yN PySem.F.plainAttrs_list PySem.F.slot_list_append PySem.F.type_list_append kF (pv 2) (ju (kD (ju (pv 4) (ju (pv 5) jq))) jq)))
   (jB (jW (i:=3) sc.nd rfl ol (pv 5)))) qe)))
   (jB (km (kD (ju (pv 0) (ju (Jn kC (by rfl) B.tuple_ qL (ju (pv 2) jq)) jq)))))))),?_⟩
 refine ⟨sm rfl,fun l hl=>?_⟩
 have s1:=jj hl (.lst [])
 have e1:upd H l (.lst []) l=some (.lst []):=ja
 generalize upd H l (.lst [])=H1 at *
 refine ⟨_,rfl,?_⟩
 refine ⟨_,rfl,p,qs2,ps2,rfl,s1.seq hp,hq.mono s1,hR,h64,fun l2 hl2=>?_⟩
 have hq2:=hq.mono s1
 have s2:=jj hl2 (.lst qs2)
 have e2:upd H1 l2 (.lst qs2) l2=some (.lst qs2):=ja
 have nll:l2≠l:=(jk e1 hl2).symm
 have hq3:=hq2.mono s2
 generalize upd H1 l2 (.lst qs2)=H2 at *
 have hl0:H2 l=some (.lst []):=s2 _ _ e1
 have s12:=s1.trans s2
 have hlen:=hq3.1
 refine ⟨l2,rfl,⟨_,SqL.of e2⟩,K7 (xs:=qs2) (fun i σ G=>∃ u v xs,σ=[some (.int b),some (.ref p),some (.ref l),some (.int (stN b (ps2.take i)).1),u,v]∧Same H G∧PairsL K G qs2 ps2∧G l2=some (.lst qs2)∧G l=some (.lst xs)∧HeldL G ((stN b (ps2.take i)).2.map pD) xs) ⟨none,none,[],rfl,s12,hq3,e2,hl0,jt⟩ ?_ ?_ ?_⟩
 ·rintro i σ G _ ⟨u,v,xs,rfl,sG,hqG,hG2,hGl,hx⟩
  exact SqL.of hG2
 ·rintro i x σ G hx ⟨u,v,xs,rfl,sG,hqG,hG2,hGl,hxs⟩
  have hi:i < ps2.length:=by
   rw [← hlen]
   exact (List.getElem?_eq_some_iff.mp hx).1
  obtain ⟨c,f1,f2⟩:=hqG.2 i hi
  rw [hx] at f1
  cases f1
  have est:=jdI (base:=b) hi
  have hsl:(stN b (ps2.take i)).2.length≤i:=by
   have:=Kj b (ps2.take i)
   rw [List.length_take] at this
   omega
  generalize stN b (ps2.take i)=ST at *
  obtain ⟨ah,st⟩:=ST
  dsimp only at *
  refine ⟨c,_,rfl,f2,rfl,_,_,rfl,_,_,rfl,rfl,?_⟩
  refine ⟨_,rfl,_,rfl,rfl,_,rfl,?_⟩
  by_cases hva:ps2[i].2=ah
  ·rw [if_pos hva] at est
   rw [hva,decide_eq_true rfl]
   refine K4 ?_
   exact ⟨some (.int ps2[i].1),some (.int ah),xs,by rw [est,← hva];rfl,sG,hqG,hG2,hGl,by rw [est];exact hxs⟩
  ·rw [if_neg hva] at est
   rw [decide_eq_false (fun z=>hva (by injection z))]
   refine zZ ?_
   refine ⟨_,rfl,.inl ⟨rfl,_,SqL.of hGl⟩,_,rfl,_,rfl,sm rfl,fun t ht=>?_⟩
   have s3:=jj ht (.tup [V.int ps2[i].1,V.int ps2[i].2])
   have e3:upd G t (.tup [V.int ps2[i].1,V.int ps2[i].2]) t=some (.tup [V.int ps2[i].1,V.int ps2[i].2]):=ja
   have hqG':=hqG.mono s3
   generalize upd G t (.tup [V.int ps2[i].1,V.int ps2[i].2])=G1 at *
   have hxl:=hxs.length
   rw [List.length_map] at hxl
   refine ⟨l,_,_,rfl,rfl,s3 _ _ hGl,jz (by omega),?_⟩
   have tk:TK G1 (upd G1 l (.lst (xs++[.ref t]))):=TK.upd (s3 _ _ hGl) (by intro xs z;cases z)
   refine ⟨_,rfl,some (.int ps2[i].1),some (.int ps2[i].2),xs++[.ref t],by rw [est];rfl,?_,?_,?_,ja,?_⟩
   ·intro c o e
    rw [jg (jk e hl)]
    exact s3 _ _ (sG _ _ e)
   ·exact jcQ (s3 _ _ hGl) hqG'
   ·rw [jg nll]
    exact s3 _ _ hG2
   ·rw [est,List.map_append]
    exact yc (tk.heldL (hxs.mono s3)) (tk.held (jL e3 (jf jM (jf jM jt))))
 ·rintro σ G ⟨u,v,xs,rfl,sG,hqG,hG2,hGl,hxs⟩
  rw [hlen,List.take_length] at hxs
  refine ⟨_,rfl,_,rfl,l,_,rfl,.inl ⟨SqL.of hGl,fun t ht=>?_⟩⟩
  have s3:=jj ht (.tup xs)
  have e3:upd G t (.tup xs) t=some (.tup xs):=ja
  generalize upd G t (.tup xs)=G1 at *
  refine ⟨sm rfl,fun r hr'=>?_⟩
  have s4:=jj hr' (.tup [V.int b,V.ref t])
  exact q _ _ (sG.trans (s3.trans s4)) (jL ja (jf jM (jf (jL (s4 _ _ e3) (hxs.mono (s3.trans s4))) jt)))
theorem jbo {f:Addr} {fd:FuncData} (F:Fun K "written" "written" Jh f fd) (B:Free0 mg) (F_steps_up_to:Fn P w K mg base 1 "steps_up_to" ["steps","p"] (jbc K)) (F_entry:Fn P w K mg base 2 "entry" ["row","p"] (Zi K)) (F_stairs:Fn P w K mg base 1 "stairs" ["base","pairs"] (Z8 K)):FnOk P w K mg base CX0 3 f fd ["row","p","v"] (YF K):=by
 have sc:FnScope ["row","p","v","base","steps","ahead","behind"] ["row","p","v"] (jl Jh):=fs
 refine F.ok sc (fun vs H Q E h=>?_) (fun cdv A outer s H vs Q E hr h=>?_)
 ·obtain ⟨v,p,x,b,ps,rfl,_⟩:=h
  rfl
 obtain ⟨v,p,x,b,ps,rfl,hv,hR,hl,q⟩:=h
 have hrow:=hv
 obtain ⟨a,c,qs,rfl,ha,hc,hS⟩:=hv.ex
 dsimp only at ha hS
 have hql:qs.length=ps.length:=hS.1
 refine ⟨_,(jo (zr (pv 0) (qO rfl (jU (jS (i:=3) sc.nd rfl ol) (jU (jS (i:=4) sc.nd rfl ol) qp))))
   (jo (jW (i:=5) sc.nd rfl ol (Jn Jv (by rfl) B.list_ jcp (ju (zL jbZ (pv 4) yF (yE (kP F_steps_up_to hr (ju (pv 4) (ju (jy qY (pv 1) jm) jq))))) jq)))
   (jo (jW (i:=6) sc.nd rfl ol (Jn Jv (by rfl) B.list_ jcp (ju (zL jbZ (pv 4) (yE (kP F_steps_up_to hr (ju (pv 4) (ju (jy jH (pv 1) jm) jq)))) yF) jq)))
   (jB (km (kP F_stairs hr (ju (pv 3) (ju (jy J2 (jy J2 (pv 5) (zt (ju (kD (ju (pv 1) (ju (pv 2) jq))) (ju (kD (ju (jy jH (pv 1) jm) (ju (kP F_entry hr (ju (pv 0) (ju (jy jH (pv 1) jm) jq))) jq))) jq)))) (pv 6)) jq)))))))),?_⟩
 refine ⟨_,rfl,a,_,rfl,ha,rfl,_,_,rfl,_,_,rfl,rfl,?_⟩
 refine ⟨_,rfl,_,rfl,_,rfl,_,_,rfl,rfl,c,p - 1,qs,ps,rfl,hc,hS,hR,by omega,fun c1 hc1=>?_⟩
 refine ⟨_,rfl,c,qs,rfl,hc,fun t1 H1 s1 ht1=>?_⟩
 have e1:qZ qs none (some (c1:Int))=qs.take c1:=by
  unfold qZ
  rw [HT.sIx_none,HT.sIx_nat,List.drop_zero,Nat.sub_zero,Nat.min_eq_left (by rw [hql];exact hc1.1)]
 rw [e1] at ht1
 refine ⟨t1,_,rfl,.inr ht1,fun l1 hl1=>?_⟩
 have s2:=jj hl1 (.lst (qs.take c1))
 have e2:upd H1 l1 (.lst (qs.take c1)) l1=some (.lst (qs.take c1)):=ja
 generalize upd H1 l1 (.lst (qs.take c1))=H2 at *
 have s02:=s1.trans s2
 refine ⟨_,rfl,_,rfl,_,rfl,_,_,rfl,rfl,c,p+1,qs,ps,rfl,s02.sqT hc,hS.mono s02,hR,by omega,fun c2 hc2=>?_⟩
 refine ⟨_,rfl,c,qs,rfl,s02.sqT hc,fun t3 H3 s3 ht3=>?_⟩
 have e3:qZ qs (some (c2:Int)) none=qs.drop c2:=by
  unfold qZ
  rw [HT.sIx_none,HT.sIx_nat,Nat.min_eq_left (by rw [hql];exact hc2.1),List.take_of_length_le (by rw [List.length_drop];omega)]
 rw [e3] at ht3
 refine ⟨t3,_,rfl,.inr ht3,fun l4 hl4=>?_⟩
 have s4:=jj hl4 (.lst (qs.drop c2))
 have e4:upd H3 l4 (.lst (qs.drop c2)) l4=some (.lst (qs.drop c2)):=ja
 generalize upd H3 l4 (.lst (qs.drop c2))=H4 at *
 have s24:=s3.trans s4
 have s04:=s02.trans s24
 refine ⟨_,rfl,_,rfl,_,rfl,_,rfl,sm rfl,fun t5 ht5=>?_⟩
 have s5:=jj ht5 (.tup [V.int p,V.int x])
 have e5:upd H4 t5 (.tup [V.int p,V.int x]) t5=some (.tup [V.int p,V.int x]):=ja
 generalize upd H4 t5 (.tup [V.int p,V.int x])=H5 at *
 have s05:=s04.trans s5
 refine ⟨_,rfl,_,_,rfl,rfl,_,rfl,_,rfl,_,_,rfl,rfl,.ref a,p+1,(b,ps),rfl,hrow.mono s05,⟨hR,by show ps.length≤600;omega⟩,?_⟩
 refine ⟨sm rfl,fun t6 ht6=>?_⟩
 have s6:=jj ht6 (.tup [V.int (p+1),V.int (jN b ps (p+1))])
 have e6:upd H5 t6 (.tup [V.int (p+1),V.int (jN b ps (p+1))]) t6=some (.tup [V.int (p+1),V.int (jN b ps (p+1))]):=ja
 generalize upd H5 t6 (.tup [V.int (p+1),V.int (jN b ps (p+1))])=H6 at *
 refine ⟨sm rfl,fun l7 hl7=>?_⟩
 have s7:=jj hl7 (.lst [V.ref t5,V.ref t6])
 have e7:upd H6 l7 (.lst [V.ref t5,V.ref t6]) l7=some (.lst [V.ref t5,V.ref t6]):=ja
 generalize upd H6 l7 (.lst [V.ref t5,V.ref t6])=H7 at *
 have s47:=s5.trans (s6.trans s7)
 have s07:=s04.trans s47
 have hc1l:=hc1.1
 have hc2l:=hc2.1
 refine ⟨l1,l7,_,_,rfl,rfl,SqL.of (s47 _ _ (s24 _ _ e2)),SqL.of e7,zG (by rw [List.length_take];simp only [List.length_cons,List.length_nil];omega),fun l8 hl8=>?_⟩
 have s8:=jj hl8 (.lst (qs.take c1++[V.ref t5,V.ref t6]))
 have e8:upd H7 l8 (.lst (qs.take c1++[V.ref t5,V.ref t6])) l8=some (.lst (qs.take c1++[V.ref t5,V.ref t6])):=ja
 generalize upd H7 l8 (.lst (qs.take c1++[V.ref t5,V.ref t6]))=H8 at *
 have s48:=s47.trans s8
 refine ⟨_,rfl,l8,l4,_,_,rfl,rfl,SqL.of e8,SqL.of (s48 _ _ e4),zG (by rw [List.length_append,List.length_take,List.length_drop];simp only [List.length_cons,List.length_nil];omega),fun l9 hl9=>?_⟩
 have s9:=jj hl9 (.lst (qs.take c1++[V.ref t5,V.ref t6]++qs.drop c2))
 have e9:upd H8 l9 (.lst (qs.take c1++[V.ref t5,V.ref t6]++qs.drop c2)) l9=some (.lst (qs.take c1++[V.ref t5,V.ref t6]++qs.drop c2)):=ja
 generalize upd H8 l9 (.lst (qs.take c1++[V.ref t5,V.ref t6]++qs.drop c2))=H9 at *
 have s79:=s8.trans s9
 have s09:=s07.trans s79
 have hup:=jhu (b:=b) (v:=x) hR hc1 hc2
 have hln:=jgu (b:=b) (v:=x) hc1 hc2
 have hP:PairsL K H9 (qs.take c1++[V.ref t5,V.ref t6]++qs.drop c2) (wrN b ps c1 c2 p x):=YL (YL (jbj (hS.mono s09) c1) (jcR ((s6.trans (s7.trans s79)) _ _ e5) ((s7.trans s79) _ _ e6))) (jbk (hS.mono s09) c2)
 refine ⟨b,l9,_,_,rfl,SqL.of e9,hP,hup,by omega,fun r H' sH hr'=>?_⟩
 refine q _ r H' (s09.trans sH) (jaY b hup) (fun z=>?_) ?_ hr'
 ·rw [jcf b _ hup,je5 hc1 hc2]
 ·exact Nat.le_trans (Kj b _) hln
end
abbrev yC:Stmt:=top 7
abbrev Ji:Stmt:=top 8
abbrev zS:Stmt:=top 10
abbrev Km:Stmt:=top 11
section
variable {P:Program} {w:World} {K:W.Frag} {mg:Str→Option Value} {base:Heap}
theorem Zo {f:Addr} {fd:FuncData} (F:Fun K "number_at" "number_at" zS f fd):FnOk P w K mg base CX0 1 f fd ["x","numbers"] qT:=by
 have sc:FnScope ["x","numbers"] ["x","numbers"] (jl zS):=fs
 refine F.ok sc (fun vs H Q E h=>?_) (fun cdv A outer s H vs Q E hr h=>?_)
 ·obtain ⟨x,m,N,rfl,_⟩:=h
  rfl
 obtain ⟨x,m,N,rfl,hm,q⟩:=h
 have hu:=yO hr
 refine ⟨_,(jo (qV (kE kX (pv 0) kL (jJ _)) (jB (km jm)) qe)
   (jB (km (jaq hu (pv 1) (pv 0) jm ⟨rfl,rfl,rfl,rfl⟩)))),?_⟩
 unfold ql at q
 refine ⟨_,rfl,rfl,_,rfl,j7 (fun c=>?_) (fun c=>?_)⟩
 ·have c':x = "":=by
   have:=of_decide_eq_true c
   injection this
  rw [if_pos c'] at q
  exact q
 ·rw [if_neg (fun e=>c (decide_eq_true (congrArg V.str e)))] at q
  refine ⟨_,rfl,m,rfl,.inl ⟨_,.inl hm⟩,_,rfl,_,DGet.k (k:=Sum.inr x) hm,?_⟩
  rw [jfR]
  cases e:lkA N x with
  | none=>rw [e] at q;exact q
  | some z=>rw [e] at q;exact q
theorem jau {f:Addr} {fd:FuncData} (F:Fun K "place_at" "place_at" yC f fd) (F_number_at:Fn P w K mg base 1 "number_at" ["x","numbers"] qT):FnOk P w K mg base CX0 2 f fd ["place","numbers"] yS:=by
 have sc:FnScope ["place","numbers","x","d"] ["place","numbers"] (jl yC):=fs
 refine F.ok sc (fun vs H Q E h=>?_) (fun cdv A outer s H vs Q E hr h=>?_)
 ·obtain ⟨a,x,d,m,N,rfl,_⟩:=h
  rfl
 obtain ⟨a,x,d,m,N,rfl,ha,hm,q⟩:=h
 refine ⟨_,(jo (zr (pv 0) (qO rfl (jU (jS (i:=2) sc.nd rfl ol) (jU (jS (i:=3) sc.nd rfl ol) qp))))
   (jB (km (jy jH (kP F_number_at hr (ju (pv 2) (ju (pv 1) jq))) (pv 3))))),?_⟩
 refine ⟨_,rfl,a,_,rfl,SqT.of ha,rfl,_,_,rfl,_,_,rfl,rfl,?_⟩
 refine ⟨_,rfl,_,rfl,x,m,N,rfl,hm,_,rfl,_,_,rfl,rfl,q⟩
theorem jcT {f:Addr} {fd:FuncData} (F:Fun K "row_at" "row_at" Km f fd) (R:Bare K mg):FnOk P w K mg base CX0 1 f fd ["r","rows"] (Z9 K):=by
 have sc:FnScope ["r","rows"] ["r","rows"] (jl Km):=fs
 refine F.ok sc (fun vs H Q E h=>?_) (fun cdv A outer s H vs Q E hr h=>?_)
 ·obtain ⟨r,n,k,rvs,L,rfl,_⟩:=h
  rfl
 obtain ⟨r,n,k,rvs,L,rfl,hn,hV,q⟩:=h
 obtain ⟨ba,eb,hba,hb1,hb2⟩:=R.ex
 have hu:=yO hr
 refine ⟨_,(jB (km (jaq hu (pv 1) (pv 0) (jb5 (v:=.ref ba) (by rfl) hba rfl) ⟨rfl,rfl,rfl,rfl⟩))),?_⟩
 refine ⟨_,rfl,n,rfl,.inl ⟨rvs,.inl hn⟩,_,rfl,_,DGet.k (k:=Sum.inr r) hn,?_⟩
 unfold kY at q
 rcases hV.val r with ⟨e1,e2⟩ | ⟨v,lq,e1,e2,h1,h2⟩
 ·rw [e1]
  rw [e2] at q
  exact q _ [] (jeN (hb1 H) (hb2 H)) ⟨List.Pairwise.nil,trivial⟩ (Nat.zero_le _) (Nat.zero_le _) fun z=>rfl
 ·rw [e1]
  rw [e2] at q
  obtain ⟨R,g1,g2,g3,g4⟩:=h1
  exact q _ R g1 g2 g3 h2 g4
theorem jbp {f:Addr} {fd:FuncData} (F:Fun K "term_at" "term_at" Ji f fd) (F_number_at:Fn P w K mg base 1 "number_at" ["x","numbers"] qT) (F_place_at:Fn P w K mg base 2 "place_at" ["place","numbers"] yS)
  (F_row_at:Fn P w K mg base 1 "row_at" ["r","rows"] (Z9 K)) (F_entry:Fn P w K mg base 2 "entry" ["row","p"] (Zi K)):FnOk P w K mg base CX0 3 f fd ["term","numbers","rows"] (JC K):=by
 have sc:FnScope ["term","numbers","rows"] ["term","numbers","rows"] (jl Ji):=fs
 refine F.ok sc (fun vs H Q E h=>?_) (fun cdv A outer s H vs Q E hr h=>?_)
 ·obtain ⟨v,t,m,n,k,N,rvs,L,rfl,_⟩:=h
  rfl
 obtain ⟨v,t,m,n,k,N,rvs,L,rfl,hv,hm,hn,hV,hk,q⟩:=h
 refine ⟨_,(jo (qV (kE kX (kI jP (pv 0) jm (fun _ _=>rfl)) kL (jJ _)) (jB (km (kP F_number_at hr (ju (kI jP (pv 0) jm (fun _ _=>rfl)) (ju (pv 1) jq))))) qe)
   (jB (km (kP F_entry hr (ju (kP F_row_at hr (ju (kI jP (pv 0) jm (fun _ _=>rfl)) (ju (pv 2) jq))) (ju (kP F_place_at hr (ju (kI jP (pv 0) jm (fun _ _=>rfl)) (ju (pv 1) jq))) jq)))))),?_⟩
 cases t with
 | is x=>
  obtain ⟨a,rfl,ha⟩:=jhd hv
  refine ⟨_,rfl,a,_,_,_,rfl,rfl,SqT.of ha,rfl,rfl,_,rfl,?_⟩
  rw [decide_eq_true rfl]
  refine zZ ?_
  exact ⟨_,rfl,a,_,_,_,rfl,rfl,SqT.of ha,rfl,_,rfl,x,m,N,rfl,hm,q⟩
 | at_ r x d=>
  obtain ⟨a,b,rfl,ha,hb⟩:=jhn hv
  refine ⟨_,rfl,a,_,_,_,rfl,rfl,SqT.of ha,rfl,rfl,_,rfl,?_⟩
  rw [decide_eq_false (by decide)]
  refine K4 ?_
  refine ⟨_,rfl,a,_,_,_,rfl,rfl,SqT.of ha,rfl,_,rfl,r,n,k,rvs,L,rfl,hn,hV,fun u R g1 g2 g3 g4 g5=>?_⟩
  refine ⟨_,rfl,a,_,_,_,rfl,rfl,SqT.of ha,rfl,_,rfl,b,x,d,m,N,rfl,hb,hm,?_⟩
  refine ⟨u,_,((kY L r).1,R),rfl,g1,⟨g2.up,by show R.length≤600;omega⟩,?_⟩
  dsimp only
  rw [g5]
  exact q
end
abbrev zc:Stmt:=top 12
abbrev Kn:Stmt:=top 9
section
variable {P:Program} {w:World} {K:W.Frag} {mg:Str→Option Value} {base:Heap}
theorem jej {f:Addr} {fd:FuncData} (F:Fun K "least_holds" "least_holds" zc f fd) (F_term_at:Fn P w K mg base 3 "term_at" ["term","numbers","rows"] (JC K)):FnOk P w K mg base CX0 4 f fd ["claim","numbers","rows"] (yl jh0 K):=by
 have sc:FnScope ["claim","numbers","rows","a","b","c"] ["claim","numbers","rows"] (jl zc):=fs
 refine F.ok sc (fun vs H Q E h=>?_) (fun cdv A outer s H vs Q E hr h=>?_)
 ·obtain ⟨v,C,m,n,i,N,rvs,L,rfl,_⟩:=h
  rfl
 obtain ⟨v,C,m,n,i,N,rvs,L,rfl,hv,ok,hm,hn,hV,hi,q⟩:=h
 cases C with
 | least ta tb c=>
 obtain ⟨a,u,z,rfl,ha,hu',hz⟩:=jb8 hv
 refine ⟨_,(jo (zr (zL zC (pv 0) (yE jm) yF) (qO rfl (jU (jS (i:=3) sc.nd rfl ol) (jU (jS (i:=4) sc.nd rfl ol) (jU (jS (i:=5) sc.nd rfl ol) qp)))))
   (jB (km (Ks jhV (kP F_term_at hr (ju (pv 3) (ju (pv 1) (ju (pv 2) jq)))) (jy jH (kP F_term_at hr (ju (pv 4) (ju (pv 1) (ju (pv 2) jq)))) (pv 5)) (jJ _))))),?_⟩
 refine ⟨_,rfl,_,rfl,a,_,rfl,SqT.of ha,(fun h=>absurd h.1 (by show ¬ (HT.sIx 4 0 (some 1)=0);decide)),fun p hp=>?_⟩
 have s1:=jj hp (.tup (qZ [V.str "least",u,z,V.int c] (some 1) none))
 refine ⟨p,_,rfl,SqT.of ja,rfl,_,_,rfl,_,_,rfl,_,_,rfl,rfl,?_⟩
 generalize upd H p (.tup (qZ [V.str "least",u,z,V.int c] (some 1) none))=H1 at *
 refine ⟨_,rfl,_,rfl,_,rfl,u,ta,m,n,i,N,rvs,L,rfl,hu'.mono s1,s1 _ _ hm,s1 _ _ hn,hV.tk (TKF.same s1),hi,?_⟩
 refine ⟨_,rfl,_,rfl,_,rfl,z,tb,m,n,i,N,rvs,L,rfl,hz.mono s1,s1 _ _ hm,s1 _ _ hn,hV.tk (TKF.same s1),hi,?_⟩
 exact ⟨_,rfl,_,_,rfl,rfl,_,_,rfl,rfl,q _ _ s1 decide_eq_true_iff⟩
theorem jcV {f:Addr} {fd:FuncData} (F:Fun K "holds" "holds" Kn f fd) (F_least_holds:Fn P w K mg base 4 "least_holds" ["claim","numbers","rows"] (yl jh0 K)):FnOk P w K mg base CX0 5 f fd ["claim","numbers","rows"] (yl (fun _=>True) K):=by
 have sc:FnScope ["claim","numbers","rows"] ["claim","numbers","rows"] (jl Kn):=fs
 refine F.ok sc (fun vs H Q E h=>?_) (fun cdv A outer s H vs Q E hr h=>?_)
 ·obtain ⟨v,C,m,n,i,N,rvs,L,rfl,_⟩:=h
  rfl
 obtain ⟨v,C,m,n,i,N,rvs,L,rfl,hv,_,jE⟩:=h
 refine ⟨_,(jo (qV (kE kX (kI jP (pv 0) jm (fun _ _=>rfl)) kL (jJ _)) (jB (km (kP F_least_holds hr (ju (pv 0) (ju (pv 1) (ju (pv 2) jq)))))) qe)
   (jo (qV (kE kX (kI jP (pv 0) jm (fun _ _=>rfl)) kL (jJ _)) (jB (km jap)) qe)
   (jB (km jap)))),?_⟩
 cases C with
 | least ta tb c=>
  obtain ⟨a,u,z,rfl,ha,_,_⟩:=jb8 hv
  refine ⟨_,rfl,a,_,_,_,rfl,rfl,SqT.of ha,rfl,rfl,_,rfl,?_⟩
  rw [decide_eq_true rfl]
  refine zZ ?_
  exact ⟨_,rfl,_,rfl,_,rfl,_,.least ta tb c,m,n,i,N,rvs,L,rfl,hv,trivial,jE⟩
end
inductive Dx where
 | set (x:Str) (t:Tm) (c:Int) | put (r x:Str) (d:Int) (t:Tm) (c:Int) | any (x:Str) | claim (C:Cl) | call (x f:Str) (as rows:List Str)
def Dx.toD:Dx→D
 | .set x t c=>.tup [.str "set",.str x,t.toD,.int c]
 | .put r x d t c=>.tup [.str "put",.str r,plD x d,t.toD,.int c]
 | .any x=>.tup [.str "any",.str x]
 | .claim C=>.tup [.str "claim",C.toD]
 | .call x f as rows=>.tup [.str "call",.str x,.str f,.tup (as.map D.str),.tup (rows.map D.str)]
inductive Sx where
 | go (n:Nat) | ask (le:Cl) (cs:List Cl) (kd:Str) (p:List Int) (yes no:Nat) | do_ (s:Dx) (p:List Int) | come
def Sx.toD:Sx→D
 | .go n=>.tup [.str "go",.int n]
 | .ask le cs kd p yes no=>Ym le.toD (.tup (cs.map Cl.toD)) kd p yes no
 | .do_ s p=>.tup [.str "do",s.toD,kW p]
 | .come=>.tup [.str "come"]
structure Pr where
 f:Str
 ps:List Str
 rs:List Str
 needs:List Cl
 gives:List Cl
 body:List D
 sx:List Sx
def Pr.toD (p:Pr):D:=.tup [.str "proc",.str p.f,.tup (p.ps.map D.str),.tup (p.rs.map D.str),.tup (p.needs.map Cl.toD),.tup (p.gives.map Cl.toD),.tup p.body]
structure Cb where
 x:Str
 f:Str
 as:List Str
 rows:List Str
structure Fm where
 pr:Pr
 cb:Option Cb
 N:List (Str×Int)
 L:List (Str×j0)
 i:Nat
structure Mc where
 fr:List Fm
 used:Nat
 tk:Nat
 w:Nat
inductive En where
 | done (out:Int) (held:List j0) | spent | untrue (f kd:Str) (p:List Int) (k:Nat) | asks | deep | stuck
open Classical in
noncomputable def yj (N:List (Str×Int)) (L:List (Str×j0)) (C:Cl):Bool:=decide (C.Tru N L)
open Classical in
theorem KD {N:List (Str×Int)} {L:List (Str×j0)} {C:Cl} {b:Bool} (h:b=true↔C.Tru N L):b=yj N L C:=by
 unfold yj
 cases b with
 | true=>exact (decide_eq_true (h.mp rfl)).symm
 | false=>exact (decide_eq_false (fun z=>by have:=h.mpr z;cases this)).symm
noncomputable def kU (N:List (Str×Int)) (L:List (Str×j0)) (cs:List Cl):Option Nat:=cs.findIdx? fun C=>!yj N L C
def jhU:Option Nat→V
 | none=>.non
 | some k=>.int k
def ja5 (L:List (Str×j0)) (ps:List (Str×j0)):List (Str×j0):=ps.foldl (fun l q=>kO l q.1 q.2) L
def kB (L:List (Str×j0)) (rs:List Str):List j0:=rs.map (kY L)
def qt (L:List (Str×j0)) (rs:List Str):Bool:=rs.all fun r=>(lkA L r).isSome
noncomputable def zX (P:Pr) (c:Cb) (F:Fm):Fm:=⟨P,some c,P.ps.zip (c.as.map (ql F.N)),P.rs.zip (kB F.L c.rows),0⟩
structure CallOk (P:Pr) (c:Cb) (F:Fm):Prop where
 as:P.ps.length=c.as.length
 rows:P.rs.length=c.rows.length
 nps:P.ps.Nodup
 nrs:P.rs.Nodup
 nrows:c.rows.Nodup
 has:qt F.L c.rows=true
 lps:P.ps.length≤100
 lrs:P.rs.length≤100
open Classical in
noncomputable def yP (prog:List Pr) (inp:List Int) (m:Mc) (F:Fm) (jE:List Fm) (d:Dx) (p:List Int):(En×Nat) ⊕ Mc:=
 match d with
 | .set x t c=>.inr ⟨{ F with N:=kO F.N x (t.val F.N F.L+c),i:=F.i+1 } :: jE,m.used+1,m.tk,m.w⟩
 | .put r x d t c=>if (lkA F.L r).isSome=true∧m.w < 60 then .inr ⟨{ F with L:=kO F.L r ((kY F.L r).1,(kY F.L r).2.1,(kY F.L r).2.2++[(ql F.N x+d,t.val F.N F.L+c)]),i:=F.i+1 } :: jE,m.used+1,m.tk,m.w+1⟩ else .inl (.stuck,0)
 | .any x=>match inp[m.tk]? with
  | none=>.inl (.asks,m.used+1)
  | some v=>.inr ⟨{ F with N:=kO F.N x v,i:=F.i+1 } :: jE,m.used+1,m.tk+1,m.w⟩
 | .claim C=>match kU F.N F.L [C] with
  | some k=>.inl (.untrue F.pr.f "claim" p k,m.used+1)
  | none=>.inr ⟨{ F with i:=F.i+1 } :: jE,m.used+1,m.tk,m.w⟩
 | .call x f as rows=>match prog.find? fun P=>decide (P.f=f) with
  | none=>.inl (.stuck,0)
  | some P=>if CallOk P ⟨x,f,as,rows⟩ F then match kU (zX P ⟨x,f,as,rows⟩ F).N (zX P ⟨x,f,as,rows⟩ F).L P.needs with
    | some k=>.inl (.untrue F.pr.f "need" p k,m.used+1)
    | none=>if 20 < jE.length+1 then .inl (.deep,m.used+1) else .inr ⟨zX P ⟨x,f,as,rows⟩ F :: { F with i:=F.i+1 } :: jE,m.used+1,m.tk,m.w⟩
   else .inl (.stuck,0)
open Classical in
noncomputable def ki (prog:List Pr) (inp:List Int) (most:Int) (m:Mc):(En×Nat) ⊕ Mc:=
 match m.fr with
 | []=>.inl (.stuck,0)
 | F :: jE=>match F.pr.sx[F.i]? with
  | none=>match kU F.N F.L F.pr.gives with
   | some k=>.inl (.untrue F.pr.f "give" [] k,m.used)
   | none=>if qt F.L F.pr.rs=true then match F.cb with
     | none=>.inl (.done (ql F.N "out") (kB F.L F.pr.rs),m.used)
     | some c=>match jE with
      | []=>.inl (.stuck,0)
      | G :: rest'=>if c.rows.Nodup∧c.rows.length=F.pr.rs.length∧c.rows.length≤100∧qt G.L c.rows=true then .inr ⟨{ G with N:=kO G.N c.x (ql F.N "out"),L:=ja5 G.L (c.rows.zip (kB F.L F.pr.rs)) } :: rest',m.used,m.tk,m.w⟩ else .inl (.stuck,0)
    else .inl (.stuck,0)
  | some (.go n)=>.inr ⟨{ F with i:=n } :: jE,m.used,m.tk,m.w⟩
  | some s=>if (m.used:Int)=most then .inl (.spent,m.used) else match s with
   | .ask le cs kd p yes no=>match kU F.N F.L cs with
    | some k=>.inl (.untrue F.pr.f kd p k,m.used+1)
    | none=>.inr ⟨{ F with i:=if yj F.N F.L le=true then yes else no } :: jE,m.used+1,m.tk,m.w⟩
   | .do_ d p=>yP prog inp m F jE d p
   | _=>.inr ⟨{ F with i:=F.i+1 } :: jE,m.used+1,m.tk,m.w⟩
def zx (pr:Addr) (cb:V) (nm rw:Addr) (i:Nat):List (Str×V):=[("proc",.ref pr),("called_by",cb),("numbers",.ref nm),("rows",.ref rw),("at",.int i)]
def kZ (d1 d2:Addr) (vi:V) (tk:Nat) (most:Int) (used:Nat) (fl:Addr):List (Str×V):=[("procs",.ref d1),("steps",.ref d2),("inputs",vi),("taken",.int tk),("most",.int most),("used",.int used),("frames",.ref fl)]
structure ClsF (K:W.Frag) (C:Addr):Prop where
 c:Cls K C
 n1:NoAttr K C "proc"
 n2:NoAttr K C "called_by"
 n3:NoAttr K C "numbers"
 n4:NoAttr K C "rows"
 n5:NoAttr K C "at"
structure ClsC (K:W.Frag) (C:Addr):Prop where
 c:Cls K C
 n1:NoAttr K C "procs"
 n2:NoAttr K C "steps"
 n3:NoAttr K C "inputs"
 n4:NoAttr K C "taken"
 n5:NoAttr K C "most"
 n6:NoAttr K C "used"
 n7:NoAttr K C "frames"
def jht (H:Hp):Option Cb→V→Prop
 | none,v=>v=.non
 | some c,v=>Held H (Dx.call c.x c.f c.as c.rows).toD v
structure FA where
 fa:Addr
 dx:Addr
 nm:Addr
 rw:Addr
 pra:Addr
 cbv:V
def FA.own (A:FA):List Addr:=[A.fa,A.nm,A.rw]
structure FrD (K:W.Frag) (CF:Addr) (H:Hp) (n:Nat) (A:FA) (F:Fm):Prop where
 fa:H A.fa=some (.ins CF A.dx (zx A.pra A.cbv A.nm A.rw F.i))
 nm:H A.nm=some (.dK (nKV F.N))
 rw:∃ rvs,H A.rw=some (.dK rvs)∧RV K H n rvs F.L
structure FrAt (K:W.Frag) (CF:Addr) (Hs H:Hp) (n:Nat) (A:FA) (F:Fm):Prop extends FrD K CF H n A F where
 pr:Held Hs F.pr.toD (.ref A.pra)
 cb:jht Hs F.cb A.cbv
def Stk (K:W.Frag) (CF:Addr) (Hs H:Hp) (n:Nat):List FA→List Fm→Prop
 | [],[]=>True
 | A :: As,F :: Fs=>FrAt K CF Hs H n A F∧Stk K CF Hs H n As Fs
 | _,_=>False
theorem FrD.keep {K:W.Frag} {CF:Addr} {H H':Hp} {n n':Nat} {A:FA} {F:Fm} (h:FrD K CF H n A F) (hn:n≤n') (t:TKF H H') (k:∀ b∈A.own,∀ o,H b=some o→H' b=some o):FrD K CF H' n' A F:=by
 obtain ⟨rvs,h1,h2⟩:=h.rw
 exact ⟨k _ (by simp [FA.own]) _ h.fa,k _ (by simp [FA.own]) _ h.nm,rvs,k _ (by simp [FA.own]) _ h1,(h2.tk t).up hn⟩
theorem FrAt.keep {K:W.Frag} {CF:Addr} {Hs H H':Hp} {n n':Nat} {A:FA} {F:Fm} (h:FrAt K CF Hs H n A F) (hn:n≤n') (t:TKF H H') (k:∀ b∈A.own,∀ o,H b=some o→H' b=some o):FrAt K CF Hs H' n' A F:=⟨h.toFrD.keep hn t k,h.pr,h.cb⟩
theorem Stk.keep {K:W.Frag} {CF:Addr} {Hs H H':Hp} {n n':Nat} (hn:n≤n') (t:TKF H H'):∀ {As:List FA} {Fs:List Fm},Stk K CF Hs H n As Fs→(∀ b∈As.flatMap FA.own,∀ o,H b=some o→H' b=some o)→Stk K CF Hs H' n' As Fs
 | [],[],_,_=>trivial
 | A :: As,F :: Fs,⟨h1,h2⟩,k=>⟨h1.keep hn t fun b hb=>k b (by rw [List.flatMap_cons];exact List.mem_append_left _ hb),Stk.keep hn t h2 fun b hb=>k b (by rw [List.flatMap_cons];exact List.mem_append_right _ hb)⟩
theorem Stk.len {K:W.Frag} {CF:Addr} {Hs H:Hp} {n:Nat}:∀ {As:List FA} {Fs:List Fm},Stk K CF Hs H n As Fs→As.length=Fs.length
 | [],[],_=>rfl
 | _ :: _,_ :: _,⟨_,h⟩=>by rw [List.length_cons,List.length_cons,Stk.len h]
structure CA where
 co:Addr
 dc:Addr
 d1:Addr
 d2:Addr
 il:Addr
 fl:Addr
def WfS (sx:List Sx):Prop:=∀ (i:Nat) s,sx[i]?=some s→match s with
 | .go n=>n≤sx.length
 | .ask _ _ _ _ y n=>y≤sx.length∧n≤sx.length
 | _=>True
structure Sta (Hs:Hp) (C:CA) (prog:List Pr) (inp:List Int):Prop where
 d1:∃ kv,Hs C.d1=some (.dK kv)∧∀ P∈prog,∃ pra,qh kv (Sum.inr P.f)=some (.ref pra)∧Held Hs P.toD (.ref pra)
 d2:∃ kv,Hs C.d2=some (.dK kv)∧∀ P∈prog,∃ sl ss,qh kv (Sum.inr P.f)=some (.ref sl)∧Hs sl=some (.lst ss)∧HeldL Hs (P.sx.map Sx.toD) ss
 il:Hs C.il=some (.lst (inp.map V.int))
 sz:∀ P∈prog,P.sx.length≤900
 wf:∀ P∈prog,WfS P.sx
 rs:∀ P∈prog,P.rs.length≤100
def jis (u:Nat):List Fm→Prop
 | []=>True
 | F :: jE=>F.N.length≤100+2 * u∧∀ G∈jE,G.N.length+1≤100+2 * u
structure Conf (K:W.Frag) (CC CF:Addr) (Hs:Hp) (C:CA) (prog:List Pr) (inp:List Int) (most:Int) (As:List FA) (H:Hp) (m:Mc):Prop where
 sub:Same Hs H
 co:H C.co=some (.ins CC C.dc (kZ C.d1 C.d2 (.ref C.il) m.tk most m.used C.fl))
 fl:H C.fl=some (.lst ((As.map fun A=>V.ref A.fa).reverse))
 st:Stk K CF Hs H m.w As m.fr
 nd:(C.co :: C.fl :: As.flatMap FA.own).Nodup
 new:∀ b∈C.co :: C.fl :: As.flatMap FA.own,Hs b=none
 inP:∀ F∈m.fr,F.pr∈prog
 tk:m.tk≤inp.length
 w:m.w≤60
 bnd:jis m.used m.fr
 deep:m.fr.length≤21
 ix:∀ F∈m.fr,F.i≤F.pr.sx.length
 lb:∀ F∈m.fr,F.L.length≤100
def RowsAt (K:W.Frag) (H:Hp):List j0→List V→Prop
 | [],[]=>True
 | q :: qs,v :: vs=>RowIs K H q v∧RowsAt K H qs vs
 | _,_=>False
def EndAt (K:W.Frag) (H:Hp):En→V→Prop
 | .done out held,v=>∃ t hl vs,v=.ref t∧H t=some (.tup [.str "done",.int out,.ref hl])∧H hl=some (.lst vs)∧RowsAt K H held vs
 | .spent,v=>∃ t,v=.ref t∧H t=some (.tup [.str "spent"])
 | .asks,v=>∃ t,v=.ref t∧H t=some (.tup [.str "asks"])
 | .deep,v=>∃ t,v=.ref t∧H t=some (.tup [.str "deep"])
 | .untrue f kd p k,v=>∃ t vp,v=.ref t∧H t=some (.tup [.str "untrue",.str f,.str kd,vp,.int k])∧Held H (kW p) vp
 | .stuck,_=>False
theorem FrD.same {K:W.Frag} {CF:Addr} {H H':Hp} {n:Nat} {A:FA} {F:Fm} (h:FrD K CF H n A F) (e:Same H H'):FrD K CF H' n A F:=h.keep (Nat.le_refl _) (TKF.same e) fun b _ o z=>e b o z
theorem Jm {pr nm rw:Addr} {cb:V} {i j:Nat}:jZ "at" (.int j) (zx pr cb nm rw i)=zx pr cb nm rw j:=by
 unfold zx
 simp only [jZ]
 rw [if_neg (by decide),if_neg (by decide),if_neg (by decide),if_neg (by decide)]
 rfl
def Zh (K:W.Frag) (CF:Addr):Sp:=fun vs H Q _=>∃ (vc:V) (cs:List Cl) (A:FA) (F:Fm) (n:Nat),vs=[vc,.ref A.fa]∧Held H (.tup (cs.map Cl.toD)) vc∧FrD K CF H n A F∧n≤100∧∀ H',Same H H'→Q (jhU (kU F.N F.L cs)) H'
def KF (K:W.Frag) (CF:Addr):Sp:=fun vs H Q _=>∃ (vf vk vp vc:V) (cs:List Cl) (A:FA) (F:Fm) (n:Nat),vs=[vf,vk,vp,vc,.ref A.fa]∧Held H (.tup (cs.map Cl.toD)) vc∧FrD K CF H n A F∧n≤100∧
 (kU F.N F.L cs=none→∀ H',Same H H'→Q .non H')∧∀ k,kU F.N F.L cs=some k→∀ t H',Same H H'→H' t=some (.tup [.str "untrue",vf,vk,vp,.int k])→Q (.ref t) H'
def jgl (K:W.Frag) (CF:Addr):Sp:=fun vs H Q _=>∃ (A:FA) (F:Fm) (n:Nat) (p0 p1 p2 p3 p4 p5 p6:V) (st:Addr) (vl vk vp:V) (kd:Str) (le:Cl) (cs:List Cl) (yes no:Nat),vs=[.ref A.fa,.ref st]∧FrD K CF H n A F∧n≤100∧H A.pra=some (.tup [p0,p1,p2,p3,p4,p5,p6])∧
 H st=some (.tup [.str "ask",vl,vk,.str kd,vp,.int yes,.int no])∧Held H le.toD vl∧Held H (.tup (cs.map Cl.toD)) vk∧
 (kU F.N F.L cs=none→∀ H',(∀ b o,b≠A.fa→H b=some o→H' b=some o)→H' A.fa=some (.ins CF A.dx (zx A.pra A.cbv A.nm A.rw (if yj F.N F.L le=true then yes else no)))→Q .non H')∧
 ∀ k,kU F.N F.L cs=some k→∀ t H',Same H H'→H' t=some (.tup [.str "untrue",p1,.str kd,vp,.int k])→Q (.ref t) H'
theorem jdS {K:W.Frag} {H:Hp} {n:Nat}:∀ {rn:List Str} {held:List j0} {vs:List V},RowsAt K H held vs→(∀ q∈held,q.2.2.length≤n)→rn.length=vs.length→RV K H n (zKV rn vs) (rn.zip held)
 | [],[],[],_,_,_=>trivial
 | [],_ :: _,_ :: _,_,_,h=>by cases h
 | _ :: _,[],[],_,_,h=>by cases h
 | r :: rn,q :: held,v :: vs,⟨h1,h2⟩,hn,hl=>⟨⟨rfl,h1,hn q List.mem_cons_self⟩,jdS h2 (fun q' hq=>hn q' (List.mem_cons_of_mem _ hq)) (by simpa using hl)⟩
theorem RowsAt.len {K:W.Frag} {H:Hp}:∀ {held:List j0} {vs:List V},RowsAt K H held vs→held.length=vs.length
 | [],[],_=>rfl
 | _ :: _,_ :: _,⟨_,h⟩=>by rw [List.length_cons,List.length_cons,RowsAt.len h]
theorem RowsAt.tk {K:W.Frag} {H H':Hp} (t:TKF H H'):∀ {held:List j0} {vs:List V},RowsAt K H held vs→RowsAt K H' held vs
 | [],[],_=>trivial
 | _ :: _,_ :: _,⟨h1,h⟩=>⟨h1.tk t,RowsAt.tk t h⟩
theorem RowsAt.snoc {K:W.Frag} {H:Hp} {q:j0} {v:V} (hq:RowIs K H q v):∀ {held:List j0} {vs:List V},RowsAt K H held vs→RowsAt K H (held++[q]) (vs++[v])
 | [],[],_=>⟨hq,trivial⟩
 | _ :: _,_ :: _,⟨h1,h⟩=>⟨h1,RowsAt.snoc hq h⟩
theorem je4 {names:List Str} {nums:List Int}:zKV names (nums.map V.int)=nKV (names.zip nums):=by
 unfold zKV nKV
 rw [List.zip_map_right,List.map_map]
 rfl
theorem jdc {pr nm rw:Addr} {cb:V}:jZ "at" (.int 0) (jZ "rows" (.ref rw) (jZ "numbers" (.ref nm) (jZ "called_by" cb (jZ "proc" (.ref pr) []))))=zx pr cb nm rw 0:=by
 unfold zx
 simp only [jZ]
 repeat rw [if_neg (by decide)]
 simp only [jZ]
 repeat rw [if_neg (by decide)]
 simp only [jZ]
 repeat rw [if_neg (by decide)]
 simp only [jZ]
 repeat rw [if_neg (by decide)]
 rfl
def Zg (K:W.Frag) (CF:Addr):Sp:=fun vs H Q _=>∃ (fa dx pr pt rt nl rl:Addr) (cb p0 p1 p4 p5 p6:V) (names rns:List Str) (nums:List Int) (held:List j0) (rvs:List V) (n:Nat),vs=[.ref fa,.ref pr,.ref nl,.ref rl,cb]∧H fa=some (.ins CF dx [])∧H pr=some (.tup [p0,p1,.ref pt,.ref rt,p4,p5,p6])∧H pt=some (.tup (names.map V.str))∧H rt=some (.tup (rns.map V.str))∧H nl=some (.lst (nums.map V.int))∧H rl=some (.lst rvs)∧RowsAt K H held rvs∧(∀ q∈held,q.2.2.length≤n)∧names.length=nums.length∧names.Nodup∧names.length≤100∧rns.length=held.length∧rns.Nodup∧rns.length≤100∧
 ∀ nm rw H',(∀ b o,b≠fa→H b=some o→H' b=some o)→H nm=none→H rw=none→nm≠rw→(∀ F:Fm,F.N=names.zip nums→F.L=rns.zip held→F.i=0→FrD K CF H' n ⟨fa,dx,nm,rw,pr,cb⟩ F)→Q .non H'
structure CallAt (K:W.Frag) (CC CF:Addr) (C:CA) (H:Hp) (A:FA) (F:Fm) (n:Nat) (st:Addr) (P:Pr) (c:Cb) (fvs:List V) (p1:V) (pra2:Addr) (tk:Nat) (most:Int) (used:Nat):Prop where
 co:H C.co=some (.ins CC C.dc (kZ C.d1 C.d2 (.ref C.il) tk most used C.fl))
 fl:H C.fl=some (.lst fvs)
 fr:FrD K CF H n A F
 hn:n≤100
 pr:∃ p0 p2 p3 p4 p5 p6,H A.pra=some (.tup [p0,p1,p2,p3,p4,p5,p6])
 st:Held H (Dx.call c.x c.f c.as c.rows).toD (.ref st)
 d1:∃ kv,H C.d1=some (.dK kv)∧qh kv (Sum.inr c.f)=some (.ref pra2)
 p2:Held H P.toD (.ref pra2)
 ok:CallOk P c F
 fvs:fvs.length≤900
def jbd (K:W.Frag) (CC CF:Addr):Sp:=fun vs H Q _=>∃ (C:CA) (A:FA) (F:Fm) (n:Nat) (st:Addr) (P:Pr) (c:Cb) (fvs:List V) (p1 vp:V) (pra2:Addr) (tk:Nat) (most:Int) (used:Nat),vs=[.ref C.co,.ref A.fa,.ref st,vp]∧CallAt K CC CF C H A F n st P c fvs p1 pra2 tk most used∧
 (∀ k,kU (zX P c F).N (zX P c F).L P.needs=some k→∀ t H',Same H H'→H' t=some (.tup [.str "untrue",p1,.str "need",vp,.int k])→Q (.ref t) H')∧
 (kU (zX P c F).N (zX P c F).L P.needs=none→20 < fvs.length→∀ t H',Same H H'→H' t=some (.tup [.str "deep"])→Q (.ref t) H')∧
 (kU (zX P c F).N (zX P c F).L P.needs=none→¬ 20 < fvs.length→∀ (A2:FA) H',(∀ b o,b≠C.fl→H b=some o→H' b=some o)→H' C.fl=some (.lst (fvs++[.ref A2.fa]))→FrD K CF H' n A2 (zX P c F)→A2.pra=pra2→A2.cbv=.ref st→(∀ b∈A2.own,H b=none)→A2.own.Nodup→Q .non H')
theorem zv {H:Hp}:∀ {as:List Str} {vs:List V},HeldL H (as.map D.str) vs→vs=as.map V.str
 | [],vs,h=>jw h
 | a :: as,vs,h=>by
  rw [List.map_cons] at h
  obtain ⟨v,r,rfl,e1,h2⟩:=jb h
  cases jv e1
  rw [zv h2]
  rfl
theorem Yi {H:Hp} {x f:Str} {as rows:List Str} {v:V} (h:Held H (Dx.call x f as rows).toD v):∃ t ta tr,v=.ref t∧H t=some (.tup [.str "call",.str x,.str f,.ref ta,.ref tr])∧H ta=some (.tup (as.map V.str))∧H tr=some (.tup (rows.map V.str)):=by
 obtain ⟨t,xs,rfl,ht,h1⟩:=jp h
 obtain ⟨v1,r1,rfl,e1,h2⟩:=jb h1
 obtain ⟨v2,r2,rfl,e2,h3⟩:=jb h2
 obtain ⟨v3,r3,rfl,e3,h4⟩:=jb h3
 obtain ⟨v4,r4,rfl,e4,h5⟩:=jb h4
 obtain ⟨v5,r5,rfl,e5,h6⟩:=jb h5
 cases jw h6
 cases jv e1
 cases jv e2
 cases jv e3
 obtain ⟨ta,ya,rfl,hta,g1⟩:=jp e4
 obtain ⟨tr,yr,rfl,htr,g2⟩:=jp e5
 rw [zv g1] at hta
 rw [zv g2] at htr
 exact ⟨t,ta,tr,rfl,ht,hta,htr⟩
theorem zK {H:Hp} {P:Pr} {v:V} (h:Held H P.toD v):∃ a pt rt v4 v5 vb,v=.ref a∧H a=some (.tup [.str "proc",.str P.f,.ref pt,.ref rt,v4,v5,vb])∧H pt=some (.tup (P.ps.map V.str))∧H rt=some (.tup (P.rs.map V.str))∧Held H (.tup (P.needs.map Cl.toD)) v4∧Held H (.tup (P.gives.map Cl.toD)) v5∧Held H (.tup P.body) vb:=by
 obtain ⟨t,xs,rfl,ht,h1⟩:=jp h
 obtain ⟨v1,r1,rfl,e1,h2⟩:=jb h1
 obtain ⟨v2,r2,rfl,e2,h3⟩:=jb h2
 obtain ⟨v3,r3,rfl,e3,h4⟩:=jb h3
 obtain ⟨v4,r4,rfl,e4,h5⟩:=jb h4
 obtain ⟨v5,r5,rfl,e5,h6⟩:=jb h5
 obtain ⟨v6,r6,rfl,e6,h7⟩:=jb h6
 obtain ⟨v7,r7,rfl,e7,h8⟩:=jb h7
 cases jw h8
 cases jv e1
 cases jv e2
 obtain ⟨ta,ya,rfl,hta,g1⟩:=jp e3
 obtain ⟨tr,yr,rfl,htr,g2⟩:=jp e4
 rw [zv g1] at hta
 rw [zv g2] at htr
 exact ⟨t,ta,tr,v5,v6,v7,rfl,ht,hta,htr,e5,e6,e7⟩
theorem jal {α:Type} {L:List (Str×α)} {r:Str} {q:α} (h:(lkA L r).isSome=true):(kO L r q).length=L.length:=by
 have ha:(L.any fun z=>decide (z.1=r))=true:=by
  unfold lkA at h
  rw [Option.isSome_map,List.find?_isSome] at h
  obtain ⟨z,hz,e⟩:=h
  exact List.any_eq_true.mpr ⟨z,hz,e⟩
 unfold kO
 rw [if_pos ha,List.length_map]
theorem jer {α:Type} {L:List (Str×α)} {r r':Str} {q:α}:(lkA L r').isSome=true→(lkA (kO L r q) r').isSome=true:=by
 intro h
 unfold lkA at h ⊢
 rw [Option.isSome_map,List.find?_isSome] at h ⊢
 obtain ⟨z,hz,e⟩:=h
 unfold kO
 split
 ·by_cases hr:z.1=r
  ·exact ⟨(z.1,q),List.mem_map.mpr ⟨z,hz,by rw [if_pos hr]⟩,e⟩
  ·exact ⟨z,List.mem_map.mpr ⟨z,hz,by rw [if_neg hr]⟩,e⟩
 ·exact ⟨z,List.mem_append_left _ hz,e⟩
theorem jdB {L:List (Str×j0)}:∀ {ps:List (Str×j0)},(∀ p∈ps,(lkA L p.1).isSome=true)→(ja5 L ps).length=L.length:=by
 intro ps
 induction ps generalizing L with
 | nil=>intro _;rfl
 | cons p r ih=>
  intro h
  unfold ja5
  rw [List.foldl_cons]
  have h1:=ih (L:=kO L p.1 p.2) fun p' hp'=>jer (h p' (List.mem_cons_of_mem _ hp'))
  unfold ja5 at h1
  rw [h1,jal (h p List.mem_cons_self)]
theorem jdT {K:W.Frag} {H:Hp} {n:Nat}:∀ {rn:List Str} {held:List j0} {vs:List V} {rvs:List (Key×V)} {L:List (Str×j0)},RowsAt K H held vs→(∀ q∈held,q.2.2.length≤n)→rn.length=vs.length→RV K H n rvs L→RV K H n (Z3 rvs (zKV rn vs)) (ja5 L (rn.zip held))
 | [],[],[],_,_,_,_,_,h=>h
 | [],_ :: _,_ :: _,_,_,_,_,h,_=>by cases h
 | _ :: _,[],[],_,_,_,_,h,_=>by cases h
 | r :: rn,q :: held,v :: vs,rvs,L,⟨h1,h2⟩,hn,hl,h=>jdT (rn:=rn) (held:=held) (vs:=vs) (rvs:=qy rvs (Sum.inr r) v) (L:=kO L r q) h2 (fun q' hq=>hn q' (List.mem_cons_of_mem _ hq)) (by simpa using hl) (h.put h1 (hn q List.mem_cons_self))
def jdJ (K:W.Frag) (CC CF:Addr):Sp:=fun vs H Q _=>∃ (C:CA) (A:FA) (F:Fm) (n:Nat) (x:Str) (inp:List Int) (tk:Nat) (most:Int) (used:Nat),vs=[.ref C.co,.ref A.fa,.str x]∧H C.co=some (.ins CC C.dc (kZ C.d1 C.d2 (.ref C.il) tk most used C.fl))∧H C.il=some (.lst (inp.map V.int))∧FrD K CF H n A F∧F.N.length≤900∧C.co≠A.fa∧tk≤inp.length∧
 (inp[tk]?=none→∀ t H',Same H H'→H' t=some (.tup [.str "asks"])→Q (.ref t) H')∧
 ∀ v,inp[tk]?=some v→∀ H',(∀ b o,b≠A.nm→b≠C.co→H b=some o→H' b=some o)→H' A.nm=some (.dK (nKV (kO F.N x v)))→H' C.co=some (.ins CC C.dc (kZ C.d1 C.d2 (.ref C.il) (tk+1) most used C.fl))→Q .non H'
def jdN (K:W.Frag) (CF:Addr):Sp:=fun vs H Q _=>∃ (A:FA) (F:Fm) (n:Nat) (st hl:Addr) (c:Cb) (out:Int) (hvs:List V) (held:List j0),vs=[.ref A.fa,.ref st,.int out,.ref hl]∧FrD K CF H n A F∧Held H (Dx.call c.x c.f c.as c.rows).toD (.ref st)∧H hl=some (.lst hvs)∧RowsAt K H held hvs∧(∀ q∈held,q.2.2.length≤n)∧c.rows.length=held.length∧c.rows.Nodup∧c.rows.length≤100∧F.N.length≤900∧F.L.length≤100∧A.nm≠A.rw∧
 ∀ H',(∀ b o,b≠A.nm→b≠A.rw→H b=some o→H' b=some o)→H' A.nm=some (.dK (nKV (kO F.N c.x out)))→(∃ rvs,H' A.rw=some (.dK rvs)∧RV K H' n rvs (ja5 F.L (c.rows.zip held)))→Q .non H'
structure DoAt (K:W.Frag) (CC CF:Addr) (C:CA) (H:Hp) (A:FA) (F:Fm) (n:Nat) (st:Addr) (d:Dx) (inp:List Int) (p1:V) (tk:Nat) (most:Int) (used:Nat):Prop where
 co:H C.co=some (.ins CC C.dc (kZ C.d1 C.d2 (.ref C.il) tk most used C.fl))
 il:H C.il=some (.lst (inp.map V.int))
 fr:FrD K CF H n A F
 hn:n≤60
 pr:∃ p0 p2 p3 p4 p5 p6,H A.pra=some (.tup [p0,p1,p2,p3,p4,p5,p6])
 st:Held H d.toD (.ref st)
 N:F.N.length≤900
 L:F.L.length≤100
 cf:C.co≠A.fa
 tk:tk≤inp.length
 nr:A.nm≠A.rw
def jib (K:W.Frag) (CC CF:Addr) (C:CA) (H:Hp) (A:FA) (F:Fm) (n:Nat) (st:Addr) (inp:List Int) (p1 vp:V) (tk:Nat) (most:Int) (used:Nat) (Q:VK) (E:XK):Dx→Prop
 | .set x t c=>∀ H',(∀ b o,b≠A.nm→H b=some o→H' b=some o)→H' A.nm=some (.dK (nKV (kO F.N x (t.val F.N F.L+c))))→Q .non H'
 | .put r x d t c=>(lkA F.L r).isSome=true∧∀ H',(∀ b o,b≠A.rw→H b=some o→H' b=some o)→(∃ rvs,H' A.rw=some (.dK rvs)∧RV K H' (n+1) rvs (kO F.L r ((kY F.L r).1,(kY F.L r).2.1,(kY F.L r).2.2++[(ql F.N x+d,t.val F.N F.L+c)])))→Q .non H'
 | .any x=>(inp[tk]?=none→∀ t H',Same H H'→H' t=some (.tup [.str "asks"])→Q (.ref t) H')∧
  ∀ v,inp[tk]?=some v→∀ H',(∀ b o,b≠A.nm→b≠C.co→H b=some o→H' b=some o)→H' A.nm=some (.dK (nKV (kO F.N x v)))→H' C.co=some (.ins CC C.dc (kZ C.d1 C.d2 (.ref C.il) (tk+1) most used C.fl))→Q .non H'
 | .claim D=>(kU F.N F.L [D]=none→∀ H',Same H H'→Q .non H')∧∀ k,kU F.N F.L [D]=some k→∀ t H',Same H H'→H' t=some (.tup [.str "untrue",p1,.str "claim",vp,.int k])→Q (.ref t) H'
 | .call _ _ _ _=>jbd K CC CF [.ref C.co,.ref A.fa,.ref st,vp] H Q E
def jhF (K:W.Frag) (CC CF:Addr):Sp:=fun vs H Q E=>∃ (C:CA) (A:FA) (F:Fm) (n:Nat) (st:Addr) (d:Dx) (inp:List Int) (p1 vp:V) (tk:Nat) (most:Int) (used:Nat),vs=[.ref C.co,.ref A.fa,.ref st,vp]∧DoAt K CC CF C H A F n st d inp p1 tk most used∧jib K CC CF C H A F n st inp p1 vp tk most used Q E d
theorem jbg {d1 d2 fl:Addr} {vi:V} {tk tk' used:Nat} {most:Int}:jZ "taken" (.int tk') (kZ d1 d2 vi tk most used fl)=kZ d1 d2 vi tk' most used fl:=by
 unfold kZ
 simp only [jZ]
 rw [if_neg (by decide),if_neg (by decide),if_neg (by decide)]
 rfl
theorem JI {d1 d2 fl:Addr} {vi:V} {tk used u':Nat} {most:Int}:jZ "used" (.int u') (kZ d1 d2 vi tk most used fl)=kZ d1 d2 vi tk most u' fl:=by
 unfold kZ
 simp only [jZ]
 rw [if_neg (by decide),if_neg (by decide),if_neg (by decide),if_neg (by decide),if_neg (by decide)]
 rfl
theorem jeR {H:Hp} {le ks:D} {kd:Str} {p:List Int} {yes no:Nat} {v:V} (h:Held H (Ym le ks kd p yes no) v):∃ a vl vk vp,v=.ref a∧H a=some (.tup [.str "ask",vl,vk,.str kd,vp,.int yes,.int no])∧Held H le vl∧Held H ks vk∧Held H (kW p) vp:=by
 obtain ⟨a,xs,rfl,ha,h1⟩:=jp h
 obtain ⟨v1,r1,rfl,e1,h2⟩:=jb h1
 obtain ⟨v2,r2,rfl,e2,h3⟩:=jb h2
 obtain ⟨v3,r3,rfl,e3,h4⟩:=jb h3
 obtain ⟨v4,r4,rfl,e4,h5⟩:=jb h4
 obtain ⟨v5,r5,rfl,e5,h6⟩:=jb h5
 obtain ⟨v6,r6,rfl,e6,h7⟩:=jb h6
 obtain ⟨v7,r7,rfl,e7,h8⟩:=jb h7
 cases jw h8
 cases jv e1
 cases jv e4
 cases jV e6
 cases jV e7
 exact ⟨a,v2,v3,v5,rfl,ha,e2,e3,e5⟩
theorem jf4 {H:Hp} {d:Dx} {p:List Int} {v:V} (h:Held H (Sx.do_ d p).toD v):∃ a st vp,v=.ref a∧H a=some (.tup [.str "do",.ref st,vp])∧Held H d.toD (.ref st)∧Held H (kW p) vp:=by
 obtain ⟨a,xs,rfl,ha,h1⟩:=jp h
 obtain ⟨v1,r1,rfl,e1,h2⟩:=jb h1
 obtain ⟨v2,r2,rfl,e2,h3⟩:=jb h2
 obtain ⟨v3,r3,rfl,e3,h4⟩:=jb h3
 cases jw h4
 cases jv e1
 have:∃ st,v2=.ref st:=by
  cases d <;> (obtain ⟨st,_,e,_⟩:=jp e2;exact ⟨st,e⟩)
 obtain ⟨st,rfl⟩:=this
 exact ⟨a,st,v3,rfl,ha,e2,e3⟩
abbrev qR:Stmt:=top 32
abbrev jb2:Stmt:=top 33
abbrev jfj:Stmt:=top 36
section
variable {P:Program} {w:World} {K:W.Frag} {mg:Str→Option Value} {base:Heap}
theorem Kb {CF:Addr} {f:Addr} {fd:FuncData} (T:ClsF K CF) (Z_enumerate:mg "enumerate" = none) (F:Fun K "first_untrue" "first_untrue" qR f fd) (F_holds:Fn P w K mg base 5 "holds" ["claim","numbers","rows"] (yl (fun _=>True) K)):FnOk P w K mg base CX0 6 f fd ["claims","frame"] (Zh K CF):=by
 have sc:FnScope ["claims","frame","k","claim"] ["claims","frame"] (jl qR):=fs
 refine F.okZ sc (fun vs H Q E h=>?_) (fun cdv A outer s H vs Q E hr h=>?_)
 ·obtain ⟨vc,cs,B,Fm,n,rfl,_⟩:=h
  rfl
 obtain ⟨vc,cs,Ad,Fm,n,rfl,hc,hD,hn,q⟩:=h
 obtain ⟨ca,xs,rfl,eca,hxs⟩:=jp hc
 have hl:=hxs.length
 rw [List.length_map] at hl
 refine ⟨_,(jd (Kh PassesOwn.never rfl (jcy (by rfl) Z_enumerate (je (zpv 0) ji)) (qQ rfl (jx (js (i:=2) sc.nd rfl ol) (jx (js (i:=3) sc.nd rfl ol) qg))) (jr (kl (Y9 (y7 (jR F_holds hr (je (zpv 3) (je (jI (zpv 1) rfl) (je (jI (zpv 1) rfl) ji)))))) (jr (jT (zpv 2))) jY)))
   (jr (jT kz))),?_⟩
 refine yg (σ':=[some (.ref ca),some (.ref Ad.fa),none,none]) rfl ?_
 refine ⟨_,rfl,ca,rfl,⟨_,SqT.of eca⟩,?_⟩
 refine YY (xs:=xs) (fun j σ G=>∃ u2 u3,σ=[some (.ref ca),some (.ref Ad.fa),u2,u3]∧Same H G∧∀ j' c,j' < j→cs[j']?=some c→yj Fm.N Fm.L c=true) ⟨none,none,rfl,Same.refl _,fun j' c h=>absurd h (Nat.not_lt_zero _)⟩ ?_ ?_ ?_
 ·rintro j σ G _ ⟨u2,u3,rfl,sG,_⟩
  exact SqT.of (sG _ _ eca)
 ·rintro j y σ G t hy ⟨u2,u3,rfl,sG,hall⟩ ht
  have hj:j < cs.length:=by have:=(List.getElem?_eq_some_iff.mp hy).1;omega
  have hcj:cs[j]?=some cs[j]:=List.getElem?_eq_getElem hj
  obtain ⟨y',hy',hyH⟩:=hxs.get (show (cs.map Cl.toD)[j]?=some (Cl.toD cs[j]) by rw [List.getElem?_map,hcj];rfl)
  rw [hy] at hy'
  cases hy'
  have s1:=jj ht (.tup [V.int j,y])
  have e1:upd G t (.tup [V.int j,y]) t=some (.tup [V.int j,y]):=ja
  have sG1:=sG.trans s1
  generalize upd G t (.tup [V.int j,y])=G1 at *
  refine ⟨t,_,rfl,SqT.of e1,rfl,_,_,rfl,?_⟩
  refine gs ?_
  refine ⟨_,_,rfl,?_⟩
  refine gs ?_
  refine ⟨rfl,?_⟩
  have hD1:=hD.same sG1
  obtain ⟨rvs,hrw,hRV⟩:=hD1.rw
  refine ⟨_,rfl,_,rfl,Ad.fa,CF,Ad.dx,_,_,rfl,hD1.fa,T.c,T.n3,rfl,_,rfl,Ad.fa,CF,Ad.dx,_,_,rfl,hD1.fa,T.c,T.n4,rfl,?_⟩
  refine ⟨y,cs[j],Ad.nm,Ad.rw,n,Fm.N,rvs,Fm.L,rfl,hyH.mono sG1,trivial,hD1.nm,hrw,hRV,hn,fun b G2 s2 hb=>⟨_,rfl,?_⟩⟩
  have hb':=KD hb
  subst hb'
  refine j7 (fun d=>?_) (fun d=>?_)
  ·have hfalse:yj Fm.N Fm.L cs[j]=false:=by simpa using d
   have hfi:kU Fm.N Fm.L cs=some j:=by
    unfold kU
    rw [List.findIdx?_eq_some_iff_getElem]
    refine ⟨hj,by rw [hfalse];rfl,fun j' hj'=>?_⟩
    rw [hall j' cs[j'] hj' (List.getElem?_eq_getElem (by omega))]
    simp
   refine ⟨_,rfl,?_⟩
   have:=q G2 (sG1.trans s2)
   rw [hfi] at this
   exact this
  ·have htrue:yj Fm.N Fm.L cs[j]=true:=by simpa using d
   refine ⟨_,_,rfl,sG1.trans s2,fun j' c h1 h2=>?_⟩
   rcases Nat.lt_or_ge j' j with g | g
   ·exact hall j' c g h2
   ·have:j'=j:=by omega
    subst this
    rw [hcj] at h2
    cases h2
    exact htrue
 ·rintro σ G ⟨u2,u3,rfl,sG,hall⟩
  have hfi:kU Fm.N Fm.L cs=none:=by
   unfold kU
   rw [List.findIdx?_eq_none_iff]
   intro c hc
   obtain ⟨j,hj⟩:=List.mem_iff_getElem?.mp hc
   rw [hall j c (by have:=(List.getElem?_eq_some_iff.mp hj).1;omega) hj]
   rfl
  have:=q G sG
  rw [hfi] at this
  exact this
theorem jfN {CF:Addr} {f:Addr} {fd:FuncData} (F:Fun K "look" "look" jb2 f fd) (F_first_untrue:Fn P w K mg base 6 "first_untrue" ["claims","frame"] (Zh K CF)):FnOk P w K mg base CX0 7 f fd ["f","kind","path","claims","frame"] (KF K CF):=by
 have sc:FnScope ["f","kind","path","claims","frame","k"] ["f","kind","path","claims","frame"] (jl jb2):=fs
 refine F.okZ sc (fun vs H Q E h=>?_) (fun cdv A outer s H vs Q E hr h=>?_)
 ·obtain ⟨vf,vk,vp,vc,cs,Ad,Fm,n,rfl,_⟩:=h
  rfl
 obtain ⟨vf,vk,vp,vc,cs,Ad,Fm,n,rfl,hc,hD,hn,q1,q2⟩:=h
 refine ⟨_,(jd (jF (i:=5) sc.nd rfl ol (jR F_first_untrue hr (je (zpv 3) (je (zpv 4) ji))))
   (jd (kl (jQ Zn (zpv 5) kz (jJ _)) (jr (jT kz)) jY)
   (jr (jT (kH (je kh (je (zpv 0) (je (zpv 1) (je (zpv 2) (je (zpv 5) ji)))))))))),?_⟩
 refine ⟨_,rfl,_,rfl,vc,cs,Ad,Fm,n,rfl,hc,hD,hn,fun G sG=>?_⟩
 cases hu:kU Fm.N Fm.L cs with
 | none=>
  refine ⟨_,rfl,rfl,_,rfl,j7 (fun d=>?_) (fun d=>absurd (decide_eq_true (show jhU none=V.non from rfl)) d)⟩
  exact q1 hu G sG
 | some k=>
  refine ⟨_,rfl,rfl,_,rfl,j7 (fun d=>?_) (fun d=>?_)⟩
  ·have:=of_decide_eq_true d
   cases this
  ·exact ⟨_,rfl,_,rfl,_,rfl,_,rfl,sm rfl,fun t ht=>q2 k hu t _ (sG.trans (jj ht _)) ja⟩
theorem jg3 {CF:Addr} {f:Addr} {fd:FuncData} (T:ClsF K CF) (F:Fun K "ask" "ask" jfj f fd) (F_look:Fn P w K mg base 7 "look" ["f","kind","path","claims","frame"] (KF K CF)) (F_holds:Fn P w K mg base 5 "holds" ["claim","numbers","rows"] (yl (fun _=>True) K)):FnOk P w K mg base CX0 8 f fd ["frame","step"] (jgl K CF):=by
 have sc:FnScope ["frame","step","least","claims","kind","path","yes","no","end"] ["frame","step"] (jl jfj):=fs
 refine F.okZ sc (fun vs H Q E h=>?_) (fun cdv A outer s H vs Q E hr h=>?_)
 ·obtain ⟨Ad,Fm,n,p0,p1,p2,p3,p4,p5,p6,st,vl,vk,vp,kd,le,cs,yes,no,rfl,_⟩:=h
  rfl
 obtain ⟨Ad,Fm,n,p0,p1,p2,p3,p4,p5,p6,st,vl,vk,vp,kd,le,cs,yes,no,rfl,hD,hn,hpr,hst,hl,hk,q1,q2⟩:=h
 refine ⟨_,(jd (qA (qN zC (zpv 1) (qB jh) yi) (qQ rfl (jx (js (i:=2) sc.nd rfl ol) (jx (js (i:=3) sc.nd rfl ol) (jx (js (i:=4) sc.nd rfl ol) (jx (js (i:=5) sc.nd rfl ol) (jx (js (i:=6) sc.nd rfl ol) (jx (js (i:=7) sc.nd rfl ol) qg))))))))
   (jd (jF (i:=8) sc.nd rfl ol (jR F_look hr (je (jO jP (jI (zpv 0) rfl) jh (fun _ _=>rfl)) (je (zpv 4) (je (zpv 5) (je (zpv 3) (je (zpv 0) ji)))))))
   (jd (kl (jQ Kt (zpv 8) kz (jJ _)) (jr (jT (zpv 8))) jY)
   (jd (kQ (zpv 0) (zpv 7) rfl)
   (jd (kl (y7 (jR F_holds hr (je (zpv 2) (je (jI (zpv 0) rfl) (je (jI (zpv 0) rfl) ji))))) (jr (kQ (zpv 0) (zpv 6) rfl)) jY)
   (jr (jT kz))))))),?_⟩
 refine yg (σ':=[some (.ref Ad.fa),some (.ref st),none,none,none,none,none,none,none]) rfl ?_
 refine ⟨_,rfl,_,rfl,st,_,rfl,SqT.of hst,(fun h=>absurd h.1 (by show ¬ (HT.sIx 7 0 (some 1)=0);decide)),fun t ht=>?_⟩
 rw [show qZ [V.str "ask",vl,vk,V.str kd,vp,V.int yes,V.int no] (some 1) none=[vl,vk,V.str kd,vp,V.int yes,V.int no] from rfl]
 have s1:=jj ht (.tup [vl,vk,V.str kd,vp,V.int yes,V.int no])
 have e1:upd H t (.tup [vl,vk,V.str kd,vp,V.int yes,V.int no]) t=some (.tup [vl,vk,V.str kd,vp,V.int yes,V.int no]):=ja
 generalize upd H t (.tup [vl,vk,V.str kd,vp,V.int yes,V.int no])=H1 at *
 refine ⟨t,_,rfl,SqT.of e1,rfl,_,_,rfl,?_⟩
 refine gs ?_
 refine ⟨_,_,rfl,?_⟩
 refine gs ?_
 refine ⟨_,_,rfl,?_⟩
 refine gs ?_
 refine ⟨_,_,rfl,?_⟩
 refine gs ?_
 refine ⟨_,_,rfl,?_⟩
 refine gs ?_
 refine ⟨_,_,rfl,?_⟩
 refine gs ?_
 refine ⟨rfl,?_⟩
 have hD1:=hD.same s1
 refine ⟨_,rfl,Ad.fa,CF,Ad.dx,_,_,rfl,hD1.fa,T.c,T.n1,rfl,Ad.pra,_,_,_,rfl,rfl,SqT.of (s1 _ _ hpr),rfl,_,rfl,_,rfl,_,rfl,_,rfl,?_⟩
 refine ⟨p1,.str kd,vp,vk,cs,Ad,Fm,n,rfl,hk.mono s1,hD1,hn,fun hu G sG=>?_,fun k hu t2 G sG ht2=>?_⟩
 ·have sHG:=s1.trans sG
  refine ⟨_,rfl,rfl,_,rfl,j7 (fun d=>absurd d (by show ¬ ((!decide (V.non=V.non))=true);simp)) (fun _=>?_)⟩
  have hDG:=hD.same sHG
  obtain ⟨rvs,hrw,hRV⟩:=hDG.rw
  refine ⟨_,rfl,_,rfl,Ad.fa,CF,Ad.dx,_,rfl,hDG.fa,T.c,T.n5,by show 5 < 1000;decide,?_⟩
  rw [Jm]
  have t2:TKF G (upd G Ad.fa (.ins CF Ad.dx (zx Ad.pra Ad.cbv Ad.nm Ad.rw no))):=TKF.upd hDG.fa (fun _ z=>by cases z) fun _ _ z=>by cases z
  have e2:upd G Ad.fa (.ins CF Ad.dx (zx Ad.pra Ad.cbv Ad.nm Ad.rw no)) Ad.fa=some (.ins CF Ad.dx (zx Ad.pra Ad.cbv Ad.nm Ad.rw no)):=ja
  have k2:∀ b o,b≠Ad.fa→H b=some o→upd G Ad.fa (.ins CF Ad.dx (zx Ad.pra Ad.cbv Ad.nm Ad.rw no)) b=some o:=fun b o hb e=>by rw [jg hb];exact sHG _ _ e
  have tk2:TK H (upd G Ad.fa (.ins CF Ad.dx (zx Ad.pra Ad.cbv Ad.nm Ad.rw no))):=fun b xs e=>k2 _ _ (j4 e hD.fa (by intro z;cases z)) e
  have hn2:upd G Ad.fa (.ins CF Ad.dx (zx Ad.pra Ad.cbv Ad.nm Ad.rw no)) Ad.nm=some (.dK (nKV Fm.N)):=by rw [jg (j4 hDG.nm hDG.fa (by intro z;cases z))];exact hDG.nm
  have hrw2:upd G Ad.fa (.ins CF Ad.dx (zx Ad.pra Ad.cbv Ad.nm Ad.rw no)) Ad.rw=some (.dK rvs):=by rw [jg (j4 hrw hDG.fa (by intro z;cases z))];exact hrw
  have hRV2:=hRV.tk t2
  generalize upd G Ad.fa (.ins CF Ad.dx (zx Ad.pra Ad.cbv Ad.nm Ad.rw no))=G2 at *
  refine ⟨_,rfl,_,rfl,Ad.fa,CF,Ad.dx,_,_,rfl,e2,T.c,T.n3,rfl,_,rfl,Ad.fa,CF,Ad.dx,_,_,rfl,e2,T.c,T.n4,rfl,?_⟩
  refine ⟨vl,le,Ad.nm,Ad.rw,n,Fm.N,rvs,Fm.L,rfl,tk2.held hl,trivial,hn2,hrw2,hRV2,hn,fun b G3 s3 hb=>⟨_,rfl,?_⟩⟩
  have hb':=KD hb
  subst hb'
  refine j7 (fun d=>?_) (fun d=>?_)
  ·refine ⟨_,rfl,_,rfl,Ad.fa,CF,Ad.dx,_,rfl,s3 _ _ e2,T.c,T.n5,by show 5 < 1000;decide,?_⟩
   rw [Jm]
   refine q1 hu _ (fun b o hb e=>by rw [jg hb];exact s3 _ _ (k2 b o hb e)) ?_
   rw [if_pos d]
   exact ja
  ·refine q1 hu _ (fun b o hb e=>s3 _ _ (k2 b o hb e)) ?_
   rw [if_neg d]
   exact s3 _ _ e2
 ·refine ⟨_,rfl,rfl,_,rfl,j7 (fun _=>?_) (fun d=>absurd (show (!decide (V.ref t2=V.non))=true by simp) d)⟩
  exact ⟨_,rfl,q2 k hu t2 G (s1.trans sG) ht2⟩
end
abbrev qD:Stmt:=jce (top 29) 0
abbrev YI:Stmt:=top 39
section
variable {P:Program} {w:World} {K:W.Frag} {mg:Str→Option Value} {base:Heap}
theorem jek {CF:Addr} {f:Addr} {fd:FuncData} (T:ClsF K CF) (F:Fun K "__init__" "Frame.__init__" qD f fd) (B:Free0 mg) (Z_zip:mg "zip" = none):FnOk P w K mg base CX0 1 f fd ["self","proc","numbers","rows","called_by"] (Zg K CF):=by
 have sc:FnScope ["self","proc","numbers","rows","called_by"] ["self","proc","numbers","rows","called_by"] (jl qD):=fs
 refine F.okZ sc (fun vs H Q E h=>?_) (fun cdv A outer s H vs Q E hr h=>?_)
 ·obtain ⟨fa,dx,pr,pt,rt,nl,rl,cb,p0,p1,p4,p5,p6,names,rns,nums,held,rvs,n,rfl,_⟩:=h
  rfl
 obtain ⟨fa,dx,pr,pt,rt,nl,rl,cb,p0,p1,p4,p5,p6,names,rns,nums,held,rvs,n,rfl,hfa,hpr,hpt,hrt,hnl,hrl,hro,hwn,hln,hnd,hl,hlr,hndr,hl2,q⟩:=h
 have hrl0:=hro.len
 refine ⟨_,(jd (kQ (zpv 0) (zpv 1) rfl)
   (jd (kQ (zpv 0) (zpv 4) rfl)
   (jd (kQ (zpv 0) (Ky rfl (by rfl) B.dict_ ZU (by rfl) Z_zip jbK (je (jO jP (zpv 1) jh (fun _ _=>rfl)) (je (zpv 2) ji))) rfl)
   (jd (kQ (zpv 0) (Ky rfl (by rfl) B.dict_ ZU (by rfl) Z_zip jbK (je (jO jP (zpv 1) jh (fun _ _=>rfl)) (je (zpv 3) ji))) rfl)
   (jr (kQ (zpv 0) jh rfl)))))),?_⟩
 refine ⟨_,rfl,_,rfl,fa,CF,dx,[],rfl,hfa,T.c,T.n1,by show 0 < 1000;decide,?_⟩
 refine ⟨_,rfl,_,rfl,fa,CF,dx,_,rfl,ja,T.c,T.n2,by show 1 < 1000;decide,?_⟩
 have k1:∀ b o,b≠fa→H b=some o→upd (upd H fa (.ins CF dx (jZ "proc" (.ref pr) []))) fa (.ins CF dx (jZ "called_by" cb (jZ "proc" (.ref pr) []))) b=some o:=fun b o hb z=>by rw [jg hb,jg hb];exact z
 have c1:upd (upd H fa (.ins CF dx (jZ "proc" (.ref pr) []))) fa (.ins CF dx (jZ "called_by" cb (jZ "proc" (.ref pr) []))) fa=some (.ins CF dx (jZ "called_by" cb (jZ "proc" (.ref pr) []))):=ja
 generalize upd (upd H fa (.ins CF dx (jZ "proc" (.ref pr) []))) fa (.ins CF dx (jZ "called_by" cb (jZ "proc" (.ref pr) [])))=H1 at *
 have nf:∀ {b o},H b=some o→(∀ a b c,o≠.ins a b c)→b≠fa:=fun e n z=>by rw [z,hfa] at e;cases e;exact n _ _ _ rfl
 have hpr1:=k1 _ _ (nf hpr (fun _ _ _ z=>by cases z)) hpr
 have hpt1:=k1 _ _ (nf hpt (fun _ _ _ z=>by cases z)) hpt
 have hrt1:=k1 _ _ (nf hrt (fun _ _ _ z=>by cases z)) hrt
 have hnl1:=k1 _ _ (nf hnl (fun _ _ _ z=>by cases z)) hnl
 have hrl1:=k1 _ _ (nf hrl (fun _ _ _ z=>by cases z)) hrl
 refine ⟨_,rfl,pr,_,_,_,rfl,rfl,SqT.of hpr1,rfl,_,rfl,pt,nl,names,nums.map V.int,rfl,SqT.of hpt1,hnl1,by rw [List.length_map];exact hln,hnd,by omega,fun nm hnm=>?_⟩
 have s2:=jj hnm (.dK (zKV names (nums.map V.int)))
 have e2:upd H1 nm (.dK (zKV names (nums.map V.int))) nm=some (.dK (zKV names (nums.map V.int))):=ja
 generalize upd H1 nm (.dK (zKV names (nums.map V.int)))=H2 at *
 have hnm0:H nm=none:=by
  rcases hh:H nm with _ | o
  ·rfl
  ·by_cases z:nm=fa
   ·rw [z,c1] at hnm;cases hnm
   ·rw [k1 nm o z hh] at hnm;cases hnm
 have nnf:nm≠fa:=fun z=>by rw [z,c1] at hnm;cases hnm
 refine ⟨_,rfl,fa,CF,dx,_,rfl,s2 _ _ c1,T.c,T.n3,by show 2 < 1000;decide,?_⟩
 have k3:∀ b o,b≠fa→H2 b=some o→upd H2 fa (.ins CF dx (jZ "numbers" (.ref nm) (jZ "called_by" cb (jZ "proc" (.ref pr) [])))) b=some o:=fun b o hb z=>by rw [jg hb];exact z
 have c3:upd H2 fa (.ins CF dx (jZ "numbers" (.ref nm) (jZ "called_by" cb (jZ "proc" (.ref pr) [])))) fa=some (.ins CF dx (jZ "numbers" (.ref nm) (jZ "called_by" cb (jZ "proc" (.ref pr) [])))):=ja
 generalize upd H2 fa (.ins CF dx (jZ "numbers" (.ref nm) (jZ "called_by" cb (jZ "proc" (.ref pr) []))))=H3 at *
 have hpr3:=k3 _ _ (nf hpr (fun _ _ _ z=>by cases z)) (s2 _ _ hpr1)
 have hrt3:=k3 _ _ (nf hrt (fun _ _ _ z=>by cases z)) (s2 _ _ hrt1)
 have hrl3:=k3 _ _ (nf hrl (fun _ _ _ z=>by cases z)) (s2 _ _ hrl1)
 have e3n:=k3 _ _ nnf e2
 refine ⟨_,rfl,pr,_,_,_,rfl,rfl,SqT.of hpr3,rfl,_,rfl,rt,rl,rns,rvs,rfl,SqT.of hrt3,hrl3,by omega,hndr,by omega,fun rw hrw=>?_⟩
 have s4:=jj hrw (.dK (zKV rns rvs))
 have e4:upd H3 rw (.dK (zKV rns rvs)) rw=some (.dK (zKV rns rvs)):=ja
 generalize upd H3 rw (.dK (zKV rns rvs))=H4 at *
 have hrw0:H rw=none:=by
  rcases hh:H rw with _ | o
  ·rfl
  ·by_cases z:rw=fa
   ·rw [z,c3] at hrw;cases hrw
   ·rw [k3 rw o z (s2 _ _ (k1 rw o z hh))] at hrw;cases hrw
 have nrf:rw≠fa:=fun z=>by rw [z,c3] at hrw;cases hrw
 have nnr:nm≠rw:=fun z=>by rw [← z,e3n] at hrw;cases hrw
 refine ⟨_,rfl,fa,CF,dx,_,rfl,s4 _ _ c3,T.c,T.n4,by show 3 < 1000;decide,?_⟩
 refine ⟨_,rfl,fa,CF,dx,_,rfl,ja,T.c,T.n5,by show 4 < 1000;decide,?_⟩
 rw [jdc]
 have kk:∀ b o,b≠fa→H b=some o→upd (upd H4 fa (.ins CF dx (jZ "rows" (.ref rw) (jZ "numbers" (.ref nm) (jZ "called_by" cb (jZ "proc" (.ref pr) [])))))) fa (.ins CF dx (zx pr cb nm rw 0)) b=some o:=fun b o hb z=>by
  rw [jg hb,jg hb];exact s4 _ _ (k3 b o hb (s2 _ _ (k1 b o hb z)))
 refine q nm rw _ kk hnm0 hrw0 nnr fun F hN hL hi=>?_
 refine ⟨?_,?_,zKV rns rvs,?_,?_⟩
 ·rw [hi];exact ja
 ·rw [hN,← je4]
  show upd _ _ _ nm=_
  rw [jg nnf,jg nnf];exact s4 _ _ e3n
 ·show upd _ _ _ rw=_
  rw [jg nrf,jg nrf];exact e4
 ·rw [hL]
  refine jdS (hro.tk ⟨fun b xs z=>kk b _ (nf z (fun _ _ _ y=>by cases y)) z,fun b o u z=>kk b _ (nf z (fun _ _ _ y=>by cases y)) z⟩) hwn (by omega)
theorem jfP {CC CF:Addr} {f:Addr} {fd:FuncData} {td:Tok} (TC:ClsC K CC) (T:ClsF K CF) (F:Fun K "call" "call" YI f fd) (B:Free0 mg) (G_deep:mg "MOST_DEEP" = some (.int 20 td)) (F_number_at:Fn P w K mg base 1 "number_at" ["x","numbers"] qT) (M_Frame:MkFn P w K mg base 1 "Frame" CF ["self","proc","numbers","rows","called_by"] (Zg K CF)) (F_look:Fn P w K mg base 7 "look" ["f","kind","path","claims","frame"] (KF K CF)):FnOk P w K mg base CX0 8 f fd ["course","frame","statement","path"] (jbd K CC CF):=by
 have sc:FnScope ["course","frame","statement","path","x","f","args","rows","numbers","called","end"] ["course","frame","statement","path"] (jl YI):=fs
 refine F.okZ sc (fun vs H Q E h=>?_) (fun cdv A outer s H vs Q E hr h=>?_)
 ·obtain ⟨C,A,F,n,st,P,c,fvs,p1,vp,pra2,tk,most,used,rfl,_⟩:=h
  rfl
 obtain ⟨C,Ad,Fr,n,st,Pp,c,fvs,p1,vp,pra2,tk,most,used,rfl,hC,q1,q2,q3⟩:=h
 have hu:=yO hr
 obtain ⟨st',ta,tr,est,hst,hta,htr⟩:=Yi hC.st
 cases est
 obtain ⟨rvs,hrw,hRV⟩:=hC.fr.rw
 obtain ⟨p0,p2,p3,p4,p5,p6,hpr⟩:=hC.pr
 obtain ⟨kv,hd1,hval⟩:=hC.d1
 obtain ⟨a2,pt,rt,v4,v5,vb,ea2,hp2,hpt,hrt,hv4,hv5,hvb⟩:=zK hC.p2
 cases ea2
 refine ⟨_,(jd (qA (qN zC (zpv 2) (qB jh) yi) (qQ rfl (jx (js (i:=4) sc.nd rfl ol) (jx (js (i:=5) sc.nd rfl ol) (jx (js (i:=6) sc.nd rfl ol) (jx (js (i:=7) sc.nd rfl ol) qg))))))
   (jd (qS (i:=8) sc.nd rfl ol ["arg"] [1] rfl (qf (sc:=jl YI) (N:=["course","frame","statement","path","x","f","args","rows","numbers","called","end"]) rfl rfl (by decide +kernel)) (Ja (zpv 6)) (fun s H ex=>⟨(js (i:=0) (show List.Nodup (["arg","frame"]:List Str) by decide +kernel) rfl ol),qz,(jR F_number_at hr (je (zpv 0) (je (Kx (K:=K) (zpv 1) rfl) ji)))⟩))
   (jd (jF (i:=9) sc.nd rfl ol (ja2 M_Frame hr (je (zF hu (jI (zpv 0) rfl) (zpv 5) (fun _ _=>rfl)) (je (zpv 8) (je (ZX ["r"] [1] rfl (qf (sc:=jl YI) (N:=["course","frame","statement","path","x","f","args","rows","numbers","called","end"]) rfl rfl (by decide +kernel)) (Ja (zpv 7)) (fun s H ex=>⟨(js (i:=0) (show List.Nodup (["r","frame"]:List Str) by decide +kernel) rfl ol),qz,(zF hu (Kx (K:=K) (zpv 1) rfl) (zpv 0) (fun _ _=>rfl))⟩)) (je (zpv 2) ji))))))
   (jd (jF (i:=10) sc.nd rfl ol (jR F_look hr (je (jO jP (jI (zpv 1) rfl) jh (fun _ _=>rfl)) (je kh (je (zpv 3) (je (jO jP (jI (zpv 9) rfl) jh (fun _ _=>rfl)) (je (zpv 9) ji)))))))
   (jd (kl (jQ Kt (zpv 10) kz (jJ _)) (jr (jT (zpv 10))) jY)
   (jd (kl (jQ jee (zQ j9 (by rfl) B.len_ q5 (je (jI (zpv 0) rfl) ji)) (jdv (v:=.int 20) (by rfl) G_deep ⟨_,rfl⟩) (jJ _)) (jr (jT (kH (je kh ji)))) jY)
   (jd (zE (Zb PySem.F.plainAttrs_list PySem.F.slot_list_append PySem.F.type_list_append kF (jI (zpv 0) rfl) (je (zpv 9) ji)))
   (jr (jT kz))))))))),?_⟩
 refine yg (σ':=[some (.ref C.co),some (.ref Ad.fa),some (.ref st),some vp,none,none,none,none,none,none,none]) rfl ?_
 refine ⟨_,rfl,_,rfl,st,_,rfl,SqT.of hst,(fun h=>absurd h.1 (by show ¬ (HT.sIx 5 0 (some 1)=0);decide)),fun t ht=>?_⟩
 rw [show qZ [V.str "call",V.str c.x,V.str c.f,V.ref ta,V.ref tr] (some 1) none=[V.str c.x,V.str c.f,V.ref ta,V.ref tr] from rfl]
 have s1:=jj ht (.tup [V.str c.x,V.str c.f,V.ref ta,V.ref tr])
 have e1:upd H t (.tup [V.str c.x,V.str c.f,V.ref ta,V.ref tr]) t=some (.tup [V.str c.x,V.str c.f,V.ref ta,V.ref tr]):=ja
 generalize upd H t (.tup [V.str c.x,V.str c.f,V.ref ta,V.ref tr])=H1 at *
 refine ⟨t,_,rfl,SqT.of e1,rfl,_,_,rfl,?_⟩
 refine gs ?_
 refine ⟨_,_,rfl,?_⟩
 refine gs ?_
 refine ⟨_,_,rfl,?_⟩
 refine gs ?_
 refine ⟨_,_,rfl,?_⟩
 refine gs ?_
 refine ⟨rfl,?_⟩
 refine ⟨_,rfl,ta,rfl,⟨_,SqT.of (s1 _ _ hta)⟩,fun nl hnl=>?_⟩
 refine Js (xs:=c.as.map V.str) (fun j σ' G=>∃ u,σ'=[u,some (.ref Ad.fa)]∧Same H1 G∧G nl=some (.lst (((c.as.take j).map (ql Fr.N)).map V.int))) ⟨none,rfl,jj hnl _,ja⟩ ?_ ?_ ?_
 ·rintro j σ' G _ ⟨u,rfl,sG,_⟩
  exact SqT.of (sG _ _ (s1 _ _ hta))
 ·rintro j x σ' G hx ⟨u,rfl,sG,hG⟩
  have hj:j < c.as.length:=by
   have:=(List.getElem?_eq_some_iff.mp hx).1
   rw [List.length_map] at this
   exact this
  rw [List.getElem?_map,List.getElem?_eq_getElem hj] at hx
  cases hx
  unfold qo yK
  refine zZ ?_
  have hDG:=hC.fr.same (s1.trans sG)
  refine ⟨_,rfl,_,rfl,Ad.fa,CF,Ad.dx,_,_,rfl,hDG.fa,T.c,T.n3,rfl,_,Ad.nm,Fr.N,rfl,hDG.nm,?_⟩
  have hl:=hC.ok.as
  have hl1:=hC.ok.lps
  refine ⟨_,hG,jz (by rw [List.length_map,List.length_map,List.length_take];omega),_,rfl,fun b o e=>?_,?_⟩
  ·rw [jg (jk e hnl)];exact sG _ _ e
  ·rw [ja,List.take_succ,List.getElem?_eq_getElem hj,List.map_append,List.map_append];rfl
 rintro σ' H2 ⟨u,rfl,s2,hnl2⟩
 rw [List.length_map,List.take_length] at hnl2
 refine gs ?_
 have s12:=s1.trans s2
 have hg:DGet H2 C.d1 (kV (Sum.inr c.f)) (some (.ref pra2)):=by
  have h:=DGet.k (k:=Sum.inr c.f) (s12 _ _ hd1)
  rw [hval] at h
  exact h
 refine ⟨_,rfl,C.co,CC,C.dc,_,_,rfl,s12 _ _ hC.co,TC.c,TC.n1,rfl,_,rfl,C.d1,.ref pra2,rfl,hg,_,rfl,_,rfl,tr,rfl,⟨_,SqT.of (s12 _ _ htr)⟩,fun rl hrl=>?_⟩
 refine Js (xs:=c.rows.map V.str) (fun j σ' G=>∃ u vs,σ'=[u,some (.ref Ad.fa)]∧Same H2 G∧G rl=some (.lst vs)∧RowsAt K G ((c.rows.take j).map (kY Fr.L)) vs∧vs.length=j) ⟨none,[],rfl,jj hrl _,ja,trivial,rfl⟩ ?_ ?_ ?_
 ·rintro j σ' G _ ⟨u,vs,rfl,sG,_⟩
  exact SqT.of (sG _ _ (s12 _ _ htr))
 ·rintro j x σ' G hx ⟨u,vs,rfl,sG,hG,hR,hvl⟩
  have hj:j < c.rows.length:=by
   have:=(List.getElem?_eq_some_iff.mp hx).1
   rw [List.length_map] at this
   exact this
  rw [List.getElem?_map,List.getElem?_eq_getElem hj] at hx
  cases hx
  unfold qo yK
  refine zZ ?_
  have sHG:=s12.trans sG
  have hDG:=hC.fr.same sHG
  have hsome:(lkA Fr.L c.rows[j]).isSome=true:=by
   have:=hC.ok.has
   unfold qt at this
   exact List.all_eq_true.mp this _ (List.getElem_mem hj)
  rcases hRV.val c.rows[j] with ⟨_,hno⟩ | ⟨v,q,hv1,hv2,hv3,hv4⟩
  ·rw [hno] at hsome;cases hsome
  have hgr:DGet G Ad.rw (kV (Sum.inr c.rows[j])) (some v):=by
   have h:=DGet.k (k:=Sum.inr c.rows[j]) (sHG _ _ hrw)
   rw [hv1] at h
   exact h
  refine ⟨_,rfl,Ad.fa,CF,Ad.dx,_,_,rfl,hDG.fa,T.c,T.n4,rfl,_,rfl,Ad.rw,v,rfl,hgr,?_⟩
  have hl:=hC.ok.rows
  have hl1:=hC.ok.lrs
  have tk:TKF G (upd G rl (.lst (vs++[v]))):=TKF.updL hG
  refine ⟨_,hG,jz (by omega),_,vs++[v],rfl,fun b o e=>?_,ja,?_,by rw [List.length_append,hvl];rfl⟩
  ·rw [jg (jk e hrl)];exact sG _ _ e
  ·rw [List.take_succ,List.getElem?_eq_getElem hj,List.map_append]
   have eq:kY Fr.L c.rows[j]=q:=by unfold kY;rw [hv2];rfl
   show RowsAt K _ ((c.rows.take j).map (kY Fr.L)++[kY Fr.L c.rows[j]]) (vs++[v])
   rw [eq]
   exact (hR.tk tk).snoc ((hv3.tk (TKF.same sHG)).tk tk)
 rintro σ' H3 ⟨u3,vs,rfl,s3,hrl3,hR3,hvl⟩
 rw [List.length_map,List.take_length] at hR3
 rw [List.length_map] at hvl
 have s13:=s12.trans s3
 refine ⟨_,rfl,fun fa2 dx2 hfa2 hdx2 ndx2=>?_⟩
 have s4:Same H3 (upd (upd H3 dx2 (.own fa2)) fa2 (.ins CF dx2 [])):=fun b o z=>by rw [jg (jk z hfa2),jg (jk z hdx2)];exact z
 have f4:upd (upd H3 dx2 (.own fa2)) fa2 (.ins CF dx2 []) fa2=some (.ins CF dx2 []):=ja
 generalize upd (upd H3 dx2 (.own fa2)) fa2 (.ins CF dx2 [])=H4 at *
 have s14:=s13.trans s4
 have hwn:∀ q∈kB Fr.L c.rows,q.2.2.length≤n:=fun q hq=>by
  obtain ⟨r,hr,rfl⟩:=List.mem_map.mp hq
  rcases hRV.val r with ⟨_,hno⟩ | ⟨v,q,hv1,hv2,hv3,hv4⟩
  ·unfold kY;rw [hno];exact Nat.zero_le _
  ·unfold kY;rw [hv2];exact hv4
 have hlen:(kB Fr.L c.rows).length=c.rows.length:=by unfold kB;rw [List.length_map]
 refine ⟨fa2,dx2,pra2,pt,rt,nl,rl,.ref st,.str "proc",.str Pp.f,v4,v5,vb,Pp.ps,Pp.rs,c.as.map (ql Fr.N),kB Fr.L c.rows,vs,n,rfl,f4,s14 _ _ hp2,s14 _ _ hpt,s14 _ _ hrt,(s3.trans s4) _ _ hnl2,s4 _ _ hrl3,hR3.tk (TKF.same s4),hwn,by rw [List.length_map];exact hC.ok.as,hC.ok.nps,hC.ok.lps,by rw [hlen];exact hC.ok.rows,hC.ok.nrs,hC.ok.lrs,fun nm2 rw2 H5 k5 hnm2 hrw2 nnr hF=>⟨rfl,?_⟩⟩
 have s5:Same H3 H5:=fun b o z=>k5 b o (jk z hfa2) (s4 _ _ z)
 have s15:=s13.trans s5
 have hF2:FrD K CF H5 n ⟨fa2,dx2,nm2,rw2,pra2,.ref st⟩ (zX Pp c Fr):=hF _ rfl rfl rfl
 refine gs ?_
 have hDG:=hC.fr.same s15
 refine ⟨_,rfl,Ad.fa,CF,Ad.dx,_,_,rfl,hDG.fa,T.c,T.n1,rfl,Ad.pra,_,_,_,rfl,rfl,SqT.of (s15 _ _ hpr),rfl,_,rfl,_,rfl,fa2,CF,dx2,_,_,rfl,hF2.fa,T.c,T.n1,rfl,pra2,_,_,_,rfl,rfl,SqT.of (s15 _ _ hp2),rfl,_,rfl,?_⟩
 refine ⟨p1,.str "need",vp,v4,Pp.needs,⟨fa2,dx2,nm2,rw2,pra2,.ref st⟩,zX Pp c Fr,n,rfl,hv4.mono s15,hF2,hC.hn,fun hun G6 s6=>?_,fun k hun t6 G6 s6 ht6=>?_⟩
 ·refine gs ?_
  refine ⟨_,rfl,rfl,_,rfl,j7 (fun d=>absurd d (by show ¬ ((!decide (V.non=V.non))=true);simp)) (fun _=>?_)⟩
  have s16:=s15.trans s6
  have hfl6:=s16 _ _ hC.fl
  refine ⟨_,rfl,C.co,CC,C.dc,_,_,rfl,s16 _ _ hC.co,TC.c,TC.n7,rfl,C.fl,_,rfl,.inl (SqL.of hfl6),_,_,rfl,rfl,_,rfl,j7 (fun d=>?_) (fun d=>?_)⟩
  ·have d':20 < fvs.length:=by have:=of_decide_eq_true d;omega
   exact ⟨sm rfl,fun t7 ht7=>q2 hun d' t7 _ (s16.trans (jj ht7 _)) ja⟩
  ·have d':¬ 20 < fvs.length:=fun z=>d (decide_eq_true (by omega))
   refine ⟨_,rfl,C.co,CC,C.dc,_,_,rfl,s16 _ _ hC.co,TC.c,TC.n7,rfl,.inl ⟨rfl,_,SqL.of hfl6⟩,_,rfl,C.fl,_,_,rfl,rfl,hfl6,jz (by have:=hC.fvs;omega),?_⟩
   have fr0:∀ b,H3 b=none→H b=none:=fun b hb=>s13.free hb
   refine q3 hun d' ⟨fa2,dx2,nm2,rw2,pra2,.ref st⟩ _ (fun b o hb e=>by rw [jg hb];exact s16 _ _ e) ja ?_ rfl rfl (fun b hb=>?_) ?_
   ·have hF6:=hF2.same s6
    refine hF6.keep (Nat.le_refl _) (TKF.updL hfl6) fun b hb o e=>?_
    rw [jg]
    ·exact e
    ·intro z
     subst z
     have hH:H C.fl=none:=by
      simp only [FA.own,List.mem_cons,List.mem_nil_iff,or_false] at hb
      rcases hb with z | z | z
      ·rw [z];exact s13.free hfa2
      ·rw [z];exact s13.free (s4.free hnm2)
      ·rw [z];exact s13.free (s4.free hrw2)
     rw [hC.fl] at hH
     cases hH
   ·simp only [FA.own,List.mem_cons,List.mem_nil_iff,or_false] at hb
    rcases hb with z | z | z
    ·rw [z];exact s13.free hfa2
    ·rw [z];exact s13.free (s4.free hnm2)
    ·rw [z];exact s13.free (s4.free hrw2)
   ·have n1:fa2≠nm2:=fun z=>by rw [← z,f4] at hnm2;cases hnm2
    have n2:fa2≠rw2:=fun z=>by rw [← z,f4] at hrw2;cases hrw2
    simp [FA.own,n1,n2,nnr]
 ·refine gs ?_
  refine ⟨_,rfl,rfl,_,rfl,j7 (fun _=>?_) (fun d=>absurd (show (!decide (V.ref t6=V.non))=true by simp) d)⟩
  exact ⟨_,rfl,q1 k hun t6 G6 (s15.trans s6) ht6⟩
end
abbrev zy:Stmt:=top 38
abbrev zU:Stmt:=top 35
abbrev sDo:Stmt:=top 37
section
variable {P:Program} {w:World} {K:W.Frag} {mg:Str→Option Value} {base:Heap}
theorem Yu {CC CF:Addr} {f:Addr} {fd:FuncData} (TC:ClsC K CC) (T:ClsF K CF) (F:Fun K "take_input" "take_input" zy f fd) (B:Free0 mg):FnOk P w K mg base CX0 1 f fd ["course","frame","x"] (jdJ K CC CF):=by
 have sc:FnScope ["course","frame","x"] ["course","frame","x"] (jl zy):=fs
 refine F.okZ sc (fun vs H Q E h=>?_) (fun cdv A outer s H vs Q E hr h=>?_)
 ·obtain ⟨C,A,F,n,x,inp,tk,most,used,rfl,_⟩:=h
  rfl
 obtain ⟨C,Ad,Fr,n,x,inp,tk,most,used,rfl,hco,hil,hD,hN,hcf,htk,q1,q2⟩:=h
 have hu:=yO hr
 refine ⟨_,(jd (kl (jQ kX (jI (zpv 0) rfl) (zQ j9 (by rfl) B.len_ q5 (je (jI (zpv 0) rfl) ji)) (jJ _)) (jr (jT (kH (je kh ji)))) jY)
   (jd (y9 hu (jI (zpv 1) rfl) (zpv 2) (jO kg (jI (zpv 0) rfl) (jI (zpv 0) rfl) (fun _ _=>rfl)) rfl)
   (jd (yQ (zpv 0) jh jbz)
   (jr (jT kz))))),?_⟩
 refine ⟨_,rfl,C.co,CC,C.dc,_,_,rfl,hco,TC.c,TC.n4,rfl,_,rfl,C.co,CC,C.dc,_,_,rfl,hco,TC.c,TC.n3,rfl,C.il,_,rfl,.inl (SqL.of hil),rfl,_,rfl,j7 (fun d=>?_) (fun d=>?_)⟩
 ·have d':tk=inp.length:=by
   have:=of_decide_eq_true d
   injection this with this
   rw [List.length_map] at this
   omega
  refine ⟨sm rfl,fun t ht=>q1 (List.getElem?_eq_none (by omega)) t _ (jj ht _) ja⟩
 ·have d':tk < inp.length:=by
   rcases Nat.lt_or_ge tk inp.length with g | g
   ·exact g
   ·exact absurd (decide_eq_true (by rw [List.length_map,show tk=inp.length by omega])) d
  have hat:atI (inp.map V.int) (tk:Int)=some (.int inp[tk]):=ze (by rw [List.getElem?_map,List.getElem?_eq_getElem d'];rfl)
  refine ⟨_,rfl,C.co,CC,C.dc,_,_,rfl,hco,TC.c,TC.n3,rfl,_,rfl,C.co,CC,C.dc,_,_,rfl,hco,TC.c,TC.n4,rfl,C.il,_,_,_,rfl,rfl,SqL.of hil,hat,?_⟩
  refine ⟨_,rfl,Ad.fa,CF,Ad.dx,_,_,rfl,hD.fa,T.c,T.n3,rfl,_,rfl,Ad.nm,_,rfl,DPut.k (k:=Sum.inr x) hD.nm (jz (by unfold nKV;rw [List.length_map];omega)),?_⟩
  rw [Zu]
  have hne:C.co≠Ad.nm:=j4 hco hD.nm (by intro z;cases z)
  have hco2:upd H Ad.nm (.dK (nKV (kO Fr.N x inp[tk]))) C.co=some (.ins CC C.dc (kZ C.d1 C.d2 (.ref C.il) tk most used C.fl)):=by rw [jg hne];exact hco
  refine ⟨_,rfl,C.co,CC,C.dc,_,_,rfl,hco2,TC.c,TC.n4,rfl,_,_,rfl,rfl,_,_,hco2,by show 7 < 1000;decide,?_⟩
  rw [show ((tk:Int)+1)=((tk+1:Nat):Int) by omega,jbg]
  refine q2 inp[tk] (List.getElem?_eq_getElem d') _ (fun b o b1 b2 e=>by rw [jg b2,jg b1];exact e) ?_ ja
  rw [jg (Ne.symm hne),ja]
theorem Zq {CF:Addr} {f:Addr} {fd:FuncData} (T:ClsF K CF) (F:Fun K "hand_back" "hand_back" zU f fd) (B:Free0 mg) (Z_zip:mg "zip" = none):FnOk P w K mg base CX0 1 f fd ["caller","statement","out","held"] (jdN K CF):=by
 have sc:FnScope ["caller","statement","out","held","x","f","args","rows"] ["caller","statement","out","held"] (jl zU):=fs
 refine F.okZ sc (fun vs H Q E h=>?_) (fun cdv A outer s H vs Q E hr h=>?_)
 ·obtain ⟨A,F,n,st,hl,c,out,hvs,held,rfl,_⟩:=h
  rfl
 obtain ⟨Ad,Fr,n,st,hl,c,out,hvs,held,rfl,hD,hst,hhl,hR,hwn,hlr,hnd,hl1,hN,hL,hnr,q⟩:=h
 have hu:=yO hr
 obtain ⟨st',ta,tr,est,hstt,hta,htr⟩:=Yi hst
 cases est
 have hrl:=hR.len
 obtain ⟨rvs,hrw,hRV⟩:=hD.rw
 have hrvl:=hRV.len
 refine ⟨_,(jd (qA (qN zC (zpv 1) (qB jh) yi) (qQ rfl (jx (js (i:=4) sc.nd rfl ol) (jx (js (i:=5) sc.nd rfl ol) (jx (js (i:=6) sc.nd rfl ol) (jx (js (i:=7) sc.nd rfl ol) qg))))))
   (jd (y9 hu (jI (zpv 0) rfl) (zpv 4) (zpv 2) rfl)
   (jr (zE (Zb PySem.F.plainAttrs_dict PySem.F.slot_dict_update PySem.F.type_dict_update jc0 (jI (zpv 0) rfl) (je (Ky rfl (by rfl) B.dict_ ZU (by rfl) Z_zip jbK (je (zpv 7) (je (zpv 3) ji))) ji)))))),?_⟩
 refine yg (σ':=[some (.ref Ad.fa),some (.ref st),some (.int out),some (.ref hl),none,none,none,none]) rfl ?_
 refine ⟨_,rfl,_,rfl,st,_,rfl,SqT.of hstt,(fun h=>absurd h.1 (by show ¬ (HT.sIx 5 0 (some 1)=0);decide)),fun t ht=>?_⟩
 rw [show qZ [V.str "call",V.str c.x,V.str c.f,V.ref ta,V.ref tr] (some 1) none=[V.str c.x,V.str c.f,V.ref ta,V.ref tr] from rfl]
 have s1:=jj ht (.tup [V.str c.x,V.str c.f,V.ref ta,V.ref tr])
 have e1:upd H t (.tup [V.str c.x,V.str c.f,V.ref ta,V.ref tr]) t=some (.tup [V.str c.x,V.str c.f,V.ref ta,V.ref tr]):=ja
 generalize upd H t (.tup [V.str c.x,V.str c.f,V.ref ta,V.ref tr])=H1 at *
 refine ⟨t,_,rfl,SqT.of e1,rfl,_,_,rfl,?_⟩
 refine gs ?_
 refine ⟨_,_,rfl,?_⟩
 refine gs ?_
 refine ⟨_,_,rfl,?_⟩
 refine gs ?_
 refine ⟨_,_,rfl,?_⟩
 refine gs ?_
 refine ⟨rfl,?_⟩
 have hD1:=hD.same s1
 refine ⟨_,rfl,_,rfl,Ad.fa,CF,Ad.dx,_,_,rfl,hD1.fa,T.c,T.n3,rfl,_,rfl,Ad.nm,_,rfl,DPut.k (k:=Sum.inr c.x) hD1.nm (jz (by unfold nKV;rw [List.length_map];omega)),?_⟩
 rw [Zu]
 have t2:TKF H1 (upd H1 Ad.nm (.dK (nKV (kO Fr.N c.x out)))):=TKF.updD hD1.nm
 have k2:∀ b o,b≠Ad.nm→H b=some o→upd H1 Ad.nm (.dK (nKV (kO Fr.N c.x out))) b=some o:=fun b o hb e=>by rw [jg hb];exact s1 _ _ e
 have e2:upd H1 Ad.nm (.dK (nKV (kO Fr.N c.x out))) Ad.nm=some (.dK (nKV (kO Fr.N c.x out))):=ja
 have t02:=(TKF.same s1).trans t2
 generalize upd H1 Ad.nm (.dK (nKV (kO Fr.N c.x out)))=H2 at *
 have hfa2:=k2 _ _ (j4 hD.fa hD.nm (by intro z;cases z)) hD.fa
 have hrw2:=k2 _ _ (Ne.symm hnr) hrw
 have hhl2:=k2 _ _ (j4 hhl hD.nm (by intro z;cases z)) hhl
 have htr2:=k2 _ _ (j4 htr hD.nm (by intro z;cases z)) htr
 refine ⟨_,rfl,Ad.fa,CF,Ad.dx,_,_,rfl,hfa2,T.c,T.n4,rfl,.inr (.inr (.inl ⟨rfl,.inl ⟨_,hrw2⟩⟩)),?_⟩
 refine ⟨_,rfl,_,rfl,tr,hl,c.rows,hvs,rfl,SqT.of htr2,hhl2,by omega,hnd,by omega,fun d2 hd2=>?_⟩
 have s3:=jj hd2 (.dK (zKV c.rows hvs))
 have e3:upd H2 d2 (.dK (zKV c.rows hvs)) d2=some (.dK (zKV c.rows hvs)):=ja
 generalize upd H2 d2 (.dK (zKV c.rows hvs))=H3 at *
 have hrw3:=s3 _ _ hrw2
 have nd2:Ad.rw≠d2:=jk hrw2 hd2
 have zl:(zKV c.rows hvs).length=c.rows.length:=by unfold zKV;rw [List.length_map,List.length_zip];omega
 refine ⟨Ad.rw,d2,rvs,zKV c.rows hvs,rfl,rfl,nd2,hrw3,e3,by omega,?_⟩
 have t4:TKF H3 (upd H3 Ad.rw (.dK (Z3 rvs (zKV c.rows hvs)))):=TKF.updD hrw3
 have t04:=t02.trans ((TKF.same s3).trans t4)
 refine q _ (fun b o b1 b2 e=>by rw [jg b2];exact s3 _ _ (k2 b o b1 e)) ?_ ⟨_,ja,jdT (hR.tk t04) hwn (by omega) (hRV.tk t04)⟩
 rw [jg hnr]
 exact s3 _ _ e2
theorem jhX {CC CF:Addr} {f:Addr} {fd:FuncData} (TC:ClsC K CC) (T:ClsF K CF) (F:Fun K "do" "do" sDo f fd) (F_call:Fn P w K mg base 8 "call" ["course","frame","statement","path"] (jbd K CC CF)) (F_look:Fn P w K mg base 7 "look" ["f","kind","path","claims","frame"] (KF K CF)) (F_take_input:Fn P w K mg base 1 "take_input" ["course","frame","x"] (jdJ K CC CF)) (F_term_at:Fn P w K mg base 3 "term_at" ["term","numbers","rows"] (JC K)) (F_written:Fn P w K mg base 3 "written" ["row","p","v"] (YF K)) (F_place_at:Fn P w K mg base 2 "place_at" ["place","numbers"] yS):FnOk P w K mg base CX0 9 f fd ["course","frame","statement","path"] (jhF K CC CF):=by
 have sc:FnScope ["course","frame","statement","path","kind","a","c","value","r","place"] ["course","frame","statement","path"] (jl sDo):=fs
 refine F.okZ sc (fun vs H Q E h=>?_) (fun cdv A outer s H vs Q E hr h=>?_)
 ·obtain ⟨C,A,F,n,st,d,inp,p1,vp,tk,most,used,rfl,_⟩:=h
  rfl
 obtain ⟨C,Ad,Fr,n,st,d,inp,p1,vp,tk,most,used,rfl,hA,q⟩:=h
 have hu:=yO hr
 obtain ⟨rvs,hrw,hRV⟩:=hA.fr.rw
 obtain ⟨p0,p2,p3,p4,p5,p6,hpr⟩:=hA.pr
 refine ⟨_,(jd (jF (i:=4) sc.nd rfl ol (jO jP (zpv 2) jh (fun _ _=>rfl)))
   (jd (kl (jQ kX (zpv 4) kh (jJ _)) (jr (jT (jR F_call hr (je (zpv 0) (je (zpv 1) (je (zpv 2) (je (zpv 3) ji))))))) jY)
   (jd (kl (jQ kX (zpv 4) kh (jJ _)) (jr (jT (jR F_look hr (je (jO jP (jI (zpv 1) rfl) jh (fun _ _=>rfl)) (je kh (je (zpv 3) (je (qN zC (zpv 2) (qB jh) yi) (je (zpv 1) ji)))))))) jY)
   (jd (kl (jQ kX (zpv 4) kh (jJ _)) (jr (jT (jR F_take_input hr (je (zpv 0) (je (zpv 1) (je (jO jP (zpv 2) jh (fun _ _=>rfl)) ji)))))) jY)
   (jd (qA (qN zC (zpv 2) (qB (Za Zd jh)) yi) (qQ rfl (jx (js (i:=5) sc.nd rfl ol) (jx (js (i:=6) sc.nd rfl ol) qg))))
   (jd (jF (i:=7) sc.nd rfl ol (jC jH (jR F_term_at hr (je (zpv 5) (je (jI (zpv 1) rfl) (je (jI (zpv 1) rfl) ji)))) (zpv 6)))
   (jd (kl (jQ kX (zpv 4) kh (jJ _)) (jr (y9 hu (jI (zpv 1) rfl) (jO jP (zpv 2) jh (fun _ _=>rfl)) (zpv 7) rfl)) (jd (qA (qN zC (zpv 2) (qB jh) (qB jh)) (qQ rfl (jx (js (i:=8) sc.nd rfl ol) (jx (js (i:=9) sc.nd rfl ol) qg))))
   (jr (y9 hu (jI (zpv 1) rfl) (zpv 8) (jR F_written hr (je (zF hu (jI (zpv 1) rfl) (zpv 8) (fun _ _=>rfl)) (je (jR F_place_at hr (je (zpv 9) (je (jI (zpv 1) rfl) ji))) (je (zpv 7) ji)))) rfl))))
   (jr (jT kz))))))))),?_⟩
 refine yg (σ':=[some (.ref C.co),some (.ref Ad.fa),some (.ref st),some vp,none,none,none,none,none,none]) rfl ?_
 cases d with
 | set x t c=>
  obtain ⟨st',u,est,hst,hut⟩:=jfe hA.st
  cases est
  refine ⟨_,rfl,st,_,_,_,rfl,rfl,SqT.of hst,rfl,?_⟩
  refine gs ?_
  refine ⟨_,rfl,rfl,_,rfl,j7 (fun d=>absurd (of_decide_eq_true d) (by decide)) (fun _=>?_)⟩
  refine ⟨_,rfl,rfl,_,rfl,j7 (fun d=>absurd (of_decide_eq_true d) (by decide)) (fun _=>?_)⟩
  refine ⟨_,rfl,rfl,_,rfl,j7 (fun d=>absurd (of_decide_eq_true d) (by decide)) (fun _=>?_)⟩
  refine ⟨_,rfl,_,rfl,_,rfl,st,_,rfl,SqT.of hst,(fun h=>absurd h.1 (by show ¬ (HT.sIx 4 0 (some (-2))=0);decide)),fun t1 ht1=>?_⟩
  rw [show qZ [V.str "set",V.str x,u,V.int c] (some (-2)) none=[u,V.int c] from rfl]
  have s1:=jj ht1 (.tup [u,V.int c])
  have e1:upd H t1 (.tup [u,V.int c]) t1=some (.tup [u,V.int c]):=ja
  generalize upd H t1 (.tup [u,V.int c])=H1 at *
  refine ⟨t1,_,rfl,SqT.of e1,rfl,_,_,rfl,?_⟩
  refine gs ?_
  refine ⟨_,_,rfl,?_⟩
  refine gs ?_
  refine ⟨rfl,?_⟩
  have hD1:=hA.fr.same s1
  refine ⟨_,rfl,_,rfl,Ad.fa,CF,Ad.dx,_,_,rfl,hD1.fa,T.c,T.n3,rfl,_,rfl,Ad.fa,CF,Ad.dx,_,_,rfl,hD1.fa,T.c,T.n4,rfl,u,t,Ad.nm,Ad.rw,n,Fr.N,rvs,Fr.L,rfl,hut.mono s1,hD1.nm,s1 _ _ hrw,hRV.tk (TKF.same s1),by have:=hA.hn;omega,_,rfl,_,_,rfl,rfl,?_⟩
  refine gs ?_
  refine ⟨_,rfl,rfl,_,rfl,j7 (fun _=>?_) (fun d=>absurd (decide_eq_true rfl) d)⟩
  refine ⟨_,rfl,_,rfl,Ad.fa,CF,Ad.dx,_,_,rfl,hD1.fa,T.c,T.n3,rfl,_,rfl,st,_,_,_,rfl,rfl,SqT.of (s1 _ _ hst),rfl,Ad.nm,_,rfl,DPut.k (k:=Sum.inr x) hD1.nm (jz (by unfold nKV;rw [List.length_map];have:=hA.N;omega)),?_⟩
  rw [Zu]
  exact q _ (fun b o hb e=>by rw [jg hb];exact s1 _ _ e) ja
 | put r x d t c=>
  obtain ⟨st',b,u,est,hst,hb,hut⟩:=jfr hA.st
  cases est
  obtain ⟨hsome,q⟩:=q
  rcases hRV.val r with ⟨_,hno⟩ | ⟨v,qr,hv1,hv2,hv3,hv4⟩
  ·rw [hno] at hsome;cases hsome
  have eqr:kY Fr.L r=qr:=by unfold kY;rw [hv2];rfl
  obtain ⟨R,g1,g2,g3,g5⟩:=hv3
  refine ⟨_,rfl,st,_,_,_,rfl,rfl,SqT.of hst,rfl,?_⟩
  refine gs ?_
  refine ⟨_,rfl,rfl,_,rfl,j7 (fun d=>absurd (of_decide_eq_true d) (by decide)) (fun _=>?_)⟩
  refine ⟨_,rfl,rfl,_,rfl,j7 (fun d=>absurd (of_decide_eq_true d) (by decide)) (fun _=>?_)⟩
  refine ⟨_,rfl,rfl,_,rfl,j7 (fun d=>absurd (of_decide_eq_true d) (by decide)) (fun _=>?_)⟩
  refine ⟨_,rfl,_,rfl,_,rfl,st,_,rfl,SqT.of hst,(fun h=>absurd h.1 (by show ¬ (HT.sIx 5 0 (some (-2))=0);decide)),fun t1 ht1=>?_⟩
  rw [show qZ [V.str "put",V.str r,V.ref b,u,V.int c] (some (-2)) none=[u,V.int c] from rfl]
  have s1:=jj ht1 (.tup [u,V.int c])
  have e1:upd H t1 (.tup [u,V.int c]) t1=some (.tup [u,V.int c]):=ja
  generalize upd H t1 (.tup [u,V.int c])=H1 at *
  refine ⟨t1,_,rfl,SqT.of e1,rfl,_,_,rfl,?_⟩
  refine gs ?_
  refine ⟨_,_,rfl,?_⟩
  refine gs ?_
  refine ⟨rfl,?_⟩
  have hD1:=hA.fr.same s1
  refine ⟨_,rfl,_,rfl,Ad.fa,CF,Ad.dx,_,_,rfl,hD1.fa,T.c,T.n3,rfl,_,rfl,Ad.fa,CF,Ad.dx,_,_,rfl,hD1.fa,T.c,T.n4,rfl,u,t,Ad.nm,Ad.rw,n,Fr.N,rvs,Fr.L,rfl,hut.mono s1,hD1.nm,s1 _ _ hrw,hRV.tk (TKF.same s1),by have:=hA.hn;omega,_,rfl,_,_,rfl,rfl,?_⟩
  refine gs ?_
  refine ⟨_,rfl,rfl,_,rfl,j7 (fun d=>absurd (of_decide_eq_true d) (by decide)) (fun _=>?_)⟩
  refine ⟨_,rfl,_,rfl,_,rfl,st,_,rfl,SqT.of (s1 _ _ hst),(fun h=>absurd h.1 (by show ¬ (HT.sIx 5 0 (some 1)=0);decide)),fun t2 ht2=>?_⟩
  rw [show qZ [V.str "put",V.str r,V.ref b,u,V.int c] (some 1) (some 3)=[V.str r,V.ref b] from rfl]
  have s2:=jj ht2 (.tup [V.str r,V.ref b])
  have e2:upd H1 t2 (.tup [V.str r,V.ref b]) t2=some (.tup [V.str r,V.ref b]):=ja
  generalize upd H1 t2 (.tup [V.str r,V.ref b])=H2 at *
  refine ⟨t2,_,rfl,SqT.of e2,rfl,_,_,rfl,?_⟩
  refine gs ?_
  refine ⟨_,_,rfl,?_⟩
  refine gs ?_
  refine ⟨rfl,?_⟩
  have s12:=s1.trans s2
  have hD2:=hA.fr.same s12
  have hrw2:=s12 _ _ hrw
  have hgr:DGet H2 Ad.rw (kV (Sum.inr r)) (some v):=by
   have h:=DGet.k (k:=Sum.inr r) hrw2
   rw [hv1] at h
   exact h
  refine ⟨_,rfl,Ad.fa,CF,Ad.dx,_,_,rfl,hD2.fa,T.c,T.n4,rfl,_,rfl,Ad.rw,v,rfl,hgr,_,rfl,_,rfl,Ad.fa,CF,Ad.dx,_,_,rfl,hD2.fa,T.c,T.n3,rfl,b,x,d,Ad.nm,Fr.N,rfl,s12 _ _ hb,hD2.nm,_,rfl,?_⟩
  have hn:=hA.hn
  refine ⟨v,ql Fr.N x+d,t.val Fr.N Fr.L+c,qr.1,R,rfl,g1.mono s12,g2.up,by omega,fun R' v' H3 s3 c1 c2 c3 c4=>?_⟩
  have s13:=s12.trans s3
  have hD3:=hA.fr.same s13
  have hrw3:=s13 _ _ hrw
  have hrvl:=hRV.len
  have hrvL:=hA.L
  refine ⟨_,rfl,Ad.fa,CF,Ad.dx,_,_,rfl,hD3.fa,T.c,T.n4,rfl,_,rfl,Ad.rw,_,rfl,DPut.k (k:=Sum.inr r) hrw3 (jz (by omega)),?_⟩
  have t4:TKF H3 (upd H3 Ad.rw (.dK (qy rvs (Sum.inr r) v'))):=TKF.updD hrw3
  refine q _ (fun b o hb e=>by rw [jg hb];exact s13 _ _ e) ⟨_,ja,?_⟩
  rw [eqr]
  refine RV.put (((hRV.tk (TKF.same s13)).tk t4).up (Nat.le_succ _)) ?_ ?_
  ·refine RowIs.tk t4 ⟨R',yp c4,c1,?_,fun z=>?_⟩
   ·show R'.length≤40+2 * (qr.2.2++[(ql Fr.N x+d,t.val Fr.N Fr.L+c)]).length
    rw [List.length_append]
    show R'.length≤40+2 * (qr.2.2.length+1)
    omega
   ·show jN qr.1 R' z=_
    rw [c2,g5,yX]
  ·show (qr.2.2++[(ql Fr.N x+d,t.val Fr.N Fr.L+c)]).length≤n+1
   rw [List.length_append]
   show qr.2.2.length+1≤n+1
   omega
 | any x=>
  obtain ⟨st',xs,est,hst,h1⟩:=jp hA.st
  cases est
  obtain ⟨v1,r1,rfl,e1,h2⟩:=jb h1
  obtain ⟨v2,r2,rfl,e2,h3⟩:=jb h2
  cases jw h3
  cases jv e1
  cases jv e2
  refine ⟨_,rfl,st,_,_,_,rfl,rfl,SqT.of hst,rfl,?_⟩
  refine gs ?_
  refine ⟨_,rfl,rfl,_,rfl,j7 (fun d=>absurd (of_decide_eq_true d) (by decide)) (fun _=>?_)⟩
  refine ⟨_,rfl,rfl,_,rfl,j7 (fun d=>absurd (of_decide_eq_true d) (by decide)) (fun _=>?_)⟩
  refine ⟨_,rfl,rfl,_,rfl,j7 (fun _=>?_) (fun d=>absurd (decide_eq_true rfl) d)⟩
  refine ⟨_,rfl,_,rfl,_,rfl,st,_,_,_,rfl,rfl,SqT.of hst,rfl,C,Ad,Fr,n,x,inp,tk,most,used,rfl,hA.co,hA.il,hA.fr,hA.N,hA.cf,hA.tk,fun h t H' s e=>q.1 h t H' s e,fun v hv H' k1 k2 k3=>q.2 v hv H' k1 k2 k3⟩
 | claim D=>
  obtain ⟨st',xs,est,hst,h1⟩:=jp hA.st
  cases est
  obtain ⟨v1,r1,rfl,e1,h2⟩:=jb h1
  obtain ⟨v2,r2,rfl,e2,h3⟩:=jb h2
  cases jw h3
  cases jv e1
  refine ⟨_,rfl,st,_,_,_,rfl,rfl,SqT.of hst,rfl,?_⟩
  refine gs ?_
  refine ⟨_,rfl,rfl,_,rfl,j7 (fun d=>absurd (of_decide_eq_true d) (by decide)) (fun _=>?_)⟩
  refine ⟨_,rfl,rfl,_,rfl,j7 (fun _=>?_) (fun d=>absurd (decide_eq_true rfl) d)⟩
  refine ⟨_,rfl,Ad.fa,CF,Ad.dx,_,_,rfl,hA.fr.fa,T.c,T.n1,rfl,Ad.pra,_,_,_,rfl,rfl,SqT.of hpr,rfl,_,rfl,_,rfl,_,rfl,st,_,rfl,SqT.of hst,(fun h=>absurd h.1 (by show ¬ (HT.sIx 2 0 (some 1)=0);decide)),fun t1 ht1=>?_⟩
  rw [show qZ [V.str "claim",v2] (some 1) none=[v2] from rfl]
  have s1:=jj ht1 (.tup [v2])
  have e1':upd H t1 (.tup [v2]) t1=some (.tup [v2]):=ja
  generalize upd H t1 (.tup [v2])=H1 at *
  refine ⟨_,rfl,p1,.str "claim",vp,.ref t1,[D],Ad,Fr,n,rfl,jL e1' (jf (e2.mono s1) jt),hA.fr.same s1,by have:=hA.hn;omega,fun h H' s=>q.1 h H' (s1.trans s),fun k h t H' s e=>q.2 k h t H' (s1.trans s) e⟩
 | call x f' as rows=>
  obtain ⟨st',ta,tr,est,hst,hta,htr⟩:=Yi hA.st
  cases est
  refine ⟨_,rfl,st,_,_,_,rfl,rfl,SqT.of hst,rfl,?_⟩
  refine gs ?_
  refine ⟨_,rfl,rfl,_,rfl,j7 (fun _=>?_) (fun d=>absurd (decide_eq_true rfl) d)⟩
  exact ⟨_,rfl,_,rfl,_,rfl,_,rfl,q⟩
end
def NewL (H0 H:Hp) (v:V):Prop:=∀ t x y hl,v=.ref t→H t=some (.tup [x,y,.ref hl])→H0 hl=none
theorem zd {H0 H:Hp} {t:Addr} {xs:List V} (h:H t=some (.tup xs)) (hn:xs.length≠3):NewL H0 H (.ref t):=fun t' x y hl e1 e2=>by
 cases e1
 rw [h] at e2
 cases e2
 exact absurd rfl hn
def jia (K:W.Frag) (CC CF:Addr) (Hs:Hp) (C:CA) (prog:List Pr) (inp:List Int) (most:Int) (Q:VK):(En×Nat) ⊕ Mc→Prop
 | .inl (.stuck,_)=>False
 | .inl (e,u)=>∀ v H' tk,Same Hs H'→H' C.co=some (.ins CC C.dc (kZ C.d1 C.d2 (.ref C.il) tk most u C.fl))→EndAt K H' e v→NewL Hs H' v→Q v H'
 | .inr m'=>∀ As' H',Conf K CC CF Hs C prog inp most As' H' m'→Q .non H'
def jhE (K:W.Frag) (CC CF:Addr):Sp:=fun vs H Q _=>∃ (Hs:Hp) (C:CA) (prog:List Pr) (inp:List Int) (most:Int) (As:List FA) (m:Mc),vs=[.ref C.co]∧Sta Hs C prog inp∧Conf K CC CF Hs C prog inp most As H m∧m.used≤390∧jia K CC CF Hs C prog inp most Q (ki prog inp most m)
def jdQ (K:W.Frag) (CC CF:Addr):Sp:=fun vs H Q _=>∃ (Hs:Hp) (C:CA) (prog:List Pr) (inp:List Int) (most:Int) (As:List FA) (m:Mc) (F:Fm) (jE:List Fm),vs=[.ref C.co]∧Sta Hs C prog inp∧Conf K CC CF Hs C prog inp most As H m∧m.used≤390∧m.fr=F :: jE∧F.pr.sx[F.i]?=none∧jia K CC CF Hs C prog inp most Q (ki prog inp most m)
section
variable {K:W.Frag} {CC CF:Addr} {Hs H H':Hp} {C:CA} {prog:List Pr} {inp:List Int} {most:Int} {A:FA} {As:List FA} {m m':Mc} {F F':Fm} {jE:List Fm}
theorem Conf.cons (h:Conf K CC CF Hs C prog inp most As H m) (hm:m.fr=F :: jE):∃ A As',As=A :: As'∧FrAt K CF Hs H m.w A F∧Stk K CF Hs H m.w As' jE:=by
 have:=h.st
 rw [hm] at this
 cases As with
 | nil=>exact this.elim
 | cons A As'=>exact ⟨A,As',rfl,this.1,this.2⟩
theorem Conf.subK (h:Conf K CC CF Hs C prog inp most As H m) (k:∀ b o,b ∉ C.co :: C.fl :: As.flatMap FA.own→H b=some o→H' b=some o):Same Hs H':=fun b o e=>k b o (fun hb=>by rw [h.new b hb] at e;cases e) (h.sub b o e)
theorem jbU:∀ {As:List FA} {Fs:List Fm} {n:Nat},Stk K CF Hs H n As Fs→∀ b∈As.flatMap FA.own,∃ o,H b=some o∧(∀ xs,o≠.tup xs)∧∀ p z,o≠.frz p z
 | [],[],_,_,b,hb=>by simp at hb
 | A :: As,F :: Fs,n,⟨h1,h2⟩,b,hb=>by
  rw [List.flatMap_cons] at hb
  rcases List.mem_append.mp hb with g | g
  ·simp only [FA.own,List.mem_cons,List.mem_nil_iff,or_false] at g
   obtain ⟨rvs,hr,_⟩:=h1.rw
   rcases g with rfl | rfl | rfl
   ·exact ⟨_,h1.fa,(fun _ z=>by cases z),fun _ _ z=>by cases z⟩
   ·exact ⟨_,h1.nm,(fun _ z=>by cases z),fun _ _ z=>by cases z⟩
   ·exact ⟨_,hr,(fun _ z=>by cases z),fun _ _ z=>by cases z⟩
  ·exact jbU h2 b g
theorem Conf.mut (h:Conf K CC CF Hs C prog inp most As H m) {b:Addr} (hb:b∈C.co :: C.fl :: As.flatMap FA.own):∃ o,H b=some o∧(∀ xs,o≠.tup xs)∧∀ p z,o≠.frz p z:=by
 rcases List.mem_cons.mp hb with rfl | hb
 ·exact ⟨_,h.co,(fun _ z=>by cases z),fun _ _ z=>by cases z⟩
 rcases List.mem_cons.mp hb with rfl | hb
 ·exact ⟨_,h.fl,(fun _ z=>by cases z),fun _ _ z=>by cases z⟩
 ·exact jbU h.st b hb
theorem Conf.tkf (h:Conf K CC CF Hs C prog inp most As H m) (k:∀ b o,b ∉ C.co :: C.fl :: As.flatMap FA.own→H b=some o→H' b=some o):TKF H H':=
 ⟨fun b xs e=>k b _ (fun hb=>by obtain ⟨o,h1,h2,_⟩:=h.mut hb;rw [e] at h1;cases h1;exact h2 _ rfl) e,fun b o u e=>k b _ (fun hb=>by obtain ⟨o,h1,_,h2⟩:=h.mut hb;rw [e] at h1;cases h1;exact h2 _ _ rfl) e⟩
theorem Conf.step (h:Conf K CC CF Hs C prog inp most (A :: As) H m) (hm:m.fr=F :: jE) (hm':m'.fr=F' :: jE) (k:∀ b o,b≠C.co→b≠A.fa→b≠A.nm→b≠A.rw→H b=some o→H' b=some o)
  (co:H' C.co=some (.ins CC C.dc (kZ C.d1 C.d2 (.ref C.il) m'.tk most m'.used C.fl))) (fr:FrD K CF H' m'.w A F') (hp:F'.pr=F.pr) (hc:F'.cb=F.cb) (hw:m.w≤m'.w) (hw6:m'.w≤60) (htk:m'.tk≤inp.length) (hu:m.used≤m'.used) (hN:F'.N.length≤100+2 * m'.used) (hi:F'.i≤F'.pr.sx.length) (hL:F'.L.length≤100) :
  Conf K CC CF Hs C prog inp most (A :: As) H' m':=by
 have k':∀ b o,b ∉ C.co :: C.fl :: (A :: As).flatMap FA.own→H b=some o→H' b=some o:=fun b o hb e=>by
  rw [List.flatMap_cons] at hb
  simp only [FA.own,List.mem_cons,List.mem_append,List.mem_nil_iff,or_false,not_or] at hb
  exact k b o hb.1 hb.2.2.1.1 hb.2.2.1.2.1 hb.2.2.1.2.2 e
 have hst:=h.st
 rw [hm] at hst
 have nd:=h.nd
 rw [List.flatMap_cons] at nd
 have nd1:=List.nodup_cons.mp nd
 have nd2:=List.nodup_cons.mp nd1.2
 have nd3:=List.nodup_append.mp nd2.2
 have mem:∀ b∈As.flatMap FA.own,b≠C.co∧b≠A.fa∧b≠A.nm∧b≠A.rw:=fun b hb=>by
  refine ⟨fun z=>nd1.1 ?_,fun z=>nd3.2.2 _ (by simp [FA.own]) _ hb z.symm,fun z=>nd3.2.2 _ (by simp [FA.own]) _ hb z.symm,fun z=>nd3.2.2 _ (by simp [FA.own]) _ hb z.symm⟩
  rw [← z]
  exact List.mem_cons_of_mem _ (List.mem_append_right _ hb)
 have flne:C.fl≠C.co∧C.fl≠A.fa∧C.fl≠A.nm∧C.fl≠A.rw:=by
  refine ⟨fun z=>nd1.1 (by rw [← z];exact List.mem_cons_self),fun z=>nd2.1 ?_,fun z=>nd2.1 ?_,fun z=>nd2.1 ?_⟩ <;> (rw [z];exact List.mem_append_left _ (by simp [FA.own]))
 refine ⟨h.subK k',co,k _ _ flne.1 flne.2.1 flne.2.2.1 flne.2.2.2 h.fl,?_,h.nd,h.new,?_,htk,hw6,?_,?_,?_,?_⟩
 ·rw [hm']
  refine ⟨⟨fr,by rw [hp];exact hst.1.pr,by rw [hc];exact hst.1.cb⟩,hst.2.keep hw (h.tkf k') fun b hb o e=>?_⟩
  obtain ⟨m1,m2,m3,m4⟩:=mem b hb
  exact k b o m1 m2 m3 m4 e
 ·intro G hG
  rw [hm'] at hG
  rcases List.mem_cons.mp hG with rfl | hG
  ·rw [hp];exact h.inP F (by rw [hm];exact List.mem_cons_self)
  ·exact h.inP G (by rw [hm];exact List.mem_cons_of_mem _ hG)
 ·have hb:=h.bnd
  rw [hm] at hb
  rw [hm']
  exact ⟨hN,fun G hG=>by have:=hb.2 G hG;omega⟩
 ·have:=h.deep
  rw [hm] at this
  rw [hm']
  simpa using this
 ·intro G hG
  rw [hm'] at hG
  rcases List.mem_cons.mp hG with rfl | hG
  ·exact hi
  ·exact h.ix G (by rw [hm];exact List.mem_cons_of_mem _ hG)
 ·intro G hG
  rw [hm'] at hG
  rcases List.mem_cons.mp hG with rfl | hG
  ·exact hL
  ·exact h.lb G (by rw [hm];exact List.mem_cons_of_mem _ hG)
theorem Conf.push {A2:FA} {G:Fm} (h:Conf K CC CF Hs C prog inp most As H m) (hm':m'.fr=G :: m.fr) (k:∀ b o,b≠C.fl→H b=some o→H' b=some o) (fl:H' C.fl=some (.lst ((As.map fun A=>V.ref A.fa).reverse++[.ref A2.fa]))) (fr:FrD K CF H' m.w A2 G) (pr:Held Hs G.pr.toD (.ref A2.pra)) (cb:jht Hs G.cb A2.cbv) (new:∀ b∈A2.own,H b=none) (nd:A2.own.Nodup) (hP:G.pr∈prog)
  (e1:m'.used=m.used) (e2:m'.tk=m.tk) (e3:m'.w=m.w) (hN:G.N.length≤100) (hall:∀ F∈m.fr,F.N.length+1≤100+2 * m.used) (hl:m.fr.length≤20) (hi:G.i≤G.pr.sx.length) (hL:G.L.length≤100):Conf K CC CF Hs C prog inp most (A2 :: As) H' m':=by
 have inH:∀ b∈C.co :: C.fl :: As.flatMap FA.own,∃ o,H b=some o:=fun b hb=>by obtain ⟨o,h1,_⟩:=h.mut hb;exact ⟨o,h1⟩
 have dis:∀ b∈A2.own,b ∉ C.co :: C.fl :: As.flatMap FA.own:=fun b hb hb'=>by
  obtain ⟨o,ho⟩:=inH b hb'
  rw [new b hb] at ho
  cases ho
 have k':∀ b o,b ∉ C.co :: C.fl :: As.flatMap FA.own→H b=some o→H' b=some o:=fun b o hb e=>k b o (fun z=>hb (by rw [z];simp)) e
 have nd0:=h.nd
 have nd1:=List.nodup_cons.mp nd0
 have nd2:=List.nodup_cons.mp nd1.2
 refine ⟨h.subK k',?_,?_,?_,?_,?_,?_,by rw [e2];exact h.tk,by rw [e3];exact h.w,?_,?_,?_,?_⟩
 ·rw [e1,e2]
  exact k _ _ (fun z=>nd1.1 (by rw [z];exact List.mem_cons_self)) h.co
 ·rw [fl,List.map_cons,List.reverse_cons]
 ·rw [hm',e3]
  refine ⟨⟨fr,pr,cb⟩,h.st.keep (Nat.le_refl _) (h.tkf k') fun b hb o e=>k b o (fun z=>nd2.1 (by rw [← z];exact hb)) e⟩
 ·rw [List.flatMap_cons]
  refine List.nodup_cons.mpr ⟨fun hb=>?_,List.nodup_cons.mpr ⟨fun hb=>?_,List.nodup_append.mpr ⟨nd,nd2.2,fun a ha b hb z=>?_⟩⟩⟩
  ·rcases List.mem_cons.mp hb with z | hb
   ·exact nd1.1 (by rw [z];exact List.mem_cons_self)
   ·rcases List.mem_append.mp hb with hb | hb
    ·exact dis _ hb (by simp)
    ·exact nd1.1 (List.mem_cons_of_mem _ hb)
  ·rcases List.mem_append.mp hb with hb | hb
   ·exact dis _ hb (by simp)
   ·exact nd2.1 hb
  ·exact dis a ha (by rw [z];exact List.mem_cons_of_mem _ (List.mem_cons_of_mem _ hb))
 ·intro b hb
  rw [List.flatMap_cons] at hb
  rcases List.mem_cons.mp hb with rfl | hb
  ·exact h.new _ (by simp)
  rcases List.mem_cons.mp hb with rfl | hb
  ·exact h.new _ (by simp)
  rcases List.mem_append.mp hb with hb | hb
  ·exact h.sub.free (new b hb)
  ·exact h.new b (List.mem_cons_of_mem _ (List.mem_cons_of_mem _ hb))
 ·intro G' hG
  rw [hm'] at hG
  rcases List.mem_cons.mp hG with rfl | hG
  ·exact hP
  ·exact h.inP G' hG
 ·rw [hm',e1]
  exact ⟨by omega,hall⟩
 ·rw [hm',List.length_cons];omega
 ·intro G' hG
  rw [hm'] at hG
  rcases List.mem_cons.mp hG with rfl | hG
  ·exact hi
  ·exact h.ix G' hG
 ·intro G' hG
  rw [hm'] at hG
  rcases List.mem_cons.mp hG with rfl | hG
  ·exact hL
  ·exact h.lb G' hG
theorem Conf.pop (h:Conf K CC CF Hs C prog inp most (A :: As) H m) (hm:m.fr=F :: jE) (hm':m'.fr=jE) (e1:m'.used=m.used) (e2:m'.tk=m.tk) (e3:m'.w=m.w) (hne:jE≠[]) (k:∀ b o,b≠C.fl→H b=some o→H' b=some o) (fl:H' C.fl=some (.lst ((As.map fun A=>V.ref A.fa).reverse))):Conf K CC CF Hs C prog inp most As H' m':=by
 have k':∀ b o,b ∉ C.co :: C.fl :: (A :: As).flatMap FA.own→H b=some o→H' b=some o:=fun b o hb e=>k b o (fun z=>hb (by rw [z];simp)) e
 have nd0:=h.nd
 rw [List.flatMap_cons] at nd0
 have nd1:=List.nodup_cons.mp nd0
 have nd2:=List.nodup_cons.mp nd1.2
 have nd3:=List.nodup_append.mp nd2.2
 have hst:=h.st
 rw [hm] at hst
 refine ⟨h.subK k',?_,fl,?_,?_,?_,?_,by rw [e2];exact h.tk,by rw [e3];exact h.w,?_,?_,?_,?_⟩
 ·rw [e1,e2]
  exact k _ _ (fun z=>nd1.1 (by rw [z];exact List.mem_cons_self)) h.co
 ·rw [hm',e3]
  exact hst.2.keep (Nat.le_refl _) (h.tkf k') fun b hb o e=>k b o (fun z=>nd2.1 (by rw [← z];exact List.mem_append_right _ hb)) e
 ·exact List.nodup_cons.mpr ⟨fun hb=>nd1.1 ((List.mem_cons.mp hb).elim (fun z=>by rw [z];exact List.mem_cons_self) fun hb=>List.mem_cons_of_mem _ (List.mem_append_right _ hb)),List.nodup_cons.mpr ⟨fun hb=>nd2.1 (List.mem_append_right _ hb),nd3.2.1⟩⟩
 ·intro b hb
  refine h.new b ?_
  rw [List.flatMap_cons]
  rcases List.mem_cons.mp hb with rfl | hb
  ·exact List.mem_cons_self
  rcases List.mem_cons.mp hb with rfl | hb
  ·simp
  ·exact List.mem_cons_of_mem _ (List.mem_cons_of_mem _ (List.mem_append_right _ hb))
 ·intro G hG
  rw [hm'] at hG
  exact h.inP G (by rw [hm];exact List.mem_cons_of_mem _ hG)
 ·have hb:=h.bnd
  rw [hm] at hb
  rw [hm',e1]
  cases jE with
  | nil=>exact absurd rfl hne
  | cons G r=>
   exact ⟨by have:=hb.2 G List.mem_cons_self;omega,fun G' hG'=>hb.2 G' (List.mem_cons_of_mem _ hG')⟩
 ·have:=h.deep
  rw [hm,List.length_cons] at this
  rw [hm'];omega
 ·intro G hG
  rw [hm'] at hG
  exact h.ix G (by rw [hm];exact List.mem_cons_of_mem _ hG)
 ·intro G hG
  rw [hm'] at hG
  exact h.lb G (by rw [hm];exact List.mem_cons_of_mem _ hG)
end
theorem jd2 {xs:List V} {y:V}:(xs++[y])[(xs++[y]).length - 1]?=some y:=by simp
theorem jaJ {L:List (Str×j0)} {rs:List Str} {held:List j0} (h:qt L rs=true):∀ p∈rs.zip held,(lkA L p.1).isSome=true:=fun p hp=>by
 unfold qt at h
 exact List.all_eq_true.mp h _ (List.of_mem_zip hp).1
section
variable {prog:List Pr} {inp:List Int} {most:Int} {m:Mc} {F:Fm} {jE:List Fm}
theorem jax {n:Nat} (hm:m.fr=F :: jE) (h:F.pr.sx[F.i]?=some (.go n)):ki prog inp most m=.inr ⟨{ F with i:=n } :: jE,m.used,m.tk,m.w⟩:=by
 unfold ki
 rw [hm]
 show (match F.pr.sx[F.i]? with | none=>_ | some (.go n)=>_ | some s=>_)=_
 rw [h]
theorem JL {le:Cl} {cs:List Cl} {kd:Str} {p:List Int} {yes no:Nat} (hm:m.fr=F :: jE) (h:F.pr.sx[F.i]?=some (.ask le cs kd p yes no)):ki prog inp most m=if (m.used:Int)=most then .inl (.spent,m.used) else match kU F.N F.L cs with
   | some k=>.inl (.untrue F.pr.f kd p k,m.used+1)
   | none=>.inr ⟨{ F with i:=if yj F.N F.L le=true then yes else no } :: jE,m.used+1,m.tk,m.w⟩:=by
 unfold ki
 rw [hm]
 show (match F.pr.sx[F.i]? with | none=>_ | some (.go n)=>_ | some s=>_)=_
 rw [h]
 try congr
theorem yt {d:Dx} {p:List Int} (hm:m.fr=F :: jE) (h:F.pr.sx[F.i]?=some (.do_ d p)):ki prog inp most m=if (m.used:Int)=most then .inl (.spent,m.used) else yP prog inp m F jE d p:=by
 unfold ki
 rw [hm]
 show (match F.pr.sx[F.i]? with | none=>_ | some (.go n)=>_ | some s=>_)=_
 rw [h]
theorem KZ (hm:m.fr=F :: jE) (h:F.pr.sx[F.i]?=some .come):ki prog inp most m=if (m.used:Int)=most then .inl (.spent,m.used) else .inr ⟨{ F with i:=F.i+1 } :: jE,m.used+1,m.tk,m.w⟩:=by
 unfold ki
 rw [hm]
 show (match F.pr.sx[F.i]? with | none=>_ | some (.go n)=>_ | some s=>_)=_
 rw [h]
end
inductive Runs (prog:List Pr) (inp:List Int) (most:Int):Nat→Mc→En×Nat→Prop where
 | stop {m:Mc} {r:En×Nat} (h:ki prog inp most m=.inl r):Runs prog inp most 0 m r
 | more {k:Nat} {m m':Mc} {r:En×Nat} (h:ki prog inp most m=.inr m') (t:Runs prog inp most k m' r):Runs prog inp most (k+1) m r
def RunsTo (prog:List Pr) (inp:List Int) (most:Int) (m:Mc) (r:En×Nat):Prop:=∃ k,Runs prog inp most k m r
theorem RunsTo.more {prog:List Pr} {inp:List Int} {most:Int} {m m':Mc} {r:En×Nat} (h:ki prog inp most m=.inr m') (t:RunsTo prog inp most m' r):RunsTo prog inp most m r:=by
 obtain ⟨k,t⟩:=t
 exact ⟨k+1,.more h t⟩
theorem RunsTo.stop {prog:List Pr} {inp:List Int} {most:Int} {m:Mc} {r:En×Nat} (h:ki prog inp most m=.inl r):RunsTo prog inp most m r:=⟨0,.stop h⟩
theorem Ya {prog:List Pr} {inp:List Int} {m m':Mc} {F:Fm} {jE:List Fm} {d:Dx} {p:List Int} (h:yP prog inp m F jE d p=.inr m'):m'.used=m.used+1:=by
 unfold yP at h
 cases d with
 | set x t c=>cases h;rfl
 | put r x d t c=>
  dsimp only at h
  split at h
  ·cases h;rfl
  ·cases h
 | any x=>
  dsimp only at h
  split at h
  ·cases h
  ·cases h;rfl
 | claim C=>
  dsimp only at h
  split at h
  ·cases h
  ·cases h;rfl
 | call x f as rows=>
  dsimp only at h
  split at h
  ·cases h
  ·split at h
   ·split at h
    ·cases h
    ·split at h
     ·cases h
     ·cases h;rfl
   ·cases h
theorem zw {prog:List Pr} {inp:List Int} {m:Mc} {F:Fm} {jE:List Fm} {d:Dx} {p:List Int} {e:En} {u:Nat} (h:yP prog inp m F jE d p=.inl (e,u)):e=.stuck∨u=m.used+1:=by
 unfold yP at h
 cases d with
 | set x t c=>cases h
 | put r x d t c=>
  dsimp only at h
  split at h
  ·cases h
  ·cases h;exact .inl rfl
 | any x=>
  dsimp only at h
  split at h
  ·cases h;exact .inr rfl
  ·cases h
 | claim C=>
  dsimp only at h
  split at h
  ·cases h;exact .inr rfl
  ·cases h
 | call x f as rows=>
  dsimp only at h
  split at h
  ·cases h;exact .inl rfl
  ·split at h
   ·split at h
    ·cases h;exact .inr rfl
    ·split at h
     ·cases h;exact .inr rfl
     ·cases h
   ·cases h;exact .inl rfl
theorem yV {prog:List Pr} {inp:List Int} {most:Int} {m m':Mc} (h:ki prog inp most m=.inr m'):m'.used=m.used∨m'.used=m.used+1:=by
 unfold ki at h
 split at h
 ·cases h
 ·split at h
  ·split at h
   ·cases h
   ·split at h
    ·split at h
     ·cases h
     ·split at h
      ·cases h
      ·split at h
       ·cases h;exact .inl rfl
       ·cases h
    ·cases h
  ·cases h;exact .inl rfl
  ·split at h
   ·cases h
   ·split at h
    ·split at h
     ·cases h
     ·cases h;exact .inr rfl
    ·exact .inr (Ya h)
    ·cases h;exact .inr rfl
theorem yu {prog:List Pr} {inp:List Int} {most:Int} {m:Mc} {e:En} {u:Nat} (h:ki prog inp most m=.inl (e,u)) (hs:e≠.stuck):m.used≤u:=by
 unfold ki at h
 split at h
 ·cases h;exact absurd rfl hs
 ·split at h
  ·split at h
   ·cases h;exact Nat.le_refl _
   ·split at h
    ·split at h
     ·cases h;exact Nat.le_refl _
     ·split at h
      ·cases h;exact absurd rfl hs
      ·split at h
       ·cases h
       ·cases h;exact absurd rfl hs
    ·cases h;exact absurd rfl hs
  ·cases h
  ·split at h
   ·cases h;exact Nat.le_refl _
   ·split at h
    ·split at h
     ·cases h;exact Nat.le_succ _
     ·cases h
    ·rcases zw h with g | g
     ·exact absurd g hs
     ·omega
    ·cases h
theorem YJ {prog:List Pr} {inp:List Int} {most:Int} {k:Nat} {m:Mc} {r:En×Nat} (h:Runs prog inp most k m r):r.1≠.stuck→m.used≤r.2:=by
 induction h with
 | @stop m r h=>intro hs;obtain ⟨e,u⟩:=r;exact yu h hs
 | @more k m m' r h t ih=>intro hs;have:=ih hs;rcases yV h with g | g <;> omega
structure PrOk (f':Nat) (P:Pr):Prop where
 fit:∀ st∈P.body,yM f' st
 lay:kj (kJ f') 0 P.body [] 0=P.sx.map Sx.toD
 sz:P.sx.length≤900
 wf:WfS P.sx
 rs:P.rs.length≤100
def jbX:Sp:=fun vs H Q _=>∃ (pg:Addr) (prog:List Pr) (pvs:List V),vs=[.ref pg]∧H pg=some (.tup pvs)∧HeldL H (prog.map Pr.toD) pvs∧(prog.map (·.f)).Nodup∧prog.length≤100∧
 ∀ d kv H',Same H H'→H d=none→H' d=some (.dK kv)→(∀ P∈prog,∃ pra,qh kv (Sum.inr P.f)=some (.ref pra)∧Held H' P.toD (.ref pra))→Q (.ref d) H'
def jab (CC:Addr) (f':Nat):Sp:=fun vs H Q _=>∃ (co dc pg:Addr) (vi:V) (most:Int) (prog:List Pr) (pvs:List V),vs=[.ref co,.ref pg,vi,.int most]∧H co=some (.ins CC dc [])∧H pg=some (.tup pvs)∧HeldL H (prog.map Pr.toD) pvs∧(prog.map (·.f)).Nodup∧prog.length≤100∧(∀ P∈prog,PrOk f' P)∧2 * f'≤500∧
 ∀ d1 d2 fl kv1 kv2 H',(∀ b o,b≠co→H b=some o→H' b=some o)→H d1=none→H d2=none→H fl=none→H' co=some (.ins CC dc (kZ d1 d2 vi 0 most 0 fl))→H' d1=some (.dK kv1)→(∀ P∈prog,∃ pra,qh kv1 (Sum.inr P.f)=some (.ref pra)∧Held H' P.toD (.ref pra))→H' d2=some (.dK kv2)→(∀ P∈prog,∃ sl ss,qh kv2 (Sum.inr P.f)=some (.ref sl)∧H' sl=some (.lst ss)∧sl≠fl∧HeldL H' (P.sx.map Sx.toD) ss)→H' fl=some (.lst [])→Q .non H'
theorem jdp {d1 d2 fl:Addr} {vi:V} {most:Int}:jZ "frames" (.ref fl) (jZ "used" (.int 0) (jZ "most" (.int most) (jZ "taken" (.int 0) (jZ "inputs" vi (jZ "steps" (.ref d2) (jZ "procs" (.ref d1) []))))))=kZ d1 d2 vi 0 most 0 fl:=by
 unfold kZ
 simp only [jZ]
 repeat rw [if_neg (by decide)]
 simp only [jZ]
 repeat rw [if_neg (by decide)]
 simp only [jZ]
 repeat rw [if_neg (by decide)]
 simp only [jZ]
 repeat rw [if_neg (by decide)]
 simp only [jZ]
 repeat rw [if_neg (by decide)]
 simp only [jZ]
 repeat rw [if_neg (by decide)]
 rfl
theorem jhY {prog:List Pr} (nd:(prog.map (·.f)).Nodup) {i j:Nat} (hi:i < prog.length) (hj:j < prog.length) (h:i≠j):prog[i].f≠prog[j].f:=fun e=>h (jep nd (by rw [List.length_map];exact hi) (by rw [List.length_map];exact hj) (by rw [List.getElem_map,List.getElem_map];exact e))
def qv (P:Pr) (nums:List Int) (held:List j0):Fm:=⟨P,none,P.ps.zip nums,P.rs.zip held,0⟩
structure RunAt (K:W.Frag) (f':Nat) (H:Hp) (pg nl rl il:Addr) (prog:List Pr) (P:Pr) (nums:List Int) (held:List j0) (inp:List Int):Prop where
 pg:∃ pvs,H pg=some (.tup pvs)∧HeldL H (prog.map Pr.toD) pvs
 nd:(prog.map (·.f)).Nodup
 len:prog.length≤100
 ok:∀ Q∈prog,PrOk f' Q
 f2:2 * f'≤500
 inP:P∈prog
 nl:H nl=some (.lst (nums.map V.int))
 rl:∃ rvs,H rl=some (.lst rvs)∧RowsAt K H held rvs
 il:H il=some (.lst (inp.map V.int))
 ps:P.ps.length=nums.length
 rs:P.rs.length=held.length
 nps:P.ps.Nodup
 nrs:P.rs.Nodup
 lps:P.ps.length≤100
 w0:∀ q∈held,q.2.2.length≤0
def jdK (K:W.Frag) (f':Nat):Sp:=fun vs H Q _=>∃ (pg nl rl il:Addr) (prog:List Pr) (P:Pr) (nums:List Int) (held:List j0) (inp:List Int) (most:Int),vs=[.ref pg,.str P.f,.ref nl,.ref rl,.ref il,.int most]∧RunAt K f' H pg nl rl il prog P nums held inp∧
 (∀ k,kU (qv P nums held).N (qv P nums held).L P.needs=some k→∀ t t2 H',Same H H'→H' t2=some (.tup [.str "unmet",.int k])→H' t=some (.tup [.ref t2,.int 0])→Q (.ref t) H')∧
 (kU (qv P nums held).N (qv P nums held).L P.needs=none→∃ e u,RunsTo prog inp most ⟨[qv P nums held],0,0,0⟩ (e,u)∧e≠.stuck∧u≤390∧∀ t v H',Same H H'→EndAt K H' e v→NewL H H' v→H' t=some (.tup [v,.int u])→Q (.ref t) H')
theorem EndAt.mono {K:W.Frag} {H H':Hp} (s:Same H H'):∀ {e:En} {v:V},EndAt K H e v→EndAt K H' e v
 | .done _ _,_,⟨t,hl,vs,h1,h2,h3,h4⟩=>⟨t,hl,vs,h1,s _ _ h2,s _ _ h3,h4.tk (TKF.same s)⟩
 | .spent,_,⟨t,h1,h2⟩=>⟨t,h1,s _ _ h2⟩
 | .asks,_,⟨t,h1,h2⟩=>⟨t,h1,s _ _ h2⟩
 | .deep,_,⟨t,h1,h2⟩=>⟨t,h1,s _ _ h2⟩
 | .untrue _ _ _ _,_,⟨t,vp,h1,h2,h3⟩=>⟨t,vp,h1,s _ _ h2,h3.mono s⟩
theorem EndAt.not {K:W.Frag} {H:Hp}:∀ {e:En} {v:V},EndAt K H e v→v≠.non
 | .done _ _,_,⟨t,hl,vs,h1,_⟩=>by rw [h1];intro z;cases z
 | .spent,_,⟨t,h1,_⟩=>by rw [h1];intro z;cases z
 | .asks,_,⟨t,h1,_⟩=>by rw [h1];intro z;cases z
 | .deep,_,⟨t,h1,_⟩=>by rw [h1];intro z;cases z
 | .untrue _ _ _ _,_,⟨t,vp,h1,_⟩=>by rw [h1];intro z;cases z
theorem EndAt.tup {K:W.Frag} {H:Hp}:∀ {e:En} {v:V},EndAt K H e v→∃ t xs,v=.ref t∧H t=some (.tup xs)
 | .done _ _,_,⟨t,hl,vs,h1,h2,_⟩=>⟨t,_,h1,h2⟩
 | .spent,_,⟨t,h1,h2⟩=>⟨t,_,h1,h2⟩
 | .asks,_,⟨t,h1,h2⟩=>⟨t,_,h1,h2⟩
 | .deep,_,⟨t,h1,h2⟩=>⟨t,_,h1,h2⟩
 | .untrue _ _ _ _,_,⟨t,vp,h1,h2,_⟩=>⟨t,_,h1,h2⟩
theorem NewL.mono {K:W.Frag} {H0 H H':Hp} {e:En} {v:V} (h:NewL H0 H v) (hE:EndAt K H e v) (s:Same H H'):NewL H0 H' v:=fun t x y hl e1 e2=>by
 obtain ⟨t',xs,h1,h2⟩:=hE.tup
 subst h1
 cases e1
 have h3:=s _ _ h2
 rw [e2] at h3
 cases h3
 exact h _ _ _ _ rfl h2
open Classical in
noncomputable def Kf (H:Hp) (M:List Addr):Hp:=fun b=>if b∈M then none else H b
theorem jaV {H:Hp} {M:List Addr} {b:Addr} {o:HO} (h:H b=some o) (hb:b ∉ M):Kf H M b=some o:=by unfold Kf;rw [if_neg hb];exact h
theorem jhj {H:Hp} {M:List Addr} {b:Addr} (hb:b∈M):Kf H M b=none:=by unfold Kf;rw [if_pos hb]
theorem jf5 {H:Hp} {M:List Addr}:Same (Kf H M) H:=fun b o e=>by
 unfold Kf at e
 split at e
 ·cases e
 ·exact e
abbrev zq:Stmt:=top 34
abbrev Jj:Stmt:=top 31
section
variable {P:Program} {w:World} {K:W.Frag} {mg:Str→Option Value} {base:Heap}
theorem Zr {CC CF:Addr} {f:Addr} {fd:FuncData} (TC:ClsC K CC) (T:ClsF K CF) (F:Fun K "come_back" "come_back" zq f fd) (F_look:Fn P w K mg base 7 "look" ["f","kind","path","claims","frame"] (KF K CF)) (F_number_at:Fn P w K mg base 1 "number_at" ["x","numbers"] qT) (F_hand_back:Fn P w K mg base 1 "hand_back" ["caller","statement","out","held"] (jdN K CF)):FnOk P w K mg base CX0 8 f fd ["course"] (jdQ K CC CF):=by
 have sc:FnScope ["course","frame","f","rows","gives","end","out","held"] ["course"] (jl zq):=fs
 refine F.okZ sc (fun vs H Q E h=>?_) (fun cdv A outer s H vs Q E hr h=>?_)
 ·obtain ⟨Hs,C,prog,inp,most,As,m,F,jE,rfl,_⟩:=h
  rfl
 obtain ⟨Hs,C,prog,inp,most,As,m,Fr,jE,rfl,hS,hC,hu390,hm,hno,q⟩:=h
 have hu:=yO hr
 obtain ⟨Ad,As',rfl,hF,hst⟩:=hC.cons hm
 obtain ⟨pra,pt,rt,v4,v5,vb,epra,hpr,hpt,hrt,hv4,hv5,hvb⟩:=zK hF.pr
 have epra':pra=Ad.pra:=by cases epra;rfl
 subst epra'
 obtain ⟨rvs,hrw,hRV⟩:=hF.rw
 have hw:=hC.w
 have hfl:H C.fl=some (.lst ((As'.map fun A=>V.ref A.fa).reverse++[.ref Ad.fa])):=by rw [hC.fl,List.map_cons,List.reverse_cons]
 unfold ki at q
 rw [hm] at q
 dsimp only at q
 rw [hno] at q
 dsimp only at q
 refine ⟨_,(jd (jF (i:=1) sc.nd rfl ol (jO kg (jI (zpv 0) rfl) (Za Zd jh) (fun _ _=>rfl)))
   (jd (jdt (i:=2) (j:=3) (l:=4) rfl sc.nd rfl rfl rfl (by decide) (by decide) (by decide) ol ol ol (je (jO jP (jI (zpv 1) rfl) jh (fun _ _=>rfl)) (je (jO jP (jI (zpv 1) rfl) jh (fun _ _=>rfl)) (je (jO jP (jI (zpv 1) rfl) jh (fun _ _=>rfl)) ji))) (by rfl) ol ol ol)
   (jd (jF (i:=5) sc.nd rfl ol (jR F_look hr (je (zpv 2) (je kh (je (kH ji) (je (zpv 4) (je (zpv 1) ji)))))))
   (jd (kl (jQ Kt (zpv 5) kz (jJ _)) (jr (jT (zpv 5))) jY)
   (jd (jF (i:=6) sc.nd rfl ol (jR F_number_at hr (je kh (je (jI (zpv 1) rfl) ji))))
   (jd (qS (i:=7) sc.nd rfl ol ["r"] [1] rfl (qf (sc:=jl zq) (N:=["course","frame","f","rows","gives","end","out","held"]) rfl rfl (by decide +kernel)) (Ja (zpv 3)) (fun s H ex=>⟨(js (i:=0) (show List.Nodup (["r","frame"]:List Str) by decide +kernel) rfl ol),qz,(zF hu (Kx (K:=K) (zpv 1) rfl) (zpv 0) (fun _ _=>rfl))⟩))
   (jd (kl (jQ Zn (jI (zpv 1) rfl) kz (jJ _)) (jr (jT (kH (je kh (je (zpv 6) (je (zpv 7) ji)))))) jY)
   (jd (zE (je2 PySem.F.plainAttrs_list PySem.F.slot_list_pop PySem.F.type_list_pop jg5 (jI (zpv 0) rfl)))
   (jd (zE (jR F_hand_back hr (je (jO kg (jI (zpv 0) rfl) (Za Zd jh) (fun _ _=>rfl)) (je (jI (zpv 1) rfl) (je (zpv 6) (je (zpv 7) ji))))))
   (jr (jT kz))))))))))),?_⟩
 refine yg (σ':=[some (.ref C.co),none,none,none,none,none,none,none]) rfl ?_
 refine ⟨_,rfl,C.co,CC,C.dc,_,_,rfl,hC.co,TC.c,TC.n7,rfl,_,rfl,C.fl,_,_,_,rfl,rfl,SqL.of hfl,Yl _ _,?_⟩
 refine gs ?_
 have hprH:=hC.sub _ _ hpr
 refine ⟨_,rfl,Ad.fa,CF,Ad.dx,_,_,rfl,hF.fa,T.c,T.n1,rfl,Ad.pra,_,_,_,rfl,rfl,SqT.of hprH,rfl,_,rfl,Ad.fa,CF,Ad.dx,_,_,rfl,hF.fa,T.c,T.n1,rfl,Ad.pra,_,_,_,rfl,rfl,SqT.of hprH,rfl,_,rfl,Ad.fa,CF,Ad.dx,_,_,rfl,hF.fa,T.c,T.n1,rfl,Ad.pra,_,_,_,rfl,rfl,SqT.of hprH,rfl,_,_,_,rfl,?_⟩
 refine yg (σ':=[some (.ref C.co),some (.ref Ad.fa),some (.str Fr.pr.f),some (.ref rt),some v5,none,none,none]) rfl ?_
 refine ⟨_,rfl,sm rfl,fun e he=>?_⟩
 have s1:=jj he (.tup [])
 have e1:upd H e (.tup []) e=some (.tup []):=ja
 generalize upd H e (.tup [])=H1 at *
 refine ⟨_,rfl,_,rfl,.str Fr.pr.f,.str "give",.ref e,v5,Fr.pr.gives,Ad,Fr,m.w,rfl,(hv5.mono hC.sub).mono s1,hF.toFrD.same s1,by omega,fun hun H2 s2=>?_,fun k hun t H2 s2 ht=>?_⟩
 ·rw [hun] at q
  dsimp only at q
  refine gs ?_
  refine ⟨_,rfl,rfl,_,rfl,j7 (fun d=>absurd d (by show ¬ ((!decide (V.non=V.non))=true);simp)) (fun _=>?_)⟩
  have s12:=s1.trans s2
  have hD2:=hF.toFrD.same s12
  by_cases hhas:qt Fr.L Fr.pr.rs=true
  ·rw [if_pos hhas] at q
   refine ⟨_,rfl,Ad.fa,CF,Ad.dx,_,_,rfl,hD2.fa,T.c,T.n3,rfl,"out",Ad.nm,Fr.N,rfl,hD2.nm,?_⟩
   refine gs ?_
   have hrt2:=s12 _ _ (hC.sub _ _ hrt)
   refine ⟨_,rfl,rt,rfl,⟨_,SqT.of hrt2⟩,fun hl hhl=>?_⟩
   have lrs:Fr.pr.rs.length≤900:=(by have:=hS.rs _ (hC.inP Fr (by rw [hm];exact List.mem_cons_self));omega)
   refine Js (xs:=Fr.pr.rs.map V.str) (fun j σ' G=>∃ u vs,σ'=[u,some (.ref Ad.fa)]∧Same H2 G∧G hl=some (.lst vs)∧RowsAt K G ((Fr.pr.rs.take j).map (kY Fr.L)) vs∧vs.length=j) ⟨none,[],rfl,jj hhl _,ja,trivial,rfl⟩ ?_ ?_ ?_
   ·rintro j σ' G _ ⟨u,vs,rfl,sG,_⟩
    exact SqT.of (sG _ _ hrt2)
   ·rintro j x σ' G hx ⟨u,vs,rfl,sG,hG,hR,hvl⟩
    have hj:j < Fr.pr.rs.length:=by
     have:=(List.getElem?_eq_some_iff.mp hx).1
     rw [List.length_map] at this
     exact this
    rw [List.getElem?_map,List.getElem?_eq_getElem hj] at hx
    cases hx
    unfold qo yK
    refine zZ ?_
    have sHG:=s12.trans sG
    have hDG:=hF.toFrD.same sHG
    have hsome:(lkA Fr.L Fr.pr.rs[j]).isSome=true:=by
     unfold qt at hhas
     exact List.all_eq_true.mp hhas _ (List.getElem_mem hj)
    rcases hRV.val Fr.pr.rs[j] with ⟨_,hno⟩ | ⟨v,q',hv1,hv2,hv3,hv4'⟩
    ·rw [hno] at hsome;cases hsome
    have hgr:DGet G Ad.rw (kV (Sum.inr Fr.pr.rs[j])) (some v):=by
     have h:=DGet.k (k:=Sum.inr Fr.pr.rs[j]) (sHG _ _ hrw)
     rw [hv1] at h
     exact h
    refine ⟨_,rfl,Ad.fa,CF,Ad.dx,_,_,rfl,hDG.fa,T.c,T.n4,rfl,_,rfl,Ad.rw,v,rfl,hgr,?_⟩
    have tk:TKF G (upd G hl (.lst (vs++[v]))):=TKF.updL hG
    refine ⟨_,hG,jz (by omega),_,vs++[v],rfl,fun b o e=>?_,ja,?_,by rw [List.length_append,hvl];rfl⟩
    ·rw [jg (jk e hhl)];exact sG _ _ e
    ·rw [List.take_succ,List.getElem?_eq_getElem hj,List.map_append]
     have eq:kY Fr.L Fr.pr.rs[j]=q':=by unfold kY;rw [hv2];rfl
     show RowsAt K _ ((Fr.pr.rs.take j).map (kY Fr.L)++[kY Fr.L Fr.pr.rs[j]]) (vs++[v])
     rw [eq]
     exact (hR.tk tk).snoc ((hv3.tk (TKF.same sHG)).tk tk)
   rintro σ' H3 ⟨u3,vs,rfl,s3,hl3,hR3,hvl⟩
   rw [List.length_map,List.take_length] at hR3
   rw [List.length_map] at hvl
   refine gs ?_
   have s13:=s12.trans s3
   have hD3:=hF.toFrD.same s13
   refine ⟨_,rfl,Ad.fa,CF,Ad.dx,_,_,rfl,hD3.fa,T.c,T.n2,rfl,rfl,_,rfl,?_⟩
   have hcb:=hF.cb
   cases hcbe:Fr.cb with
   | none=>
    rw [hcbe] at q hcb
    dsimp only at q
    have hcb':Ad.cbv=.non:=hcb
    refine j7 (fun _=>?_) (fun d=>absurd (decide_eq_true hcb') d)
    refine ⟨_,rfl,_,rfl,sm rfl,fun t ht=>?_⟩
    have g:=jj ht (.tup [V.str "done",V.int (ql Fr.N "out"),V.ref hl])
    exact q (.ref t) _ m.tk (hC.sub.trans (s13.trans g)) ((s13.trans g) _ _ hC.co) ⟨t,hl,vs,rfl,ja,g _ _ hl3,hR3.tk (TKF.same g)⟩ (fun t' x y hl' z1 z2=>by cases z1;rw [ja] at z2;cases z2;exact (hC.sub.trans s12).free hhl)
   | some c=>
    rw [hcbe] at q hcb
    dsimp only at q
    have hcb':Held Hs (Dx.call c.x c.f c.as c.rows).toD Ad.cbv:=hcb
    have hnn:Ad.cbv≠.non:=fun z=>by rw [z] at hcb';obtain ⟨a,_,e,_⟩:=jp hcb';cases e
    refine j7 (fun d=>absurd (of_decide_eq_true d) hnn) (fun _=>?_)
    cases hrest:jE with
    | nil=>rw [hrest] at q;exact q.elim
    | cons G rest'=>
     rw [hrest] at q hst hm
     dsimp only at q
     by_cases hcond:c.rows.Nodup∧c.rows.length=Fr.pr.rs.length∧c.rows.length≤100∧qt G.L c.rows=true
     ·rw [if_pos hcond] at q
      have hfl3:=s13 _ _ hfl
      refine ⟨_,rfl,C.co,CC,C.dc,_,_,rfl,s13 _ _ hC.co,TC.c,TC.n7,rfl,.inl ⟨rfl,_,SqL.of hfl3⟩,C.fl,_,_,rfl,rfl,hfl3,jd2,?_⟩
      rw [List.dropLast_concat]
      have k4:∀ b o,b≠C.fl→H b=some o→upd H3 C.fl (.lst ((As'.map fun A=>V.ref A.fa).reverse)) b=some o:=fun b o hb e=>by rw [jg hb];exact s13 _ _ e
      have hl4:upd H3 C.fl (.lst ((As'.map fun A=>V.ref A.fa).reverse)) hl=some (.lst vs):=by
       rw [jg (fun z=>by rw [← z] at hfl;exact absurd hfl (by rw [s12.free hhl];intro y;cases y))]
       exact hl3
      have tk4:TKF H3 (upd H3 C.fl (.lst ((As'.map fun A=>V.ref A.fa).reverse))):=TKF.updL hfl3
      have hR4:=hR3.tk tk4
      have e4:upd H3 C.fl (.lst ((As'.map fun A=>V.ref A.fa).reverse)) C.fl=some (.lst ((As'.map fun A=>V.ref A.fa).reverse)):=ja
      have hfa4:upd H3 C.fl (.lst ((As'.map fun A=>V.ref A.fa).reverse)) Ad.fa=some (.ins CF Ad.dx (zx Ad.pra Ad.cbv Ad.nm Ad.rw Fr.i)):=by
       rw [jg (j4 hD3.fa hfl3 (by intro y;cases y))]
       exact hD3.fa
      generalize upd H3 C.fl (.lst ((As'.map fun A=>V.ref A.fa).reverse))=H4 at *
      have hC4:Conf K CC CF Hs C prog inp most As' H4 ⟨G :: rest',m.used,m.tk,m.w⟩:=hC.pop hm rfl rfl rfl rfl (by intro z;cases z) k4 e4
      obtain ⟨A1,As'',rfl,hG4,_⟩:=hC4.cons (F:=G) (jE:=rest') rfl
      have hfl4:H4 C.fl=some (.lst ((As''.map fun A=>V.ref A.fa).reverse++[.ref A1.fa])):=by rw [e4,List.map_cons,List.reverse_cons]
      obtain ⟨cst,ecst⟩:∃ cst,Ad.cbv=.ref cst:=by obtain ⟨a,_,e,_⟩:=jp hcb';exact ⟨a,e⟩
      have hwn:∀ q∈kB Fr.L Fr.pr.rs,q.2.2.length≤m.w:=fun q hq=>by
       obtain ⟨r,hr,rfl⟩:=List.mem_map.mp hq
       rcases hRV.val r with ⟨_,hno⟩ | ⟨v,q',hv1,hv2,hv3,hv4'⟩
       ·unfold kY;rw [hno];exact Nat.zero_le _
       ·unfold kY;rw [hv2];exact hv4'
      have hlen:(kB Fr.L Fr.pr.rs).length=Fr.pr.rs.length:=by unfold kB;rw [List.length_map]
      have hb4:=hC4.bnd
      have hL4:=hC4.lb G List.mem_cons_self
      have hN4:G.N.length≤880:=by have:=hb4.1;dsimp only at this;omega
      have hNb:G.N.length+1≤100+2 * m.used:=by
       have:=hC.bnd
       rw [hm] at this
       exact this.2 G List.mem_cons_self
      have nd4:=hC4.nd
      rw [List.flatMap_cons] at nd4
      have nd5:=(List.nodup_append.mp (List.nodup_cons.mp (List.nodup_cons.mp nd4).2).2).1
      have nnr:A1.nm≠A1.rw:=by
       simp only [FA.own,List.nodup_cons,List.mem_cons,List.mem_nil_iff,or_false,not_or] at nd5
       exact nd5.2.1
      refine ⟨_,rfl,C.co,CC,C.dc,_,_,rfl,hC4.co,TC.c,TC.n7,rfl,_,rfl,C.fl,_,_,_,rfl,rfl,SqL.of hfl4,Yl _ _,_,rfl,Ad.fa,CF,Ad.dx,_,_,rfl,hfa4,T.c,T.n2,rfl,_,rfl,_,rfl,?_⟩
      refine ⟨A1,G,m.w,cst,hl,c,ql Fr.N "out",vs,kB Fr.L Fr.pr.rs,by rw [ecst];rfl,hG4.toFrD,by rw [← ecst];exact hcb'.mono hC4.sub,hl4,hR4,hwn,by rw [hlen];exact hcond.2.1,hcond.1,hcond.2.2.1,by omega,hL4,nnr,fun H5 k5 enm erw=>?_⟩
      obtain ⟨rvs5,erw5,hRV5⟩:=erw
      refine q (A1 :: As'') H5 (hC4.step (F:=G) (jE:=rest') (m':=⟨_ :: rest',m.used,m.tk,m.w⟩) rfl rfl (fun b o b1 b2 b3 b4 e=>k5 b o b3 b4 e) (k5 _ _ ?_ ?_ hC4.co) ⟨?_,enm,rvs5,erw5,hRV5⟩ rfl rfl (Nat.le_refl _) hw hC.tk (Nat.le_refl _) ?_ (hC4.ix G List.mem_cons_self) ?_)
      ·exact j4 hC4.co hG4.nm (by intro y;cases y)
      ·obtain ⟨r1,hr1,_⟩:=hG4.rw
       exact j4 hC4.co hr1 (by intro y;cases y)
      ·obtain ⟨r1,hr1,_⟩:=hG4.rw
       exact k5 _ _ (j4 hG4.fa hG4.nm (by intro y;cases y)) (j4 hG4.fa hr1 (by intro y;cases y)) hG4.fa
      ·exact Nat.le_trans (KM _ _ _) (by dsimp only;omega)
      ·show (ja5 G.L (c.rows.zip (kB Fr.L Fr.pr.rs))).length≤100
       rw [jdB (jaJ hcond.2.2.2)]
       exact hL4
     ·rw [if_neg hcond] at q
      exact q.elim
  ·rw [if_neg hhas] at q
   exact q.elim
 ·rw [hun] at q
  dsimp only at q
  refine gs ?_
  refine ⟨_,rfl,rfl,_,rfl,j7 (fun _=>?_) (fun d=>absurd (show (!decide (V.ref t=V.non))=true by simp) d)⟩
  refine ⟨_,rfl,?_⟩
  have s12:=s1.trans s2
  exact q (.ref t) _ m.tk (hC.sub.trans s12) (s12 _ _ hC.co) ⟨t,.ref e,rfl,ht,jL (s2 _ _ e1) jt⟩ (zd ht (fun z=>by cases z))
theorem jbs {CC CF:Addr} {f:Addr} {fd:FuncData} (B:Free0 mg) (TC:ClsC K CC) (T:ClsF K CF) (F:Fun K "gone_on" "gone_on" Jj f fd) (F_come_back:Fn P w K mg base 8 "come_back" ["course"] (jdQ K CC CF)) (F_ask:Fn P w K mg base 8 "ask" ["frame","step"] (jgl K CF)) (F_do:Fn P w K mg base 9 "do" ["course","frame","statement","path"] (jhF K CC CF)):FnOk P w K mg base CX0 10 f fd ["course"] (jhE K CC CF):=by
 have sc:FnScope ["course","frame","steps","step"] ["course"] (jl Jj):=fs
 refine F.okZ sc (fun vs H Q E h=>?_) (fun cdv A outer s H vs Q E hr h=>?_)
 ·obtain ⟨Hs,C,prog,inp,most,As,m,rfl,_⟩:=h
  rfl
 obtain ⟨Hs,C,prog,inp,most,As,m,rfl,hS,hC,hu390,q⟩:=h
 have hu:=yO hr
 cases hm:m.fr with
 | nil=>unfold ki at q;rw [hm] at q;exact q.elim
 | cons Fr jE=>
 obtain ⟨Ad,As',rfl,hF,hst⟩:=hC.cons hm
 have hP:=hC.inP Fr (by rw [hm];exact List.mem_cons_self)
 obtain ⟨pra,pt,rt,v4,v5,vb,epra,hpr,hpt,hrt,hv4,hv5,hvb⟩:=zK hF.pr
 have epra':pra=Ad.pra:=by cases epra;rfl
 subst epra'
 have hw:=hC.w
 have hfl:H C.fl=some (.lst ((As'.map fun A=>V.ref A.fa).reverse++[.ref Ad.fa])):=by rw [hC.fl,List.map_cons,List.reverse_cons]
 obtain ⟨kv2,hd2,hd2v⟩:=hS.d2
 obtain ⟨sl,ss,hval,hsl,hss⟩:=hd2v Fr.pr hP
 have hssl:=hss.length
 rw [List.length_map] at hssl
 have hslH:=hC.sub _ _ hsl
 have hprH:=hC.sub _ _ hpr
 have hix:=hC.ix Fr (by rw [hm];exact List.mem_cons_self)
 have hsz:=hS.sz _ hP
 have hbnd:=hC.bnd
 rw [hm] at hbnd
 have hlb:=hC.lb Fr (by rw [hm];exact List.mem_cons_self)
 have nd:=hC.nd
 rw [List.flatMap_cons] at nd
 have nd1:=List.nodup_cons.mp nd
 have nd2:=List.nodup_cons.mp nd1.2
 have nd3:=List.nodup_append.mp nd2.2
 have ncf:C.co≠Ad.fa:=fun z=>nd1.1 (by rw [z];exact List.mem_cons_of_mem _ (List.mem_append_left _ (by simp [FA.own])))
 have nnr:Ad.nm≠Ad.rw:=by
  have:=nd3.1
  simp only [FA.own,List.nodup_cons,List.mem_cons,List.mem_nil_iff,or_false,not_or] at this
  exact this.2.1
 obtain ⟨rvs,hrw,hRV⟩:=hF.rw
 have ncn:C.co≠Ad.nm:=j4 hC.co hF.nm (by intro y;cases y)
 have ncr:C.co≠Ad.rw:=j4 hC.co hrw (by intro y;cases y)
 have nfn:Ad.fa≠Ad.nm:=j4 hF.fa hF.nm (by intro y;cases y)
 have nfr:Ad.fa≠Ad.rw:=j4 hF.fa hrw (by intro y;cases y)
 refine ⟨_,(jd (jF (i:=1) sc.nd rfl ol (jO kg (jI (zpv 0) rfl) (Za Zd jh) (fun _ _=>rfl)))
   (jd (jF (i:=2) sc.nd rfl ol (zF hu (jI (zpv 0) rfl) (jO jP (jI (zpv 1) rfl) jh (fun _ _=>rfl)) (fun _ _=>rfl)))
   (jd (kl (jQ kX (jI (zpv 1) rfl) (zQ j9 (by rfl) B.len_ q5 (je (zpv 2) ji)) (jJ _)) (jr (jT (jR F_come_back hr (je (zpv 0) ji)))) jY)
   (jd (jF (i:=3) sc.nd rfl ol (jO kg (zpv 2) (jI (zpv 1) rfl) (fun _ _=>rfl)))
   (jd (kl (jQ kX (jO jP (zpv 3) jh (fun _ _=>rfl)) kh (jJ _)) (jd (kQ (zpv 1) (jO jP (zpv 3) jh (fun _ _=>rfl)) rfl)
   (jr (jT kz))) jY)
   (jd (kl (jQ kX (jI (zpv 0) rfl) (jI (zpv 0) rfl) (jJ _)) (jr (jT (kH (je kh ji)))) jY)
   (jd (yQ (zpv 0) jh jbz)
   (jd (kl (jQ kX (jO jP (zpv 3) jh (fun _ _=>rfl)) kh (jJ _)) (jr (jT (jR F_ask hr (je (zpv 1) (je (zpv 3) ji))))) jY)
   (jd (yQ (zpv 1) jh jbz)
   (jd (kl (jQ kX (jO jP (zpv 3) jh (fun _ _=>rfl)) kh (jJ _)) (jr (jT (jR F_do hr (je (zpv 0) (je (zpv 1) (je (jO jP (zpv 3) jh (fun _ _=>rfl)) (je (jO jP (zpv 3) jh (fun _ _=>rfl)) ji))))))) jY)
   (jr (jT kz)))))))))))),?_⟩
 refine yg (σ':=[some (.ref C.co),none,none,none]) rfl ?_
 refine ⟨_,rfl,C.co,CC,C.dc,_,_,rfl,hC.co,TC.c,TC.n7,rfl,_,rfl,C.fl,_,_,_,rfl,rfl,SqL.of hfl,Yl _ _,?_⟩
 refine gs ?_
 have hg:DGet H C.d2 (kV (Sum.inr Fr.pr.f)) (some (.ref sl)):=by
  have h:=DGet.k (k:=Sum.inr Fr.pr.f) (hC.sub _ _ hd2)
  rw [hval] at h
  exact h
 refine ⟨_,rfl,C.co,CC,C.dc,_,_,rfl,hC.co,TC.c,TC.n2,rfl,_,rfl,Ad.fa,CF,Ad.dx,_,_,rfl,hF.fa,T.c,T.n1,rfl,Ad.pra,_,_,_,rfl,rfl,SqT.of hprH,rfl,C.d2,.ref sl,rfl,hg,?_⟩
 refine gs ?_
 refine ⟨_,rfl,Ad.fa,CF,Ad.dx,_,_,rfl,hF.fa,T.c,T.n5,rfl,_,rfl,sl,_,rfl,.inl (SqL.of hslH),rfl,_,rfl,j7 (fun d=>?_) (fun d=>?_)⟩
 ·have he:Fr.i=Fr.pr.sx.length:=by
   have:=of_decide_eq_true d
   injection this with this
   omega
  exact ⟨_,rfl,Hs,C,prog,inp,most,Ad :: As',m,Fr,jE,rfl,hS,hC,hu390,hm,List.getElem?_eq_none (by omega),q⟩
 have hlt:Fr.i < Fr.pr.sx.length:=by
  rcases Nat.lt_or_ge Fr.i Fr.pr.sx.length with g | g
  ·exact g
  ·exfalso
   apply d
   apply decide_eq_true
   rw [show Fr.i=ss.length by omega]
 have hsi:Fr.pr.sx[Fr.i]?=some Fr.pr.sx[Fr.i]:=List.getElem?_eq_getElem hlt
 obtain ⟨v,hv,hvHs⟩:=hss.get (show (Fr.pr.sx.map Sx.toD)[Fr.i]?=some (Fr.pr.sx[Fr.i].toD) by rw [List.getElem?_map,hsi];rfl)
 have hvH:=hvHs.mono hC.sub
 have hwf:=hS.wf _ hP _ _ hsi
 refine ⟨_,rfl,_,rfl,Ad.fa,CF,Ad.dx,_,_,rfl,hF.fa,T.c,T.n5,rfl,sl,_,_,_,rfl,rfl,SqL.of hslH,ze hv,?_⟩
 refine gs ?_
 generalize Fr.pr.sx[Fr.i]=s0 at *
 have keepH:∀ {H':Hp} {F':Fm} {m':Mc},m'.fr=F' :: jE→(∀ b o,b≠C.co→b≠Ad.fa→b≠Ad.nm→b≠Ad.rw→H b=some o→H' b=some o)→H' C.co=some (.ins CC C.dc (kZ C.d1 C.d2 (.ref C.il) m'.tk most m'.used C.fl))→FrD K CF H' m'.w Ad F'→F'.pr=Fr.pr→F'.cb=Fr.cb→m.w≤m'.w→m'.w≤60→m'.tk≤inp.length→m.used≤m'.used→F'.N.length≤100+2 * m'.used→F'.i≤F'.pr.sx.length→F'.L.length≤100→Conf K CC CF Hs C prog inp most (Ad :: As') H' m':=fun a b c d e f g h i j k l n=>hC.step hm a b c d e f g h i j k l n
 cases s0 with
 | go n=>
  rw [jax hm hsi] at q
  obtain ⟨st,xs,rfl,est,hx1⟩:=jp hvH
  obtain ⟨v1,r1,rfl,e1,hx2⟩:=jb hx1
  obtain ⟨v2,r2,rfl,e2,hx3⟩:=jb hx2
  cases jw hx3
  cases jv e1
  cases jV e2
  refine ⟨_,rfl,st,_,_,_,rfl,rfl,SqT.of est,rfl,rfl,_,rfl,j7 (fun _=>?_) (fun d=>absurd (decide_eq_true rfl) d)⟩
  refine ⟨_,rfl,st,_,_,_,rfl,rfl,SqT.of est,rfl,_,rfl,Ad.fa,CF,Ad.dx,_,rfl,hF.fa,T.c,T.n5,by show 5 < 1000;decide,?_⟩
  rw [Jm]
  have tk2:TKF H (upd H Ad.fa (.ins CF Ad.dx (zx Ad.pra Ad.cbv Ad.nm Ad.rw n))):=TKF.upd hF.fa (fun _ z=>by cases z) fun _ _ z=>by cases z
  refine q (Ad :: As') _ (keepH rfl (fun b o b1 b2 b3 b4 e=>by rw [jg b2];exact e) ?_ ⟨ja,?_,rvs,?_,hRV.tk tk2⟩ rfl rfl (Nat.le_refl _) hw hC.tk (Nat.le_refl _) hbnd.1 hwf hlb)
  ·rw [jg ncf];exact hC.co
  ·rw [jg (Ne.symm nfn)];exact hF.nm
  ·rw [jg (Ne.symm nfr)];exact hrw
 | ask le cs kd p yes no=>
  rw [JL hm hsi] at q
  obtain ⟨st,vl,vk,vp,rfl,est,hle,hcs,hpa⟩:=jeR hvH
  refine ⟨_,rfl,st,_,_,_,rfl,rfl,SqT.of est,rfl,rfl,_,rfl,j7 (fun d=>absurd (of_decide_eq_true d) (by decide)) (fun _=>?_)⟩
  refine ⟨_,rfl,C.co,CC,C.dc,_,_,rfl,hC.co,TC.c,TC.n6,rfl,_,rfl,C.co,CC,C.dc,_,_,rfl,hC.co,TC.c,TC.n5,rfl,rfl,_,rfl,j7 (fun d=>?_) (fun d=>?_)⟩
  ·have d':(m.used:Int)=most:=by have:=of_decide_eq_true d;injection this
   rw [if_pos d'] at q
   refine ⟨sm rfl,fun t ht=>q (.ref t) _ m.tk (hC.sub.trans (jj ht _)) ((jj ht _) _ _ hC.co) ⟨t,rfl,ja⟩ (zd ja (fun z=>by cases z))⟩
  have d':¬ (m.used:Int)=most:=fun z=>d (decide_eq_true (congrArg V.int z))
  rw [if_neg d'] at q
  refine ⟨_,rfl,C.co,CC,C.dc,_,_,rfl,hC.co,TC.c,TC.n6,rfl,_,_,rfl,rfl,_,_,hC.co,by show 7 < 1000;decide,?_⟩
  rw [show ((m.used:Int)+1)=((m.used+1:Nat):Int) by omega,JI]
  have t1:TKF H (upd H C.co (.ins CC C.dc (kZ C.d1 C.d2 (.ref C.il) m.tk most (m.used+1) C.fl))):=TKF.upd hC.co (fun _ z=>by cases z) fun _ _ z=>by cases z
  have k1:∀ b o,b≠C.co→H b=some o→upd H C.co (.ins CC C.dc (kZ C.d1 C.d2 (.ref C.il) m.tk most (m.used+1) C.fl)) b=some o:=fun b o hb e=>by rw [jg hb];exact e
  have c1:upd H C.co (.ins CC C.dc (kZ C.d1 C.d2 (.ref C.il) m.tk most (m.used+1) C.fl)) C.co=some (.ins CC C.dc (kZ C.d1 C.d2 (.ref C.il) m.tk most (m.used+1) C.fl)):=ja
  generalize upd H C.co (.ins CC C.dc (kZ C.d1 C.d2 (.ref C.il) m.tk most (m.used+1) C.fl))=H1 at *
  have hD1:FrD K CF H1 m.w Ad Fr:=hF.toFrD.keep (Nat.le_refl _) t1 fun b hb o e=>k1 b o (fun z=>by
   simp only [FA.own,List.mem_cons,List.mem_nil_iff,or_false] at hb
   rcases hb with y | y | y
   ·exact ncf (z.symm.trans y)
   ·exact ncn (z.symm.trans y)
   ·exact ncr (z.symm.trans y)) e
  have tkk:TK H H1:=t1.1
  have nst:st≠C.co:=j4 est hC.co (by intro y;cases y)
  refine ⟨_,rfl,st,_,_,_,rfl,rfl,SqT.of (tkk _ _ est),rfl,rfl,_,rfl,j7 (fun _=>?_) (fun d=>absurd (decide_eq_true rfl) d)⟩
  refine ⟨_,rfl,_,rfl,Ad,Fr,m.w,_,_,_,_,_,_,_,st,vl,vk,vp,kd,le,cs,yes,no,rfl,hD1,by omega,tkk _ _ hprH,tkk _ _ est,tkk.held hle,tkk.held hcs,fun hun H2 k2 f2=>?_,fun k hun t H2 s2 ht=>?_⟩
  ·rw [hun] at q
   dsimp only at q
   obtain ⟨rvs1,hrw1,hRV1⟩:=hD1.rw
   have t2:TKF H1 H2:=⟨fun b xs e=>k2 b _ (j4 e hD1.fa (by intro y;cases y)) e,fun b o u e=>k2 b _ (j4 e hD1.fa (by intro y;cases y)) e⟩
   refine q (Ad :: As') H2 (keepH rfl (fun b o b1 b2 b3 b4 e=>k2 b o b2 (k1 b o b1 e)) (k2 _ _ ncf c1) ⟨f2,k2 _ _ (Ne.symm nfn) hD1.nm,rvs1,k2 _ _ (Ne.symm nfr) hrw1,hRV1.tk t2⟩ rfl rfl (Nat.le_refl _) hw hC.tk (Nat.le_succ _) ?_ ?_ hlb)
   ·have:=hbnd.1;dsimp only;omega
   ·show (if yj Fr.N Fr.L le=true then yes else no)≤Fr.pr.sx.length
    split
    ·exact hwf.1
    ·exact hwf.2
  ·rw [hun] at q
   dsimp only at q
   refine q (.ref t) H2 m.tk (fun b o e=>s2 _ _ (k1 b o (fun z=>by rw [z,hC.new C.co List.mem_cons_self] at e;cases e) (hC.sub _ _ e))) (s2 _ _ c1) ⟨t,vp,rfl,ht,(tkk.held hpa).mono s2⟩ (zd ht (fun z=>by cases z))
 | do_ dd p=>
  rw [yt hm hsi] at q
  obtain ⟨st,st2,vp,rfl,estHs,hdHs,hpaHs⟩:=jf4 hvHs
  have est:=hC.sub _ _ estHs
  have hd:=hdHs.mono hC.sub
  have hpa:=hpaHs.mono hC.sub
  refine ⟨_,rfl,st,_,_,_,rfl,rfl,SqT.of est,rfl,rfl,_,rfl,j7 (fun d=>absurd (of_decide_eq_true d) (by decide)) (fun _=>?_)⟩
  refine ⟨_,rfl,C.co,CC,C.dc,_,_,rfl,hC.co,TC.c,TC.n6,rfl,_,rfl,C.co,CC,C.dc,_,_,rfl,hC.co,TC.c,TC.n5,rfl,rfl,_,rfl,j7 (fun d=>?_) (fun d=>?_)⟩
  ·have d':(m.used:Int)=most:=by have:=of_decide_eq_true d;injection this
   rw [if_pos d'] at q
   refine ⟨sm rfl,fun t ht=>q (.ref t) _ m.tk (hC.sub.trans (jj ht _)) ((jj ht _) _ _ hC.co) ⟨t,rfl,ja⟩ (zd ja (fun z=>by cases z))⟩
  have d':¬ (m.used:Int)=most:=fun z=>d (decide_eq_true (congrArg V.int z))
  rw [if_neg d'] at q
  refine ⟨_,rfl,C.co,CC,C.dc,_,_,rfl,hC.co,TC.c,TC.n6,rfl,_,_,rfl,rfl,_,_,hC.co,by show 7 < 1000;decide,?_⟩
  rw [show ((m.used:Int)+1)=((m.used+1:Nat):Int) by omega,JI]
  have t1:TKF H (upd H C.co (.ins CC C.dc (kZ C.d1 C.d2 (.ref C.il) m.tk most (m.used+1) C.fl))):=TKF.upd hC.co (fun _ z=>by cases z) fun _ _ z=>by cases z
  have k1:∀ b o,b≠C.co→H b=some o→upd H C.co (.ins CC C.dc (kZ C.d1 C.d2 (.ref C.il) m.tk most (m.used+1) C.fl)) b=some o:=fun b o hb e=>by rw [jg hb];exact e
  have c1:upd H C.co (.ins CC C.dc (kZ C.d1 C.d2 (.ref C.il) m.tk most (m.used+1) C.fl)) C.co=some (.ins CC C.dc (kZ C.d1 C.d2 (.ref C.il) m.tk most (m.used+1) C.fl)):=ja
  generalize upd H C.co (.ins CC C.dc (kZ C.d1 C.d2 (.ref C.il) m.tk most (m.used+1) C.fl))=H1 at *
  have tkk:TK H H1:=t1.1
  have hfa1:=k1 _ _ (Ne.symm ncf) hF.fa
  refine ⟨_,rfl,st,_,_,_,rfl,rfl,SqT.of (tkk _ _ est),rfl,rfl,_,rfl,j7 (fun d=>absurd (of_decide_eq_true d) (by decide)) (fun _=>?_)⟩
  refine ⟨_,rfl,Ad.fa,CF,Ad.dx,_,_,rfl,hfa1,T.c,T.n5,rfl,_,_,rfl,rfl,_,_,hfa1,by show 5 < 1000;decide,?_⟩
  rw [show ((Fr.i:Int)+1)=((Fr.i+1:Nat):Int) by omega,Jm]
  have t2:TKF H1 (upd H1 Ad.fa (.ins CF Ad.dx (zx Ad.pra Ad.cbv Ad.nm Ad.rw (Fr.i+1)))):=TKF.upd hfa1 (fun _ z=>by cases z) fun _ _ z=>by cases z
  have e2st:=t2.1 _ _ (tkk _ _ est)
  have hC2:Conf K CC CF Hs C prog inp most (Ad :: As') (upd H1 Ad.fa (.ins CF Ad.dx (zx Ad.pra Ad.cbv Ad.nm Ad.rw (Fr.i+1)))) ⟨{ Fr with i:=Fr.i+1 } :: jE,m.used+1,m.tk,m.w⟩:=by
   refine keepH rfl (fun b o b1 b2 b3 b4 e=>by rw [jg b2];exact k1 b o b1 e) ?_ ⟨ja,?_,rvs,?_,(hRV.tk t1).tk t2⟩ rfl rfl (Nat.le_refl _) hw hC.tk (Nat.le_succ _) ?_ hlt hlb
   ·rw [jg ncf];exact c1
   ·rw [jg (Ne.symm nfn)];exact k1 _ _ (Ne.symm ncn) hF.nm
   ·rw [jg (Ne.symm nfr)];exact k1 _ _ (Ne.symm ncr) hrw
   ·have:=hbnd.1;dsimp only;omega
  have t02:=t1.trans t2
  refine ⟨_,rfl,st,_,_,_,rfl,rfl,SqT.of e2st,rfl,rfl,_,rfl,j7 (fun _=>?_) (fun d=>absurd (decide_eq_true rfl) d)⟩
  generalize upd H1 Ad.fa (.ins CF Ad.dx (zx Ad.pra Ad.cbv Ad.nm Ad.rw (Fr.i+1)))=H2 at *
  have hF2:=(show FrAt K CF Hs H2 m.w Ad { Fr with i:=Fr.i+1 }∧_ from hC2.st).1
  obtain ⟨rvs2,hrw2,hRV2⟩:=hF2.rw
  have hTK2:TK H H2:=t02.1
  refine ⟨_,rfl,_,rfl,_,rfl,st,_,_,_,rfl,rfl,SqT.of e2st,rfl,_,rfl,st,_,_,_,rfl,rfl,SqT.of e2st,rfl,?_⟩
  refine ⟨C,Ad,{ Fr with i:=Fr.i+1 },m.w,st2,dd,inp,.str Fr.pr.f,vp,m.tk,most,m.used+1,rfl,⟨hC2.co,hC2.sub _ _ hS.il,hF2.toFrD,hw,⟨_,_,_,_,_,_,hTK2 _ _ hprH⟩,hTK2.held hd,by have:=hbnd.1;dsimp only;omega,hlb,ncf,hC.tk,nnr⟩,?_⟩
  have hpa2:=hTK2.held hpa
  have step2:∀ {H':Hp} {F':Fm} {m':Mc},m'.fr=F' :: jE→(∀ b o,b≠C.co→b≠Ad.fa→b≠Ad.nm→b≠Ad.rw→H2 b=some o→H' b=some o)→H' C.co=some (.ins CC C.dc (kZ C.d1 C.d2 (.ref C.il) m'.tk most m'.used C.fl))→FrD K CF H' m'.w Ad F'→F'.pr=Fr.pr→F'.cb=Fr.cb→m.w≤m'.w→m'.w≤60→m'.tk≤inp.length→m.used+1≤m'.used→F'.N.length≤100+2 * m'.used→F'.i≤F'.pr.sx.length→F'.L.length≤100→Conf K CC CF Hs C prog inp most (Ad :: As') H' m':=fun a b c d e f g h i j k l n=>hC2.step (F:={ Fr with i:=Fr.i+1 }) (jE:=jE) rfl a b c d e f g h i j k l n
  have hNb:Fr.N.length+2≤100+2 * (m.used+1):=by have:=hbnd.1;omega
  unfold yP at q
  cases dd with
  | set x t c=>
   dsimp only at q
   intro H' k' enm
   refine q (Ad :: As') H' (step2 rfl (fun b o b1 b2 b3 b4 e=>k' b o b3 e) (k' _ _ ncn hC2.co) ⟨k' _ _ nfn hF2.fa,enm,rvs2,k' _ _ (Ne.symm nnr) hrw2,hRV2.tk ⟨fun b xs e=>k' b _ (j4 e hF2.nm (by intro y;cases y)) e,fun b o u e=>k' b _ (j4 e hF2.nm (by intro y;cases y)) e⟩⟩ rfl rfl (Nat.le_refl _) hw hC.tk (Nat.le_refl _) ?_ hlt hlb)
   exact Nat.le_trans (KM _ _ _) (by dsimp only;omega)
  | put r x d t c=>
   dsimp only at q
   by_cases hc:(lkA Fr.L r).isSome=true∧m.w < 60
   ·rw [if_pos hc] at q
    refine ⟨hc.1,fun H' k' erw=>?_⟩
    obtain ⟨rvs3,hrw3,hRV3⟩:=erw
    refine q (Ad :: As') H' (step2 rfl (fun b o b1 b2 b3 b4 e=>k' b o b4 e) (k' _ _ ncr hC2.co) ⟨k' _ _ nfr hF2.fa,k' _ _ nnr hF2.nm,rvs3,hrw3,hRV3⟩ rfl rfl (Nat.le_succ _) (by dsimp only;omega) hC.tk (Nat.le_refl _) (by dsimp only;omega) hlt ?_)
    show (kO Fr.L r _).length≤100
    rw [jal hc.1]
    exact hlb
   ·rw [if_neg hc] at q
    exact q.elim
  | any x=>
   dsimp only at q
   refine ⟨fun hn t H' s' ht=>?_,fun v hv H' k' enm eco=>?_⟩
   ·rw [hn] at q
    exact q (.ref t) H' m.tk (hC2.sub.trans s') (s' _ _ hC2.co) ⟨t,rfl,ht⟩ (zd ht (fun z=>by cases z))
   ·rw [hv] at q
    dsimp only at q
    have htk:m.tk+1≤inp.length:=(List.getElem?_eq_some_iff.mp hv).1
    refine q (Ad :: As') H' (step2 rfl (fun b o b1 b2 b3 b4 e=>k' b o b3 b1 e) eco ⟨k' _ _ nfn (Ne.symm ncf) hF2.fa,enm,rvs2,k' _ _ (Ne.symm nnr) (Ne.symm ncr) hrw2,hRV2.tk ⟨fun b xs e=>k' b _ (j4 e hF2.nm (by intro y;cases y)) (j4 e hC2.co (by intro y;cases y)) e,fun b o u e=>k' b _ (j4 e hF2.nm (by intro y;cases y)) (j4 e hC2.co (by intro y;cases y)) e⟩⟩ rfl rfl (Nat.le_refl _) hw htk (Nat.le_refl _) ?_ hlt hlb)
    exact Nat.le_trans (KM _ _ _) (by dsimp only;omega)
  | claim D=>
   dsimp only at q
   refine ⟨fun hn H' s'=>?_,fun k hn t H' s' ht=>?_⟩
   ·rw [hn] at q
    dsimp only at q
    exact q (Ad :: As') H' (step2 rfl (fun b o _ _ _ _ e=>s' b o e) (s' _ _ hC2.co) (hF2.toFrD.same s') rfl rfl (Nat.le_refl _) hw hC.tk (Nat.le_refl _) (by dsimp only;omega) hlt hlb)
   ·rw [hn] at q
    dsimp only at q
    exact q (.ref t) H' m.tk (hC2.sub.trans s') (s' _ _ hC2.co) ⟨t,vp,rfl,ht,hpa2.mono s'⟩ (zd ht (fun z=>by cases z))
  | call x f' as rows=>
   dsimp only at q
   cases hf:prog.find? fun P=>decide (P.f=f') with
   | none=>rw [hf] at q;exact q.elim
   | some P2=>
    rw [hf] at q
    dsimp only at q
    have hP2:P2∈prog:=List.mem_of_find?_eq_some hf
    have hPf:P2.f=f':=by
     have:=List.find?_some hf
     simpa using this
    by_cases hok:CallOk P2 ⟨x,f',as,rows⟩ Fr
    ·rw [if_pos hok] at q
     obtain ⟨kv1,hd1,hd1v⟩:=hS.d1
     obtain ⟨pra2,hval2,hH2⟩:=hd1v P2 hP2
     rw [hPf] at hval2
     have hlen:=hst.len
     have hfl2:=hC2.fl
     rw [List.map_cons,List.reverse_cons] at hfl2
     have hdeep:=hC.deep
     rw [hm,List.length_cons] at hdeep
     have hfvl:((As'.map fun A=>V.ref A.fa).reverse++[V.ref Ad.fa]).length=jE.length+1:=by
      rw [List.length_append,List.length_reverse,List.length_map,hlen];rfl
     refine ⟨C,Ad,{ Fr with i:=Fr.i+1 },m.w,st2,P2,⟨x,f',as,rows⟩,_,.str Fr.pr.f,vp,pra2,m.tk,most,m.used+1,rfl,⟨hC2.co,hfl2,hF2.toFrD,by omega,⟨_,_,_,_,_,_,hTK2 _ _ hprH⟩,hTK2.held hd,⟨kv1,hC2.sub _ _ hd1,hval2⟩,hH2.mono hC2.sub,⟨hok.as,hok.rows,hok.nps,hok.nrs,hok.nrows,hok.has,hok.lps,hok.lrs⟩,by rw [hfvl];omega⟩,fun k hn t H' s' ht=>?_,fun hn h20 t H' s' ht=>?_,fun hn h20 A2 H' k' efl hFr2 epra ecbv hnew hnd=>?_⟩
     ·rw [show kU (zX P2 ⟨x,f',as,rows⟩ Fr).N (zX P2 ⟨x,f',as,rows⟩ Fr).L P2.needs=some k from hn] at q
      exact q (.ref t) H' m.tk (hC2.sub.trans s') (s' _ _ hC2.co) ⟨t,vp,rfl,ht,hpa2.mono s'⟩ (zd ht (fun z=>by cases z))
     ·rw [show kU (zX P2 ⟨x,f',as,rows⟩ Fr).N (zX P2 ⟨x,f',as,rows⟩ Fr).L P2.needs=none from hn] at q
      dsimp only at q
      rw [hfvl] at h20
      rw [if_pos h20] at q
      exact q (.ref t) H' m.tk (hC2.sub.trans s') (s' _ _ hC2.co) ⟨t,rfl,ht⟩ (zd ht (fun z=>by cases z))
     ·rw [show kU (zX P2 ⟨x,f',as,rows⟩ Fr).N (zX P2 ⟨x,f',as,rows⟩ Fr).L P2.needs=none from hn] at q
      dsimp only at q
      rw [hfvl] at h20
      rw [if_neg h20] at q
      have hbnd2:=hbnd.2
      refine q (A2 :: Ad :: As') H' (hC2.push (m':=⟨zX P2 ⟨x,f',as,rows⟩ Fr :: { Fr with i:=Fr.i+1 } :: jE,m.used+1,m.tk,m.w⟩) rfl k' (by rw [efl,List.map_cons,List.reverse_cons]) hFr2 (by rw [epra];exact hH2) (by rw [ecbv];exact (show jht Hs (some (Cb.mk x f' as rows)) (.ref st2) from hdHs)) hnew hnd hP2 rfl rfl rfl ?_ ?_ ?_ (Nat.zero_le _) ?_)
      ·show (P2.ps.zip _).length≤100
       rw [List.length_zip]
       exact Nat.le_trans (Nat.min_le_left _ _) hok.lps
      ·intro G hG
       rcases List.mem_cons.mp hG with rfl | hG
       ·dsimp only;omega
       ·have:=hbnd2 G hG;dsimp only;omega
      ·rw [List.length_cons];omega
      ·show (P2.rs.zip _).length≤100
       rw [List.length_zip]
       exact Nat.le_trans (Nat.min_le_left _ _) hok.lrs
    ·rw [if_neg hok] at q
     exact q.elim
 | come=>
  rw [KZ hm hsi] at q
  obtain ⟨st,xs,rfl,est,hx1⟩:=jp hvH
  obtain ⟨v1,r1,rfl,e1,hx2⟩:=jb hx1
  cases jw hx2
  cases jv e1
  refine ⟨_,rfl,st,_,_,_,rfl,rfl,SqT.of est,rfl,rfl,_,rfl,j7 (fun d=>absurd (of_decide_eq_true d) (by decide)) (fun _=>?_)⟩
  refine ⟨_,rfl,C.co,CC,C.dc,_,_,rfl,hC.co,TC.c,TC.n6,rfl,_,rfl,C.co,CC,C.dc,_,_,rfl,hC.co,TC.c,TC.n5,rfl,rfl,_,rfl,j7 (fun d=>?_) (fun d=>?_)⟩
  ·have d':(m.used:Int)=most:=by have:=of_decide_eq_true d;injection this
   rw [if_pos d'] at q
   refine ⟨sm rfl,fun t ht=>q (.ref t) _ m.tk (hC.sub.trans (jj ht _)) ((jj ht _) _ _ hC.co) ⟨t,rfl,ja⟩ (zd ja (fun z=>by cases z))⟩
  have d':¬ (m.used:Int)=most:=fun z=>d (decide_eq_true (congrArg V.int z))
  rw [if_neg d'] at q
  refine ⟨_,rfl,C.co,CC,C.dc,_,_,rfl,hC.co,TC.c,TC.n6,rfl,_,_,rfl,rfl,_,_,hC.co,by show 7 < 1000;decide,?_⟩
  rw [show ((m.used:Int)+1)=((m.used+1:Nat):Int) by omega,JI]
  have t1:TKF H (upd H C.co (.ins CC C.dc (kZ C.d1 C.d2 (.ref C.il) m.tk most (m.used+1) C.fl))):=TKF.upd hC.co (fun _ z=>by cases z) fun _ _ z=>by cases z
  have k1:∀ b o,b≠C.co→H b=some o→upd H C.co (.ins CC C.dc (kZ C.d1 C.d2 (.ref C.il) m.tk most (m.used+1) C.fl)) b=some o:=fun b o hb e=>by rw [jg hb];exact e
  have c1:upd H C.co (.ins CC C.dc (kZ C.d1 C.d2 (.ref C.il) m.tk most (m.used+1) C.fl)) C.co=some (.ins CC C.dc (kZ C.d1 C.d2 (.ref C.il) m.tk most (m.used+1) C.fl)):=ja
  generalize upd H C.co (.ins CC C.dc (kZ C.d1 C.d2 (.ref C.il) m.tk most (m.used+1) C.fl))=H1 at *
  have tkk:TK H H1:=t1.1
  have hfa1:=k1 _ _ (Ne.symm ncf) hF.fa
  refine ⟨_,rfl,st,_,_,_,rfl,rfl,SqT.of (tkk _ _ est),rfl,rfl,_,rfl,j7 (fun d=>absurd (of_decide_eq_true d) (by decide)) (fun _=>?_)⟩
  refine ⟨_,rfl,Ad.fa,CF,Ad.dx,_,_,rfl,hfa1,T.c,T.n5,rfl,_,_,rfl,rfl,_,_,hfa1,by show 5 < 1000;decide,?_⟩
  rw [show ((Fr.i:Int)+1)=((Fr.i+1:Nat):Int) by omega,Jm]
  have t2:TKF H1 (upd H1 Ad.fa (.ins CF Ad.dx (zx Ad.pra Ad.cbv Ad.nm Ad.rw (Fr.i+1)))):=TKF.upd hfa1 (fun _ z=>by cases z) fun _ _ z=>by cases z
  refine ⟨_,rfl,st,_,_,_,rfl,rfl,SqT.of (t2.1 _ _ (tkk _ _ est)),rfl,rfl,_,rfl,j7 (fun d=>absurd (of_decide_eq_true d) (by decide)) (fun _=>?_)⟩
  refine q (Ad :: As') _ (keepH rfl (fun b o b1 b2 b3 b4 e=>by rw [jg b2];exact k1 b o b1 e) ?_ ⟨ja,?_,rvs,?_,(hRV.tk t1).tk t2⟩ rfl rfl (Nat.le_refl _) hw hC.tk (Nat.le_succ _) ?_ hlt hlb)
  ·rw [jg ncf];exact c1
  ·rw [jg (Ne.symm nfn)];exact k1 _ _ (Ne.symm ncn) hF.nm
  ·rw [jg (Ne.symm nfr)];exact k1 _ _ (Ne.symm ncr) hrw
  ·have:=hbnd.1;dsimp only;omega
end
abbrev qi:Stmt:=top 19
abbrev zI:Stmt:=jce (top 28) 0
section
variable {P:Program} {w:World} {K:W.Frag} {mg:Str→Option Value} {base:Heap}
theorem jei {f:Addr} {fd:FuncData} (F:Fun K "procs_by_name" "procs_by_name" qi f fd):FnOk P w K mg base CX0 1 f fd ["program"] jbX:=by
 have sc:FnScope ["program"] ["program"] (jl qi):=fs
 refine F.okZ sc (fun vs H Q E h=>?_) (fun cdv A outer s H vs Q E hr h=>?_)
 ·obtain ⟨pg,prog,pvs,rfl,_⟩:=h
  rfl
 obtain ⟨pg,prog,pvs,rfl,hpg,hpv,nd,hl,q⟩:=h
 have hpl:=hpv.length
 rw [List.length_map] at hpl
 refine ⟨_,(jr (jT (YB ["proc"] [] rfl (qf (sc:=jl qi) (N:=["program"]) rfl rfl (by decide +kernel)) (Ja (zpv 0)) (fun s H ex=>⟨(js (i:=0) (show List.Nodup (["proc"]:List Str) by decide +kernel) rfl ol),qz,(jO (jcc (K:=K)) (zpv 0) jh (fun _ _=>rfl)),(zpv 0)⟩)))),?_⟩
 refine ⟨_,rfl,pg,rfl,⟨_,SqT.of hpg⟩,fun d hd=>?_⟩
 refine Y1 (xs:=pvs) (fun i σ' G=>(∃ u,σ'=[u])∧Same H G∧∃ kv,G d=some (.dK kv)∧kv.length≤i∧∀ j (hj:j < prog.length),j < i→∃ pra,qh kv (Sum.inr prog[j].f)=some (.ref pra)∧Held H prog[j].toD (.ref pra)) ⟨⟨none,rfl⟩,jj hd _,[],ja,Nat.le_refl _,fun j _ h=>absurd h (Nat.not_lt_zero _)⟩ ?_ ?_ ?_
 ·rintro i σ' G _ ⟨_,sG,_⟩
  exact SqT.of (sG _ _ hpg)
 ·rintro i x σ' G hx ⟨⟨u,rfl⟩,sG,kv,eG,hkl,hkv⟩
  have hi:i < prog.length:=by have:=(List.getElem?_eq_some_iff.mp hx).1;omega
  obtain ⟨x',hx',hxH⟩:=hpv.get (show (prog.map Pr.toD)[i]?=some prog[i].toD by rw [List.getElem?_map,List.getElem?_eq_getElem hi];rfl)
  rw [hx] at hx'
  cases hx'
  obtain ⟨pra,pt,rt,v4,v5,vb,rfl,hpr,hpt,hrt,hv4,hv5,hvb⟩:=zK hxH
  unfold qo yK
  refine zZ ?_
  refine ⟨_,rfl,pra,_,_,_,rfl,rfl,SqT.of (sG _ _ hpr),rfl,_,rfl,kv,Sum.inr prog[i].f,rfl,eG,jz (by omega),⟨_,rfl⟩,fun b o e=>?_,_,ja,?_,fun j hj hji=>?_⟩
  ·rw [jg (jk e hd)];exact sG _ _ e
  ·exact Nat.le_trans (KL _ _ _) (by omega)
  ·rw [ZZ]
   by_cases g:j=i
   ·subst g
    rw [if_pos rfl]
    exact ⟨pra,rfl,hxH⟩
   ·rw [if_neg (fun z=>jhY nd hj hi g (Sum.inr.inj z))]
    exact hkv j hj (by omega)
 ·rintro σ' G ⟨_,sG,kv,eG,_,hkv⟩
  refine q d kv G sG hd eG fun P hP=>?_
  obtain ⟨j,hj,rfl⟩:=List.mem_iff_getElem.mp hP
  obtain ⟨pra,h1,h2⟩:=hkv j hj (by omega)
  exact ⟨pra,h1,h2.mono sG⟩
theorem jcX {CC:Addr} {k f':Nat} {f:Addr} {fd:FuncData} (TC:ClsC K CC) (F:Fun K "__init__" "Course.__init__" zI f fd) (hk1:1≤k) (F_procs_by_name:Fn P w K mg base 1 "procs_by_name" ["program"] jbX) (F_steps_of:Fn P w K mg base k "steps_of" ["proc"] (jbW f')):FnOk P w K mg base CX0 (k+1) f fd ["self","program","inputs","most"] (jab CC f'):=by
 have sc:FnScope ["self","program","inputs","most"] ["self","program","inputs","most"] (jl zI):=fs
 refine F.okZ sc (fun vs H Q E h=>?_) (fun cdv A outer s H vs Q E hr h=>?_)
 ·obtain ⟨co,dc,pg,vi,most,prog,pvs,rfl,_⟩:=h
  rfl
 obtain ⟨co,dc,pg,vi,most,prog,pvs,rfl,hco,hpg,hpv,nd,hl,hok,h2,q⟩:=h
 have hpl:=hpv.length
 rw [List.length_map] at hpl
 refine ⟨_,(jd (kQ (zpv 0) (jR F_procs_by_name hr (je (zpv 1) ji) (h4:=hk1)) rfl)
   (jd (kQ (zpv 0) (YB ["proc"] [] rfl (qf (sc:=jl zI) (N:=["self","program","inputs","most"]) rfl rfl (by decide +kernel)) (Ja (zpv 1)) (fun s H ex=>⟨(js (i:=0) (show List.Nodup (["proc"]:List Str) by decide +kernel) rfl ol),qz,(jO (jcc (K:=K)) (zpv 0) jh (fun _ _=>rfl)),(jR F_steps_of hr (je (zpv 0) ji) (h4:=Nat.le_refl _))⟩)) rfl)
   (jd (kQ (zpv 0) (zpv 2) rfl)
   (jd (kQ (zpv 0) jh rfl)
   (jd (kQ (zpv 0) (zpv 3) rfl)
   (jd (kQ (zpv 0) jh rfl)
   (jr (kQ (zpv 0) (qd ji) rfl)))))))),?_⟩
 refine ⟨_,rfl,pg,prog,pvs,rfl,hpg,hpv,nd,hl,fun d1 kv1 H1 s1 hd1 e1 hkv1=>?_⟩
 refine ⟨_,rfl,co,CC,dc,[],rfl,s1 _ _ hco,TC.c,TC.n1,by show 0 < 1000;decide,?_⟩
 have nd1:d1≠co:=fun z=>by rw [z,hco] at hd1;cases hd1
 have k2:∀ b o,b≠co→H b=some o→upd H1 co (.ins CC dc (jZ "procs" (.ref d1) [])) b=some o:=fun b o hb z=>by rw [jg hb];exact s1 _ _ z
 have c2:upd H1 co (.ins CC dc (jZ "procs" (.ref d1) [])) co=some (.ins CC dc (jZ "procs" (.ref d1) [])):=ja
 have ed2:upd H1 co (.ins CC dc (jZ "procs" (.ref d1) [])) d1=some (.dK kv1):=by rw [jg nd1];exact e1
 have tk12:TK H1 (upd H1 co (.ins CC dc (jZ "procs" (.ref d1) []))):=TK.upd (s1 _ _ hco) (fun _ z=>by cases z)
 generalize upd H1 co (.ins CC dc (jZ "procs" (.ref d1) []))=H2 at *
 have tk2:TK H H2:=(TK.same s1).trans tk12
 have free2:∀ b,H2 b=none→H b=none:=fun b hb=>by
  rcases hh:H b with _ | o
  ·rfl
  ·by_cases z:b=co
   ·rw [z,c2] at hb;cases hb
   ·rw [k2 b o z hh] at hb;cases hb
 refine ⟨_,rfl,pg,rfl,⟨_,SqT.of (tk2 _ _ hpg)⟩,fun d2 hd2=>?_⟩
 have hd20:=free2 d2 hd2
 refine Y1 (xs:=pvs) (fun i σ' G=>(∃ u,σ'=[u])∧Same H2 G∧∃ kv,G d2=some (.dK kv)∧kv.length≤i∧∀ j (hj:j < prog.length),j < i→∃ sl ss,qh kv (Sum.inr prog[j].f)=some (.ref sl)∧G sl=some (.lst ss)∧HeldL G (prog[j].sx.map Sx.toD) ss) ⟨⟨none,rfl⟩,jj hd2 _,[],ja,Nat.le_refl _,fun j _ h=>absurd h (Nat.not_lt_zero _)⟩ ?_ ?_ ?_
 ·rintro i σ' G _ ⟨_,sG,_⟩
  exact SqT.of (sG _ _ (tk2 _ _ hpg))
 ·rintro i x σ' G hx ⟨⟨u,rfl⟩,sG,kv,eG,hkl,hkv⟩
  have hi:i < prog.length:=by have:=(List.getElem?_eq_some_iff.mp hx).1;omega
  obtain ⟨x',hx',hxH⟩:=hpv.get (show (prog.map Pr.toD)[i]?=some prog[i].toD by rw [List.getElem?_map,List.getElem?_eq_getElem hi];rfl)
  rw [hx] at hx'
  cases hx'
  have hxG:Held G prog[i].toD x:=(tk2.held hxH).mono sG
  obtain ⟨pra,pt,rt,v4,v5,vb,rfl,hpr,hpt,hrt,hv4,hv5,hvb⟩:=zK hxG
  have hP:=hok prog[i] (List.getElem_mem hi)
  unfold qo yK
  refine zZ ?_
  refine ⟨_,rfl,pra,_,_,_,rfl,rfl,SqT.of hpr,rfl,_,rfl,pra,_,_,_,_,_,_,_,prog[i].body,rfl,hpr,hvb,hP.fit,by rw [hP.lay,List.length_map];exact hP.sz,h2,fun sl ss G2 s2 hsl e2 hH=>?_⟩
  rw [hP.lay] at hH
  have eG2:=s2 _ _ eG
  have tk3:TK G2 (upd G2 d2 (.dK (qy kv (Sum.inr prog[i].f) (.ref sl)))):=TK.upd eG2 (fun _ z=>by cases z)
  have kd:∀ b xs,G2 b=some (.lst xs)→upd G2 d2 (.dK (qy kv (Sum.inr prog[i].f) (.ref sl))) b=some (.lst xs):=fun b xs e=>by rw [jg (j4 e eG2 (by intro y;cases y))];exact e
  refine ⟨kv,Sum.inr prog[i].f,rfl,eG2,jz (by omega),⟨_,rfl⟩,fun b o e=>?_,_,ja,?_,fun j hj hji=>?_⟩
  ·rw [jg (jk e hd2)];exact s2 _ _ (sG _ _ e)
  ·exact Nat.le_trans (KL _ _ _) (by omega)
  ·rw [ZZ]
   by_cases g:j=i
   ·subst g
    rw [if_pos rfl]
    exact ⟨sl,ss,rfl,kd _ _ e2,tk3.heldL hH⟩
   ·rw [if_neg (fun z=>jhY nd hj hi g (Sum.inr.inj z))]
    obtain ⟨sl',ss',h1,h2',h3⟩:=hkv j hj (by omega)
    exact ⟨sl',ss',h1,kd _ _ (s2 _ _ h2'),tk3.heldL (h3.mono s2)⟩
 rintro σ' G ⟨_,sG,kv2,ed,_,hkv2⟩
 have c3:=sG _ _ c2
 have ed1:=sG _ _ ed2
 have k3:∀ b o,b≠co→H b=some o→G b=some o:=fun b o hb z=>sG _ _ (k2 b o hb z)
 have nd2:d2≠co:=fun z=>by rw [z,c2] at hd2;cases hd2
 refine ⟨_,rfl,co,CC,dc,_,rfl,c3,TC.c,TC.n2,by show 1 < 1000;decide,?_⟩
 refine ⟨_,rfl,_,rfl,co,CC,dc,_,rfl,ja,TC.c,TC.n3,by show 2 < 1000;decide,?_⟩
 refine ⟨_,rfl,co,CC,dc,_,rfl,ja,TC.c,TC.n4,by show 3 < 1000;decide,?_⟩
 refine ⟨_,rfl,_,rfl,co,CC,dc,_,rfl,ja,TC.c,TC.n5,by show 4 < 1000;decide,?_⟩
 refine ⟨_,rfl,co,CC,dc,_,rfl,ja,TC.c,TC.n6,by show 5 < 1000;decide,?_⟩
 refine ⟨sm rfl,fun fl hfl=>?_⟩
 have nfc:fl≠co:=fun z=>by rw [z,ja] at hfl;cases hfl
 have inX:∀ b o,b≠co→G b=some o→b≠fl:=fun b o hb z y=>by
  rw [y] at z hb
  rw [jg hb,jg hb,jg hb,jg hb,jg hb,z] at hfl
  cases hfl
 have hfl0:H fl=none:=by
  rcases hh:H fl with _ | o
  ·rfl
  ·exact absurd rfl (inX fl o nfc (k3 fl o nfc hh))
 refine ⟨_,rfl,co,CC,dc,_,rfl,(by rw [jg (Ne.symm nfc)];exact ja),TC.c,TC.n7,by show 6 < 1000;decide,?_⟩
 rw [jdp]
 have inY:∀ (A1 A2 A3 A4 A5:HO) b o,b≠co→G b=some o→upd (upd (upd (upd (upd (upd (upd G co A1) co A2) co A3) co A4) co A5) fl (.lst [])) co (.ins CC dc (kZ d1 d2 vi 0 most 0 fl)) b=some o:=fun A1 A2 A3 A4 A5 b o hb z=>by
  rw [jg hb,jg (inX b o hb z),jg hb,jg hb,jg hb,jg hb,jg hb];exact z
 refine q d1 d2 fl kv1 kv2 _ (fun b o hb z=>inY _ _ _ _ _ b o hb (k3 b o hb z)) hd1 hd20 hfl0 ja (inY _ _ _ _ _ _ _ nd1 ed1) (fun P hP=>?_) (inY _ _ _ _ _ _ _ nd2 ed) (fun P hP=>?_) ?_
 ·obtain ⟨pra,h1,h2'⟩:=hkv1 P hP
  exact ⟨pra,h1,ZK (fun b xs z=>inY _ _ _ _ _ b _ (j4 z c3 (by intro y;cases y)) z) ((tk12.held h2').mono sG)⟩
 ·obtain ⟨j,hj,rfl⟩:=List.mem_iff_getElem.mp hP
  obtain ⟨sl,ss,h1,h2',h3⟩:=hkv2 j hj (by omega)
  have nsl:sl≠co:=j4 h2' c3 (by intro y;cases y)
  exact ⟨sl,ss,h1,inY _ _ _ _ _ _ _ nsl h2',inX _ _ nsl h2',heldL_tk (fun b xs z=>inY _ _ _ _ _ b _ (j4 z c3 (by intro y;cases y)) z) h3⟩
 ·rw [jg nfc,ja]
end
abbrev jfg:Stmt:=top 30
section
variable {P:Program} {w:World} {K:W.Frag} {mg:Str→Option Value} {base:Heap}
theorem jgZ {CC CF:Addr} {k f':Nat} {f:Addr} {fd:FuncData} (TC:ClsC K CC) (T:ClsF K CF) (F:Fun K "run" "run" jfg f fd) (hk8:10≤k) (M_Course:MkFn P w K mg base (k - 1) "Course" CC ["self","program","inputs","most"] (jab CC f')) (M_Frame:MkFn P w K mg base 1 "Frame" CF ["self","proc","numbers","rows","called_by"] (Zg K CF)) (F_first_untrue:Fn P w K mg base 6 "first_untrue" ["claims","frame"] (Zh K CF)) (F_gone_on:Fn P w K mg base 10 "gone_on" ["course"] (jhE K CC CF)):FnOk P w K mg base CX0 (k+1) f fd ["program","f","numbers","rows","inputs","most"] (jdK K f'):=by
 have sc:FnScope ["program","f","numbers","rows","inputs","most","course","first","k","end"] ["program","f","numbers","rows","inputs","most"] (jl jfg):=fs
 refine F.okZ sc (fun vs H Q E h=>?_) (fun cdv A outer s H vs Q E hr h=>?_)
 ·obtain ⟨pg,nl,rl,il,prog,P,nums,held,inp,most,rfl,_⟩:=h
  rfl
 obtain ⟨pg,nl,rl,il,prog,Pp,nums,held,inp,most,rfl,hR,q1,q2⟩:=h
 have hu:=yO (hr.mono (show 1≤k by omega))
 obtain ⟨pvs,hpg,hpv⟩:=hR.pg
 obtain ⟨rvs,hrl,hrows⟩:=hR.rl
 refine ⟨_,(jd (jF (i:=6) sc.nd rfl ol (ja2 M_Course hr (je (zpv 0) (je (zpv 4) (je (zpv 5) ji))) (h4:=by omega)))
   (jd (jF (i:=7) sc.nd rfl ol (ja2 M_Frame hr (je (zF hu (jI (zpv 6) rfl) (zpv 1) (fun _ _=>rfl)) (je (zpv 2) (je (zpv 3) (je kz ji)))) (h4:=by omega)))
   (jd (jF (i:=8) sc.nd rfl ol (jR F_first_untrue hr (je (jO jP (jI (zpv 7) rfl) jh (fun _ _=>rfl)) (je (zpv 7) ji)) (h4:=by omega)))
   (jd (kl (jQ Kt (zpv 8) kz (jJ _)) (jr (jT (kH (je (kH (je kh (je (zpv 8) ji))) (je jh ji))))) jY)
   (jd (zE (Zb PySem.F.plainAttrs_list PySem.F.slot_list_append PySem.F.type_list_append kF (jI (zpv 6) rfl) (je (zpv 7) ji)))
   (jd (jF (i:=9) sc.nd rfl ol kz)
   (jd (jcx PassesOwn.never (jQ Zn (zpv 9) kz (jJ _)) (jr (jF (i:=9) sc.nd rfl ol (jR F_gone_on hr (je (zpv 6) ji) (h4:=by omega)))))
   (jr (jT (kH (je (zpv 9) (je (jI (zpv 6) rfl) ji)))))))))))),?_⟩
 refine yg (σ':=[some (.ref pg),some (.str Pp.f),some (.ref nl),some (.ref rl),some (.ref il),some (.int most),none,none,none,none]) rfl ?_
 refine ⟨_,rfl,_,rfl,_,rfl,fun co dc hco hdc ndc=>?_⟩
 have s1:Same H (upd (upd H dc (.own co)) co (.ins CC dc [])):=fun b o z=>by rw [jg (jk z hco),jg (jk z hdc)];exact z
 have c1:upd (upd H dc (.own co)) co (.ins CC dc []) co=some (.ins CC dc []):=ja
 generalize upd (upd H dc (.own co)) co (.ins CC dc [])=H1 at *
 refine ⟨co,dc,pg,.ref il,most,prog,pvs,rfl,c1,s1 _ _ hpg,hpv.mono s1,hR.nd,hR.len,hR.ok,hR.f2,fun d1 d2 fl kv1 kv2 H2 k2 hd1 hd2 hfl c2 ed1 hkv1 ed2 hkv2 efl=>⟨rfl,?_⟩⟩
 have s2:Same H H2:=fun b o z=>k2 b o (jk z hco) (s1 _ _ z)
 refine gs ?_
 obtain ⟨pra,hval,hpra⟩:=hkv1 Pp hR.inP
 obtain ⟨pra',pt,rt,v4,v5,vb,epra,hpr,hpt,hrt,hv4,hv5,hvb⟩:=zK hpra
 have epra':pra=pra':=by cases epra;rfl
 subst epra'
 have hg:DGet H2 d1 (kV (Sum.inr Pp.f)) (some (.ref pra)):=by
  have h:=DGet.k (k:=Sum.inr Pp.f) ed1
  rw [hval] at h
  exact h
 refine ⟨_,rfl,co,CC,dc,_,_,rfl,c2,TC.c,TC.n1,rfl,_,rfl,d1,.ref pra,rfl,hg,_,rfl,_,rfl,fun fa dx hfa hdx ndx=>?_⟩
 have s3:Same H2 (upd (upd H2 dx (.own fa)) fa (.ins CF dx [])):=fun b o z=>by rw [jg (jk z hfa),jg (jk z hdx)];exact z
 have f3:upd (upd H2 dx (.own fa)) fa (.ins CF dx []) fa=some (.ins CF dx []):=ja
 generalize upd (upd H2 dx (.own fa)) fa (.ins CF dx [])=H3 at *
 have s03:=s2.trans s3
 refine ⟨fa,dx,pra,pt,rt,nl,rl,.non,.str "proc",.str Pp.f,v4,v5,vb,Pp.ps,Pp.rs,nums,held,rvs,0,rfl,f3,s3 _ _ hpr,s3 _ _ hpt,s3 _ _ hrt,s03 _ _ hR.nl,s03 _ _ hrl,hrows.tk (TKF.same s03),hR.w0,hR.ps,hR.nps,hR.lps,hR.rs,hR.nrs,(hR.ok _ hR.inP).rs,fun nm rw H4 k4 hnm hrw nnr hFD=>⟨rfl,?_⟩⟩
 have s4:Same H2 H4:=fun b o z=>k4 b o (jk z hfa) (s3 _ _ z)
 have s04:=s2.trans s4
 have hF4:FrD K CF H4 0 ⟨fa,dx,nm,rw,pra,.non⟩ (qv Pp nums held):=hFD _ rfl rfl rfl
 refine gs ?_
 refine ⟨_,rfl,fa,CF,dx,_,_,rfl,hF4.fa,T.c,T.n1,rfl,pra,_,_,_,rfl,rfl,SqT.of (s4 _ _ hpr),rfl,_,rfl,v4,Pp.needs,⟨fa,dx,nm,rw,pra,.non⟩,qv Pp nums held,0,rfl,hv4.mono s4,hF4,by decide,fun H5 s5=>?_⟩
 have s05:=s04.trans s5
 refine gs ?_
 cases hun:kU (qv Pp nums held).N (qv Pp nums held).L Pp.needs with
 | some k=>
  refine ⟨_,rfl,rfl,_,rfl,j7 (fun _=>?_) (fun d=>absurd (show (!decide (V.int (k:Int)=V.non))=true by simp) d)⟩
  refine ⟨_,rfl,sm rfl,fun t2 ht2=>⟨sm rfl,fun t ht=>?_⟩⟩
  have g1:=jj ht2 (.tup [V.str "unmet",V.int k])
  have g2:=jj ht (.tup [V.ref t2,V.int 0])
  exact q1 k hun t t2 _ (s05.trans (g1.trans g2)) (g2 _ _ ja) ja
 | none=>
  obtain ⟨e,u,⟨kk,hruns⟩,hest,hu390,q⟩:=q2 hun
  refine ⟨_,rfl,rfl,_,rfl,j7 (fun d=>absurd d (by show ¬ ((!decide (V.non=V.non))=true);simp)) (fun _=>?_)⟩
  have c5:=(s4.trans s5) _ _ c2
  have efl5:=(s4.trans s5) _ _ efl
  have hF5:=hF4.same s5
  refine ⟨_,rfl,co,CC,dc,_,_,rfl,c5,TC.c,TC.n7,rfl,.inl ⟨rfl,_,SqL.of efl5⟩,_,rfl,fl,_,_,rfl,rfl,efl5,jz (by decide),?_⟩
  have n1:co≠fl:=fun z=>by rw [z,efl] at c2;cases c2
  have n2:co≠fa:=fun z=>by rw [← z,c2] at hfa;cases hfa
  have frsh:∀ b o,H2 b=some o→b≠fa∧b≠nm∧b≠rw:=fun b o e=>⟨(fun z=>by rw [← z,e] at hfa;cases hfa),(fun z=>by have:=s3 _ _ e;rw [z,hnm] at this;cases this),fun z=>by have:=s3 _ _ e;rw [z,hrw] at this;cases this⟩
  have n3:=frsh _ _ c2
  have n4:=frsh _ _ efl
  have n5:fa≠nm:=fun z=>by rw [← z,f3] at hnm;cases hnm
  have n6:fa≠rw:=fun z=>by rw [← z,f3] at hrw;cases hrw
  have tk6:TKF H5 (upd H5 fl (.lst ([]++[.ref fa]))):=TKF.updL efl5
  have k6:∀ b o,b≠fl→H5 b=some o→upd H5 fl (.lst ([]++[.ref fa])) b=some o:=fun b o hb z=>by rw [jg hb];exact z
  have e6:upd H5 fl (.lst ([]++[.ref fa])) fl=some (.lst [.ref fa]):=ja
  have hF6:FrD K CF (upd H5 fl (.lst ([]++[.ref fa]))) 0 ⟨fa,dx,nm,rw,pra,.non⟩ (qv Pp nums held):=hF5.keep (Nat.le_refl _) tk6 fun b hb o e=>k6 b o (fun z=>by
   simp only [FA.own,List.mem_cons,List.mem_nil_iff,or_false] at hb
   rcases hb with y | y | y
   ·exact n4.1 (z.symm.trans y)
   ·exact n4.2.1 (z.symm.trans y)
   ·exact n4.2.2 (z.symm.trans y)) e
  have hfl0:H fl=none:=s1.free hfl
  have s06:Same H (upd H5 fl (.lst ([]++[.ref fa]))):=fun b o z=>k6 b o (jk z hfl0) (s05 _ _ z)
  have s26:∀ b o,b≠fl→H2 b=some o→upd H5 fl (.lst ([]++[.ref fa])) b=some o:=fun b o hb z=>k6 b o hb ((s4.trans s5) _ _ z)
  have c6:=k6 _ _ n1 c5
  generalize upd H5 fl (.lst ([]++[.ref fa]))=H6 at *
  have M0:∀ b,b∈[co,fl,fa,nm,rw]↔b=co∨b=fl∨b=fa∨b=nm∨b=rw:=fun b=>by simp
  have stat:∀ b o,b≠co→b≠fl→H2 b=some o→Kf H6 [co,fl,fa,nm,rw] b=some o:=fun b o b1 b2 z=>jaV (s26 b o b2 z) (fun hb=>by
   obtain ⟨g1,g2,g3⟩:=frsh b o z
   rcases (M0 b).mp hb with y | y | y | y | y
   ·exact b1 y
   ·exact b2 y
   ·exact g1 y
   ·exact g2 y
   ·exact g3 y)
  have statT:TK H2 (Kf H6 [co,fl,fa,nm,rw]):=fun b xs z=>stat b _ (j4 z c2 (by intro y;cases y)) (j4 z efl (by intro y;cases y)) z
  have hSta:Sta (Kf H6 [co,fl,fa,nm,rw]) ⟨co,dc,d1,d2,il,fl⟩ prog inp:=by
   refine ⟨⟨kv1,stat _ _ (j4 ed1 c2 (by intro y;cases y)) (j4 ed1 efl (by intro y;cases y)) ed1,fun P hP=>?_⟩,⟨kv2,stat _ _ (j4 ed2 c2 (by intro y;cases y)) (j4 ed2 efl (by intro y;cases y)) ed2,fun P hP=>?_⟩,?_,fun P hP=>(hR.ok P hP).sz,fun P hP=>(hR.ok P hP).wf,fun P hP=>(hR.ok P hP).rs⟩
   ·obtain ⟨pr',h1,h2⟩:=hkv1 P hP
    exact ⟨pr',h1,statT.held h2⟩
   ·obtain ⟨sl,ss,h1,h2,h3,h4⟩:=hkv2 P hP
    exact ⟨sl,ss,h1,stat _ _ (j4 h2 c2 (by intro y;cases y)) h3 h2,statT.heldL h4⟩
   ·have:=s2 _ _ hR.il
    exact stat _ _ (j4 this c2 (by intro y;cases y)) (fun z=>by have h:=hR.il;rw [show il=fl from z,hfl0] at h;cases h) this
  have hConf:Conf K CC CF (Kf H6 [co,fl,fa,nm,rw]) ⟨co,dc,d1,d2,il,fl⟩ prog inp most [⟨fa,dx,nm,rw,pra,.non⟩] H6 ⟨[qv Pp nums held],0,0,0⟩:=by
   refine ⟨jf5,c6,e6,⟨⟨hF6,statT.held hpra,rfl⟩,trivial⟩,?_,fun b hb=>jhj (by simpa [FA.own] using hb),fun F hF=>?_,Nat.zero_le _,Nat.zero_le _,⟨?_,fun G hG=>by cases hG⟩,(show 1≤21 by decide),fun F hF=>?_,fun F hF=>?_⟩
   ·simp [FA.own,n1,n2,n3.2.1,n3.2.2,n4.1,n4.2.1,n4.2.2,n5,n6,nnr]
   ·rw [List.mem_singleton.mp hF];exact hR.inP
   ·show (Pp.ps.zip nums).length≤_
    rw [List.length_zip]
    exact Nat.le_trans (Nat.min_le_left _ _) (by have:=hR.lps;omega)
   ·rw [List.mem_singleton.mp hF];exact Nat.zero_le _
   ·rw [List.mem_singleton.mp hF]
    show (Pp.rs.zip held).length≤_
    rw [List.length_zip]
    exact Nat.le_trans (Nat.min_le_left _ _) (hR.ok _ hR.inP).rs
  have hHs:∀ G,Same (Kf H6 [co,fl,fa,nm,rw]) G→Same H G:=fun G sG b o z=>sG b o (jaV (s06 _ _ z) (fun hb=>by
   rcases (M0 b).mp hb with y | y | y | y | y
   ·rw [y,hco] at z;cases z
   ·rw [y,hfl0] at z;cases z
   ·rw [y,s2.free hfa] at z;cases z
   ·rw [y,s03.free hnm] at z;cases z
   ·rw [y,s03.free hrw] at z;cases z))
  generalize Kf H6 [co,fl,fa,nm,rw]=Hs at *
  clear statT stat M0 s26 s06 hF6 e6 k6 tk6 hF5 efl5 c5 s05 hF4 s04 s4 s03 f3 s3 hg hkv1 hkv2
  refine ⟨fun m σ G=>∃ v9,σ=[some (.ref pg),some (.str Pp.f),some (.ref nl),some (.ref rl),some (.ref il),some (.int most),some (.ref co),some (.ref fa),some .non,some v9]∧((∃ k mc As,m=k+1∧v9=.non∧Conf K CC CF Hs ⟨co,dc,d1,d2,il,fl⟩ prog inp most As G mc∧Runs prog inp most k mc (e,u))∨(m=0∧Same Hs G∧EndAt K G e v9∧NewL Hs G v9∧∃ tk,G co=some (.ins CC dc (kZ d1 d2 (.ref il) tk most u fl)))),⟨kk+1,.non,rfl,.inl ⟨kk,_,_,rfl,rfl,hConf,hruns⟩⟩,?_⟩
  rintro m σ G ⟨v9,rfl,hG⟩
  rcases hG with ⟨k',mc,As,rfl,rfl,hCf,hRn⟩ | ⟨rfl,sG,hE,hNL,tk,hcoG⟩
  ·refine ⟨_,rfl,rfl,_,rfl,j7 (fun _=>?_) (fun d=>absurd (decide_eq_true rfl) d)⟩
   have hub:=YJ hRn hest
   have hub':mc.used≤u:=hub
   refine ⟨fun σ' G'=>∃ m',m' < k'+1∧∃ v9,σ'=[some (.ref pg),some (.str Pp.f),some (.ref nl),some (.ref rl),some (.ref il),some (.int most),some (.ref co),some (.ref fa),some .non,some v9]∧((∃ k mc As,m'=k+1∧v9=.non∧Conf K CC CF Hs ⟨co,dc,d1,d2,il,fl⟩ prog inp most As G' mc∧Runs prog inp most k mc (e,u))∨(m'=0∧Same Hs G'∧EndAt K G' e v9∧NewL Hs G' v9∧∃ tk,G' co=some (.ins CC dc (kZ d1 d2 (.ref il) tk most u fl)))),fun σ' G' z=>z,?_⟩
   refine ⟨_,rfl,Hs,⟨co,dc,d1,d2,il,fl⟩,prog,inp,most,As,mc,rfl,hSta,hCf,by omega,?_⟩
   cases hRn with
   | stop h=>
    rw [h]
    cases e with
    | stuck=>exact absurd rfl hest
    | _=>
     intro v G' tk a b c c'
     refine gs ?_
     exact ⟨0,Nat.succ_pos _,v,rfl,.inr ⟨rfl,a,c,c',tk,b⟩⟩
   | @more k'' _ m'' _ h t=>
    rw [h]
    intro As' G' hC'
    refine gs ?_
    exact ⟨k''+1,Nat.lt_succ_self _,.non,rfl,.inl ⟨k'',m'',As',rfl,rfl,hC',t⟩⟩
  ·refine ⟨_,rfl,rfl,_,rfl,j7 (fun d=>absurd (of_decide_eq_true d) hE.not) (fun _=>?_)⟩
   refine ⟨_,rfl,_,rfl,co,CC,dc,_,_,rfl,hcoG,TC.c,TC.n6,rfl,sm rfl,fun t ht=>?_⟩
   have g:=jj ht (.tup [v9,.int u])
   exact q t v9 _ ((hHs G sG).trans g) (hE.mono g) (NewL.mono (fun t' x y hl' z1 z2=>(hHs Hs (j5 Hs)).free (hNL t' x y hl' z1 z2)) hE g) ja
end
end LW
namespace L2
open PySem PySem.Spec PyProof.Rows PySem.W
theorem getD_none {owner:Array (Option Nat)} {j:Nat} (h:owner.getD j (some 0)=none):owner[j]?=some none:=by
 by_cases hj:j < owner.size
 ·rw [Array.getElem?_eq_getElem hj]
  simp [Array.getD,hj] at h
  rw [h]
 ·simp [Array.getD,hj] at h
section
variable {prog:Program} {w:World} {K:Type} [DecidableEq K] {knd:KeyKind prog w K} {A:Around} {E:Value→Shared→Prop} {s:Shared}
def Msk (n mask:Nat):Prop:=(mask=7∧n≤4)∨(mask=31∧n≤18)∨(mask=127∧n≤76)
theorem Msk.le {n mask:Nat} (h:Msk n mask):n≤mask∧n+1≤mask∧mask≤127:=by unfold Msk at h;omega
end
end L2
namespace PySem
end PySem
namespace L2
open PySem PySem.Spec PyProof.Rows PySem.W
end L2
namespace LW
open PySem L2
def jdP (K:W.Frag):Sp:=fun vs H Q _=>∃ (a:Addr) (ns:List Int) (k:Int),vs=[.ref a,.int k]∧SqL K H a (ns.map V.int)∧0≤k∧k≤1000∧∀ c:Int,Q (.int c) H
def jbV:Sp:=fun vs H Q _=>∃ (c:Int) (n:Nat),vs=[.int c,.int n]∧n≤14∧∀ (l:Addr) (ws:List Str) (H':Hp),WordsOk ws n→Same H H'→H l=none→H' l=some (.lst (ws.map V.str))→Q (.ref l) H'
theorem KH {α:Type} (f:Nat→α) (i:Nat):(List.range (i+1)).map f=(List.range i).map f++[f i]:=by rw [List.range_succ,List.map_append];rfl
structure QA (X:Cx) (es:List Expr) (t:TA):Prop where
 h:PA X es t
theorem jgH {X:Cx}:QA X [] jcE:=⟨jq⟩
theorem qE {X:Cx} {es:List Expr} {t:TA} {z:Str} {j:Nat} {pos:Pos} (h:QA X es t):QA X (.Constant (.str z) j pos :: es) (jbS (tC (.str z)) t):=⟨ju kL h.h⟩
theorem jgI {X:Cx} {i:Nat} {x:Str} {p1 q pos:Pos} {es:List Expr} {t:TA} (hN:X.N.Nodup) (hi:X.N[i]?=some x) (hx:Loc X.env.scope x) (h:QA X es t) (hf:X.fn x=true∨X.env.scope.names.lookup x=some .local:=by first | exact .inl rfl | exact .inr rfl | assumption) :
  QS X (.Assign [.Name x p1] (.List es q) pos) (jbb (jgz t) (qo i)):=⟨jW hN hi hx (zt h.h) rfl hf⟩
def YN (q:j0):D:=.tup [.int q.1,.tup (q.2.1.map pD),.tup (q.2.2.map pD)]
theorem K0 {H:Hp} {q:j0} {v:V} (h:Held H (YN q) v):∃ a c e qs ws,v=.ref a∧H a=some (.tup [.int q.1,.ref c,.ref e])∧H c=some (.tup qs)∧HeldL H (q.2.1.map pD) qs∧H e=some (.tup ws)∧HeldL H (q.2.2.map pD) ws:=by
 obtain ⟨a,xs,rfl,ha,h1⟩:=jp h
 obtain ⟨v1,r1,rfl,e1,h2⟩:=jb h1
 obtain ⟨v2,r2,rfl,e2,h3⟩:=jb h2
 obtain ⟨v3,r3,rfl,e3,h4⟩:=jb h3
 cases jw h4
 cases jV e1
 obtain ⟨c,qs,rfl,hc,g1⟩:=jp e2
 obtain ⟨e,ws,rfl,he,g2⟩:=jp e3
 exact ⟨a,c,e,qs,ws,rfl,ha,hc,g1,he,g2⟩
def jgk:Sp:=fun vs H Q _=>∃ (s k:Int),vs=[.int s,.int k]∧∀ c:Int,Q (.int c) H
def jdL:Sp:=fun vs H Q _=>∃ (s n:Int),vs=[.int s,.int n]∧∀ (v:V) (b:Int) (ps:List (Int×Int)) (H':Hp),Same H H'→ku ps→ps.length≤3→Held H' (YN (b,ps,[])) v→Q v H'
def jaa (K:W.Frag):Sp:=fun vs H Q _=>∃ (v:V) (p:Int) (q:j0),vs=[v,.int p]∧Held H (YN q) v∧Q (.int (kr q p)) H
theorem Z5 (x y:Int) {i:Int} (h0:0≤i) (h1:i < 2):∃ v,atI [V.int x,V.int y] i=some (.int v):=by
 have:i=0∨i=1:=by omega
 rcases this with rfl | rfl
 ·exact ⟨_,rfl⟩
 ·exact ⟨_,rfl⟩
theorem jbA {b:Int} {ps ws:List (Int×Int)} {p:Int} {i:Nat} (h:i < ws.length):kr (b,ps,ws.take (i+1)) p=if ws[i].1=p then ws[i].2 else kr (b,ps,ws.take i) p:=by
 rw [List.take_succ,List.getElem?_eq_getElem h]
 show kr (b,ps,ws.take i++[ws[i]]) p=_
 rw [show ws[i]=(ws[i].1,ws[i].2) from rfl,yX]
 by_cases c:p=ws[i].1
 ·rw [if_pos c,if_pos c.symm]
 ·rw [if_neg c,if_neg (fun z=>c z.symm)]
theorem JS {b:Int} {ps ws:List (Int×Int)} {p:Int} (h:∀ z∈ws,z.1≠p):kr (b,ps,ws) p=jN b ps p:=by
 refine zm (P:=fun ws=>(∀ z∈ws,z.1≠p)→kr (b,ps,ws) p=jN b ps p) (fun _=>rfl) (fun L x ih h=>?_) ws h
 rw [show x=(x.1,x.2) from rfl,yX,if_neg (fun z=>h x (by simp) z.symm)]
 exact ih fun z hz=>h z (List.mem_append_left _ hz)
theorem jdg {b:Int} {ps ws:List (Int×Int)} {ms:List Int} (h:ku ps) (E:EndsOk ps ws ms) (p:Int):jN b (ms.map fun m=>(m,kr (b,ps,ws) m)) p=kr (b,ps,ws) p:=by
 have up:ku (ms.map fun m=>(m,kr (b,ps,ws) m)):=by
  show List.Pairwise _ _
  rw [List.pairwise_map]
  exact E.up
 rcases K5 b _ up p with ⟨a,e⟩ | ⟨z,hz,a1,a2,e⟩
 ·have no:∀ m∈ms,¬ m≤p:=fun m hm=>a (m,_) (List.mem_map.mpr ⟨m,hm,rfl⟩)
  rw [e,JS fun q hq z=>no p ((E.mem p).mpr (.inr ⟨q,hq,.inl z⟩)) (Int.le_refl _),kA fun q hq=>no q.1 ((E.mem q.1).mpr (.inl ⟨q,hq,rfl⟩))]
 ·obtain ⟨m,hm,rfl⟩:=List.mem_map.mp hz
  have most:∀ m'∈ms,m'≤p→m'≤m:=fun m' hm' hp=>a2 (m',_) (List.mem_map.mpr ⟨m',hm',rfl⟩) hp
  have hmp:m≤p:=a1
  rw [e]
  show kr (b,ps,ws) m=kr (b,ps,ws) p
  by_cases hpm:p=m
  ·rw [hpm]
  ·rw [JS (p:=p) fun q hq z=>by
    have:=most p ((E.mem p).mpr (.inr ⟨q,hq,.inl z⟩)) (Int.le_refl _)
    omega,JS (p:=m) fun q hq z=>by
    have:=most (m+1) ((E.mem (m+1)).mpr (.inr ⟨q,hq,.inr (by omega)⟩)) (by omega)
    omega]
   refine (held_like h hmp fun y hy c=>?_).symm
   have:=most y.1 ((E.mem y.1).mpr (.inl ⟨y,hy,rfl⟩)) c.2
   omega
def qM (ps pl:List (Int×Int)):List Int:=ps.map (·.1)++pl.flatMap fun q=>[q.1,q.1+1]
theorem K9 (ps pl:List (Int×Int)):(qM ps pl).length=ps.length+2 * pl.length:=by
 unfold qM
 rw [List.length_append,List.length_map]
 congr 1
 induction pl with
 | nil=>rfl
 | cons q r ih=>rw [List.flatMap_cons,List.length_append,ih,List.length_cons];simp only [List.length_cons,List.length_nil];omega
theorem jdf {ps pl:List (Int×Int)} {i:Nat} (h:i < pl.length):qM ps (pl.take (i+1))=qM ps (pl.take i)++[pl[i].1,pl[i].1+1]:=by
 unfold qM
 rw [List.take_succ,List.getElem?_eq_getElem h,List.flatMap_append,List.append_assoc]
 simp
theorem jf2 {ps pl:List (Int×Int)} {ms:List Int} (hp:ms.Perm (dedup (qM ps pl))) (hs:ms.Pairwise (·≤·)):EndsOk ps pl ms:=by
 obtain ⟨d1,d2,d3⟩:=Yf (qM ps pl)
 have nd:ms.Nodup:=hp.nodup_iff.mpr d1
 refine ⟨?_,fun m=>?_⟩
 ·have:=hs.and nd
  exact this.imp fun h=>by have h1:=h.1;have h2:_≠_:=h.2;omega
 ·rw [hp.mem_iff,d3]
  unfold qM
  rw [List.mem_append,List.mem_map,List.mem_flatMap]
  refine or_congr ⟨fun ⟨q,h1,h2⟩=>⟨q,h1,h2⟩,fun ⟨q,h1,h2⟩=>⟨q,h1,h2⟩⟩ ⟨fun ⟨q,h1,h2⟩=>⟨q,h1,?_⟩,fun ⟨q,h1,h2⟩=>⟨q,h1,?_⟩⟩
  ·rcases List.mem_cons.mp h2 with h | h
   ·exact .inl h.symm
   ·exact .inr (List.mem_singleton.mp h).symm
  ·rcases h2 with h | h
   ·rw [← h];exact List.mem_cons_self
   ·rw [← h];exact List.mem_cons_of_mem _ (List.mem_singleton.mpr rfl)
def YG (K:W.Frag):Sp:=fun vs H Q _=>∃ (v:V) (q:j0),vs=[v]∧Held H (YN q) v∧ku q.2.1∧q.2.1.length≤3∧q.2.2.length≤30∧∀ u R H',Same H H'→Held H' (Ka q.1 R) u→Canon q.1 R→R.length≤40+2 * q.2.2.length→(∀ z,jN q.1 R z=kr q z)→Q u H'
abbrev jfh:Stmt:=top 42
abbrev Jk:Stmt:=top 41
abbrev yn:Stmt:=top 43
abbrev jb1:Stmt:=top 44
abbrev Zk:Stmt:=top 45
abbrev yo:Stmt:=top 46
section
variable {P:Program} {w:World} {K:W.Frag} {mg:Str→Option Value} {base:Heap}
theorem jfO {f:Addr} {fd:FuncData} (F:Fun K "_law_cell_at" "_law_cell_at" Jk f fd) (B:Free0 mg):FnOk P w K mg base CX0 1 f fd ["_law_script","_law_k"] (jdP K):=by
 have sc:FnScope ["_law_script","_law_k","_law_number"] ["_law_script","_law_k"] (jl Jk):=fs
 refine F.ok sc (fun vs H Q E h=>?_) (fun cdv A outer s H vs Q E hr h=>?_)
 ·obtain ⟨a,ns,k,rfl,_⟩:=h
  rfl
 obtain ⟨a,ns,k,rfl,hS,h0,h1,q⟩:=h
 have hl:(ns.map V.int).length=ns.length:=List.length_map _
 refine ⟨_,(jo (qV (kE jas (pv 1) (Jo j9 (by rfl) B.len_ q5 (ju (pv 0) jq)) (jJ _)) (jB (km (kI kg (pv 0) (pv 1) (fun _ _=>rfl)))) qe)
   (jo (jW (i:=2) sc.nd rfl ol (jy jH (jy qk jm (pv 1)) jm))
   (jo (qV (kE jee (Jo j9 (by rfl) B.len_ q5 (ju (pv 0) jq)) jm (jJ _)) (jB (jW (i:=2) sc.nd rfl ol (jy jH (jy qk (jy j6 (kI kg (pv 0) (jy j6 (pv 1) (Jo j9 (by rfl) B.len_ q5 (ju (pv 0) jq))) (fun _ _=>rfl)) jm) jm) (jy qk (jy qk jm (pv 1)) (pv 1))))) qe)
   (jB (km (jy j6 (pv 2) jm)))))),?_⟩
 refine ⟨_,rfl,_,rfl,a,_,rfl,.inl hS,_,_,rfl,rfl,_,rfl,j7 (fun c=>?_) (fun c=>?_)⟩
 ·have c':k < (ns.length:Int):=by
   have:=of_decide_eq_true c
   rw [hl] at this
   exact this
  exact ⟨_,rfl,_,rfl,a,_,_,_,rfl,rfl,hS,jeP h0 c',q _⟩
 ·refine ⟨_,rfl,_,_,rfl,rfl,.inl ⟨by decide,by decide⟩,_,_,rfl,rfl,?_⟩
  refine ⟨_,rfl,a,_,rfl,.inl hS,_,_,rfl,rfl,_,rfl,j7 (fun d=>?_) (fun d=>?_)⟩
  ·have d':0 < ns.length:=by
    have:=of_decide_eq_true d
    rw [hl] at this
    omega
   have hm0:0≤k % (ns.length:Int):=Int.emod_nonneg _ (by omega)
   have hm1:k % (ns.length:Int) < (ns.length:Int):=Int.emod_lt_of_pos _ (by omega)
   have hat:atI (ns.map V.int) (k % (((ns.map V.int).length:Nat):Int))=some (.int (ns.getD (k % (ns.length:Int)).toNat 0)):=by
    rw [hl]
    exact jeP hm0 hm1
   refine ⟨_,rfl,_,rfl,_,rfl,a,_,rfl,.inl hS,_,_,rfl,rfl,(by rw [hl];omega),a,_,_,_,rfl,rfl,hS,hat,_,_,rfl,rfl,(by show (0:Int) < _;decide),_,_,rfl,rfl,.inr ⟨by decide,by decide⟩,_,rfl,_,_,rfl,rfl,.inl ⟨by decide,by decide⟩,_,rfl,_,_,rfl,rfl,.inr ⟨by omega,by omega⟩,_,_,rfl,rfl,?_⟩
   exact ⟨_,rfl,_,_,rfl,rfl,(by show (0:Int) < _;decide),q _⟩
  ·exact ⟨_,rfl,_,_,rfl,rfl,(by show (0:Int) < _;decide),q _⟩
theorem jeg {f:Addr} {fd:FuncData} (F:Fun K "_law_words" "_law_words" yn f fd) (B:Free0 mg):FnOk P w K mg base CX0 1 f fd ["_law_cell","_law_many"] jbV:=by
 have sc:FnScope ["_law_cell","_law_many","_law_letters","_law_own","_law_size","_law_spot","_law_words_here","_law_k","_law_base"] ["_law_cell","_law_many"] (jl yn):=fs
 refine F.ok sc (fun vs H Q E h=>?_) (fun cdv A outer s H vs Q E hr h=>?_)
 ·obtain ⟨c,n,rfl,_⟩:=h
  rfl
 obtain ⟨c,n,rfl,hn,q⟩:=h
 refine ⟨_,(QSs.h (qU (qs (jW (i:=2) sc.nd rfl ol kL))
   (qU (jgI (i:=3) sc.nd rfl ol (qE (qE (qE (qE (qE (qE (qE (qE (qE (qE (qE (qE (qE (qE jgH)))))))))))))))
   (qU (qs (qV (kE kX (jy j6 (pv 0) jm) jm (jJ _)) (jB (km (Kr ["_law_k"] [0,3] rfl (qf (sc:=jl yn) (N:=["_law_cell","_law_many","_law_letters","_law_own","_law_size","_law_spot","_law_words_here","_law_k","_law_base"]) rfl rfl (by decide +kernel)) (zf (by rfl) B.range_ (ju (pv 1) jq)) (fun s H ex=>⟨(jS (i:=0) (show List.Nodup (["_law_k","_law_cell","_law_own"]:List Str) by decide +kernel) rfl ol),yD,(kI (jey (K:=K)) (pv 2) (jy j6 (jy jH (jy kN (pv 1) jm) (pv 0)) jm) (fun _ _=>rfl))⟩)))) qe))
   (qU (qs (jW (i:=4) sc.nd rfl ol (jy j6 (pv 0) jm)))
   (qU (qs (qV (kE kX (pv 4) jm (jJ _)) (jB (km (Kr ["_law_k"] [0,2] rfl (qf (sc:=jl yn) (N:=["_law_cell","_law_many","_law_letters","_law_own","_law_size","_law_spot","_law_words_here","_law_k","_law_base"]) rfl rfl (by decide +kernel)) (zf (by rfl) B.range_ (ju (pv 1) jq)) (fun s H ex=>⟨(jS (i:=0) (show List.Nodup (["_law_k","_law_cell","_law_letters"]:List Str) by decide +kernel) rfl ol),yD,(kI jby (pv 2) (jy j6 (jy jH (jy kN (pv 1) jm) (pv 0)) jm) (fun _ _=>rfl))⟩)))) qe))
   (qU (qs (jW (i:=5) sc.nd rfl ol (jy j6 (jy kN (pv 0) jm) (pv 4))))
   (qU (qs (jW (i:=6) sc.nd rfl ol (zt jq)))
   (qU (qs (zV PassesOwn.never rfl (zf (by rfl) B.range_ (ju (pv 1) jq)) (jS (i:=7) sc.nd rfl ol) (jo (yT (i:=8) sc.nd rfl ol ["_law_j"] [0,5,7] rfl (qf (sc:=jl yn) (N:=["_law_cell","_law_many","_law_letters","_law_own","_law_size","_law_spot","_law_words_here","_law_k","_law_base"]) rfl rfl (by decide +kernel)) (zf (by rfl) B.range_ (ju (pv 4) jq)) (fun s H ex=>⟨(jS (i:=0) (show List.Nodup (["_law_j","_law_cell","_law_spot","_law_k"]:List Str) by decide +kernel) rfl ol),yD,(jy jH (jy jH (jy kN (pv 1) jm) (jy qk (jy qk jm (pv 0)) (pv 0))) (jy qk (pv 3) (Jn JY (by rfl) B.int_ ZS (ju (Ks kX (pv 0) (pv 2) (jJ _)) jq))))⟩))
   (jB (kR (yN PySem.F.plainAttrs_list PySem.F.slot_list_append PySem.F.type_list_append kF (pv 6) (ju (jy jbn (kI jby kL (jy j6 (jy kN (pv 0) jm) jm) (fun _ _=>rfl)) (yN PySem.F.plainAttrs_str PySem.F.slot_str_join PySem.F.type_str_join jfS kL (ju (Kr ["_law_each"] [2] rfl (qf (sc:=jl yn) (N:=["_law_cell","_law_many","_law_letters","_law_own","_law_size","_law_spot","_law_words_here","_law_k","_law_base"]) rfl rfl (by decide +kernel)) (Kq (pv 8)) (fun s H ex=>⟨(jS (i:=0) (show List.Nodup (["_law_each","_law_letters"]:List Str) by decide +kernel) rfl ol),yD,(kI jby (pv 1) (jy j6 (pv 0) jm) (fun _ _=>rfl))⟩)) jq))) jq)))))))
   (jfp (qs (km (pv 6))))))))))))),?_⟩
 refine ⟨sm rfl,fun lo hlo=>?_⟩
 have s1:=jj hlo (.lst [V.str "row",V.str "is",V.str "at",V.str "set",V.str "put",V.str "know",V.str "lose",V.str "start",V.str "entry",V.str "own",V.str "nought",V.str "pick",V.str "least",V.str "lost"])
 have e1:upd H lo (.lst [V.str "row",V.str "is",V.str "at",V.str "set",V.str "put",V.str "know",V.str "lose",V.str "start",V.str "entry",V.str "own",V.str "nought",V.str "pick",V.str "least",V.str "lost"]) lo=some (.lst (KS.map V.str)):=ja
 generalize upd H lo (.lst [V.str "row",V.str "is",V.str "at",V.str "set",V.str "put",V.str "know",V.str "lose",V.str "start",V.str "entry",V.str "own",V.str "nought",V.str "pick",V.str "least",V.str "lost"])=H1 at *
 have nonneg:∀ {x y:Int},0 < y→0≤x % y∧x % y < y:=fun h=>⟨Int.emod_nonneg _ (by omega),Int.emod_lt_of_pos _ h⟩
 have hlet:qJ.length≤sizeLine:=by show 26≤sizeLine;rw [sizeLine_eq];decide
 have hqz:qzS.length≤sizeLine:=by show 2≤sizeLine;rw [sizeLine_eq];decide
 refine ⟨_,rfl,_,_,rfl,rfl,(by show (0:Int) < _;decide),rfl,_,rfl,j7 (fun d=>?_) (fun d=>?_)⟩
 ·refine ⟨_,rfl,(n:Int),rfl,by omega,by omega,fun p hp=>?_⟩
  have s2:=jj hp (.lst [])
  refine qw (fun i σ' G'=>∃ (u:Option V),σ'=[u,some (.int c),some (.ref lo)]∧Same H1 G'∧G' p=some (.lst (((List.range i).map (jeb c)).map V.str))) ?_ ?_ ?_
  ·exact ⟨none,rfl,s2,ja⟩
  ·rintro i σ' G' hi ⟨u,rfl,sG',hGp⟩
   unfold qo yK
   refine zZ ?_
   have hb:=nonneg (x:=c / 7+(0+(i:Int))) (y:=14) (by decide)
   have hat:=jf8 (xs:=KS) (i:=(c / 7+(0+(i:Int))) % 14) hb.1 (by show _ < (14:Int);exact hb.2)
   refine ⟨_,rfl,_,rfl,_,_,rfl,rfl,⟨by decide,by decide⟩,_,rfl,_,_,rfl,rfl,_,_,rfl,rfl,(by show (0:Int) < _;decide),lo,_,_,_,rfl,rfl,SqL.of (sG' _ _ e1),hat,?_⟩
   have hi8:i < n:=by simpa using hi
   refine ⟨_,hGp,jz (by rw [List.length_map,List.length_map,List.length_range];omega),_,rfl,fun z o e=>?_,?_⟩
   ·rw [jg (jk e hp)];exact sG' _ _ e
   ·rw [ja,KH,List.map_append];rfl
  ·rintro σ' G' ⟨u,rfl,sG',hGp⟩
   rw [show ((n:Int)).toNat=n from rfl] at hGp
   exact q p _ G' (jgW hn) (s1.trans sG') (s1.free hp) hGp
 refine ⟨_,rfl,_,_,rfl,rfl,(by show (0:Int) < _;decide),?_⟩
 have hsz:=nonneg (x:=c) (y:=8) (by decide)
 dsimp only
 generalize c % 8=size at *
 refine ⟨_,rfl,rfl,_,rfl,j7 (fun d2=>?_) (fun d2=>?_)⟩
 ·refine ⟨_,rfl,(n:Int),rfl,by omega,by omega,fun p hp=>?_⟩
  have s2:=jj hp (.lst [])
  refine qw (fun i σ' G'=>∃ (u:Option V),σ'=[u,some (.int c),some (.str qJ)]∧Same H1 G'∧G' p=some (.lst (((List.range i).map (jgY c)).map V.str))) ?_ ?_ ?_
  ·exact ⟨none,rfl,s2,ja⟩
  ·rintro i σ' G' hi ⟨u,rfl,sG',hGp⟩
   unfold qo yK
   refine zZ ?_
   have hb:=nonneg (x:=c / 8+(0+(i:Int))) (y:=26) (by decide)
   have hch:=YO hb.1 hb.2
   refine ⟨_,rfl,_,rfl,_,_,rfl,rfl,⟨by decide,by decide⟩,_,rfl,_,_,rfl,rfl,_,_,rfl,rfl,(by show (0:Int) < _;decide),qJ,_,_,rfl,rfl,hlet,hch,?_⟩
   have hi8:i < n:=by simpa using hi
   refine ⟨_,hGp,jz (by rw [List.length_map,List.length_map,List.length_range];omega),_,rfl,fun z o e=>?_,?_⟩
   ·rw [jg (jk e hp)];exact sG' _ _ e
   ·rw [ja,KH,List.map_append];rfl
  ·rintro σ' G' ⟨u,rfl,sG',hGp⟩
   rw [show ((n:Int)).toNat=n from rfl] at hGp
   exact q p _ G' (jgX (by omega)) (s1.trans sG') (s1.free hp) hGp
 have d2':¬ size=0:=fun e=>d2 (decide_eq_true (congrArg V.int e))
 refine ⟨_,rfl,_,_,rfl,rfl,⟨by decide,by decide⟩,_,rfl,_,_,rfl,rfl,(by show (0:Int) < size;omega),?_⟩
 dsimp only
 have hsp:=nonneg (x:=c / 8) (y:=size) (by omega)
 generalize c / 8 % size=spot at *
 refine ⟨sm rfl,fun lw hlw=>?_⟩
 have s2:=jj hlw (.lst [])
 have e2:upd H1 lw (.lst []) lw=some (.lst []):=ja
 have hlw0:H lw=none:=s1.free hlw
 generalize upd H1 lw (.lst [])=H2 at *
 have s02:=s1.trans s2
 refine ⟨_,rfl,(n:Int),rfl,by omega,by omega,?_⟩
 refine JU (n:=n) (fun i σ G=>∃ (x7 x8:Option V),σ=[some (.int c),some (.int n),some (.str qJ),some (.ref lo),some (.int size),some (.int spot),some (.ref lw),x7,x8]∧Same H G∧G lw=some (.lst (((List.range i).map (lgW c size spot)).map V.str))) ?_ ?_ ?_
 ·exact ⟨none,none,rfl,s02,e2⟩
 ·rintro i σ G hi ⟨x7,x8,rfl,sG,hGw⟩
  refine ⟨_,rfl,size,rfl,by omega,by omega,fun p hp=>?_⟩
  have s3:=jj hp (.lst [])
  have npw:lw≠p:=jk hGw hp
  refine qw (fun j σ' G'=>∃ (u:Option V),σ'=[u,some (.int c),some (.int spot),some (.int (0+(i:Int)))]∧Same G G'∧G' p=some (.lst (((List.range j).map (bsW c spot i)).map V.int))) ?_ ?_ ?_
  ·exact ⟨none,rfl,s3,ja⟩
  ·rintro j σ' G' hj ⟨u,rfl,sG',hGp⟩
   have hj8:j < size.toNat:=by simpa using hj
   unfold qo yK
   refine zZ ?_
   refine ⟨_,rfl,_,_,rfl,rfl,⟨by decide,by decide⟩,_,rfl,_,_,rfl,rfl,.inl ⟨by decide,by decide⟩,_,rfl,_,_,rfl,rfl,.inr ⟨by omega,by omega⟩,_,_,rfl,rfl,_,rfl,_,rfl,_,rfl,rfl,.inr ⟨_,rfl,?_⟩⟩
   refine ⟨_,_,rfl,rfl,.inr ⟨by split <;> decide,by split <;> decide⟩,_,_,rfl,rfl,?_⟩
   refine ⟨_,hGp,jz (by rw [List.length_map,List.length_map,List.length_range];omega),_,rfl,fun z o e=>?_,?_⟩
   ·rw [jg (jk e hp)];exact sG' _ _ e
   ·rw [ja,KH,List.map_append];rfl
  rintro σ' G1 ⟨u,rfl,sG1,hG1p⟩
  have hb:=nonneg (x:=c / 144) (y:=2) (by decide)
  have hqc:=jhO hb.1 hb.2
  refine ⟨_,rfl,.inl ⟨rfl,_,SqL.of (sG1 _ _ hGw)⟩,?_⟩
  refine ⟨_,rfl,_,_,rfl,rfl,⟨by decide,by decide⟩,_,_,rfl,rfl,(by show (0:Int) < _;decide),qzS,_,_,rfl,rfl,hqz,hqc,?_⟩
  refine ⟨rfl,_,rfl,p,rfl,⟨_,SqL.of hG1p⟩,fun p2 hp2=>?_⟩
  have s4:=jj hp2 (.lst [])
  refine jdo (xs:=((List.range size.toNat).map (bsW c spot i)).map V.int) (fun j σ' G'=>∃ (u:Option V),σ'=[u,some (.str qJ)]∧Same G1 G'∧G' p2=some (.lst ((((List.range j).map fun j=>zY (bsW c spot i j % 26)).map fun ch=>(⟨#[ch]⟩:Str)).map V.str))) ?_ ?_ ?_ ?_
  ·exact ⟨none,rfl,s4,ja⟩
  ·rintro j σ' G' _ ⟨u,rfl,sG',_⟩
   exact SqL.of (sG' _ _ hG1p)
  ·rintro j x σ' G' hx ⟨u,rfl,sG',hGp⟩
   have hj:j < size.toNat:=by
    have:=(List.getElem?_eq_some_iff.mp hx).1
    rw [List.length_map,List.length_map,List.length_range] at this
    exact this
   rw [List.getElem?_map,List.getElem?_map,List.getElem?_range hj] at hx
   cases hx
   unfold qo yK
   refine zZ ?_
   have hb2:=nonneg (x:=bsW c spot i j) (y:=26) (by decide)
   have hch:=YO hb2.1 hb2.2
   refine ⟨_,rfl,_,rfl,_,_,rfl,rfl,(by show (0:Int) < _;decide),qJ,_,_,rfl,rfl,hlet,hch,?_⟩
   refine ⟨_,hGp,jz (by rw [List.length_map,List.length_map,List.length_map,List.length_range];omega),_,rfl,fun z o e=>?_,?_⟩
   ·rw [jg (jk e hp2)];exact sG' _ _ e
   ·rw [ja,KH,List.map_append,List.map_append];rfl
  rintro σ' G2 ⟨u,rfl,sG2,hG2p⟩
  rw [List.length_map,List.length_map,List.length_range] at hG2p
  have hz1:∀ y∈((List.range size.toNat).map fun j=>zY (bsW c spot i j % 26)).map fun ch=>(⟨#[ch]⟩:Str),y.length=1:=fun y hy=>by
   obtain ⟨ch,_,rfl⟩:=List.mem_map.mp hy
   rfl
  have hsl:((((List.range size.toNat).map fun j=>zY (bsW c spot i j % 26)).map fun ch=>(⟨#[ch]⟩:Str)).map (·.length)).sum=size.toNat:=by
   rw [List.map_map]
   rw [show ((fun x:Str=>x.length) ∘ fun ch=>(⟨#[ch]⟩:Str))=fun _=>1 from rfl]
   generalize hL:(List.range size.toNat).map (fun j=>zY (bsW c spot i j % 26))=L
   have hl:L.length=size.toNat:=by rw [← hL];simp
   rw [← hl]
   clear hL hl hG2p
   induction L with
   | nil=>rfl
   | cons y r ih=>rw [List.map_cons,List.sum_cons,ih,List.length_cons];omega
  refine ⟨"",p2,_,rfl,rfl,SqL.of hG2p,(by rw [hsl];show size.toNat+_ * 0≤_;omega),?_⟩
  have hjl:(Txt.join "" (((List.range size.toNat).map fun j=>zY (bsW c spot i j % 26)).map fun ch=>(⟨#[ch]⟩:Str))).length≤7:=by
   show (Txt.join "" _).cps.size≤7
   rw [← Array.length_toList,jaF]
   simp
   omega
  refine ⟨_,_,rfl,rfl,?_,?_⟩
  ·have:∀ qc,(⟨#[qc]⟩:Str).length=1:=fun _=>rfl
   rw [this]
   exact Nat.le_trans (by omega:1+(Txt.join "" _).length≤1000) (zG (Nat.le_refl _))
  have hGw2:=sG2 _ _ (sG1 _ _ hGw)
  refine ⟨lw,_,_,rfl,rfl,hGw2,jz (by rw [List.length_map,List.length_map,List.length_range];omega),?_⟩
  refine ⟨some (.int (0+(i:Int))),some (.ref p),rfl,fun z o e=>?_,?_⟩
  ·rw [jg (jk e hlw0)];exact sG2 _ _ (sG1 _ _ (sG _ _ e))
  ·rw [ja,KH,List.map_append];rfl
 ·rintro σ G ⟨x7,x8,rfl,sG,hGw⟩
  exact ⟨_,rfl,q lw _ G (jhZ (by omega) hsp.1 hsp.2 (by omega)) sG hlw0 hGw⟩
theorem jg0 {f:Addr} {fd:FuncData} (F:Fun K "_law_mix" "_law_mix" jfh f fd):FnOk P w K mg base CX0 1 f fd ["_law_seed","_law_k"] jgk:=by
 have sc:FnScope ["_law_seed","_law_k"] ["_law_seed","_law_k"] (jl jfh):=fs
 refine F.ok sc (fun vs H Q E h=>?_) (fun cdv A outer s H vs Q E hr h=>?_)
 ·obtain ⟨s,k,rfl,_⟩:=h
  rfl
 obtain ⟨s,k,rfl,q⟩:=h
 refine ⟨_,(jB (km (jy j6 (jy jH (jy jH (jy qk (pv 0) jm) (jy qk (pv 1) jm)) jm) jm))),?_⟩
 exact ⟨_,rfl,_,_,rfl,rfl,.inr ⟨by decide,by decide⟩,_,rfl,_,_,rfl,rfl,.inr ⟨by decide,by decide⟩,_,_,rfl,rfl,_,_,rfl,rfl,_,_,rfl,rfl,(by show (0:Int) < _;decide),q _⟩
theorem jfL {f:Addr} {fd:FuncData} (F:Fun K "_law_made" "_law_made" jb1 f fd) (B:Free0 mg) (F_mix:Fn P w K mg base 1 "_law_mix" ["_law_seed","_law_k"] jgk):FnOk P w K mg base CX0 2 f fd ["_law_seed","_law_near"] jdL:=by
 have sc:FnScope ["_law_seed","_law_near","_law_steps","_law_last","_law_base","_law_place","_law_k","_law_value"] ["_law_seed","_law_near"] (jl jb1):=fs
 refine F.ok sc (fun vs H Q E h=>?_) (fun cdv A outer s H vs Q E hr h=>?_)
 ·obtain ⟨s,n,rfl,_⟩:=h
  rfl
 obtain ⟨sd,nr,rfl,q⟩:=h
 refine ⟨_,(jo (jW (i:=2) sc.nd rfl ol (zt jq))
   (jo (jW (i:=3) sc.nd rfl ol (jy qY (jy j6 (jy qk (pv 1) jm) (jy JK jm jm)) (jy qk jm (jy JK jm jm))))
   (jo (jW (i:=4) sc.nd rfl ol (pv 3))
   (jo (jW (i:=5) sc.nd rfl ol (jy qY (kI kg (zt (ju (pv 1) (ju (jy qY (pv 1) (jy JK jm jm)) jq))) (jy j6 (jy kN (pv 0) jm) jm) (fun _ _=>rfl)) (jy j6 (jy kN (pv 0) jm) jm)))
   (jo (zV PassesOwn.never rfl (zf (by rfl) B.range_ (ju (jy j6 (pv 0) jm) jq)) (jS (i:=6) sc.nd rfl ol) (jo (jW (i:=0) sc.nd rfl ol (kP F_mix hr (ju (pv 0) (ju (pv 6) jq))))
   (jo (jW (i:=7) sc.nd rfl ol (kI kg (zt (ju (jy jH (jy jH (pv 3) jm) (jy j6 (pv 0) jm)) (ju (jy qY (jy qY (pv 3) jm) (jy j6 (pv 0) jm)) jq))) (jy j6 (jy kN (pv 0) jm) jm) (fun _ _=>rfl)))
   (jo (kR (yN PySem.F.plainAttrs_list PySem.F.slot_list_append PySem.F.type_list_append kF (pv 2) (ju (kD (ju (pv 5) (ju (pv 7) jq))) jq)))
   (jo (jW (i:=3) sc.nd rfl ol (pv 7))
   (jB (jW (i:=5) sc.nd rfl ol (jy jH (jy jH (jy jH (pv 5) jm) (jy j6 (jy kN (pv 0) jm) jm)) (jy qk (jy JK jm jm) (Jn JY (by rfl) B.int_ ZS (ju (Ks kX (jy j6 (jy kN (pv 0) jm) jm) jm (jJ _)) jq)))))))))))
   (jB (km (kD (ju (pv 4) (ju (Jn kC (by rfl) B.tuple_ qL (ju (pv 2) jq)) (ju (kD jq) jq))))))))))),?_⟩
 refine ⟨sm rfl,fun l hl=>?_⟩
 have s1:=jj hl (.lst [])
 have e1:upd H l (.lst []) l=some (.lst []):=ja
 generalize upd H l (.lst [])=H1 at *
 refine ⟨_,rfl,_,_,rfl,rfl,.inr ⟨by decide,by decide⟩,_,_,rfl,rfl,⟨by decide,by decide,by decide⟩,_,_,rfl,rfl,(by show (0:Int) < _;decide),_,_,rfl,rfl,⟨by decide,by decide,by decide⟩,_,_,rfl,rfl,.inl ⟨by decide,by decide⟩,_,_,rfl,rfl,?_⟩
 dsimp only
 generalize nr * 1000003 % 10 ^ Int.toNat 17 - 5 * 10 ^ Int.toNat 16=b0 at *
 refine ⟨_,rfl,?_⟩
 refine ⟨_,rfl,_,rfl,_,_,rfl,rfl,⟨by decide,by decide,by decide⟩,_,_,rfl,rfl,sm rfl,fun l2 hl2=>?_⟩
 dsimp only
 have s2:=jj hl2 (.lst [V.int nr,V.int (nr - 10 ^ Int.toNat 17)])
 have e2:upd H1 l2 (.lst [V.int nr,V.int (nr - 10 ^ Int.toNat 17)]) l2=some (.lst [V.int nr,V.int (nr - 10 ^ Int.toNat 17)]):=ja
 generalize upd H1 l2 (.lst [V.int nr,V.int (nr - 10 ^ Int.toNat 17)])=H2 at *
 obtain ⟨p0,hp0⟩:=Z5 nr (nr - 10 ^ Int.toNat 17) (i:=sd / 3 % 2) (Int.emod_nonneg _ (by decide)) (Int.emod_lt_of_pos _ (by decide))
 refine ⟨_,rfl,_,_,rfl,rfl,⟨by decide,by decide⟩,_,_,rfl,rfl,(by show (0:Int) < _;decide),l2,_,_,_,rfl,rfl,SqL.of e2,hp0,_,rfl,_,_,rfl,rfl,⟨by decide,by decide⟩,_,_,rfl,rfl,(by show (0:Int) < _;decide),_,_,rfl,rfl,?_⟩
 dsimp only
 generalize p0 - sd / 6 % 4=pl0 at *
 refine ⟨_,rfl,_,_,rfl,rfl,(by show (0:Int) < _;decide),?_⟩
 obtain ⟨cnt,hcnt⟩:∃ cnt,cnt=sd % 4:=⟨_,rfl⟩
 have c0:0≤cnt:=by rw [hcnt];exact Int.emod_nonneg _ (by decide)
 have c1:cnt≤3:=by
  have:=Int.emod_lt_of_pos sd (b:=4) (by decide)
  omega
 have e1':H2 l=some (.lst []):=s2 _ _ e1
 have sH3:=s1.trans s2
 refine ⟨cnt,by rw [hcnt],by omega,by omega,?_⟩
 refine JU (n:=cnt.toNat) (fun i σ G=>∃ (u6 u7:Option V) (sd' last pl:Int) (ps:List (Int×Int)) (xs:List V),σ=[some (.int sd'),some (.int nr),some (.ref l),some (.int last),some (.int b0),some (.int pl),u6,u7]∧Same H G∧G l=some (.lst xs)∧HeldL G (ps.map pD) xs∧ku ps∧(∀ z∈ps,z.1 < pl)∧ps.length=i) ?_ ?_ ?_
 ·exact ⟨none,none,sd,b0,pl0,[],[],rfl,sH3,e1',jt,List.Pairwise.nil,fun z hz=>(by cases hz),rfl⟩
 ·rintro i σ G hi ⟨u6,u7,sd',last,pl,ps,xs,rfl,sG,hGl,hxs,hup,hlt,hpl⟩
  refine ⟨_,rfl,_,rfl,sd',_,rfl,fun sd2=>?_⟩
  refine ⟨_,rfl,_,_,rfl,rfl,_,rfl,_,_,rfl,rfl,(by show (0:Int) < _;decide),_,_,rfl,rfl,_,rfl,_,_,rfl,rfl,_,rfl,_,_,rfl,rfl,(by show (0:Int) < _;decide),_,_,rfl,rfl,sm rfl,fun l4 hl4=>?_⟩
  have s4:=jj hl4 (.lst [V.int (last+1+sd2 % 3),V.int (last - 1 - sd2 % 3)])
  have e4:upd G l4 (.lst [V.int (last+1+sd2 % 3),V.int (last - 1 - sd2 % 3)]) l4=some (.lst [V.int (last+1+sd2 % 3),V.int (last - 1 - sd2 % 3)]):=ja
  obtain ⟨val,hval⟩:=Z5 (last+1+sd2 % 3) (last - 1 - sd2 % 3) (i:=sd2 / 3 % 2) (Int.emod_nonneg _ (by decide)) (Int.emod_lt_of_pos _ (by decide))
  refine ⟨_,rfl,_,_,rfl,rfl,⟨by decide,by decide⟩,_,_,rfl,rfl,(by show (0:Int) < _;decide),l4,_,_,_,rfl,rfl,SqL.of e4,hval,?_⟩
  have hGl4:=s4 _ _ hGl
  have hxs4:=hxs.mono s4
  have sG4:=sG.trans s4
  refine ⟨_,rfl,.inl ⟨rfl,_,SqL.of hGl4⟩,_,rfl,_,rfl,sm rfl,fun t ht=>?_⟩
  have s5:=jj ht (.tup [V.int pl,V.int val])
  have e5:upd (upd G l4 (.lst [V.int (last+1+sd2 % 3),V.int (last - 1 - sd2 % 3)])) t (.tup [V.int pl,V.int val]) t=some (.tup [V.int pl,V.int val]):=ja
  have hGl5:=s5 _ _ hGl4
  have hxs5:=hxs4.mono s5
  have sG5:=sG4.trans s5
  have hxl:=hxs.length
  rw [List.length_map] at hxl
  refine ⟨l,_,_,rfl,rfl,hGl5,jz (by omega),?_⟩
  have e6:upd (upd (upd G l4 (.lst [V.int (last+1+sd2 % 3),V.int (last - 1 - sd2 % 3)])) t (.tup [V.int pl,V.int val])) l (.lst (xs++[.ref t])) l=some (.lst (xs++[.ref t])):=ja
  have tk:TK (upd (upd G l4 (.lst [V.int (last+1+sd2 % 3),V.int (last - 1 - sd2 % 3)])) t (.tup [V.int pl,V.int val])) (upd (upd (upd G l4 (.lst [V.int (last+1+sd2 % 3),V.int (last - 1 - sd2 % 3)])) t (.tup [V.int pl,V.int val])) l (.lst (xs++[.ref t]))):=TK.upd hGl5 (by intro xs z;cases z)
  have hx6:=yc (tk.heldL hxs5) (tk.held (jL e5 (jf jM (jf jM jt))))
  have s6:Same H (upd (upd (upd G l4 (.lst [V.int (last+1+sd2 % 3),V.int (last - 1 - sd2 % 3)])) t (.tup [V.int pl,V.int val])) l (.lst (xs++[.ref t]))):=fun c o e=>by rw [jg (jk e hl)];exact sG5 _ _ e
  refine ⟨_,rfl,?_⟩
  have done:∀ (y:Int) (u7:Option V),0≤y→∃ (u6 u7':Option V) (sd'' last' pl':Int) (ps':List (Int×Int)) (xs':List V),[some (.int sd2),some (.int nr),some (.ref l),some (.int val),some (.int b0),some (.int (pl+1+sd2 / 6 % 3+10 ^ Int.toNat 17 * y)),u7,some (.int val)]=[some (.int sd''),some (.int nr),some (.ref l),some (.int last'),some (.int b0),some (.int pl'),u6,u7']∧Same H (upd (upd (upd G l4 (.lst [V.int (last+1+sd2 % 3),V.int (last - 1 - sd2 % 3)])) t (.tup [V.int pl,V.int val])) l (.lst (xs++[.ref t])))∧(upd (upd (upd G l4 (.lst [V.int (last+1+sd2 % 3),V.int (last - 1 - sd2 % 3)])) t (.tup [V.int pl,V.int val])) l (.lst (xs++[.ref t]))) l=some (.lst xs')∧HeldL (upd (upd (upd G l4 (.lst [V.int (last+1+sd2 % 3),V.int (last - 1 - sd2 % 3)])) t (.tup [V.int pl,V.int val])) l (.lst (xs++[.ref t]))) (ps'.map pD) xs'∧ku ps'∧(∀ z∈ps',z.1 < pl')∧ps'.length=i+1:=by
   intro y u7 hy
   have m0:=Int.emod_nonneg (sd2 / 6) (b:=3) (by decide)
   have hb:pl < pl+1+sd2 / 6 % 3+10 ^ Int.toNat 17 * y:=by
    have:(10:Int) ^ Int.toNat 17=100000000000000000:=by decide
    rw [this]
    omega
   refine ⟨u7,some (.int val),sd2,val,_,ps++[(pl,val)],xs++[.ref t],rfl,s6,e6,by rw [List.map_append];exact hx6,List.pairwise_append.mpr ⟨hup,List.pairwise_singleton _ _,fun x hx y hy=>by rw [List.mem_singleton.mp hy];exact hlt x hx⟩,fun z hz=>?_,by rw [List.length_append,hpl];rfl⟩
   rcases List.mem_append.mp hz with hz | hz
   ·exact Int.lt_trans (hlt z hz) hb
   ·rw [List.mem_singleton.mp hz];exact hb
  refine ⟨_,rfl,_,_,rfl,rfl,_,rfl,_,_,rfl,rfl,⟨by decide,by decide⟩,_,_,rfl,rfl,(by show (0:Int) < _;decide),_,_,rfl,rfl,_,_,rfl,rfl,⟨by decide,by decide,by decide⟩,_,rfl,_,_,rfl,rfl,⟨by decide,by decide⟩,_,_,rfl,rfl,(by show (0:Int) < _;decide),rfl,.inr ⟨_,rfl,?_⟩⟩
  refine ⟨_,_,rfl,rfl,.inr ⟨by split <;> decide,by split <;> decide⟩,_,_,rfl,rfl,?_⟩
  exact done _ _ (by split <;> decide)
 ·rintro σ G ⟨u6,u7,sd',last,pl,ps,xs,rfl,sG,hGl,hxs,hup,hlt,hpl⟩
  refine ⟨_,rfl,_,rfl,l,_,rfl,.inl ⟨SqL.of hGl,fun t ht=>?_⟩⟩
  have s3:=jj ht (.tup xs)
  have e3:upd G t (.tup xs) t=some (.tup xs):=ja
  generalize upd G t (.tup xs)=G1 at *
  refine ⟨sm rfl,fun z hz=>?_⟩
  have s4:=jj hz (.tup [])
  have e4:upd G1 z (.tup []) z=some (.tup []):=ja
  generalize upd G1 z (.tup [])=G2 at *
  refine ⟨sm rfl,fun r hr'=>?_⟩
  have s5:=jj hr' (.tup [V.int b0,V.ref t,V.ref z])
  have s45:=s4.trans s5
  refine q _ b0 ps _ (sG.trans (s3.trans s45)) hup (by omega) (jL ja (jf jM (jf (jL (s45 _ _ e3) (hxs.mono (s3.trans s45))) (jf (jL (s5 _ _ e4) jt) jt))))
theorem jcW {f:Addr} {fd:FuncData} (F:Fun K "_law_holds" "_law_holds" Zk f fd):FnOk P w K mg base CX0 1 f fd ["_law_row","_law_place"] (jaa K):=by
 have sc:FnScope ["_law_row","_law_place","_law_value","_law_at","_law_number"] ["_law_row","_law_place"] (jl Zk):=fs
 refine F.ok sc (fun vs H Q E h=>?_) (fun cdv A outer s H vs Q E hr h=>?_)
 ·obtain ⟨v,p,q,rfl,_⟩:=h
  rfl
 obtain ⟨v,p,⟨b,ps,ws⟩,rfl,hv,q⟩:=h
 obtain ⟨a,c,e,qs,us,rfl,ha,hc,hqs,he,hus⟩:=K0 hv
 dsimp only at ha hqs hus
 have hq:=zi (K:=K) hqs
 have hw:=zi (K:=K) hus
 refine ⟨_,(jo (jW (i:=2) sc.nd rfl ol (kI jP (pv 0) jm (fun _ _=>rfl)))
   (jo (zV PassesOwn.never rfl (KN (kI jP (pv 0) jm (fun _ _=>rfl))) (qO rfl (jU (jS (i:=3) sc.nd rfl ol) (jU (jS (i:=4) sc.nd rfl ol) qp))) (jB (qV (kE jb6 (pv 3) (pv 1) (jJ _)) (jB (jW (i:=2) sc.nd rfl ol (pv 4))) qe)))
   (jo (zV PassesOwn.never rfl (KN (kI jP (pv 0) jm (fun _ _=>rfl))) (qO rfl (jU (jS (i:=3) sc.nd rfl ol) (jU (jS (i:=4) sc.nd rfl ol) qp))) (jB (qV (kE kX (pv 3) (pv 1) (jJ _)) (jB (jW (i:=2) sc.nd rfl ol (pv 4))) qe)))
   (jB (km (pv 2)))))),?_⟩
 refine ⟨_,rfl,a,_,_,_,rfl,rfl,SqT.of ha,rfl,?_⟩
 refine ⟨_,rfl,a,_,_,_,rfl,rfl,SqT.of ha,rfl,c,rfl,⟨_,SqT.of hc⟩,?_⟩
 refine ZL (xs:=qs) (fun i σ G=>∃ u v,σ=[some (.ref a),some (.int p),some (.int (jN b (ps.take i) p)),u,v]∧H=G) ?_ ?_ ?_ ?_
 ·exact ⟨none,none,rfl,rfl⟩
 ·rintro i σ G _ ⟨u,v,rfl,rfl⟩
  exact SqT.of hc
 ·rintro i x σ G hx ⟨u,v,rfl,rfl⟩
  have hi:i < ps.length:=by
   rw [← hq.1]
   exact (List.getElem?_eq_some_iff.mp hx).1
  obtain ⟨c',e1,e2⟩:=hq.2 i hi
  rw [hx] at e1
  cases e1
  have es:jN b (ps.take (i+1)) p=if ps[i].1≤p then ps[i].2 else jN b (ps.take i) p:=by
   rw [List.take_succ,List.getElem?_eq_getElem hi]
   exact yb _ _ _ _
  refine ⟨c',_,rfl,e2,rfl,_,_,rfl,_,_,rfl,rfl,?_⟩
  refine ⟨_,rfl,_,rfl,_,_,rfl,rfl,_,rfl,j7 (fun d=>?_) (fun d=>?_)⟩
  ·have d':=of_decide_eq_true d
   rw [if_pos d'] at es
   exact ⟨_,rfl,some (.int ps[i].1),some (.int ps[i].2),by rw [es];rfl,rfl⟩
  ·have d':¬ ps[i].1≤p:=fun z=>d (decide_eq_true z)
   rw [if_neg d'] at es
   exact ⟨some (.int ps[i].1),some (.int ps[i].2),by rw [es];rfl,rfl⟩
 rintro σ G ⟨u,v,rfl,rfl⟩
 rw [hq.1,List.take_length]
 refine ⟨_,rfl,a,_,_,_,rfl,rfl,SqT.of ha,rfl,e,rfl,⟨_,SqT.of he⟩,?_⟩
 refine ZL (xs:=us) (fun i σ G=>∃ u v,σ=[some (.ref a),some (.int p),some (.int (kr (b,ps,ws.take i) p)),u,v]∧H=G) ?_ ?_ ?_ ?_
 ·exact ⟨u,v,rfl,rfl⟩
 ·rintro i σ G _ ⟨u,v,rfl,rfl⟩
  exact SqT.of he
 ·rintro i x σ G hx ⟨u,v,rfl,rfl⟩
  have hi:i < ws.length:=by
   rw [← hw.1]
   exact (List.getElem?_eq_some_iff.mp hx).1
  obtain ⟨c',e1,e2⟩:=hw.2 i hi
  rw [hx] at e1
  cases e1
  have es:=jbA (b:=b) (ps:=ps) (p:=p) hi
  refine ⟨c',_,rfl,e2,rfl,_,_,rfl,_,_,rfl,rfl,?_⟩
  refine ⟨_,rfl,_,rfl,rfl,_,rfl,j7 (fun d=>?_) (fun d=>?_)⟩
  ·have d':ws[i].1=p:=by
    have:=of_decide_eq_true d
    injection this
   rw [if_pos d'] at es
   exact ⟨_,rfl,some (.int ws[i].1),some (.int ws[i].2),by rw [es];rfl,rfl⟩
  ·have d':¬ ws[i].1=p:=fun z=>d (decide_eq_true (congrArg V.int z))
   rw [if_neg d'] at es
   exact ⟨some (.int ws[i].1),some (.int ws[i].2),by rw [es];rfl,rfl⟩
 ·rintro σ G ⟨u,v,rfl,rfl⟩
  rw [hw.1,List.take_length]
  exact ⟨_,rfl,q⟩
theorem jbq {f:Addr} {fd:FuncData} (F:Fun K "_law_stairs" "_law_stairs" yo f fd) (B:Free0 mg) (F_holds:Fn P w K mg base 1 "_law_holds" ["_law_row","_law_place"] (jaa K)):FnOk P w K mg base CX0 2 f fd ["_law_row"] (YG K):=by
 have sc:FnScope ["_law_row","_law_places","_law_at","_law_number","_law_last","_law_steps","_law_place","_law_value"] ["_law_row"] (jl yo):=fs
 refine F.ok sc (fun vs H Q E h=>?_) (fun cdv A outer s H vs Q E hr h=>?_)
 ·obtain ⟨v,q,rfl,_⟩:=h
  rfl
 obtain ⟨v,⟨b,ps,ws⟩,rfl,hv,hup,hl,hwl,q⟩:=h
 dsimp only at hup hl hwl q
 have hv0:=hv
 obtain ⟨a,c,e,qs,us,rfl,ha,hc,hqs,he,hus⟩:=K0 hv
 dsimp only at ha hqs hus
 have hq:=zi (K:=K) hqs
 have hw:=zi (K:=K) hus
 have hlen:=hq.1
 refine ⟨_,(jo (yT (i:=1) sc.nd rfl ol ["_law_at","_law_number"] [] rfl (qf (sc:=jl yo) (N:=["_law_row","_law_places","_law_at","_law_number","_law_last","_law_steps","_law_place","_law_value"]) rfl rfl (by decide +kernel)) (KN (kI jP (pv 0) jm (fun _ _=>rfl))) (fun s H ex=>⟨(jfv (K:=K) (n:=2) rfl (jU (jS (i:=0) (show List.Nodup (["_law_at","_law_number"]:List Str) by decide +kernel) rfl ol) (jU (jS (i:=1) (show List.Nodup (["_law_at","_law_number"]:List Str) by decide +kernel) rfl ol) qp))),yD,(pv 0)⟩))
   (jo (zV PassesOwn.never rfl (KN (kI jP (pv 0) jm (fun _ _=>rfl))) (qO rfl (jU (jS (i:=2) sc.nd rfl ol) (jU (jS (i:=3) sc.nd rfl ol) qp))) (jB (kR (yN PySem.F.plainAttrs_list PySem.F.slot_list_extend PySem.F.type_list_extend jc1 (pv 1) (ju (zt (ju (pv 2) (ju (jy jH (pv 2) jm) jq))) jq)))))
   (jo (jW (i:=4) sc.nd rfl ol (kI jP (pv 0) jm (fun _ _=>rfl)))
   (jo (jW (i:=5) sc.nd rfl ol (zt jq))
   (jo (zV PassesOwn.never rfl (Kq (Jo (JX (P:=P) (w:=w) rfl) (by rfl) B.sorted_ Y2 (ju (Jn (Yh (P:=P) (w:=w) rfl) (by rfl) B.set_ jhk (ju (pv 1) jq)) jq))) (jS (i:=6) sc.nd rfl ol) (jo (jW (i:=7) sc.nd rfl ol (kP F_holds hr (ju (pv 0) (ju (pv 6) jq))))
   (jB (qV (kE jed (pv 7) (pv 4) (jJ _)) (jo (kR (yN PySem.F.plainAttrs_list PySem.F.slot_list_append PySem.F.type_list_append kF (pv 5) (ju (kD (ju (pv 6) (ju (pv 7) jq))) jq)))
   (jB (jW (i:=4) sc.nd rfl ol (pv 7)))) qe))))
   (jB (km (kD (ju (kI jP (pv 0) jm (fun _ _=>rfl)) (ju (Jn kC (by rfl) B.tuple_ qL (ju (pv 5) jq)) jq)))))))))),?_⟩
 refine ⟨_,rfl,a,_,_,_,rfl,rfl,SqT.of ha,rfl,c,rfl,⟨_,SqT.of hc⟩,fun p hp=>?_⟩
 have s2:=jj hp (.lst [])
 refine Js (xs:=qs) (fun i σ' G'=>∃ u3 u4,σ'=[u3,u4]∧Same H G'∧G' p=some (.lst ((ps.take i).map fun q=>V.int q.1))) ⟨none,none,rfl,s2,ja⟩ ?_ ?_ ?_
 ·rintro i σ' G' _ ⟨u3,u4,rfl,sG',_⟩
  exact SqT.of (sG' _ _ hc)
 ·rintro i x σ' G' hx ⟨u3,u4,rfl,sG',hGp⟩
  have hi:i < ps.length:=by
   rw [← hlen]
   exact (List.getElem?_eq_some_iff.mp hx).1
  obtain ⟨c',f1,f2⟩:=hq.2 i hi
  rw [hx] at f1
  cases f1
  refine ⟨c',_,rfl,sG'.sqT f2,rfl,_,_,rfl,_,_,rfl,rfl,?_⟩
  unfold yK
  refine zZ ?_
  refine ⟨_,rfl,_,hGp,?_,_,_,rfl,?_,?_⟩
  ·rw [List.length_map,List.length_take]
   exact jz (by omega)
  ·intro z o e
   rw [jg (jk e hp)]
   exact sG' _ _ e
  ·rw [ja,List.take_succ,List.getElem?_eq_getElem hi,List.map_append]
   rfl
 rintro σ' H1 ⟨u3,u4,rfl,s1,hGp⟩
 rw [hlen,List.take_length] at hGp
 have e1:H1 p=some (.lst ((qM ps (ws.take 0)).map V.int)):=by
  rw [hGp]
  unfold qM
  rw [List.take_zero,List.flatMap_nil,List.append_nil,List.map_map]
  rfl
 clear hGp s2
 refine ⟨_,rfl,a,_,_,_,rfl,rfl,SqT.of (s1 _ _ ha),rfl,e,rfl,⟨_,SqT.of (s1 _ _ he)⟩,?_⟩
 refine ZL (xs:=us) (fun i σ G=>∃ x2 x3,σ=[some (.ref a),some (.ref p),x2,x3,none,none,none,none]∧Same H G∧G p=some (.lst ((qM ps (ws.take i)).map V.int))) ?_ ?_ ?_ ?_
 ·exact ⟨none,none,rfl,s1,e1⟩
 ·rintro i σ G _ ⟨x2,x3,rfl,sG,_⟩
  exact SqT.of (sG _ _ he)
 ·rintro i x σ G hx ⟨x2,x3,rfl,sG,hGp⟩
  have hi:i < ws.length:=by
   rw [← hw.1]
   exact (List.getElem?_eq_some_iff.mp hx).1
  obtain ⟨c',f1,f2⟩:=hw.2 i hi
  rw [hx] at f1
  cases f1
  refine ⟨c',_,rfl,sG.sqT f2,rfl,_,_,rfl,_,_,rfl,rfl,?_⟩
  refine ⟨_,rfl,.inl ⟨rfl,_,SqL.of hGp⟩,_,rfl,_,rfl,_,_,rfl,rfl,sm rfl,fun l1 hl1=>?_⟩
  dsimp only
  have t1:=jj hl1 (.lst [V.int ws[i].1,V.int (ws[i].1+1)])
  have f1:upd G l1 (.lst [V.int ws[i].1,V.int (ws[i].1+1)]) l1=some (.lst [V.int ws[i].1,V.int (ws[i].1+1)]):=ja
  generalize upd G l1 (.lst [V.int ws[i].1,V.int (ws[i].1+1)])=G1 at *
  refine ⟨p,l1,_,_,rfl,rfl,t1 _ _ hGp,f1,zG (by rw [List.length_map,K9,List.length_take];simp only [List.length_cons,List.length_nil];omega),?_⟩
  refine ⟨_,_,rfl,fun z o e=>?_,?_⟩
  ·rw [jg (jk e hp)]
   exact t1 _ _ (sG _ _ e)
  ·rw [ja,jdf hi,List.map_append]
   rfl
 rintro σ H3 ⟨x2,x3,rfl,s3,e3⟩
 rw [hw.1,List.take_length] at e3
 refine ⟨_,rfl,a,_,_,_,rfl,rfl,SqT.of (s3 _ _ ha),rfl,?_⟩
 refine ⟨sm rfl,fun ls hls=>?_⟩
 have t4:=jj hls (.lst [])
 have e4:upd H3 ls (.lst []) ls=some (.lst []):=ja
 generalize upd H3 ls (.lst [])=H4 at *
 have s4:=s3.trans t4
 have hel0:(qM ps ws).length < 64:=by rw [K9];omega
 have hel:(qM ps ws).length≤1000:=by omega
 refine ⟨_,rfl,p,_,rfl,SqL.of (t4 _ _ e3),hel,fun v hvs=>?_⟩
 obtain ⟨d1,d2,d3⟩:=Yf (qM ps ws)
 refine ⟨v,_,rfl,ja,by omega,fun l5 ms hl5 hperm hsort=>?_⟩
 have t5:=(jj hvs (jcG P w v (dedup (qM ps ws)))).trans (jj hl5 (.lst (ms.map V.int)))
 have e5:upd (upd H4 v (jcG P w v (dedup (qM ps ws)))) l5 (.lst (ms.map V.int)) l5=some (.lst (ms.map V.int)):=ja
 have n5:l5≠ls:=(jk ((jj hvs (jcG P w v (dedup (qM ps ws)))) _ _ e4) hl5).symm
 generalize upd (upd H4 v (jcG P w v (dedup (qM ps ws)))) l5 (.lst (ms.map V.int))=H5 at *
 have s5:=s4.trans t5
 have e45:=t5 _ _ e4
 have E:=jf2 hperm hsort
 have hml:ms.length≤ps.length+2 * ws.length:=by rw [hperm.length_eq];rw [K9] at d2;exact d2
 have hls0:H ls=none:=s3.free hls
 refine ⟨l5,rfl,⟨_,SqL.of e5⟩,?_⟩
 refine K7 (xs:=ms.map V.int) (fun i σ G=>∃ x6 x7 xs,σ=[some (.ref a),some (.ref p),x2,x3,some (.int (stN b ((ms.take i).map fun x=>(x,kr (b,ps,ws) x))).1),some (.ref ls),x6,x7]∧Same H G∧G l5=some (.lst (ms.map V.int))∧G ls=some (.lst xs)∧HeldL G ((stN b ((ms.take i).map fun x=>(x,kr (b,ps,ws) x))).2.map pD) xs) ?_ ?_ ?_ ?_
 ·exact ⟨none,none,[],rfl,s5,e5,e45,jt⟩
 ·rintro i σ G _ ⟨x6,x7,xs,rfl,sG,hG5,hGs,hx⟩
  exact SqL.of hG5
 ·rintro i x σ G hx ⟨x6,x7,xs,rfl,sG,hG5,hGs,hxs⟩
  have hi:i < ms.length:=by
   have:=(List.getElem?_eq_some_iff.mp hx).1
   rw [List.length_map] at this
   exact this
  rw [List.getElem?_map,List.getElem?_eq_getElem hi] at hx
  cases hx
  have est:stN b ((ms.take (i+1)).map fun x=>(x,kr (b,ps,ws) x))=if kr (b,ps,ws) ms[i]=(stN b ((ms.take i).map fun x=>(x,kr (b,ps,ws) x))).1 then stN b ((ms.take i).map fun x=>(x,kr (b,ps,ws) x)) else (kr (b,ps,ws) ms[i],(stN b ((ms.take i).map fun x=>(x,kr (b,ps,ws) x))).2++[(ms[i],kr (b,ps,ws) ms[i])]):=by
   rw [List.take_succ,List.getElem?_eq_getElem hi,List.map_append]
   exact zj _ _ _
  have hsl:(stN b ((ms.take i).map fun x=>(x,kr (b,ps,ws) x))).2.length≤i:=by
   have:=Kj b ((ms.take i).map fun x=>(x,kr (b,ps,ws) x))
   rw [List.length_map,List.length_take] at this
   omega
  rw [est]
  generalize stN b ((ms.take i).map fun x=>(x,kr (b,ps,ws) x))=ST at *
  obtain ⟨ah,st⟩:=ST
  dsimp only at hsl hxs est
  unfold qo
  refine ⟨_,rfl,_,rfl,.ref a,ms[i],(b,ps,ws),rfl,hv0.mono sG,?_⟩
  generalize kr (b,ps,ws) ms[i]=hp' at *
  generalize ms[i]=mi at *
  refine ⟨_,rfl,_,rfl,rfl,_,rfl,?_⟩
  by_cases hva:hp'=ah
  ·rw [hva,decide_eq_true rfl]
   refine K4 ?_
   refine ⟨some (.int mi),some (.int ah),xs,?_,sG,hG5,hGs,?_⟩
   ·rw [if_pos rfl];rfl
   ·rw [if_pos rfl];exact hxs
  ·rw [decide_eq_false (fun z=>hva (by injection z))]
   refine zZ ?_
   refine ⟨_,rfl,.inl ⟨rfl,_,SqL.of hGs⟩,_,rfl,_,rfl,sm rfl,fun t ht=>?_⟩
   have u3:=jj ht (.tup [V.int mi,V.int hp'])
   have g3:upd G t (.tup [V.int mi,V.int hp']) t=some (.tup [V.int mi,V.int hp']):=ja
   generalize upd G t (.tup [V.int mi,V.int hp'])=G1 at *
   have hxl:=hxs.length
   rw [List.length_map] at hxl
   refine ⟨ls,_,_,rfl,rfl,u3 _ _ hGs,jz (by omega),?_⟩
   have tk:TK G1 (upd G1 ls (.lst (xs++[.ref t]))):=TK.upd (u3 _ _ hGs) (by intro xs z;cases z)
   refine ⟨_,rfl,some (.int mi),some (.int hp'),xs++[.ref t],?_,?_,?_,ja,?_⟩
   ·rw [if_neg hva];rfl
   ·intro c o e
    rw [jg (jk e hls0)]
    exact u3 _ _ (sG _ _ e)
   ·rw [jg n5]
    exact u3 _ _ hG5
   ·rw [if_neg hva,List.map_append]
    exact yc (tk.heldL (hxs.mono u3)) (tk.held (jL g3 (jf jM (jf jM jt))))
 ·rintro σ G ⟨x6,x7,xs,rfl,sG,hG5,hGs,hxs⟩
  rw [List.length_map,List.take_length] at hxs
  refine ⟨_,rfl,a,_,_,_,rfl,rfl,SqT.of (sG _ _ ha),rfl,_,rfl,ls,_,rfl,.inl ⟨SqL.of hGs,fun t ht=>?_⟩⟩
  have u3:=jj ht (.tup xs)
  have g3:upd G t (.tup xs) t=some (.tup xs):=ja
  generalize upd G t (.tup xs)=G1 at *
  refine ⟨sm rfl,fun r hr'=>?_⟩
  have u4:=jj hr' (.tup [V.int b,V.ref t])
  have up2:ku (ms.map fun x=>(x,kr (b,ps,ws) x)):=by
   show List.Pairwise _ _
   rw [List.pairwise_map]
   exact E.up
  refine q _ _ _ (sG.trans (u3.trans u4)) (jL ja (jf jM (jf (jL (u4 _ _ g3) (hxs.mono (u3.trans u4))) jt))) (jaY b up2) ?_ fun z=>?_
  ·have:=Kj b (ms.map fun x=>(x,kr (b,ps,ws) x))
   rw [List.length_map] at this
   omega
  ·rw [jcf b _ up2,jdg hup E]
end
section
variable {prog:List Pr} {inp:List Int} {most:Int} {m m':Mc}
theorem KW (h:(m.used:Int)≠most):ki prog inp most m=ki prog inp (-1) m:=by
 unfold ki
 split
 ·rfl
 ·split
  ·rfl
  ·rfl
  ·rw [if_neg h,if_neg (by omega)]
theorem jay:ki prog inp (m.used:Int) m=.inl (.spent,m.used)∨(ki prog inp (m.used:Int) m=ki prog inp (-1) m∧(∀ m',ki prog inp (-1) m=.inr m'→m'.used=m.used)∧∀ e u,ki prog inp (-1) m=.inl (e,u)→e≠.stuck→u=m.used):=by
 unfold ki
 split
 ·exact .inr ⟨rfl,fun m' h=>(by cases h),fun e u h hs=>(by cases h;exact absurd rfl hs)⟩
 ·split
  ·refine .inr ⟨rfl,fun m' h=>?_,fun e u h hs=>?_⟩
   ·split at h
    ·cases h
    ·split at h
     ·split at h
      ·cases h
      ·split at h
       ·cases h
       ·split at h
        ·cases h;rfl
        ·cases h
     ·cases h
   ·split at h
    ·cases h;rfl
    ·split at h
     ·split at h
      ·cases h;rfl
      ·split at h
       ·cases h;exact absurd rfl hs
       ·split at h
        ·cases h
        ·cases h;exact absurd rfl hs
     ·cases h;exact absurd rfl hs
  ·exact .inr ⟨rfl,fun m' h=>(by cases h;rfl),fun e u h=>(by cases h)⟩
  ·left
   rw [if_pos rfl]
theorem jc2 {e:En} {u:Nat} (h:ki prog inp (-1) m=.inl (e,u)) (hs:e≠.stuck):u≤m.used+1:=by
 unfold ki at h
 split at h
 ·cases h;exact absurd rfl hs
 ·split at h
  ·split at h
   ·cases h;omega
   ·split at h
    ·split at h
     ·cases h;omega
     ·split at h
      ·cases h;omega
      ·split at h
       ·cases h
       ·cases h;omega
    ·cases h;omega
  ·cases h
  ·rw [if_neg (by omega)] at h
   split at h
   ·split at h
    ·cases h;omega
    ·cases h
   ·rcases zw h with g | g
    ·exact absurd g hs
    ·omega
   ·cases h
theorem KY {e:En} {u:Nat} (h:ki prog inp (-1) m=.inl (e,u)) (hs:e≠.stuck) (hu:u=m.used):ki prog inp (m.used:Int) m=.inl (e,u):=by
 rw [← h]
 unfold ki at h ⊢
 split at h
 ·rfl
 ·split at h
  ·rfl
  ·cases h
  ·rw [if_neg (by omega)] at h
   exfalso
   split at h
   ·split at h
    ·cases h;omega
    ·cases h
   ·rcases zw h with g | g
    ·exact hs g
    ·omega
   ·cases h
theorem Kc {m':Mc} (h:ki prog inp (-1) m=.inr m') (hu:m'.used=m.used):ki prog inp (m.used:Int) m=ki prog inp (-1) m:=by
 unfold ki at h ⊢
 split at h
 ·rfl
 ·split at h
  ·rfl
  ·rfl
  ·rw [if_neg (by omega)] at h
   exfalso
   split at h
   ·split at h
    ·cases h
    ·cases h;simp at hu
   ·have:=Ya h;omega
   ·cases h;simp at hu
theorem jbe {most:Nat} {k:Nat} {m:Mc} {r:En×Nat} (h:Runs prog inp (-1) k m r):r.1≠.stuck→m.used≤most→(r.2≤most→RunsTo prog inp most m r)∧(most < r.2→RunsTo prog inp most m (.spent,most)):=by
 induction h with
 | @stop m r h=>
  intro hs hm
  obtain ⟨e,u⟩:=r
  rcases Nat.lt_or_ge m.used most with g | g
  ·have hf:=KW (prog:=prog) (inp:=inp) (m:=m) (most:=most) (by omega)
   refine ⟨fun _=>.stop (by rw [hf];exact h),fun hu=>?_⟩
   exfalso
   have:u≤m.used+1:=jc2 h hs
   have:most < u:=hu
   omega
  ·have e1:most=m.used:=by omega
   subst e1
   rcases jay (prog:=prog) (inp:=inp) (m:=m) with g' | ⟨g1,g2,g3⟩
   ·refine ⟨fun hu=>?_,fun _=>.stop g'⟩
    have hu':u≤m.used:=hu
    have hge:=yu h hs
    exact .stop (KY h hs (by omega))
   ·refine ⟨fun _=>.stop (by rw [g1];exact h),fun hu=>?_⟩
    have:m.used < u:=hu
    have:=g3 e u h hs
    omega
 | @more k m m' r h t ih=>
  intro hs hm
  have hge:=YJ t hs
  rcases Nat.lt_or_ge m.used most with g | g
  ·have hf:=KW (prog:=prog) (inp:=inp) (m:=m) (most:=most) (by omega)
   have hm':m'.used≤most:=by rcases yV h with g' | g' <;> omega
   obtain ⟨i1,i2⟩:=ih hs hm'
   exact ⟨fun hu=>.more (by rw [hf];exact h) (i1 hu),fun hu=>.more (by rw [hf];exact h) (i2 hu)⟩
  ·have e1:most=m.used:=by omega
   subst e1
   rcases jay (prog:=prog) (inp:=inp) (m:=m) with g' | ⟨g1,g2,g3⟩
   ·refine ⟨fun hu=>?_,fun _=>.stop g'⟩
    rcases yV h with g2 | g2
    ·exact absurd g' (by rw [Kc h g2,h];intro z;cases z)
    ·omega
   ·have hm':=g2 m' h
    obtain ⟨i1,i2⟩:=ih hs (by omega)
    exact ⟨fun hu=>.more (by rw [g1];exact h) (i1 hu),fun hu=>.more (by rw [g1];exact h) (i2 hu)⟩
end
section
variable {prog:List Pr} {inp:List Int} {pr:Pr} {cb:Option Cb} {N:List (Str×Int)} {L:List (Str×j0)} {i u tk w:Nat} {jE:List Fm} {r:En×Nat} {p:List Int}
theorem yY:¬ ((u:Int)=-1):=by omega
theorem Ko {x:Str} {t:Tm} {c:Int} (h:pr.sx[i]?=some (.do_ (.set x t c) p)) (k:RunsTo prog inp (-1) ⟨⟨pr,cb,kO N x (t.val N L+c),L,i+1⟩ :: jE,u+1,tk,w⟩ r):RunsTo prog inp (-1) ⟨⟨pr,cb,N,L,i⟩ :: jE,u,tk,w⟩ r:=
 .more (by rw [yt (F:=⟨pr,cb,N,L,i⟩) rfl h,if_neg yY];rfl) k
theorem jfk {x y:Str} {t:Tm} {d c:Int} (h:pr.sx[i]?=some (.do_ (.put y x d t c) p)) (hr:(lkA L y).isSome=true) (hw:w < 60) (k:RunsTo prog inp (-1) ⟨⟨pr,cb,N,kO L y ((kY L y).1,(kY L y).2.1,(kY L y).2.2++[(ql N x+d,t.val N L+c)]),i+1⟩ :: jE,u+1,tk,w+1⟩ r):RunsTo prog inp (-1) ⟨⟨pr,cb,N,L,i⟩ :: jE,u,tk,w⟩ r:=
 .more (by rw [yt (F:=⟨pr,cb,N,L,i⟩) rfl h,if_neg yY];unfold yP;dsimp only;rw [if_pos ⟨hr,hw⟩]) k
theorem jdV (h:pr.sx[i]?=none) (hu:kU N L pr.gives=none) (hr:qt L pr.rs=true):RunsTo prog inp (-1) ⟨⟨pr,none,N,L,i⟩ :: jE,u,tk,w⟩ (.done (ql N "out") (kB L pr.rs),u):=
 .stop (by unfold ki;dsimp only;rw [h];dsimp only;rw [hu];dsimp only;rw [if_pos hr])
theorem jgE {n:Nat} (h:pr.sx[i]?=some (.go n)) (k:RunsTo prog inp (-1) ⟨⟨pr,cb,N,L,n⟩ :: jE,u,tk,w⟩ r):RunsTo prog inp (-1) ⟨⟨pr,cb,N,L,i⟩ :: jE,u,tk,w⟩ r:=
 .more (by rw [jax (F:=⟨pr,cb,N,L,i⟩) rfl h]) k
theorem jdW (h:pr.sx[i]?=some .come) (k:RunsTo prog inp (-1) ⟨⟨pr,cb,N,L,i+1⟩ :: jE,u+1,tk,w⟩ r):RunsTo prog inp (-1) ⟨⟨pr,cb,N,L,i⟩ :: jE,u,tk,w⟩ r:=
 .more (by rw [KZ (F:=⟨pr,cb,N,L,i⟩) rfl h,if_neg yY]) k
theorem Kp {le:Cl} {cs:List Cl} {kd:Str} {yes no:Nat} {b:Bool} (h:pr.sx[i]?=some (.ask le cs kd p yes no)) (hu:kU N L cs=none) (hb:yj N L le=b) (k:RunsTo prog inp (-1) ⟨⟨pr,cb,N,L,if b=true then yes else no⟩ :: jE,u+1,tk,w⟩ r):RunsTo prog inp (-1) ⟨⟨pr,cb,N,L,i⟩ :: jE,u,tk,w⟩ r:=
 .more (by rw [JL (F:=⟨pr,cb,N,L,i⟩) rfl h,if_neg yY];dsimp only;rw [hu,hb]) k
theorem J0 {le:Cl} {cs:List Cl} {kd:Str} {yes no j:Nat} (h:pr.sx[i]?=some (.ask le cs kd p yes no)) (hu:kU N L cs=some j):RunsTo prog inp (-1) ⟨⟨pr,cb,N,L,i⟩ :: jE,u,tk,w⟩ (.untrue pr.f kd p j,u+1):=
 .stop (by rw [JL (F:=⟨pr,cb,N,L,i⟩) rfl h,if_neg yY];dsimp only;rw [hu])
theorem jcJ {C:Cl} (h:pr.sx[i]?=some (.do_ (.claim C) p)) (hu:kU N L [C]=none) (k:RunsTo prog inp (-1) ⟨⟨pr,cb,N,L,i+1⟩ :: jE,u+1,tk,w⟩ r):RunsTo prog inp (-1) ⟨⟨pr,cb,N,L,i⟩ :: jE,u,tk,w⟩ r:=
 .more (by rw [yt (F:=⟨pr,cb,N,L,i⟩) rfl h,if_neg yY];unfold yP;dsimp only;rw [hu]) k
theorem Yt {C:Cl} {j:Nat} (h:pr.sx[i]?=some (.do_ (.claim C) p)) (hu:kU N L [C]=some j):RunsTo prog inp (-1) ⟨⟨pr,cb,N,L,i⟩ :: jE,u,tk,w⟩ (.untrue pr.f "claim" p j,u+1):=
 .stop (by rw [yt (F:=⟨pr,cb,N,L,i⟩) rfl h,if_neg yY];unfold yP;dsimp only;rw [hu])
end
theorem ZN (d:Dx):∃ k r,d.toD=.tup (.str k :: r)∧k≠"if"∧k≠"while":=by
 cases d with
 | set x t c=>exact ⟨_,_,rfl,by decide,by decide⟩
 | put r x d t c=>exact ⟨_,_,rfl,by decide,by decide⟩
 | any x=>exact ⟨_,_,rfl,by decide,by decide⟩
 | claim C=>exact ⟨_,_,rfl,by decide,by decide⟩
 | call x f as rows=>exact ⟨_,_,rfl,by decide,by decide⟩
theorem ZA {f n k:Nat} {d:Dx} {r:List D} {ar:List Int}:kj (kJ (f+1)) n (d.toD :: r) ar k=Sx.toD (.do_ d (ar++[(k:Int)])) :: kj (kJ (f+1)) (n+1) r ar (k+1):=by
 obtain ⟨kd,rr,e,h1,h2⟩:=ZN d
 have:kJ (f+1) n d.toD (ar++[(k:Int)])=[Sx.toD (.do_ d (ar++[(k:Int)]))]:=by
  unfold Sx.toD
  dsimp only
  rw [e]
  exact ZD h1 h2
 rw [kj,this]
 rfl
theorem JV {f:Nat} (d:Dx):yM (f+1) d.toD:=.inl (ZN d)
theorem yH {S:Nat→D→List Int→List D} {n k:Nat} {ar:List Int}:kj S n [] ar k=[]:=by unfold kj;rfl
theorem Z4 {K:W.Frag} {H:Hp} {n:Nat} {x1 x2 y1 y2:V} (h1:LikeV K H n x1 y1) (h2:LikeV K H n x2 y2) (j:Nat) (x' y':V) (e1:[x1,x2][j]?=some x') (e2:[y1,y2][j]?=some y'):LikeV K H n x' y':=by
 match j with
 | 0=>cases e1;cases e2;exact h1
 | 1=>cases e1;cases e2;exact h2
 | j+2=>simp at e1
theorem jbf {K:W.Frag} {H:Hp} {v v':V} {r:Int×List (Int×Int)} (h:RowAt K H v r) (h':RowAt K H v' r):LikeV K H 3 v v':=by
 obtain ⟨a,b,qs,rfl,s1,s2,s3⟩:=h.ex
 obtain ⟨a',b',qs',rfl,t1,t2,t3⟩:=h'.ex
 refine .inr (.inl ⟨a,a',_,_,rfl,rfl,s1,t1,rfl,Z4 (qI _ _) (.inr (.inl ⟨b,b',qs,qs',rfl,rfl,s2,t2,by rw [s3.1,t3.1],fun j x' y' e1 e2=>?_⟩))⟩)
 have hj:j < r.2.length:=by
  have:=(List.getElem?_eq_some_iff.mp e1).1
  rw [s3.1] at this
  exact this
 obtain ⟨c,f1,f2⟩:=s3.2 j hj
 obtain ⟨c',g1,g2⟩:=t3.2 j hj
 rw [f1] at e1
 rw [g1] at e2
 cases e1
 cases e2
 exact .inr (.inl ⟨c,c',_,_,rfl,rfl,f2,g2,rfl,Z4 (qI _ _) (qI _ _)⟩)
theorem jcK {K:W.Frag} {H:Hp} {q:j0} {v v':V} (h:RowIs K H q v) (h':RowIs K H q v'):LikeV K H 3 v v':=by
 obtain ⟨R,h1,c1,_,e1⟩:=h
 obtain ⟨R',h2,c2,_,e2⟩:=h'
 have:R=R':=Ju c1 c2 fun z=>by rw [e1,e2]
 subst this
 exact jbf h1 h2
theorem jbx {K:W.Frag} {H:Hp}:∀ (qs:List j0) (vs vs':List V),RowsAt K H qs vs→RowsAt K H qs vs'→LikeL K H 3 vs vs':=by
 intro qs
 induction qs with
 | nil=>
  intro vs vs' h h'
  cases vs with
  | nil=>
   cases vs' with
   | nil=>exact .nil
   | cons _ _=>exact h'.elim
  | cons _ _=>exact h.elim
 | cons q r ih=>
  intro vs vs' h h'
  cases vs with
  | nil=>exact h.elim
  | cons v t=>
   cases vs' with
   | nil=>exact h'.elim
   | cons v' t'=>exact .cons (jcK h.1 h'.1) (ih t t' h.2 h'.2)
theorem Yd:∀ p:List Int,D.depthL (p.map D.int)=0
 | []=>by unfold List.map D.depthL;rfl
 | a :: r=>by rw [List.map_cons];unfold D.depthL D.depth;rw [Yd r];rfl
theorem jaB {K:W.Frag} {H:Hp}:∀ {e:En} {v v':V},EndAt K H e v→EndAt K H e v'→LikeV K H 5 v v'
 | .done out held,v,v',⟨t,hl,vs,h1,h2,h3,h4⟩,⟨t',hl',vs',h1',h2',h3',h4'⟩=>by
  subst h1 h1'
  have l0:=jbx _ _ _ h4 h4'
  have l:=LikeL.cons (K:=K) (qH "done" 4) (.cons (qI out 4) (.cons (LikeV.lst h3 h3' l0.1 l0.2) .nil))
  exact LikeV.tup h2 h2' l.1 l.2
 | .spent,v,v',⟨t,h1,h2⟩,⟨t',h1',h2'⟩=>by
  subst h1 h1'
  have l:=LikeL.cons (K:=K) (H:=H) (qH "spent" 4) .nil
  exact LikeV.tup h2 h2' l.1 l.2
 | .asks,v,v',⟨t,h1,h2⟩,⟨t',h1',h2'⟩=>by
  subst h1 h1'
  have l:=LikeL.cons (K:=K) (H:=H) (qH "asks" 4) .nil
  exact LikeV.tup h2 h2' l.1 l.2
 | .deep,v,v',⟨t,h1,h2⟩,⟨t',h1',h2'⟩=>by
  subst h1 h1'
  have l:=LikeL.cons (K:=K) (H:=H) (qH "deep" 4) .nil
  exact LikeV.tup h2 h2' l.1 l.2
 | .untrue f kd p k,v,v',⟨t,vp,h1,h2,h3⟩,⟨t',vp',h1',h2',h3'⟩=>by
  subst h1 h1'
  have hd:(kW p).depth≤4:=by
   unfold kW D.depth
   have:=Yd p
   omega
  have l:=LikeL.cons (qH "untrue" 4) (.cons (qH f 4) (.cons (qH kd 4) (.cons (L2.held_like (K:=K) hd h3 h3') (.cons (qI (k:Int) 4) .nil))))
  exact LikeV.tup h2 h2' l.1 l.2
structure W2 where
 f:Str
 s:Str
 n:Str
 b:Str
 e:Str
 i:Str
 r:Str
structure W2.Ok (W:W2):Prop where
 nd:[W.s,W.n,W.b,W.e,W.i].Nodup
 ne:∀ x∈[W.s,W.n,W.b,W.e,W.i],x≠""∧x≠"out"
structure D2 where
 A:Nat
 U:Nat
 many:Nat
 pl:Nat
 ways:List Nat
 rounds:Nat
 claims:Nat
 keeps:Nat
 near:Int
def clB (W:W2):Cl:=.least (.is W.b) (.is W.i) 0
def nev:Cl:=.least (.is "") (.is "") 1
def Yr (W:W2):Cl:=.least (.is W.i) (.is W.s) 0
def jcD (W:W2):Cl:=.least (.is W.s) (.is W.i) 1
def qq (C:Cl):Dx:=.claim C
def JQ (W:W2):List Nat→D
 | []=>(qq (clB W)).toD
 | w :: r=>if w=0 then .tup [.str "if",(Yr W).toD,.tup [JQ W r],.tup [(qq nev).toD]] else .tup [.str "if",(jcD W).toD,.tup [(qq nev).toD],.tup [JQ W r]]
def sxI (W:W2):Nat→List Int→List Nat→List Sx
 | _,p,[]=>[.do_ (qq (clB W)) p]
 | n,p,w :: r=>if w=0 then .ask (Yr W) [] "" p (n+1) (n+1+(1+3 * r.length)+1) :: (sxI W (n+1) (p++[0,0]) r++[.go (n+1+(1+3 * r.length)+1+1),.do_ (qq nev) (p++[1,0])])
  else .ask (jcD W) [] "" p (n+1) (n+1+1+1) :: .do_ (qq nev) (p++[0,0]) :: .go (n+1+1+1+(1+3 * r.length)) :: sxI W (n+1+1+1) (p++[1,0]) r
theorem zR (W:W2):∀ (ws:List Nat) (n:Nat) (p:List Int),(sxI W n p ws).length=1+3 * ws.length
 | [],_,_=>rfl
 | w :: r,n,p=>by
  unfold sxI
  split
  ·rw [List.length_cons,List.length_append,zR W r,List.length_cons];simp only [List.length_cons,List.length_nil];omega
  ·rw [List.length_cons,List.length_cons,List.length_cons,zR W r,List.length_cons];omega
theorem jaE {S:Nat→D→List Int→List D} {n:Nat} {le:D} {b o:List D} {p:List Int} {B O:List D} (h:kj S (n+1) b (p++[0]) 0=B) (h':kj S (n+1+B.length+1) o (p++[1]) 0=O):YQ S n le b o p=Ym le (.tup []) "" p (n+1) (n+1+B.length+1) :: B++.tup [.str "go",.int ((n+1+B.length+1+O.length:Nat):Int)] :: O:=by subst h;subst h';rfl
theorem Kv {S:Nat→D→List Int→List D} {n:Nat} {d:D} {ar:List Int}:kj S n [d] ar 0=S n d (ar++[0]):=by
 rw [kj,yH,List.append_nil]
 rfl
theorem Zz {f n:Nat} {d:Dx} {p:List Int}:kJ (f+1) n d.toD p=[Sx.toD (.do_ d p)]:=by
 obtain ⟨kd,rr,e,h1,h2⟩:=ZN d
 unfold Sx.toD
 dsimp only
 rw [e]
 exact ZD h1 h2
theorem Zy (W:W2):∀ (ws:List Nat) (f n:Nat) (p:List Int),ws.length≤f→kJ (f+1) n (JQ W ws) p=(sxI W n p ws).map Sx.toD
 | [],f,n,p,_=>Zz
 | w :: r,f,n,p,h=>by
  obtain ⟨f,rfl⟩:∃ g,f=g+1:=⟨f - 1,by rw [List.length_cons] at h;omega⟩
  have hr:r.length≤f:=by rw [List.length_cons] at h;omega
  have ll:∀ m q,((sxI W m q r).map Sx.toD).length=1+3 * r.length:=fun m q=>by rw [List.length_map,zR]
  unfold JQ sxI
  by_cases hw:w=0
  ·rw [if_pos hw,if_pos hw,ZC,jaE (B:=(sxI W (n+1) (p++[0,0]) r).map Sx.toD) (O:=[Sx.toD (.do_ (qq nev) (p++[1,0]))]) (by rw [Kv,Zy W r f _ _ hr];rw [List.append_assoc];rfl) (by rw [Kv,Zz,List.append_assoc];rfl),ll]
   rw [List.map_cons,List.map_append]
   rfl
  ·rw [if_neg hw,if_neg hw,ZC,jaE (B:=[Sx.toD (.do_ (qq nev) (p++[0,0]))]) (O:=(sxI W (n+1+1+1) (p++[1,0]) r).map Sx.toD) (by rw [Kv,Zz,List.append_assoc];rfl) (by rw [Kv,Zy W r f _ _ hr,List.append_assoc];rfl),ll]
   rfl
theorem jci (W:W2):∀ (ws:List Nat) (f:Nat),ws.length≤f→yM (f+1) (JQ W ws)
 | [],f,_=>JV (qq (clB W))
 | w :: r,f,h=>by
  obtain ⟨f,rfl⟩:∃ g,f=g+1:=⟨f - 1,by rw [List.length_cons] at h;omega⟩
  have hr:=jci W r f (by rw [List.length_cons] at h;omega)
  have hn:yM (f+1) (qq nev).toD:=JV _
  unfold JQ
  split
  ·exact .inr (.inl ⟨_,_,_,rfl,fun s hs=>by rw [List.mem_singleton.mp hs];exact hr,fun s hs=>by rw [List.mem_singleton.mp hs];exact hn⟩)
  ·exact .inr (.inl ⟨_,_,_,rfl,fun s hs=>by rw [List.mem_singleton.mp hs];exact hn,fun s hs=>by rw [List.mem_singleton.mp hs];exact hr⟩)
def tgt (m:Nat):Sx→Prop
 | .go n=>n≤m
 | .ask _ _ _ _ y n=>y≤m∧n≤m
 | _=>True
theorem tgt.up {m m':Nat} (h:m≤m'):∀ {s:Sx},tgt m s→tgt m' s
 | .go _,g=>Nat.le_trans g h
 | .ask _ _ _ _ _ _,g=>⟨Nat.le_trans g.1 h,Nat.le_trans g.2 h⟩
 | .do_ _ _,_=>trivial
 | .come,_=>trivial
theorem jgv {sx:List Sx} (h:∀ s∈sx,tgt sx.length s):WfS sx:=fun i s hs=>by
 have:=h s (List.mem_of_getElem? hs)
 cases s <;> exact this
theorem jbT (W:W2):∀ (ws:List Nat) (n:Nat) (p:List Int),∀ s∈sxI W n p ws,tgt (n+(1+3 * ws.length)) s
 | [],n,p,s,h=>by rw [List.mem_singleton.mp h];trivial
 | w :: r,n,p,s,h=>by
  have hr:∀ m q,∀ s∈sxI W m q r,tgt (m+(1+3 * r.length)) s:=fun m q=>jbT W r m q
  have e:(w :: r).length=r.length+1:=rfl
  unfold sxI at h
  split at h
  ·rcases List.mem_cons.mp h with rfl | h
   ·exact ⟨by omega,by omega⟩
   rcases List.mem_append.mp h with h | h
   ·exact (hr _ _ s h).up (by omega)
   ·simp only [List.mem_cons,List.mem_nil_iff,or_false] at h
    rcases h with rfl | rfl
    ·show n+1+(1+3 * r.length)+1+1≤_;omega
    ·trivial
  ·rcases List.mem_cons.mp h with rfl | h
   ·exact ⟨by omega,by omega⟩
   rcases List.mem_cons.mp h with rfl | h
   ·trivial
   rcases List.mem_cons.mp h with rfl | h
   ·show n+1+1+1+(1+3 * r.length)≤_;omega
   ·exact (hr _ _ s h).up (by omega)
def jdR (W:W2):Dx:=.set W.i (.is W.s) 0
def jak (W:W2) (k:Nat):Dx:=.put W.r W.i (k:Int) (.is W.i) ((k:Int)+5)
def Jd (W:W2):Dx:=.set W.i (.is W.i) 1
def jbm (W:W2):Dx:=.set "out" (.is W.i) 3
def jex (W:W2):Cl:=.least (.is W.e) (.is W.i) 0
def yy (W:W2) (d:D2):List Cl:=(List.replicate d.many (Yr W)).set d.pl (jex W)
def je6 (W:W2):Cl:=.least (.is W.n) (.is W.i) 1
def jcq (W:W2) (d:D2):List D:=(List.range d.U).map (fun k=>(jak W k).toD)++[JQ W d.ways,(Jd W).toD]
def jb7 (W:W2) (d:D2):D:=.tup [.str "while",(je6 W).toD,.tup ((yy W d).map Cl.toD),.tup (jcq W d)]
def jcr (W:W2) (d:D2):List D:=List.replicate d.A (jdR W).toD++[jb7 W d,(jbm W).toD]
def D2.BL (d:D2):Nat:=d.U+(1+3 * d.ways.length)+1
def YA (W:W2) (d:D2) (kd:Str):Sx:=.ask (je6 W) (yy W d) kd [(d.A:Int)] (d.A+2) (d.A+2+d.BL+1)
def KJ (W:W2) (A:Nat):List Sx:=(List.range A).map fun k:Nat=>Sx.do_ (jdR W) [(k:Int)]
def yq (W:W2) (d:D2):List Sx:=(List.range d.U).map fun k:Nat=>Sx.do_ (jak W k) [(d.A:Int),0,(k:Int)]
def sx2 (W:W2) (d:D2):List Sx:=KJ W d.A++(.come :: YA W d "enter" :: (yq W d++(sxI W (d.A+2+d.U) [(d.A:Int),0,(d.U:Int)] d.ways++[.do_ (Jd W) [(d.A:Int),0,((d.U+1:Nat):Int)],YA W d "keep",.do_ (jbm W) [((d.A+1:Nat):Int)]])))
def pr2 (W:W2) (d:D2):Pr:=⟨W.f,[W.s,W.n,W.b,W.e],[W.r],[],[],jcr W d,sx2 W d⟩
theorem ZB {S:Nat→D→List Int→List D}:∀ (a b:List D) (n k:Nat) (ar:List Int),kj S n (a++b) ar k=kj S n a ar k++kj S (n+(kj S n a ar k).length) b ar (k+a.length)
 | [],b,n,k,ar=>by rw [yH];rfl
 | d :: r,b,n,k,ar=>by
  rw [List.cons_append,kj,kj,ZB r b,List.append_assoc,List.length_append,List.length_cons,Nat.add_assoc,show k+1+r.length=k+(r.length+1) by omega]
theorem jca {f:Nat} {d:Dx} {ar:List Int}:∀ (A n k:Nat),kj (kJ (f+1)) n (List.replicate A d.toD) ar k=(List.range A).map fun j=>Sx.toD (.do_ d (ar++[((k+j:Nat):Int)]))
 | 0,n,k=>yH
 | A+1,n,k=>by
  rw [List.replicate_succ,ZA,jca A,List.range_succ_eq_map,List.map_cons,List.map_map]
  congr 1
  apply List.map_congr_left
  intro j _
  show Sx.toD (.do_ d (ar++[((k+1+j:Nat):Int)]))=Sx.toD (.do_ d (ar++[((k+(j+1):Nat):Int)]))
  rw [show k+1+j=k+(j+1) by omega]
theorem jb9 {f:Nat} {ds:Nat→Dx} {ar:List Int}:∀ (A n k:Nat),kj (kJ (f+1)) n ((List.range A).map fun j=>(ds (k+j)).toD) ar k=(List.range A).map fun j=>Sx.toD (.do_ (ds (k+j)) (ar++[((k+j:Nat):Int)]))
 | 0,n,k=>yH
 | A+1,n,k=>by
  rw [List.range_succ_eq_map,List.map_cons,List.map_map]
  show kj _ n ((ds k).toD :: _) ar k=_
  rw [ZA,List.map_cons,List.map_map]
  congr 1
  have e:(List.range A).map ((fun j=>(ds (k+j)).toD) ∘ Nat.succ)=(List.range A).map fun j=>(ds (k+1+j)).toD:=by
   apply List.map_congr_left
   intro j _
   show (ds (k+(j+1))).toD=_
   rw [show k+(j+1)=k+1+j by omega]
  rw [e,jb9 A]
  apply List.map_congr_left
  intro j _
  show Sx.toD (.do_ (ds (k+1+j)) (ar++[((k+1+j:Nat):Int)]))=Sx.toD (.do_ (ds (k+(j+1))) (ar++[((k+(j+1):Nat):Int)]))
  rw [show k+1+j=k+(j+1) by omega]
theorem jet {S:Nat→D→List Int→List D} {n:Nat} {le ks:D} {b:List D} {p:List Int} {B:List D} (h:kj S (n+2) b (p++[0]) 0=B):J6 S n le ks b p=.tup [.str "come"] :: Ym le ks "enter" p (n+2) (n+2+B.length+1) :: B++[Ym le ks "keep" p (n+2) (n+2+B.length+1)]:=by subst h;rfl
theorem jgP (W:W2) (d:D2) (hA:d.A≤3) (hU:d.U≤3) (hw:d.ways.length≤2):PrOk 4 (pr2 W d):=by
 have lB:(kj (kJ 3) (d.A+2) (jcq W d) [(d.A:Int),0] 0)=(yq W d).map Sx.toD++((sxI W (d.A+2+d.U) [(d.A:Int),0,(d.U:Int)] d.ways).map Sx.toD++[Sx.toD (.do_ (Jd W) [(d.A:Int),0,((d.U+1:Nat):Int)])]):=by
  unfold jcq
  have e1:=jb9 (f:=2) (ds:=jak W) (ar:=[(d.A:Int),0]) d.U (d.A+2) 0
  simp only [Nat.zero_add] at e1
  rw [ZB,e1,List.length_map,List.length_range,List.length_map,List.length_range,Nat.zero_add]
  rw [kj,Zy W d.ways 2 _ _ hw,ZA,yH]
  unfold yq
  rw [List.map_map]
  rfl
 have lBl:((yq W d).map Sx.toD++((sxI W (d.A+2+d.U) [(d.A:Int),0,(d.U:Int)] d.ways).map Sx.toD++[Sx.toD (.do_ (Jd W) [(d.A:Int),0,((d.U+1:Nat):Int)])])).length=d.BL:=by
  rw [List.length_append,List.length_append,List.length_map,List.length_map,zR]
  unfold yq D2.BL
  rw [List.length_map,List.length_range]
  rfl
 have ls:(sx2 W d).length=d.A+2+d.BL+2:=by
  unfold sx2 KJ yq D2.BL
  simp only [List.length_append,List.length_cons,List.length_map,List.length_range,List.length_nil,zR]
  omega
 refine ⟨fun st hs=>?_,?_,by show (sx2 W d).length≤900;rw [ls];unfold D2.BL;omega,jgv ?_,by show 1≤100;decide⟩
 ·rcases List.mem_append.mp hs with h | h
  ·rw [(List.mem_replicate.mp h).2];exact JV _
  ·simp only [List.mem_cons,List.mem_nil_iff,or_false] at h
   rcases h with rfl | rfl
   ·refine .inr (.inr ⟨_,_,_,rfl,fun s hs=>?_⟩)
    rcases List.mem_append.mp hs with h | h
    ·obtain ⟨k,_,rfl⟩:=List.mem_map.mp h
     exact JV _
    ·simp only [List.mem_cons,List.mem_nil_iff,or_false] at h
     rcases h with rfl | rfl
     ·exact jci W d.ways 2 hw
     ·exact JV _
   ·exact JV _
 ·show kj (kJ 4) 0 (jcr W d) [] 0=(sx2 W d).map Sx.toD
  unfold jcr
  rw [ZB,jca,List.length_map,List.length_range,List.length_replicate,Nat.zero_add,kj]
  unfold jb7
  rw [jcb,jet (B:=_) lB,ZA,yH,lBl]
  unfold sx2 KJ
  simp only [List.map_append,List.map_cons,List.map_map,List.map_nil]
  congr 1
  ·apply List.map_congr_left
   intro j _
   show Sx.toD (.do_ (jdR W) ([]++[((0+j:Nat):Int)]))=_
   rw [Nat.zero_add]
   rfl
  ·simp only [List.cons_append,List.append_assoc,List.nil_append]
   rfl
 ·rw [show (pr2 W d).sx=sx2 W d from rfl,ls]
  intro s hs
  unfold sx2 at hs
  rcases List.mem_append.mp hs with h | h
  ·obtain ⟨k,_,rfl⟩:=List.mem_map.mp h
   trivial
  rcases List.mem_cons.mp h with rfl | h
  ·trivial
  rcases List.mem_cons.mp h with rfl | h
  ·exact ⟨by omega,by omega⟩
  rcases List.mem_append.mp h with h | h
  ·obtain ⟨k,_,rfl⟩:=List.mem_map.mp h
   trivial
  rcases List.mem_append.mp h with h | h
  ·exact (jbT W d.ways _ _ s h).up (by unfold D2.BL;omega)
  simp only [List.mem_cons,List.mem_nil_iff,or_false] at h
  rcases h with rfl | rfl | rfl
  ·trivial
  ·exact ⟨by omega,by omega⟩
  ·trivial
theorem yR {N:List (Str×Int)} {L:List (Str×j0)} {X Y:Str} {c:Int}:yj N L (.least (.is X) (.is Y) c)=decide (ql N Y+c≤ql N X):=by
 symm
 apply KD
 rw [decide_eq_true_iff]
 exact Iff.rfl
def Nv (W:W2) (d:D2) (x:Int):List (Str×Int):=[(W.s,d.near),(W.n,d.near+d.rounds),(W.b,d.near+d.claims - 1),(W.e,d.near+d.keeps - 1),(W.i,x)]
def N0 (W:W2) (d:D2):List (Str×Int):=[(W.s,d.near),(W.n,d.near+d.rounds),(W.b,d.near+d.claims - 1),(W.e,d.near+d.keeps - 1)]
theorem W2.Ok.all {W:W2} (ok:W.Ok):(W.s≠W.n∧W.s≠W.b∧W.s≠W.e∧W.s≠W.i)∧(W.n≠W.b∧W.n≠W.e∧W.n≠W.i)∧(W.b≠W.e∧W.b≠W.i)∧W.e≠W.i:=by
 have nd:=ok.nd
 simp only [List.nodup_cons,List.mem_cons,List.mem_nil_iff,or_false,not_or,List.nodup_nil,and_true,not_false_eq_true] at nd
 exact nd
theorem qW {W:W2} (ok:W.Ok) {d:D2} {x:Int}:ql (Nv W d x) W.s=d.near∧ql (Nv W d x) W.n=d.near+d.rounds∧ql (Nv W d x) W.b=d.near+d.claims - 1∧ql (Nv W d x) W.e=d.near+d.keeps - 1∧ql (Nv W d x) W.i=x∧ql (N0 W d) W.s=d.near:=by
 obtain ⟨⟨s1,s2,s3,s4⟩,⟨n1,n2,n3⟩,⟨b1,b2⟩,e1⟩:=ok.all
 have h:=ok.ne
 simp only [List.mem_cons,List.mem_nil_iff,or_false,forall_eq_or_imp,forall_eq] at h
 obtain ⟨h1,h2,h3,h4,h5⟩:=h
 refine ⟨?_,?_,?_,?_,?_,?_⟩
 ·simp [ql,lkA,Nv,h1.1]
 ·simp [ql,lkA,Nv,h2.1,s1]
 ·simp [ql,lkA,Nv,h3.1,s2,n1]
 ·simp [ql,lkA,Nv,h4.1,s3,n2,b1]
 ·simp [ql,lkA,Nv,h5.1,s4,n3,b2,e1]
 ·simp [ql,lkA,N0,h1.1]
theorem jgL {W:W2} (ok:W.Ok) {d:D2} {x y:Int}:kO (Nv W d x) W.i y=Nv W d y∧kO (N0 W d) W.i y=Nv W d y:=by
 obtain ⟨⟨s1,s2,s3,s4⟩,⟨n1,n2,n3⟩,⟨b1,b2⟩,e1⟩:=ok.all
 constructor
 ·simp [kO,Nv,s4,n3,b2,e1]
 ·simp [kO,Nv,N0,s4,n3,b2,e1]
theorem jin {W:W2} (ok:W.Ok) {d:D2} {x y:Int}:ql (kO (Nv W d x) "out" y) "out" = y:=by
 have h:=ok.ne
 simp only [List.mem_cons,List.mem_nil_iff,or_false,forall_eq_or_imp,forall_eq] at h
 obtain ⟨h1,h2,h3,h4,h5⟩:=h
 have o0:¬ (("out" : Str) = ""):=by decide
 simp [kO,Nv,ql,lkA,o0,h1.2,h2.2,h3.2,h4.2,h5.2]
def kf (d:D2):Nat:=3+d.U+d.ways.length
def wrK (d:D2) (i:Nat) (k:Nat):Int×Int:=(d.near+(i:Int)+(k:Int),d.near+(i:Int)+(k:Int)+5)
def wr2 (d:D2) (j:Nat):List (Int×Int):=(List.range j).flatMap fun i=>(List.range d.U).map (wrK d i)
def yL (ws:List Nat):List Int:=ws.flatMap fun w:Nat=>[(w:Int),0]
def JH (d:D2) (q:j0) (j:Nat):j0:=(q.1,q.2.1,q.2.2++wr2 d j)
def jbh (d:D2) (j:Nat):Nat:=if 0 < j then d.A+2+d.BL else d.A+1
def kdJ (j:Nat):Str:=if 0 < j then "keep" else "enter"
def qX (W:W2) (d:D2) (q:j0):En×Nat:=
 if d.keeps≤d.claims∧d.keeps≤d.rounds then (.untrue W.f (kdJ d.keeps) [(d.A:Int)] d.pl,d.A+2+d.keeps * kf d)
 else if d.claims < d.rounds∧d.claims < d.keeps then (.untrue W.f "claim" ([(d.A:Int),0,(d.U:Int)]++yL d.ways) 0,d.A+2+d.claims * kf d+d.U+d.ways.length+1)
 else (.done (d.near+d.rounds+3) [JH d q d.rounds],d.A+3+d.rounds * kf d)
theorem Jq {W:W2} (ok:W.Ok) {d:D2} (hp:d.pl < d.many) {j:Nat} {L:List (Str×j0)}:kU (Nv W d (d.near+j)) L (yy W d)=if d.keeps≤j then some d.pl else none:=by
 obtain ⟨n1,n2,n3,n4,n5,_⟩:=qW ok (d:=d) (x:=d.near+j)
 have t0:yj (Nv W d (d.near+j)) L (Yr W)=true:=by
  unfold Yr
  rw [yR,n1,n5]
  exact decide_eq_true (by omega)
 have tA:yj (Nv W d (d.near+j)) L (jex W)=decide (j < d.keeps):=by
  unfold jex
  rw [yR,n4,n5,decide_eq_decide]
  omega
 unfold kU yy
 by_cases h:d.keeps≤j
 ·rw [if_pos h,List.findIdx?_eq_some_iff_getElem]
  refine ⟨by simpa using hp,?_,fun k hk=>?_⟩
  ·rw [List.getElem_set_self,tA,decide_eq_false (by omega)];rfl
  ·rw [List.getElem_set_ne (by omega),List.getElem_replicate,t0];simp
 ·rw [if_neg h,List.findIdx?_eq_none_iff]
  intro c hc
  rcases List.mem_or_eq_of_mem_set hc with g | rfl
  ·rw [(List.mem_replicate.mp g).2,t0];rfl
  ·rw [tA,decide_eq_true (by omega)];rfl
section
variable {W:W2} {d:D2} {prog:List Pr} {inp:List Int} {jE:List Fm} {u tk w:Nat} {cb:Option Cb} {q:j0} {r:En×Nat} {N:List (Str×Int)}
theorem JZ {α:Type} {a b:List α} {n i:Nat} (h:a.length=n):(a++b)[n+i]?=b[i]?:=by
 rw [List.getElem?_append_right (by omega)]
 congr 1
 omega
theorem Jg:(KJ W d.A).length=d.A:=by unfold KJ;rw [List.length_map,List.length_range]
theorem jaj:(yq W d).length=d.U:=by unfold yq;rw [List.length_map,List.length_range]
theorem jeO {k:Nat} (h:k < d.A):(pr2 W d).sx[k]?=some (.do_ (jdR W) [(k:Int)]):=by
 show (sx2 W d)[k]?=_
 unfold sx2
 rw [List.getElem?_append_left (by rw [Jg];exact h)]
 unfold KJ
 rw [List.getElem?_map,List.getElem?_range h]
 rfl
theorem jf9:(pr2 W d).sx[d.A]?=some .come:=by
 have:=JZ (a:=KJ W d.A) (b:=(.come :: YA W d "enter" :: (yq W d++(sxI W (d.A+2+d.U) [(d.A:Int),0,(d.U:Int)] d.ways++[.do_ (Jd W) [(d.A:Int),0,((d.U+1:Nat):Int)],YA W d "keep",.do_ (jbm W) [((d.A+1:Nat):Int)]])))) (i:=0) (Jg (d:=d))
 exact this
theorem jct (i:Nat):(pr2 W d).sx[d.A+2+i]?=(yq W d++(sxI W (d.A+2+d.U) [(d.A:Int),0,(d.U:Int)] d.ways++[.do_ (Jd W) [(d.A:Int),0,((d.U+1:Nat):Int)],YA W d "keep",.do_ (jbm W) [((d.A+1:Nat):Int)]]))[i]?:=by
 show (sx2 W d)[d.A+2+i]?=_
 unfold sx2
 rw [show d.A+2+i=d.A+(i+1+1) by omega,JZ Jg,List.getElem?_cons_succ,List.getElem?_cons_succ]
theorem ja0:(pr2 W d).sx[d.A+1]?=some (YA W d "enter"):=by
 show (sx2 W d)[d.A+1]?=_
 unfold sx2
 rw [JZ Jg]
 rfl
theorem jhm {k:Nat} (h:k < d.U):(pr2 W d).sx[d.A+2+k]?=some (.do_ (jak W k) [(d.A:Int),0,(k:Int)]):=by
 rw [jct,List.getElem?_append_left (by rw [jaj];exact h)]
 unfold yq
 rw [List.getElem?_map,List.getElem?_range h]
 rfl
theorem jeQ (i:Nat):(pr2 W d).sx[d.A+2+d.U+i]?=(sxI W (d.A+2+d.U) [(d.A:Int),0,(d.U:Int)] d.ways++[.do_ (Jd W) [(d.A:Int),0,((d.U+1:Nat):Int)],YA W d "keep",.do_ (jbm W) [((d.A+1:Nat):Int)]])[i]?:=by
 rw [show d.A+2+d.U+i=d.A+2+(d.U+i) by omega,jct,JZ jaj]
theorem jh8 {j:Nat} {s:Sx} (h:(sxI W (d.A+2+d.U) [(d.A:Int),0,(d.U:Int)] d.ways)[j]?=some s):(pr2 W d).sx[d.A+2+d.U+j]?=some s:=by
 rw [jeQ,List.getElem?_append_left (List.getElem?_eq_some_iff.mp h).1]
 exact h
theorem Jw (i:Nat):(pr2 W d).sx[d.A+2+d.U+(1+3 * d.ways.length)+i]?=[.do_ (Jd W) [(d.A:Int),0,((d.U+1:Nat):Int)],YA W d "keep",.do_ (jbm W) [((d.A+1:Nat):Int)]][i]?:=by
 rw [show d.A+2+d.U+(1+3 * d.ways.length)+i=d.A+2+d.U+((1+3 * d.ways.length)+i) by omega,jeQ,JZ (zR W _ _ _)]
theorem jag (ok:W.Ok) {L:List (Str×j0)}:∀ (k:Nat),k < d.A→RunsTo prog inp (-1) ⟨⟨pr2 W d,cb,Nv W d d.near,L,d.A⟩ :: jE,u+d.A,tk,w⟩ r→RunsTo prog inp (-1) ⟨⟨pr2 W d,cb,Nv W d d.near,L,d.A - k⟩ :: jE,u+(d.A - k),tk,w⟩ r
 | 0,_,h=>h
 | k+1,hk,h=>by
  have ih:=jag ok k (by omega) h
  have e:d.A - k=d.A - (k+1)+1:=by omega
  refine Ko (jeO (by omega)) ?_
  rw [show (Tm.is W.s).val (Nv W d d.near) L=d.near from (qW ok).1,Int.add_zero,(jgL ok).1]
  rw [e,← Nat.add_assoc] at ih
  exact ih
theorem jcI (ok:W.Ok) (hA:0 < d.A) {L:List (Str×j0)} (h:RunsTo prog inp (-1) ⟨⟨pr2 W d,cb,Nv W d d.near,L,d.A⟩ :: jE,u+d.A,tk,w⟩ r):RunsTo prog inp (-1) ⟨⟨pr2 W d,cb,N0 W d,L,0⟩ :: jE,u,tk,w⟩ r:=by
 refine Ko (jeO hA) ?_
 rw [show (Tm.is W.s).val (N0 W d) L=d.near from (qW ok (x:=0)).2.2.2.2.2,Int.add_zero,(jgL ok (x:=0)).2]
 have:=jag ok (d.A - 1) (by omega) h
 rw [show d.A - (d.A - 1)=1 by omega] at this
 exact this
theorem jah (ok:W.Ok) {j:Nat} {b:Int} {ps ws:List (Int×Int)} (hw:w+d.U≤60):∀ (k:Nat),k≤d.U→RunsTo prog inp (-1) ⟨⟨pr2 W d,cb,Nv W d (d.near+j),[(W.r,(b,ps,ws++(List.range d.U).map (wrK d j)))],d.A+2+d.U⟩ :: jE,u+d.U,tk,w+d.U⟩ r→
  RunsTo prog inp (-1) ⟨⟨pr2 W d,cb,Nv W d (d.near+j),[(W.r,(b,ps,ws++(List.range (d.U - k)).map (wrK d j)))],d.A+2+(d.U - k)⟩ :: jE,u+(d.U - k),tk,w+(d.U - k)⟩ r
 | 0,_,h=>h
 | k+1,hk,h=>by
  have ih:=jah ok hw k (by omega) h
  have e:d.U - k=d.U - (k+1)+1:=by omega
  have e1:∀ z:j0,lkA [(W.r,z)] W.r=some z:=fun z=>by simp [lkA]
  refine jfk (jhm (by omega)) (by rw [e1];rfl) (by omega) ?_
  have e2:∀ z:j0,kY [(W.r,z)] W.r=z:=fun z=>by unfold kY;rw [e1];rfl
  have e3:∀ z y:j0,kO [(W.r,z)] W.r y=[(W.r,y)]:=fun z y=>by simp [kO]
  rw [e3,e2,(qW ok).2.2.2.2.1,show ∀ L,(Tm.is W.i).val (Nv W d (d.near+j)) L=d.near+j from fun _=>(qW ok).2.2.2.2.1]
  dsimp only
  rw [e,← Nat.add_assoc,← Nat.add_assoc,← Nat.add_assoc,List.range_succ,List.map_append,← List.append_assoc] at ih
  have ev:(d.near+(j:Int)+((d.U - (k+1):Nat):Int),d.near+(j:Int)+(((d.U - (k+1):Nat):Int)+5))=wrK d j (d.U - (k+1)):=by
   unfold wrK
   rw [Int.add_assoc (d.near+(j:Int))]
  rw [ev]
  exact ih
theorem Zm {pr:Pr} {L:List (Str×j0)} {cl:Bool} (hB:yj N L (clB W)=cl) (h0:yj N L (Yr W)=true) (h1:yj N L (jcD W)=false):∀ (ws:List Nat) (n:Nat) (p:List Int) (u:Nat),(∀ x∈ws,x=0∨x=1)→(∀ j s,(sxI W n p ws)[j]?=some s→pr.sx[n+j]?=some s)→
  (cl=false→r=(.untrue pr.f "claim" (p++yL ws) 0,u+ws.length+1))→(cl=true→RunsTo prog inp (-1) ⟨⟨pr,cb,N,L,n+(1+3 * ws.length)⟩ :: jE,u+ws.length+1,tk,w⟩ r)→RunsTo prog inp (-1) ⟨⟨pr,cb,N,L,n⟩ :: jE,u,tk,w⟩ r
 | [],n,p,u,_,hs,hf,ht=>by
  have hu:kU N L [clB W]=if cl=true then none else some 0:=by
   unfold kU
   rw [List.findIdx?_cons,hB]
   cases cl <;> rfl
  have hat:=hs 0 _ rfl
  cases cl with
  | true=>exact jcJ hat (by rw [hu];rfl) (ht rfl)
  | false=>
   rw [hf rfl]
   have:=Yt (prog:=prog) (inp:=inp) (cb:=cb) (u:=u) (tk:=tk) (w:=w) (jE:=jE) hat (by rw [hu];rfl)
   unfold yL
   rw [List.flatMap_nil,List.append_nil]
   exact this
 | x :: ws,n,p,u,hx,hs,hf,ht=>by
  have hx':∀ y∈ws,y=0∨y=1:=fun y hy=>hx y (List.mem_cons_of_mem _ hy)
  have el:(x :: ws).length=ws.length+1:=rfl
  rcases hx x List.mem_cons_self with rfl | rfl
  ·have e:sxI W n p (0 :: ws)=.ask (Yr W) [] "" p (n+1) (n+1+(1+3 * ws.length)+1) :: (sxI W (n+1) (p++[0,0]) ws++[.go (n+1+(1+3 * ws.length)+1+1),.do_ (qq nev) (p++[1,0])]):=rfl
   rw [e] at hs
   refine Kp (b:=true) (hs 0 _ rfl) rfl h0 ?_
   rw [if_pos rfl]
   refine Zm hB h0 h1 ws (n+1) (p++[0,0]) (u+1) hx' (fun j s hj=>?_) (fun hc=>?_) (fun hc=>?_)
   ·have:=hs (j+1) s (by rw [List.getElem?_cons_succ,List.getElem?_append_left (List.getElem?_eq_some_iff.mp hj).1];exact hj)
    rw [show n+(j+1)=n+1+j by omega] at this
    exact this
   ·rw [hf hc,el,show u+(ws.length+1)+1=u+1+ws.length+1 by omega,show yL (0 :: ws)=[0,0]++yL ws from rfl,List.append_assoc]
   ·have hg:=hs (1+(1+3 * ws.length)) (.go (n+1+(1+3 * ws.length)+1+1)) (by
     rw [show 1+(1+3 * ws.length)=(1+3 * ws.length)+1 by omega,List.getElem?_cons_succ]
     exact (JZ (i:=0) (zR W _ _ _)).trans rfl)
    rw [← Nat.add_assoc] at hg
    refine jgE hg ?_
    have:=ht hc
    rw [el,show n+(1+3 * (ws.length+1))=n+1+(1+3 * ws.length)+1+1 by omega,show u+(ws.length+1)+1=u+1+ws.length+1 by omega] at this
    exact this
  ·have e:sxI W n p (1 :: ws)=.ask (jcD W) [] "" p (n+1) (n+1+1+1) :: .do_ (qq nev) (p++[0,0]) :: .go (n+1+1+1+(1+3 * ws.length)) :: sxI W (n+1+1+1) (p++[1,0]) ws:=rfl
   rw [e] at hs
   refine Kp (b:=false) (hs 0 _ rfl) rfl h1 ?_
   rw [if_neg Bool.false_ne_true]
   refine Zm hB h0 h1 ws (n+1+1+1) (p++[1,0]) (u+1) hx' (fun j s hj=>?_) (fun hc=>?_) (fun hc=>?_)
   ·have:=hs (j+1+1+1) s (by rw [List.getElem?_cons_succ,List.getElem?_cons_succ,List.getElem?_cons_succ];exact hj)
    rw [show n+(j+1+1+1)=n+1+1+1+j by omega] at this
    exact this
   ·rw [hf hc,el,show u+(ws.length+1)+1=u+1+ws.length+1 by omega,show yL (1 :: ws)=[1,0]++yL ws from rfl,List.append_assoc]
   ·have:=ht hc
    rw [el,show n+(1+3 * (ws.length+1))=n+1+1+1+(1+3 * ws.length) by omega,show u+(ws.length+1)+1=u+1+ws.length+1 by omega] at this
    exact this
theorem jdX (ok:W.Ok) (hp:d.pl < d.many) (hx:∀ x∈d.ways,x=0∨x=1) (hw:d.rounds * d.U≤60):∀ (m j:Nat),j+m=d.rounds→j≤d.keeps→j≤d.claims→
  RunsTo prog inp (-1) ⟨⟨pr2 W d,none,Nv W d (d.near+j),[(W.r,JH d q j)],jbh d j⟩ :: jE,d.A+1+j * kf d,tk,j * d.U⟩ (qX W d q):=by
 intro m
 induction m with
 | zero=>
  intro j hj hk hc
  have hjr:j=d.rounds:=by omega
  have hat:(pr2 W d).sx[jbh d j]?=some (YA W d (kdJ j)):=by
   unfold jbh kdJ
   by_cases h:0 < j
   ·rw [if_pos h,if_pos h,show d.A+2+d.BL=d.A+2+d.U+(1+3 * d.ways.length)+1 by unfold D2.BL;omega,Jw];rfl
   ·rw [if_neg h,if_neg h];exact ja0
  unfold qX
  by_cases hkj:d.keeps≤j
  ·have:j=d.keeps:=by omega
   subst this
   rw [if_pos ⟨hc,by omega⟩]
   have:=J0 (prog:=prog) (inp:=inp) (cb:=none) (jE:=jE) (u:=d.A+1+d.keeps * kf d) (tk:=tk) (w:=d.keeps * d.U) hat (by rw [Jq ok hp,if_pos (Nat.le_refl _)]:kU (Nv W d (d.near+d.keeps)) [(W.r,JH d q d.keeps)] (yy W d)=some d.pl)
   rw [show d.A+1+d.keeps * kf d+1=d.A+2+d.keeps * kf d by omega] at this
   exact this
  ·rw [if_neg (by omega),if_neg (by omega)]
   refine Kp (b:=false) hat (by rw [Jq ok hp,if_neg hkj]) (by unfold je6;rw [yR,(qW ok).2.1,(qW ok).2.2.2.2.1];exact decide_eq_false (by omega)) ?_
   rw [if_neg Bool.false_ne_true]
   refine Ko (x:="out") (t:=.is W.i) (c:=3) (p:=[((d.A+1:Nat):Int)]) (by rw [show d.A+2+d.BL+1=d.A+2+d.U+(1+3 * d.ways.length)+2 by unfold D2.BL;omega,Jw];rfl) ?_
   rw [show ∀ L,(Tm.is W.i).val (Nv W d (d.near+j)) L=d.near+j from fun _=>(qW ok).2.2.2.2.1]
   have e1:∀ z:j0,lkA [(W.r,z)] W.r=some z:=fun z=>by simp [lkA]
   have:=jdV (prog:=prog) (inp:=inp) (pr:=pr2 W d) (N:=kO (Nv W d (d.near+j)) "out" (d.near+j+3)) (L:=[(W.r,JH d q j)]) (i:=d.A+2+d.BL+1+1) (jE:=jE) (u:=d.A+1+j * kf d+1+1) (tk:=tk) (w:=j * d.U) (by rw [show d.A+2+d.BL+1+1=d.A+2+d.U+(1+3 * d.ways.length)+3 by unfold D2.BL;omega,Jw];rfl) rfl (by show qt _ [W.r]=true;simp [qt,e1])
   rw [jin ok,show kB [(W.r,JH d q j)] (pr2 W d).rs=[JH d q j] from by show kB _ [W.r]=_;simp [kB,kY,e1],show d.A+1+j * kf d+1+1=d.A+3+j * kf d by omega,hjr] at this
   rw [hjr,show d.A+1+d.rounds * kf d+1+1=d.A+3+d.rounds * kf d by omega]
   exact this
 | succ m ih=>
  intro j hj hk hc
  have hat:(pr2 W d).sx[jbh d j]?=some (YA W d (kdJ j)):=by
   unfold jbh kdJ
   by_cases h:0 < j
   ·rw [if_pos h,if_pos h,show d.A+2+d.BL=d.A+2+d.U+(1+3 * d.ways.length)+1 by unfold D2.BL;omega,Jw];rfl
   ·rw [if_neg h,if_neg h];exact ja0
  by_cases hkj:d.keeps≤j
  ·have:j=d.keeps:=by omega
   subst this
   unfold qX
   rw [if_pos ⟨hc,by omega⟩]
   have:=J0 (prog:=prog) (inp:=inp) (cb:=none) (jE:=jE) (u:=d.A+1+d.keeps * kf d) (tk:=tk) (w:=d.keeps * d.U) hat (by rw [Jq ok hp,if_pos (Nat.le_refl _)]:kU (Nv W d (d.near+d.keeps)) [(W.r,JH d q d.keeps)] (yy W d)=some d.pl)
   rw [show d.A+1+d.keeps * kf d+1=d.A+2+d.keeps * kf d by omega] at this
   exact this
  ·refine Kp (b:=true) hat (by rw [Jq ok hp,if_neg hkj]) (by unfold je6;rw [yR,(qW ok).2.1,(qW ok).2.2.2.2.1];exact decide_eq_true (by omega)) ?_
   rw [if_pos rfl]
   have hwj:j * d.U+d.U≤60:=by
    have h1:(j+1) * d.U≤d.rounds * d.U:=Nat.mul_le_mul_right _ (by omega)
    rw [Nat.succ_mul] at h1
    omega
   have hputs:=jah (W:=W) (d:=d) (prog:=prog) (inp:=inp) (cb:=none) (jE:=jE) (u:=d.A+1+j * kf d+1) (tk:=tk) (w:=j * d.U) (r:=qX W d q) ok (j:=j) (b:=q.1) (ps:=q.2.1) (ws:=q.2.2++wr2 d j) hwj d.U (Nat.le_refl _)
   rw [Nat.sub_self,List.range_zero,List.map_nil,List.append_nil] at hputs
   refine hputs ?_
   have ew:q.2.2++wr2 d j++(List.range d.U).map (wrK d j)=q.2.2++wr2 d (j+1):=by
    rw [List.append_assoc]
    congr 1
    unfold wr2
    rw [List.range_succ,List.flatMap_append]
    simp
   rw [ew]
   refine Zm (cl:=decide (j < d.claims)) (by unfold clB;rw [yR,(qW ok).2.2.1,(qW ok).2.2.2.2.1,decide_eq_decide];omega) (by unfold Yr;rw [yR,(qW ok).1,(qW ok).2.2.2.2.1];exact decide_eq_true (by omega)) (by unfold jcD;rw [yR,(qW ok).1,(qW ok).2.2.2.2.1];exact decide_eq_false (by omega)) d.ways (d.A+2+d.U) [(d.A:Int),0,(d.U:Int)] _ hx (fun i s hs=>jh8 hs) (fun hcl=>?_) (fun hcl=>?_)
   ·have hcl':=of_decide_eq_false hcl
    have:j=d.claims:=by omega
    subst this
    unfold qX
    rw [if_neg (by omega),if_pos ⟨by omega,by omega⟩,show d.A+1+d.claims * kf d+1+d.U=d.A+2+d.claims * kf d+d.U by omega]
    rfl
   ·have hcl':=of_decide_eq_true hcl
    refine Ko (x:=W.i) (t:=.is W.i) (c:=1) (p:=[(d.A:Int),0,((d.U+1:Nat):Int)]) (by rw [show d.A+2+d.U+(1+3 * d.ways.length)=d.A+2+d.U+(1+3 * d.ways.length)+0 from rfl,Jw];rfl) ?_
    rw [show ∀ L,(Tm.is W.i).val (Nv W d (d.near+j)) L=d.near+j from fun _=>(qW ok).2.2.2.2.1,(jgL ok).1]
    have:=ih (j+1) (by omega) (by omega) (by omega)
    unfold jbh at this
    rw [if_pos (Nat.succ_pos _),show d.near+((j+1:Nat):Int)=d.near+(j:Int)+1 by omega,Nat.succ_mul,Nat.succ_mul,show d.A+2+d.BL=d.A+2+d.U+(1+3 * d.ways.length)+1 by unfold D2.BL;omega,show d.A+1+(j * kf d+kf d)=d.A+1+j * kf d+1+d.U+d.ways.length+1+1 by unfold kf;omega] at this
    exact this
theorem jie (ok:W.Ok) (hp:d.pl < d.many) (hA:0 < d.A) (hx:∀ x∈d.ways,x=0∨x=1) (hw:d.rounds * d.U≤60) (hq:q.2.2=[]):RunsTo [pr2 W d] inp (-1) ⟨[qv (pr2 W d) [d.near,d.near+d.rounds,d.near+d.claims - 1,d.near+d.keeps - 1] [q]],0,0,0⟩ (qX W d q):=by
 show RunsTo _ _ _ ⟨[⟨pr2 W d,none,N0 W d,[(W.r,q)],0⟩],0,0,0⟩ _
 refine jcI ok hA ?_
 refine jdW jf9 ?_
 have:=jdX (prog:=[pr2 W d]) (inp:=inp) (jE:=[]) (tk:=0) (q:=q) ok hp hx hw d.rounds 0 (by omega) (Nat.zero_le _) (Nat.zero_le _)
 unfold jbh at this
 rw [if_neg (Nat.lt_irrefl 0),show JH d q 0=q from by unfold JH wr2;rw [List.range_zero,List.flatMap_nil,List.append_nil],Nat.zero_mul,Nat.zero_mul,show d.near+((0:Nat):Int)=d.near by omega] at this
 rw [show 0+d.A+1=d.A+1+0 by omega]
 exact this
end
end LW
namespace L2
open PySem PySem.Spec PyProof.Rows
theorem jaZ:bootBuiltins "reversed" = some (.type "reversed"):=by decide +kernel
def jeS (K:W.Frag) (l:Addr) (n:Nat):It:=
 ⟨fun i H=>∃ xs,SqL K H l xs∧xs.length=n∧i < n,fun i H x H'=>H'=H∧∀ xs,SqL K H l xs→xs[n - 1 - i]?=some x,fun i _=>n≤i⟩
theorem jdE {P:Program} {w:World} {K:W.Frag} {tg:Expr} (a it:Addr) (n:Nat):Turn P w K tg (jeS K a n) [it] it (fun i h=>i≤n∧h.IsRevIter it a ((n:Int) - 1 - (i:Int))) where
 mem:=by simp
 obj:=fun i h st b hb=>by
  have e:b=it:=by simpa using hb
  subst e
  obtain ⟨_,o,e,c,d⟩:=st
  exact ⟨o,e,fun v z=>by rw [d] at z;cases z⟩
 keep:=fun i h h' st k=>⟨st.1,st.2.at fun o e=>k it (by simp) o e⟩
 item:=by
  intro X hP hw hK hc i pins s σ H E I hf st hg
  subst hP hw hK
  obtain ⟨xs,hq,hn,hi⟩:=hg
  obtain ⟨its,rv,p,hz⟩:=I.list hq
  have hx:xs[n - 1 - i]?=some (xs[n - 1 - i]'(by omega)):=List.getElem?_eq_getElem (by omega)
  obtain ⟨u,hu,ru⟩:=rv.get hx
  obtain ⟨f0,f1,f2,f3,f4,f5⟩:=hf it (by simp)
  have st2:=st.2
  rw [show (n:Int) - 1 - (i:Int)=((n - 1 - i:Nat):Int) by omega] at st2
  refine wpAny_pyNext_rev_item st2 p.isList (x:=u) (by simpa using hu) fun h' st' sb=>?_
  have I1:Inv X pins σ H { s with heap:=h' }:=I.turned (t':=s.toks) (fun b o hb e=>(sb.2 b hb).trans e) f0 f1 f3 f4 f5
  obtain ⟨o,e,c,d⟩:=id st'
  rw [show ((n - 1 - i:Nat):Int) - 1=(n:Int) - 1 - ((i+1:Nat):Int) by omega] at st'
  exact ⟨u,rfl,jcg (s:={ s with heap:=h' }) e c d (by decide) ⟨_,H,I1,ru,⟨rfl,fun ys hy=>by rw [I.list_inj hy hq];exact hx⟩,⟨hi,st'⟩,fun b hb=>(hf b hb).1⟩⟩
 done:=by
  intro X hP hw hK hc i pins s σ H E I hf st hg
  subst hP hw hK
  have hg':n≤i:=hg
  obtain ⟨f0,f1,f2,f3,f4,f5⟩:=hf it (by simp)
  have st2:=st.2
  have h1:=st.1
  rw [show (n:Int) - 1 - (i:Int)=-1 by omega] at st2
  exact wpAny_pyNext_rev_end (I.ok.hd hc) st2 fun h' eb=>⟨rfl,I.turned (t':=s.toks) (fun b o hb e=>eb b o hb e) f0 f1 f3 f4 f5⟩
 self:=fun _ _ _ _ _ st h=>wpAny_pyIter_revIter st.2 h
section
variable {X:Cx} {tg:Expr}
def jh2 (K:W.Frag) (ta:TA):TI:=fun σ H R=>ta σ H fun vs H1=>∃ l xs,vs=[.ref l]∧SqL K H1 l xs∧R (jeS K l xs.length) H1
theorem jgQ {a:Expr} {ta:TA} {p pos:Pos} (hg:Gl X "reversed") (hm:X.mg "reversed" = none) (ha:PA X [a] ta) (hs:starEach [a] X.env=[(false,eval a X.env)]:=by rfl):PI X tg (.Call (.Name "reversed" p) [a] [] pos) (jh2 X.K ta):=by
 intro pins s σ H R I h
 refine Call_ (yx I hg hm jaZ (PyProof.Rows.callWith_type1 (thn (ha pos pins s σ H _ I h) fun us s1 ⟨vs,H1,I1,r1,q1⟩=>?_) hs rfl))
 obtain ⟨l,xs,e,hq,q⟩:=q1
 subst e
 obtain ⟨u,rfl,rx⟩:=yf r1
 cases rx
 obtain ⟨its,rv,pl,hz⟩:=I1.list hq
 refine call_reversed_list pl.isList ?_
 have hn:(its.toArray.size:Int) - 1=(xs.length:Int) - 1 - ((0:Nat):Int):=by have:=rv.length;simp;omega
 have hit:({ s1 with heap:=s1.heap.push (revObj l ((its.toArray.size:Int) - 1)) }:Shared).heap.IsRevIter s1.heap.objs.size l ((xs.length:Int) - 1 - ((0:Nat):Int)):=⟨_,Heap.get?_push_size _ rfl,rfl,by rw [← hn];rfl⟩
 refine wpAny_pyIter_revIter hit ?_
 refine ⟨s1.heap.objs.size,[s1.heap.objs.size],_,_,H1,rfl,I1.kept (t':=s1.toks) fun b o e=>Heap.get?_push_of_some _ e,jdE l _ xs.length,⟨Nat.zero_le _,hit⟩,fun b hb=>?_,q⟩
 have e:b=s1.heap.objs.size:=by simpa using hb
 subst e
 exact I1.fpOk (Nat.le_refl _) (I1.hok.fresh (Nat.le_refl _))
theorem jf0 {K:W.Frag} {a:Addr} {xs:List V} {g:TG} {tb:TS} {D:Ends} {σ:St} {H:Hp} (Pv:Nat→St→Hp→Prop) (h0:Pv 0 σ H) (hl:∀ i σ H,i≤xs.length→Pv i σ H→SqL K H a xs)
  (hs:∀ i x σ H,i < xs.length→xs[xs.length - 1 - i]?=some x→Pv i σ H→g x σ H fun σ2 H2=>tb { D with nx:=Pv (i+1),ct:=Pv (i+1),bk:=D.nx } σ2 H2) (hd:∀ σ H,Pv xs.length σ H→D.nx σ H) :
  ∃ W:Nat→Nat→St→Hp→Prop,(∃ m,W 0 m σ H)∧∀ i m σ H,W i m σ H→
   ((jeS K a xs.length).stop i H∧D.nx σ H)∨((jeS K a xs.length).go i H∧∃ N:St→Hp→Prop,(∀ σ' H',N σ' H'→∃ m',m' < m∧W (i+1) m' σ' H')∧∀ x H',(jeS K a xs.length).yld i H x H'→g x σ H' fun σ2 H2=>tb { D with nx:=N,ct:=N,bk:=D.nx } σ2 H2):=by
 refine ⟨fun i m σ H=>m=xs.length - i∧i≤xs.length∧Pv i σ H,⟨xs.length,by simp,Nat.zero_le _,h0⟩,?_⟩
 rintro i m σ H ⟨rfl,hi,p⟩
 have q:=hl i σ H hi p
 by_cases hlt:i < xs.length
 ·refine .inr ⟨⟨xs,q,rfl,hlt⟩,Pv (i+1),fun σ' H' p'=>⟨xs.length - (i+1),by omega,rfl,hlt,p'⟩,fun x H' y=>?_⟩
  obtain ⟨e,y⟩:=y
  subst e
  exact hs i x σ _ hlt (y xs q) p
 ·have e:i=xs.length:=by omega
  subst e
  exact .inl ⟨Nat.le_refl _,hd σ H p⟩
end
theorem jeY {X:Cx} {tg a:Expr} {ta:TA} {p pos:Pos} (h1:Gl X (Str.ofString "reversed")) (h2:Cx.mg X (Str.ofString "reversed")=none) (h3:QA X [a] ta) (h4:starEach [a] (Cx.env X)=[(false,eval a (Cx.env X))]:=by rfl):QI X tg (Expr.Call (Expr.Name (Str.ofString "reversed") p) [a] [] pos) (jh2 (Cx.K X) ta):=
 ⟨@jgQ _ _ _ _ _ _ h1 h2 h3.h h4⟩
section
variable {X:Cx}
theorem jfD (n:Nat) (hu:X.A.units+1+n < cLine):OpR X (compareOp .NotEq) (fun x y H Q=>∃ a b xs ys,x=.ref a∧y=.ref b∧SqT X.K H a xs∧SqT X.K H b ys∧LikeL X.K H n xs ys∧Q (.bl false) H):=by
 intro pins s σ H x y v u Q I rx ry h
 obtain ⟨a,b,xs,ys,rfl,rfl,ha,hb,⟨hl,hj⟩,q⟩:=h
 cases rx;cases ry
 obtain ⟨its,rva,ta,_⟩:=I.tuple ha
 obtain ⟨its2,rvb,tb,_⟩:=I.tuple hb
 have l3:=rva.length
 have l4:=rvb.length
 have key:=SeqAt.RcNeAt.tuples (A:=X.A) (s:=s) (e:=fun _=>true) (show s.heap.IsTuple a its.toArray from ta) (show s.heap.IsTuple b its2.toArray from tb) (by omega) (Ki hl rva rvb fun j x' y' u' v' e1 e2 r1 r2=>zO I n X.A.in1 x' y' u' v' (by show X.A.units+1+n < cLine;exact hu) (hj j x' y' e1 e2) r1 r2)
 have e:(!((List.range (min its.toArray.size its2.toArray.size)).all (fun _=>true) && its.toArray.size == its2.toArray.size))=false:=by
  have:its.toArray.size=its2.toArray.size:=by simp;omega
  rw [this];simp
 rw [e] at key
 exact key X.prog X.w X.xe _ ⟨.bl false,H,I,rfl,q⟩
end
theorem JW (n:Nat) {X:Cx} {body:List Stmt} {R:TS→Prop} (h:∃ u,QSs X (body.drop n) u∧∀ v,QSs X (body.drop n) v→v=u→∃ t,QSs X body t∧R t):∃ t,QSs X body t∧R t:=by
 obtain ⟨u,hu,k⟩:=h
 exact k u hu rfl
end L2
namespace LW
open PySem L2
abbrev jaf:Stmt:=top 47
abbrev jfi:Stmt:=top 48
def w2L (W:W2):List V:=[.str W.f,.str W.s,.str W.n,.str W.b,.str W.e,.str W.i,.str W.r]
structure D2.Ok (d:D2):Prop where
 A0:1≤d.A
 A3:d.A≤3
 U3:d.U≤3
 m4:d.many≤4
 pl:d.pl < d.many
 w2:d.ways.length≤2
 ws:∀ x∈d.ways,x=0∨x=1
 r9:d.rounds≤9
 c13:d.claims≤13
 k13:d.keeps≤13
def szT (d:D2):List V:=[.int d.U,.int d.many,.int d.pl]
def wyL (d:D2):List V:=d.ways.map fun w:Nat=>V.int (w:Int)
def jdM:Sp:=fun vs H Q _=>∃ (lw ts ly:Addr) (W:W2) (d:D2),vs=[.ref lw,.ref ts,.ref ly]∧H lw=some (.lst (w2L W))∧H ts=some (.tup (szT d))∧H ly=some (.lst (wyL d))∧d.Ok∧∀ u H',Same H H'→Held H' (jb7 W d) u→Q u H'
theorem qP {H:Hp}:∀ {ds ds':List D} {vs vs':List V},HeldL H ds vs→HeldL H ds' vs'→HeldL H (ds++ds') (vs++vs')
 | [],_,vs,_,h,h'=>by rw [jw h];exact h'
 | d :: ds,ds',vs,vs',h,h'=>by
  obtain ⟨v,r,rfl,e1,h2⟩:=jb h
  exact jf e1 (qP h2 h')
theorem YX {H:Hp}:∀ {ds:List D} {vs:List V} {k:Nat} {d:D} {v:V},HeldL H ds vs→Held H d v→HeldL H (ds.set k d) (vs.set k v)
 | [],vs,k,d,v,h,_=>by rw [jw h];exact jt
 | e :: ds,vs,0,d,v,h,hv=>by
  obtain ⟨u,r,rfl,e1,h2⟩:=jb h
  exact jf hv h2
 | e :: ds,vs,k+1,d,v,h,hv=>by
  obtain ⟨u,r,rfl,e1,h2⟩:=jb h
  exact jf e1 (YX h2 hv)
theorem JT {H:Hp} {d:D} {v:V} (h:Held H d v):∀ n,HeldL H (List.replicate n d) (List.replicate n v)
 | 0=>jt
 | n+1=>jf h (JT h n)
theorem jai {α:Type} (n:Nat) (v:α):(List.replicate n [v]).flatten=List.replicate n v:=by
 induction n with
 | zero=>rfl
 | succ n ih=>rw [List.replicate_succ,List.flatten_cons,ih];rfl
section
variable {P:Program} {w:World} {K:W.Frag} {mg:Str→Option Value} {base:Heap}
theorem jfM {f:Addr} {fd:FuncData} (F:Fun K "_law_loop" "_law_loop" jaf f fd) (B:Free0 mg) (Z_reversed:mg "reversed" = none):FnOk P w K mg base CX0 1 f fd ["_law_w","_law_sizes","_law_ways"] jdM:=by
 have sc:FnScope ["_law_w","_law_sizes","_law_ways","_law_f","_law_s","_law_n","_law_b","_law_e","_law_i","_law_r","_law_puts","_law_many","_law_place","_law_keeps","_law_inner","_law_way","_law_test","_law_never","_law_body"] ["_law_w","_law_sizes","_law_ways"] (jl jaf):=fs
 refine F.okZ sc (fun vs H Q E h=>?_) (fun cdv A outer s H vs Q E hr h=>?_)
 ·obtain ⟨lw,ts,ly,W,d,rfl,_⟩:=h
  rfl
 obtain ⟨lw,ts,ly,W,d,rfl,hlw,hts,hly,dok,q⟩:=h
 refine JW 5 ⟨_,(jd (Kh PassesOwn.never rfl (jeY (by rfl) Z_reversed (je (zpv 2) ji)) (js (i:=15) sc.nd rfl ol) (jd (jF (i:=16) sc.nd rfl ol (zpd (jK (jc jX (jc (jK (jc jX (jc (kc 8) jA))) (jc (jK (jc jX (jc (kc 4) jA))) (jc qG jA)))))))
   (jd (jF (i:=17) sc.nd rfl ol (zpd (jK (jc (jK (jc jX (jc (jK (jc jX (jc (jK (jc jX (jc jX jA))) (jc (jK (jc jX (jc jX jA))) (jc qG jA))))) jA))) jA))))
   (jr (zg (kl (jQ kX (zpv 15) jh (jJ _)) (jr (jF (i:=14) sc.nd rfl ol (zpd (jK (jc jX (jc (kc 16) (jc (jK (jc (kc 14) jA)) (jc (kc 17) jA)))))))) (jr (jF (i:=14) sc.nd rfl ol (zpd (jK (jc jX (jc (jK (jc jX (jc (jK (jc jX (jc (kc 4) jA))) (jc (jK (jc jX (jc (kc 8) jA))) (jc qG jA))))) (jc (kc 17) (jc (jK (jc (kc 14) jA)) jA))))))))))))))
   (jd (qS (i:=18) sc.nd rfl ol ["_law_k"] [8,9] rfl (qf (sc:=jl jaf) (N:=["_law_w","_law_sizes","_law_ways","_law_f","_law_s","_law_n","_law_b","_law_e","_law_i","_law_r","_law_puts","_law_many","_law_place","_law_keeps","_law_inner","_law_way","_law_test","_law_never","_law_body"]) rfl rfl (by decide +kernel)) (zh (by rfl) B.range_ (je (zpv 10) ji)) (fun s H ex=>⟨(js (i:=0) (show List.Nodup (["_law_k","_law_i","_law_r"]:List Str) by decide +kernel) rfl ol),qz,(kH (je kh (je (zpv 2) (je (kH (je (zpv 1) (je (zpv 0) ji))) (je (kH (je kh (je (zpv 1) ji))) (je (jC jH (zpv 0) jh) ji))))))⟩))
   (jd (jF (i:=18) sc.nd rfl ol (jC jef (zpv 18) (qd (je (zpv 14) (je (zpd (jK (jc jX (jc (kc 8) (jc (jK (jc jX (jc (kc 8) jA))) (jc qG jA)))))) ji)))))
   (jr (jT (zpd (jK (jc jX (jc (jK (jc jX (jc (jK (jc jX (jc (kc 5) jA))) (jc (jK (jc jX (jc (kc 8) jA))) (jc qG jA))))) (jc (qC (Jz kC (by rfl) B.tuple_ qL (je (zpv 13) ji))) (jc (qC (Jz kC (by rfl) B.tuple_ qL (je (zpv 18) ji))) jA))))))))))),fun vcut hcut ecut=>⟨_,(jd (qA (zpv 0) (je0 rfl (jx (js (i:=3) sc.nd rfl ol) (jx (js (i:=4) sc.nd rfl ol) (jx (js (i:=5) sc.nd rfl ol) (jx (js (i:=6) sc.nd rfl ol) (jx (js (i:=7) sc.nd rfl ol) (jx (js (i:=8) sc.nd rfl ol) (jx (js (i:=9) sc.nd rfl ol) qg)))))))))
   (jd (qA (zpv 1) (qQ rfl (jx (js (i:=10) sc.nd rfl ol) (jx (js (i:=11) sc.nd rfl ol) (jx (js (i:=12) sc.nd rfl ol) qg)))))
   (jd (jF (i:=13) sc.nd rfl ol (jC jec (qd (je (zpd (jK (jc jX (jc (jK (jc jX (jc (kc 8) jA))) (jc (jK (jc jX (jc (kc 4) jA))) (jc qG jA)))))) ji)) (zpv 11)))
   (jd (qA (zpd (jK (jc jX (jc (jK (jc jX (jc (kc 7) jA))) (jc (jK (jc jX (jc (kc 8) jA))) (jc qG jA)))))) (jeZ (zpv 13) (zpv 12) ym))
   (jd (jF (i:=14) sc.nd rfl ol (zpd (jK (jc jX (jc (jK (jc jX (jc (jK (jc jX (jc (kc 6) jA))) (jc (jK (jc jX (jc (kc 8) jA))) (jc qG jA))))) jA)))))
   hcut))))),?_⟩⟩
 refine yg (σ':=[some (.ref lw),some (.ref ts),some (.ref ly),none,none,none,none,none,none,none,none,none,none,none,none,none,none,none,none]) rfl ?_
 refine ⟨_,rfl,lw,_,rfl,SqL.of hlw,rfl,_,_,rfl,?_⟩
 refine gs ?_
 refine ⟨_,_,rfl,?_⟩
 refine gs ?_
 refine ⟨_,_,rfl,?_⟩
 refine gs ?_
 refine ⟨_,_,rfl,?_⟩
 refine gs ?_
 refine ⟨_,_,rfl,?_⟩
 refine gs ?_
 refine ⟨_,_,rfl,?_⟩
 refine gs ?_
 refine ⟨_,_,rfl,?_⟩
 refine gs ?_
 refine ⟨rfl,?_⟩
 refine ⟨_,rfl,ts,_,rfl,SqT.of hts,rfl,_,_,rfl,?_⟩
 refine gs ?_
 refine ⟨_,_,rfl,?_⟩
 refine gs ?_
 refine ⟨_,_,rfl,?_⟩
 refine gs ?_
 refine ⟨rfl,?_⟩
 have hm4:=dok.m4
 have hpl:=dok.pl
 refine ⟨(Cl.least (.is W.i) (.is W.s) 0).toD,⟨_,rfl,Nat.le_of_ble_eq_true rfl,_,_,rfl,rfl,_,_,rfl,⟨_,rfl,Nat.le_of_ble_eq_true rfl,_,_,rfl,rfl,_,_,rfl,⟨_,rfl,jD⟩,rfl⟩,_,_,rfl,⟨_,rfl,Nat.le_of_ble_eq_true rfl,_,_,rfl,rfl,_,_,rfl,⟨_,rfl,jD⟩,rfl⟩,_,_,rfl,rfl,rfl⟩,fun v1 H1 s1 h1=>⟨sm rfl,fun l1 hl1=>⟨_,rfl,l1,(d.many:Int),[v1],rfl,rfl,ja,by omega,by omega,?_,fun cl hcl=>?_⟩⟩⟩
 ·show 1 * ((d.many:Int)).toNat≤sizeLine
  rw [sizeLine_eq]
  omega
 rw [show ((d.many:Int)).toNat=d.many from rfl,jai]
 have g2:=(jG hl1 (.lst [v1])).trans (jG hcl (.lst (List.replicate d.many v1)))
 have s2:=s1.trans g2
 have e2:upd (upd H1 l1 (.lst [v1])) cl (.lst (List.replicate d.many v1)) cl=some (.lst (List.replicate d.many v1)):=ja
 have h1:=h1.mono g2
 have hcl0:H cl=none:=s1.free ((jG hl1 (.lst [v1])).free hcl)
 generalize upd (upd H1 l1 (.lst [v1])) cl (.lst (List.replicate d.many v1))=H2 at *
 refine gs ?_
 refine ⟨(Cl.least (.is W.e) (.is W.i) 0).toD,⟨_,rfl,Nat.le_of_ble_eq_true rfl,_,_,rfl,rfl,_,_,rfl,⟨_,rfl,Nat.le_of_ble_eq_true rfl,_,_,rfl,rfl,_,_,rfl,⟨_,rfl,jD⟩,rfl⟩,_,_,rfl,⟨_,rfl,Nat.le_of_ble_eq_true rfl,_,_,rfl,rfl,_,_,rfl,⟨_,rfl,jD⟩,rfl⟩,_,_,rfl,rfl,rfl⟩,fun v2 H3 s3 h2=>?_⟩
 refine ⟨_,rfl,_,rfl,cl,_,_,d.pl,rfl,rfl,s3 _ _ e2,K3 (by rw [List.length_replicate];exact hpl),?_⟩
 have tkU:TK H3 (upd H3 cl (.lst ((List.replicate d.many v1).set d.pl v2))):=TK.upd (s3 _ _ e2) (fun _ z=>by cases z)
 have hks:HeldL (upd H3 cl (.lst ((List.replicate d.many v1).set d.pl v2))) ((yy W d).map Cl.toD) ((List.replicate d.many v1).set d.pl v2):=by
  unfold yy
  rw [List.map_set,List.map_replicate]
  exact tkU.heldL (YX (JT (h1.mono s3) _) h2)
 have s4:Same H (upd H3 cl (.lst ((List.replicate d.many v1).set d.pl v2))):=fun b o e=>by rw [jg (jk e hcl0)];exact s3 _ _ (s2 _ _ e)
 have e4:upd H3 cl (.lst ((List.replicate d.many v1).set d.pl v2)) cl=some (.lst ((List.replicate d.many v1).set d.pl v2)):=ja
 generalize upd H3 cl (.lst ((List.replicate d.many v1).set d.pl v2))=H4 at *
 clear tkU
 generalize ((List.replicate d.many v1).set d.pl v2)=kvs at *
 refine ⟨(qq (clB W)).toD,⟨_,rfl,Nat.le_of_ble_eq_true rfl,_,_,rfl,rfl,_,_,rfl,⟨_,rfl,Nat.le_of_ble_eq_true rfl,_,_,rfl,rfl,_,_,rfl,⟨_,rfl,Nat.le_of_ble_eq_true rfl,_,_,rfl,rfl,_,_,rfl,⟨_,rfl,jD⟩,rfl⟩,_,_,rfl,⟨_,rfl,Nat.le_of_ble_eq_true rfl,_,_,rfl,rfl,_,_,rfl,⟨_,rfl,jD⟩,rfl⟩,_,_,rfl,rfl,rfl⟩,rfl⟩,fun v3 H5 s5 h3=>?_⟩
 refine gs ?_
 subst ecut
 refine ⟨_,rfl,ly,wyL d,rfl,SqL.of (s5 _ _ (s4 _ _ hly)),?_⟩
 have hwl:(wyL d).length=d.ways.length:=by unfold wyL;rw [List.length_map]
 refine jf0 (xs:=wyL d) (fun i σ G=>∃ (v:V) (u1 u2 u3:Option V),σ=[some (.ref lw),some (.ref ts),some (.ref ly),some (.str W.f),some (.str W.s),some (.str W.n),some (.str W.b),some (.str W.e),some (.str W.i),some (.str W.r),some (.int d.U),some (.int d.many),some (.int d.pl),some (.ref cl),some v,u1,u2,u3,none]∧Same H5 G∧Held G (JQ W (d.ways.drop (d.ways.length - i))) v) ⟨v3,none,none,none,rfl,j5 _,by rw [Nat.sub_zero,List.drop_length];exact h3⟩ ?_ ?_ ?_
 ·rintro i σ G _ ⟨v,u1,u2,u3,rfl,sG,_⟩
  exact SqL.of (sG _ _ (s5 _ _ (s4 _ _ hly)))
 ·rintro i x σ G hi hx ⟨v,u1,u2,u3,rfl,sG,hv⟩
  rw [hwl] at hi hx
  have hlt:d.ways.length - 1 - i < d.ways.length:=by omega
  have ex:x=V.int (d.ways[d.ways.length - 1 - i]:Int):=by
   unfold wyL at hx
   rw [List.getElem?_map,List.getElem?_eq_getElem hlt] at hx
   exact (Option.some.inj hx).symm
  subst ex
  have hdrop:d.ways.drop (d.ways.length - (i+1))=d.ways[d.ways.length - 1 - i] :: d.ways.drop (d.ways.length - i):=by
   rw [show d.ways.length - (i+1)=d.ways.length - 1 - i by omega,List.drop_eq_getElem_cons hlt,show d.ways.length - 1 - i+1=d.ways.length - i by omega]
  generalize d.ways[d.ways.length - 1 - i]=wy at *
  refine gs ?_
  refine ⟨(Yr W).toD,⟨_,rfl,Nat.le_of_ble_eq_true rfl,_,_,rfl,rfl,_,_,rfl,⟨_,rfl,Nat.le_of_ble_eq_true rfl,_,_,rfl,rfl,_,_,rfl,⟨_,rfl,jD⟩,rfl⟩,_,_,rfl,⟨_,rfl,Nat.le_of_ble_eq_true rfl,_,_,rfl,rfl,_,_,rfl,⟨_,rfl,jD⟩,rfl⟩,_,_,rfl,rfl,rfl⟩,fun v4 G1 t1 k1=>?_⟩
  refine gs ?_
  refine ⟨.tup [(qq nev).toD],⟨_,rfl,Nat.le_of_ble_eq_true rfl,_,_,rfl,⟨_,rfl,Nat.le_of_ble_eq_true rfl,_,_,rfl,rfl,_,_,rfl,⟨_,rfl,Nat.le_of_ble_eq_true rfl,_,_,rfl,rfl,_,_,rfl,⟨_,rfl,Nat.le_of_ble_eq_true rfl,_,_,rfl,rfl,_,_,rfl,rfl,rfl⟩,_,_,rfl,⟨_,rfl,Nat.le_of_ble_eq_true rfl,_,_,rfl,rfl,_,_,rfl,rfl,rfl⟩,_,_,rfl,rfl,rfl⟩,rfl⟩,rfl⟩,fun v5 G2 t2 k2=>?_⟩
  refine gs ?_
  have hv2:=(hv.mono t1).mono t2
  refine ⟨fun σ' G'=>∃ (v:V) (u1 u2 u3:Option V),σ'=[some (.ref lw),some (.ref ts),some (.ref ly),some (.str W.f),some (.str W.s),some (.str W.n),some (.str W.b),some (.str W.e),some (.str W.i),some (.str W.r),some (.int d.U),some (.int d.many),some (.int d.pl),some (.ref cl),some v,u1,u2,u3,none]∧Same H5 G'∧Held G' (JQ W (wy :: d.ways.drop (d.ways.length - i))) v,?_,?_⟩
  ·refine ⟨_,rfl,rfl,_,rfl,j7 (fun c=>?_) (fun c=>?_)⟩
   ·have hw0:wy=0:=by have:=of_decide_eq_true c;injection this with this;omega
    refine ⟨.tup [.str "if",(Yr W).toD,.tup [JQ W (d.ways.drop (d.ways.length - i))],.tup [(qq nev).toD]],⟨_,rfl,Nat.le_of_ble_eq_true rfl,_,_,rfl,rfl,_,_,rfl,⟨_,rfl,(k1.mono t2)⟩,_,_,rfl,⟨_,rfl,Nat.le_of_ble_eq_true rfl,_,_,rfl,⟨_,rfl,hv2⟩,rfl⟩,_,_,rfl,⟨_,rfl,k2⟩,rfl⟩,fun v6 G3 t3 k3=>?_⟩
    refine gs ?_
    refine ⟨v6,_,_,_,rfl,sG.trans (t1.trans (t2.trans t3)),?_⟩
    unfold JQ
    rw [if_pos hw0]
    exact k3
   ·have hw0:¬ wy=0:=fun z=>c (decide_eq_true (by rw [z];rfl))
    refine ⟨.tup [.str "if",(jcD W).toD,.tup [(qq nev).toD],.tup [JQ W (d.ways.drop (d.ways.length - i))]],⟨_,rfl,Nat.le_of_ble_eq_true rfl,_,_,rfl,rfl,_,_,rfl,⟨_,rfl,Nat.le_of_ble_eq_true rfl,_,_,rfl,rfl,_,_,rfl,⟨_,rfl,Nat.le_of_ble_eq_true rfl,_,_,rfl,rfl,_,_,rfl,⟨_,rfl,jD⟩,rfl⟩,_,_,rfl,⟨_,rfl,Nat.le_of_ble_eq_true rfl,_,_,rfl,rfl,_,_,rfl,⟨_,rfl,jD⟩,rfl⟩,_,_,rfl,rfl,rfl⟩,_,_,rfl,⟨_,rfl,k2⟩,_,_,rfl,⟨_,rfl,Nat.le_of_ble_eq_true rfl,_,_,rfl,⟨_,rfl,hv2⟩,rfl⟩,rfl⟩,fun v6 G3 t3 k3=>?_⟩
    refine gs ?_
    refine ⟨v6,_,_,_,rfl,sG.trans (t1.trans (t2.trans t3)),?_⟩
    unfold JQ
    rw [if_neg hw0]
    exact k3
  ·rintro σ' G' ⟨v',w1,w2,w3,rfl,sG',hv'⟩
   rw [← hdrop] at hv'
   exact ⟨v',w1,w2,w3,rfl,sG',hv'⟩
 rintro σ G ⟨v,u1,u2,u3,rfl,sG,hv⟩
 rw [hwl,Nat.sub_self,List.drop_zero] at hv
 have s6:=s4.trans (s5.trans sG)
 have s46:=s5.trans sG
 have hU3:=dok.U3
 refine ⟨_,rfl,(d.U:Int),rfl,by omega,by omega,fun bl hbl=>?_⟩
 refine qw (fun i σ' G'=>∃ (u:Option V) (vs:List V),σ'=[u,some (.str W.i),some (.str W.r)]∧Same G G'∧G' bl=some (.lst vs)∧HeldL G' ((List.range i).map fun k=>(jak W k).toD) vs) ⟨none,[],rfl,jj hbl _,ja,jt⟩ ?_ ?_
 ·rintro i σ' G' hi ⟨u,vs,rfl,sG',hGp,hvs⟩
  have hi3:i < d.U:=by simpa using hi
  have hvl:=hvs.length
  rw [List.length_map,List.length_range] at hvl
  unfold qo yK
  refine zZ ?_
  refine ⟨_,rfl,_,rfl,_,rfl,sm rfl,fun p1 hp1=>⟨_,rfl,sm rfl,fun p2 hp2=>?_⟩⟩
  have g1:=jG hp1 (.tup [V.str W.i,V.int (0+(i:Int))])
  have g2:=jG hp2 (.tup [V.str "is",V.str W.i])
  have e1:=g2 _ _ (show upd G' p1 (.tup [V.str W.i,V.int (0+(i:Int))]) p1=some (.tup [V.str W.i,V.int (0+(i:Int))]) from ja)
  have e2:upd (upd G' p1 (.tup [V.str W.i,V.int (0+(i:Int))])) p2 (.tup [V.str "is",V.str W.i]) p2=some (.tup [V.str "is",V.str W.i]):=ja
  have g12:=g1.trans g2
  generalize upd (upd G' p1 (.tup [V.str W.i,V.int (0+(i:Int))])) p2 (.tup [V.str "is",V.str W.i])=G2 at *
  refine ⟨_,rfl,_,_,rfl,rfl,sm rfl,fun p3 hp3=>?_⟩
  dsimp only
  have g3:=jG hp3 (.tup [V.str "put",V.str W.r,V.ref p1,V.ref p2,V.int (0+(i:Int)+5)])
  have e3:upd G2 p3 (.tup [V.str "put",V.str W.r,V.ref p1,V.ref p2,V.int (0+(i:Int)+5)]) p3=some (.tup [V.str "put",V.str W.r,V.ref p1,V.ref p2,V.int (0+(i:Int)+5)]):=ja
  generalize upd G2 p3 (.tup [V.str "put",V.str W.r,V.ref p1,V.ref p2,V.int (0+(i:Int)+5)])=G3 at *
  have e1:=g3 _ _ e1
  have e2:=g3 _ _ e2
  rw [show (0+(i:Int))=(i:Int) by omega] at e1 e3
  have g13:=g12.trans g3
  have hGp3:=g13 _ _ hGp
  have tkU:TK G3 (upd G3 bl (.lst (vs++[.ref p3]))):=TK.upd hGp3 (fun _ z=>by cases z)
  refine ⟨_,hGp3,jz (by omega),_,vs++[.ref p3],rfl,fun b o e=>?_,ja,?_⟩
  ·rw [jg (jk e hbl)];exact g13 _ _ (sG' _ _ e)
  ·rw [KH]
   exact tkU.heldL (qP (hvs.mono g13) (jf (jL e3 (jf jD (jf jD (jf (jL e1 (jf jD (jf jM jt))) (jf (jL e2 (jf jD (jf jD jt))) (jf jM jt)))))) jt))
 rintro σ' H6 ⟨u,vs0,rfl,s66,hbl6,hvs0⟩
 rw [show ((d.U:Nat):Int).toNat=d.U from rfl] at hvs0
 refine gs ?_
 have hvl0:=hvs0.length
 rw [List.length_map,List.length_range] at hvl0
 have hv6:=hv.mono s66
 refine ⟨_,rfl,_,rfl,(Jd W).toD,⟨_,rfl,Nat.le_of_ble_eq_true rfl,_,_,rfl,rfl,_,_,rfl,⟨_,rfl,jD⟩,_,_,rfl,⟨_,rfl,Nat.le_of_ble_eq_true rfl,_,_,rfl,rfl,_,_,rfl,⟨_,rfl,jD⟩,rfl⟩,_,_,rfl,rfl,rfl⟩,fun v7 H7 s7 h7=>⟨sm rfl,fun l8 hl8=>?_⟩⟩
 have s8:=jG hl8 (.lst [v,v7])
 have e8:upd H7 l8 (.lst [v,v7]) l8=some (.lst [v,v7]):=ja
 generalize upd H7 l8 (.lst [v,v7])=H8 at *
 have s78:=s7.trans s8
 refine ⟨bl,l8,vs0,[v,v7],rfl,rfl,s78 _ _ hbl6,e8,Nat.le_trans (by simp;omega) (zG (Nat.le_refl 1000)),fun l9 hl9=>?_⟩
 have s9:=jG hl9 (.lst (vs0++[v,v7]))
 have e9:upd H8 l9 (.lst (vs0++[v,v7])) l9=some (.lst (vs0++[v,v7])):=ja
 generalize upd H8 l9 (.lst (vs0++[v,v7]))=H9 at *
 refine gs ?_
 have hb:HeldL H9 (jcq W d) (vs0++[v,v7]):=qP ((hvs0.mono s78).mono s9) (jf (((hv6.mono s7).mono s8).mono s9) (jf ((h7.mono s8).mono s9) jt))
 have s49:=s46.trans (s66.trans (s78.trans s9))
 have hk9:=hks.mono s49
 have ec9:=s49 _ _ e4
 refine ⟨jb7 W d,⟨_,rfl,Nat.le_of_ble_eq_true rfl,_,_,rfl,rfl,_,_,rfl,⟨_,rfl,Nat.le_of_ble_eq_true rfl,_,_,rfl,rfl,_,_,rfl,⟨_,rfl,Nat.le_of_ble_eq_true rfl,_,_,rfl,rfl,_,_,rfl,⟨_,rfl,jD⟩,rfl⟩,_,_,rfl,⟨_,rfl,Nat.le_of_ble_eq_true rfl,_,_,rfl,rfl,_,_,rfl,⟨_,rfl,jD⟩,rfl⟩,_,_,rfl,rfl,rfl⟩,_,_,rfl,(fun G sG Q q=>⟨_,rfl,cl,_,rfl,.inl ⟨SqL.of (sG _ _ ec9),fun tt htt=>q _ _ (jG htt _) (jL ja ((hk9.mono sG).mono (jG htt _)))⟩⟩),_,_,rfl,(fun G sG Q q=>⟨_,rfl,l9,_,rfl,.inl ⟨SqL.of (sG _ _ e9),fun tt htt=>q _ _ (jG htt _) (jL ja ((hb.mono sG).mono (jG htt _)))⟩⟩),rfl⟩,fun u G' sG' hu=>q u G' (s4.trans (s49.trans sG')) hu⟩
end
def yW (d:D2):Prop:=¬ (d.keeps≤d.claims∧d.keeps≤d.rounds)∧¬ (d.claims < d.rounds∧d.claims < d.keeps)
def jdO (K:W.Frag):Sp:=fun vs H Q _=>∃ (ts ly:Addr) (W:W2) (d:D2),vs=[.str W.f,.int d.A,.ref ts,.ref ly,.int d.rounds,.int d.claims,.int d.keeps]∧H ts=some (.tup (szT d))∧H ly=some (.lst (wyL d))∧d.Ok∧
 (¬ yW d→∀ t v H',Same H H'→(∀ q,EndAt K H' (qX W d q).1 v)→H' t=some (.tup [v,.int (qX W d (0,[],[])).2])→Q (.ref t) H')∧
 (yW d→∀ t H',Same H H'→H' t=some (.tup [.non,.int (qX W d (0,[],[])).2])→Q (.ref t) H')
theorem jbQ {H:Hp} {d:D} {u:Int} {v:V} (h:Held H (.tup [d,.int u]) v):∃ t v',v=.ref t∧H t=some (.tup [v',.int u])∧Held H d v':=by
 obtain ⟨t,xs,rfl,ht,h1⟩:=jp h
 obtain ⟨v1,r1,rfl,e1,h2⟩:=jb h1
 obtain ⟨v2,r2,rfl,e2,h3⟩:=jb h2
 cases jw h3
 cases jV e2
 exact ⟨t,v1,rfl,ht,e1⟩
theorem KC {K:W.Frag} {H:Hp} {f kd:Str} {p:List Int} {k:Nat} {v:V} (h:Held H (.tup [.str "untrue",.str f,.str kd,kW p,.int k]) v):EndAt K H (.untrue f kd p k) v:=by
 obtain ⟨t,xs,rfl,ht,h1⟩:=jp h
 obtain ⟨v1,r1,rfl,e1,h2⟩:=jb h1
 obtain ⟨v2,r2,rfl,e2,h3⟩:=jb h2
 obtain ⟨v3,r3,rfl,e3,h4⟩:=jb h3
 obtain ⟨v4,r4,rfl,e4,h5⟩:=jb h4
 obtain ⟨v5,r5,rfl,e5,h6⟩:=jb h5
 cases jw h6
 cases jv e1
 cases jv e2
 cases jv e3
 cases jV e5
 exact ⟨t,v4,rfl,ht,e4⟩
theorem jgw {α:Type} (b:Bool) (x y:α):atI [x,y] (if b=true then 1 else 0)=some (if b=true then y else x):=by cases b <;> rfl
theorem jhh (d:D2):(3:Int)+(d.U:Int)+((wyL d).length:Int)=((kf d:Nat):Int):=by
 unfold kf wyL
 rw [List.length_map]
 omega
section
variable {P:Program} {w:World} {K:W.Frag} {mg:Str→Option Value} {base:Heap}
theorem jg2 {f:Addr} {fd:FuncData} (F:Fun K "_law_end" "_law_end" jfi f fd) (B:Free0 mg):FnOk P w K mg base CX0 1 f fd ["_law_f","_law_ahead","_law_sizes","_law_ways","_law_rounds","_law_claims","_law_keeps"] (jdO K):=by
 have sc:FnScope ["_law_f","_law_ahead","_law_sizes","_law_ways","_law_rounds","_law_claims","_law_keeps","_law_puts","_law_many","_law_place","_law_each","_law_kind","_law_path","_law_way"] ["_law_f","_law_ahead","_law_sizes","_law_ways","_law_rounds","_law_claims","_law_keeps"] (jl jfi):=fs
 refine F.okZ sc (fun vs H Q E h=>?_) (fun cdv A outer s H vs Q E hr h=>?_)
 ·obtain ⟨ts,ly,W,d,rfl,_⟩:=h
  rfl
 obtain ⟨ts,ly,W,d,rfl,hts,hly,dok,qa,qb⟩:=h
 refine JW 2 ⟨_,(jd (zg (kl (jbO (jQ jb6 (zpv 6) (zpv 5) (jJ _)) (ZW (jQ jb6 (zpv 6) (zpv 4) (jJ _)))).pt (jd (jF (i:=11) sc.nd rfl ol (jO kg (qd (je kh (je kh ji))) (Jz JY (by rfl) B.int_ ZS (je (Kz jee (zpv 6) jh (jJ _)) ji)) (fun _ _=>rfl)))
   (jr (jT (zpd (jK (jc (jK (jc jX (jc (kc 0) (jc (kc 11) (jc (jK (jc (kc 1) jA)) (jc (kc 9) jA)))))) (jc (qC (jC jH (jC jH (zpv 1) jh) (jC qk (zpv 6) (zpv 10)))) jA))))))) jY))
   (jd (zg (kl (jbO (jQ jas (zpv 5) (zpv 4) (jJ _)) (ZW (jQ jas (zpv 5) (zpv 6) (jJ _)))).pt (jd (jF (i:=12) sc.nd rfl ol (zpd (jK (jc (kc 1) (jc qG (jc (kc 7) jA))))))
   (jd (Kh PassesOwn.never rfl (jdu (zpv 3)) (js (i:=13) sc.nd rfl ol) (jr (jF (i:=12) sc.nd rfl ol (jC zM (zpv 12) (zpd (jK (jc (kc 13) (jc qG jA))))))))
   (jr (jT (zpd (jK (jc (jK (jc jX (jc (kc 0) (jc jX (jc (kc 12) (jc qG jA)))))) (jc (qC (jC jH (jC jH (jC jH (jC jH (jC jH (zpv 1) jh) (jC qk (zpv 5) (zpv 10))) (zpv 7)) (zQ j9 (by rfl) B.len_ q5 (je (zpv 3) ji))) jh)) jA)))))))) jY))
   (jr (jT (kH (je kz (je (jC jH (jC jH (zpv 1) jh) (jC qk (zpv 4) (zpv 10))) ji))))))),fun vcut hcut ecut=>⟨_,(jd (qA (zpv 2) (qQ rfl (jx (js (i:=7) sc.nd rfl ol) (jx (js (i:=8) sc.nd rfl ol) (jx (js (i:=9) sc.nd rfl ol) qg)))))
   (jd (jF (i:=10) sc.nd rfl ol (jC jH (jC jH jh (zpv 7)) (zQ j9 (by rfl) B.len_ q5 (je (zpv 3) ji))))
   hcut)),?_⟩⟩
 refine yg (σ':=[some (.str W.f),some (.int d.A),some (.ref ts),some (.ref ly),some (.int d.rounds),some (.int d.claims),some (.int d.keeps),none,none,none,none,none,none,none]) rfl ?_
 refine ⟨_,rfl,ts,_,rfl,SqT.of hts,rfl,_,_,rfl,?_⟩
 refine gs ?_
 refine ⟨_,_,rfl,?_⟩
 refine gs ?_
 refine ⟨_,_,rfl,?_⟩
 refine gs ?_
 refine ⟨rfl,?_⟩
 refine ⟨_,rfl,_,_,rfl,rfl,_,rfl,ly,_,rfl,.inl (SqL.of hly),_,_,rfl,rfl,?_⟩
 dsimp only
 rw [jhh]
 refine gs ?_
 subst ecut
 have hk13:=dok.k13
 have hc13:=dok.c13
 have hr9:=dok.r9
 unfold qX at qa qb
 refine ⟨fun σ' G=>σ'=[some (.str W.f),some (.int d.A),some (.ref ts),some (.ref ly),some (.int d.rounds),some (.int d.claims),some (.int d.keeps),some (.int d.U),some (.int d.many),some (.int d.pl),some (.int (kf d)),none,none,none]∧G=H∧¬ (d.keeps≤d.claims∧d.keeps≤d.rounds),?_,?_⟩
 ·refine ⟨_,rfl,_,rfl,_,_,rfl,rfl,_,rfl,j7 (fun c1=>?_) (fun c1=>K4 ⟨rfl,rfl,fun z=>c1 (decide_eq_true (by omega))⟩)⟩
  refine ⟨_,rfl,_,rfl,_,_,rfl,rfl,_,rfl,j7 (fun c2=>?_) (fun c2=>⟨rfl,rfl,fun z=>c2 (decide_eq_true (by omega))⟩)⟩
  have hc:d.keeps≤d.claims∧d.keeps≤d.rounds:=⟨by have:=of_decide_eq_true c1;omega,by have:=of_decide_eq_true c2;omega⟩
  have nd:¬ yW d:=fun z=>z.1 hc
  refine ⟨sm rfl,fun l1 hl1=>⟨_,rfl,_,_,rfl,rfl,.inr ⟨_,rfl,l1,_,_,_,rfl,rfl,SqL.of ja,jgw _ _ _,?_⟩⟩⟩
  have ek:(if decide ((0:Int) < (d.keeps:Int))=true then V.str "keep" else V.str "enter")=V.str (kdJ d.keeps):=by
   unfold kdJ
   by_cases h:0 < d.keeps
   ·rw [if_pos h,if_pos (decide_eq_true (by omega))]
   ·rw [if_neg h,if_neg (fun z=>h (by have:=of_decide_eq_true z;omega))]
  rw [ek]
  have s1:=jG hl1 (.lst [V.str "enter",V.str "keep"])
  generalize upd H l1 (.lst [V.str "enter",V.str "keep"])=H1 at *
  refine gs ?_
  refine ⟨.tup [.tup [.str "untrue",.str W.f,.str (kdJ d.keeps),kW [(d.A:Int)],.int d.pl],.int ((d.A+2+d.keeps * kf d:Nat):Int)],⟨_,rfl,Nat.le_of_ble_eq_true rfl,_,_,rfl,⟨_,rfl,Nat.le_of_ble_eq_true rfl,_,_,rfl,rfl,_,_,rfl,⟨_,rfl,jD⟩,_,_,rfl,⟨_,rfl,jD⟩,_,_,rfl,⟨_,rfl,Nat.le_of_ble_eq_true rfl,_,_,rfl,⟨_,rfl,jM⟩,rfl⟩,_,_,rfl,⟨_,rfl,jM⟩,rfl⟩,_,_,rfl,(fun G sG Q q=>⟨_,rfl,_,_,rfl,rfl,_,rfl,_,rfl,_,_,rfl,rfl,.inl ⟨by omega,by omega⟩,_,_,rfl,rfl,q _ G (j5 G) (by show Held G _ (V.int ((d.A:Int)+2+(d.keeps:Int) * (kf d:Int)));rw [show (d.A:Int)+2+(d.keeps:Int) * (kf d:Int)=((d.A+2+d.keeps * kf d:Nat):Int) by simp only [Int.natCast_add,Int.natCast_mul];rfl];exact jM)⟩),rfl⟩,fun v G sG hv=>?_⟩
  obtain ⟨t,v',rfl,ht,hv'⟩:=jbQ hv
  have qa:=qa nd
  simp only [if_pos hc] at qa
  exact qa t v' G (s1.trans sG) (fun _=>KC hv') ht
 rintro σ' G ⟨rfl,rfl,hn1⟩
 simp only [if_neg hn1] at qa qb
 refine ⟨fun σ' G'=>σ'=[some (.str W.f),some (.int d.A),some (.ref ts),some (.ref ly),some (.int d.rounds),some (.int d.claims),some (.int d.keeps),some (.int d.U),some (.int d.many),some (.int d.pl),some (.int (kf d)),none,none,none]∧G'=G∧¬ (d.claims < d.rounds∧d.claims < d.keeps),?_,?_⟩
 ·refine ⟨_,rfl,_,rfl,_,_,rfl,rfl,_,rfl,j7 (fun c1=>?_) (fun c1=>K4 ⟨rfl,rfl,fun z=>c1 (decide_eq_true (by omega))⟩)⟩
  refine ⟨_,rfl,_,rfl,_,_,rfl,rfl,_,rfl,j7 (fun c2=>?_) (fun c2=>⟨rfl,rfl,fun z=>c2 (decide_eq_true (by omega))⟩)⟩
  have hc:d.claims < d.rounds∧d.claims < d.keeps:=⟨by have:=of_decide_eq_true c1;omega,by have:=of_decide_eq_true c2;omega⟩
  have nd:¬ yW d:=fun z=>z.2 hc
  refine ⟨kW [(d.A:Int),0,(d.U:Int)],⟨_,rfl,Nat.le_of_ble_eq_true rfl,_,_,rfl,⟨_,rfl,jM⟩,_,_,rfl,rfl,_,_,rfl,⟨_,rfl,jM⟩,rfl⟩,fun v1 G1 t1 k1=>?_⟩
  refine gs ?_
  refine ⟨_,rfl,ly,rfl,⟨_,SqL.of (t1 _ _ hly)⟩,?_⟩
  have hwl:(wyL d).length=d.ways.length:=by unfold wyL;rw [List.length_map]
  have hw2:=dok.w2
  refine K7 (xs:=wyL d) (fun i σ' G'=>∃ (v:V) (u:Option V),σ'=[some (.str W.f),some (.int d.A),some (.ref ts),some (.ref ly),some (.int d.rounds),some (.int d.claims),some (.int d.keeps),some (.int d.U),some (.int d.many),some (.int d.pl),some (.int (kf d)),none,some v,u]∧Same G1 G'∧Held G' (kW ([(d.A:Int),0,(d.U:Int)]++yL (d.ways.take i))) v) ⟨v1,none,rfl,j5 _,k1⟩ ?_ ?_ ?_
  ·rintro i σ' G' _ ⟨v,u,rfl,sG',_⟩
   exact SqL.of (sG' _ _ (t1 _ _ hly))
  ·rintro i x σ' G' hx ⟨v,u,rfl,sG',hv⟩
   have hlt:i < d.ways.length:=by have:=(List.getElem?_eq_some_iff.mp hx).1;omega
   have ex:x=V.int (d.ways[i]:Int):=by
    unfold wyL at hx
    rw [List.getElem?_map,List.getElem?_eq_getElem hlt] at hx
    exact (Option.some.inj hx).symm
   subst ex
   have htk:yL (d.ways.take (i+1))=yL (d.ways.take i)++[((d.ways[i]:Nat):Int),0]:=by
    unfold yL
    rw [List.take_succ,List.getElem?_eq_getElem hlt,List.flatMap_append]
    rfl
   have hpl:(yL (d.ways.take i)).length≤4:=by
    have:∀ ws:List Nat,(yL ws).length=2 * ws.length:=fun ws=>by
     induction ws with
     | nil=>rfl
     | cons a r ih=>
      have e:yL (a :: r)=[(a:Int),0]++yL r:=rfl
      rw [e,List.length_append,ih,List.length_cons]
      simp only [List.length_cons,List.length_nil]
      omega
    rw [this,List.length_take]
    omega
   generalize d.ways[i]=wy at *
   refine gs ?_
   refine ⟨_,rfl,.tup [.int wy,.int 0],⟨_,rfl,Nat.le_of_ble_eq_true rfl,_,_,rfl,⟨_,rfl,jM⟩,_,_,rfl,rfl,rfl⟩,fun vv G3 sG3 hvv=>?_⟩
   obtain ⟨ta,txs,rfl,hta,htxs⟩:=jp hvv
   obtain ⟨tb,tbs,rfl,htb,htbs⟩:=jp (hv.mono sG3)
   have l1:=htxs.length
   have l2:=htbs.length
   refine ⟨tb,ta,tbs,txs,rfl,rfl,htb,hta,Nat.le_trans (by simp at l1 l2;omega) (zG (Nat.le_refl 1000)),fun p G4 sG4 hp=>?_⟩
   refine gs ?_
   refine ⟨.ref p,_,rfl,sG'.trans (sG3.trans sG4),?_⟩
   rw [htk,← List.append_assoc]
   unfold kW
   rw [List.map_append]
   exact jL hp (qP (htbs.mono sG4) (htxs.mono sG4))
  rintro σ' G' ⟨v,u,rfl,sG',hv⟩
  rw [hwl,List.take_length] at hv
  have s2:=t1.trans sG'
  refine ⟨.tup [.tup [.str "untrue",.str W.f,.str "claim",kW ([(d.A:Int),0,(d.U:Int)]++yL d.ways),.int ((0:Nat):Int)],.int ((d.A+2+d.claims * kf d+d.U+d.ways.length+1:Nat):Int)],⟨_,rfl,Nat.le_of_ble_eq_true rfl,_,_,rfl,⟨_,rfl,Nat.le_of_ble_eq_true rfl,_,_,rfl,rfl,_,_,rfl,⟨_,rfl,jD⟩,_,_,rfl,rfl,_,_,rfl,⟨_,rfl,hv⟩,_,_,rfl,rfl,rfl⟩,_,_,rfl,(fun G2 sG2 Q q=>⟨_,rfl,_,_,rfl,rfl,_,rfl,_,rfl,_,_,rfl,rfl,.inl ⟨by omega,by omega⟩,_,_,rfl,rfl,_,rfl,_,_,rfl,rfl,_,rfl,ly,_,rfl,.inl (SqL.of (sG2 _ _ (s2 _ _ hly))),_,_,rfl,rfl,_,_,rfl,rfl,q _ G2 (j5 G2) (by show Held G2 _ (V.int ((d.A:Int)+2+(d.claims:Int) * (kf d:Int)+(d.U:Int)+((wyL d).length:Int)+1));rw [hwl,show (d.A:Int)+2+(d.claims:Int) * (kf d:Int)+(d.U:Int)+(d.ways.length:Int)+1=((d.A+2+d.claims * kf d+d.U+d.ways.length+1:Nat):Int) by simp only [Int.natCast_add,Int.natCast_mul];rfl];exact jM)⟩),rfl⟩,fun v2 G2 sG2 hv2=>?_⟩
  obtain ⟨t,v',rfl,ht,hv'⟩:=jbQ hv2
  have qa:=qa nd
  simp only [if_pos hc] at qa
  exact qa t v' G2 (s2.trans sG2) (fun _=>KC hv') ht
 rintro σ' G' ⟨rfl,rfl,hn2⟩
 simp only [if_neg hn2] at qb
 have qb:=qb ⟨hn1,hn2⟩
 refine ⟨_,rfl,_,_,rfl,rfl,_,rfl,_,rfl,_,_,rfl,rfl,.inl ⟨by omega,by omega⟩,_,_,rfl,rfl,sm rfl,fun t ht=>?_⟩
 refine qb t _ (jG ht _) ?_
 rw [ja]
 dsimp only
 rw [show (d.A:Int)+3+(d.rounds:Int) * (kf d:Int)=((d.A+3+d.rounds * kf d:Nat):Int) by simp only [Int.natCast_add,Int.natCast_mul];rfl]
end
abbrev J9:Stmt:=top 49
def jbY (K:W.Frag):Sp:=fun vs H Q _=>∃ (a:Addr) (ns:List Int),vs=[.ref a]∧SqL K H a (ns.map V.int)∧ns.length≤63∧∀ H',Q (.bl true) H'
theorem jio {ws:List Str} (h:ws.length=7):∃ a b c d e f g,ws=[a,b,c,d,e,f,g]:=by
 match ws,h with
 | [a,b,c,d,e,f,g],_=>exact ⟨a,b,c,d,e,f,g,rfl⟩
theorem jip {α:Type} {xs:List α} (h:xs.length=3):∃ a b c,xs=[a,b,c]:=by
 match xs,h with
 | [a,b,c],_=>exact ⟨a,b,c,rfl⟩
theorem jhv {f s n b e i r:Str} (h:WordsOk [f,s,n,b,e,i,r] 7):W2.Ok ⟨f,s,n,b,e,i,r⟩:=by
 have nd:=h.nd
 refine ⟨?_,fun x hx=>⟨h.ne x ?_,h.out x ?_⟩⟩
 ·exact (List.nodup_append.mp (show ([s,n,b,e,i]++[r]).Nodup from (List.nodup_cons.mp nd).2)).1
 ·exact List.mem_cons_of_mem _ (List.mem_append_left [r] hx)
 ·exact List.mem_cons_of_mem _ (List.mem_append_left [r] hx)
theorem jhw {kind:Int} (h0:0≤kind) (h1:kind < 3) (a b c:Int):∃ x,atI [V.int a,V.int b,V.int c] kind=some (.int x)∧(x=a∨x=b∨x=c):=by
 have:kind=0∨kind=1∨kind=2:=by omega
 rcases this with rfl | rfl | rfl
 ·exact ⟨a,rfl,.inl rfl⟩
 ·exact ⟨b,rfl,.inr (.inl rfl)⟩
 ·exact ⟨c,rfl,.inr (.inr rfl)⟩
theorem ZM {d:D2} (h:d.Ok) {x:Nat} (hx:x≤13):x * kf d≤104:=by
 have h1:=h.U3
 have h2:=h.w2
 have:kf d≤8:=by unfold kf;omega
 calc x * kf d≤13 * 8:=Nat.mul_le_mul hx this
  _=104:=rfl
theorem jdh {W:W2} {d:D2} {q:j0} (h:d.Ok):(qX W d q).2≤390∧(qX W d q).1≠.stuck∧(qX W d q).2=(qX W d (0,[],[])).2:=by
 have a3:=h.A3
 have u3:=h.U3
 have w2:=h.w2
 have k:=ZM h h.k13
 have c:=ZM h h.c13
 have r:=ZM h (Nat.le_trans h.r9 (by decide))
 unfold qX
 by_cases h1:d.keeps≤d.claims∧d.keeps≤d.rounds
 ·simp only [if_pos h1]
  exact ⟨by omega,(fun z=>by cases z),by first | rfl | trivial⟩
 ·simp only [if_neg h1]
  by_cases h2:d.claims < d.rounds∧d.claims < d.keeps
  ·simp only [if_pos h2]
   exact ⟨by omega,(fun z=>by cases z),by first | rfl | trivial⟩
  ·simp only [if_neg h2]
   exact ⟨by omega,(fun z=>by cases z),by first | rfl | trivial⟩
theorem jeI {W:W2} {d:D2} {q:j0}:∀ o h,(qX W d q).1=.done o h→h.length≤100:=by
 intro o h e
 unfold qX at e
 split at e
 ·cases e
 ·split at e
  ·cases e
  ·cases e;exact Nat.le_of_ble_eq_true rfl
theorem jdi {W:W2} {d:D2} {q:j0} (h:yW d):(qX W d q).1=.done (d.near+d.rounds+3) [JH d q d.rounds]:=by
 unfold qX
 rw [if_neg h.1,if_neg h.2]
theorem jfJ {H:Hp} {z:Str} {v:V} (h:Held H (.tup [.str z]) v):∃ t,v=.ref t∧H t=some (.tup [.str z]):=by
 obtain ⟨t,xs,rfl,ht,h1⟩:=jp h
 obtain ⟨v1,r1,rfl,e1,h2⟩:=jb h1
 cases jw h2
 cases jv e1
 exact ⟨t,rfl,ht⟩
theorem jaT:∀ ps:List (Int×Int),D.depthL (ps.map pD)≤1
 | []=>by unfold List.map D.depthL;decide
 | a :: r=>by
  rw [List.map_cons]
  unfold D.depthL
  have h1:=jaT r
  have h2:(pD a).depth=1:=rfl
  omega
theorem EndAt.hd {K:W.Frag} {H:Hp}:∀ {e:En} {v:V},EndAt K H e v→∃ t k xs,v=.ref t∧H t=some (.tup (.str k :: xs))∧(k = "done"→∃ o h,e=.done o h)
 | .done o h,_,⟨t,hl,vs,h1,h2,_⟩=>⟨t,_,_,h1,h2,fun _=>⟨o,h,rfl⟩⟩
 | .spent,_,⟨t,h1,h2⟩=>⟨t,_,_,h1,h2,fun z=>absurd z (by decide)⟩
 | .asks,_,⟨t,h1,h2⟩=>⟨t,_,_,h1,h2,fun z=>absurd z (by decide)⟩
 | .deep,_,⟨t,h1,h2⟩=>⟨t,_,_,h1,h2,fun z=>absurd z (by decide)⟩
 | .untrue _ _ _ _,_,⟨t,vp,h1,h2,_⟩=>⟨t,_,_,h1,h2,fun z=>absurd z (by decide)⟩
theorem jb4 {K:W.Frag} {H:Hp} {Q:VK} {E:XK} {vs:List V} {pg nl rl il:Addr} {W:W2} {d:D2} {q:j0} {most:Int} {e2:En} {u2:Nat} (e:vs=[.ref pg,.str W.f,.ref nl,.ref rl,.ref il,.int most]) (hR:RunAt K 4 H pg nl rl il [pr2 W d] (pr2 W d) [d.near,d.near+d.rounds,d.near+d.claims - 1,d.near+d.keeps - 1] [q] [])
  (g1:RunsTo [pr2 W d] [] most ⟨[qv (pr2 W d) [d.near,d.near+d.rounds,d.near+d.claims - 1,d.near+d.keeps - 1] [q]],0,0,0⟩ (e2,u2)) (g2:e2≠.stuck) (g3:u2≤390)
  (C:∀ t v H',Same H H'→EndAt K H' e2 v→NewL H H' v→H' t=some (.tup [v,.int u2])→Q (.ref t) H'):jdK K 4 vs H Q E:=
 ⟨pg,nl,rl,il,_,pr2 W d,_,_,_,most,e,hR,fun k hk=>absurd (show kU _ _ []=some k from hk) (by intro z;cases z),fun _=>⟨e2,u2,g1,g2,g3,C⟩⟩
theorem jdY {K:W.Frag} {H:Hp} {pg nl rl il:Addr} {W:W2} {d:D2} {q:j0} {pvs:List V} {rv:V} {R:List (Int×Int)} (ok:W.Ok) (dok:d.Ok) (hpg:H pg=some (.tup pvs)) (hpv:HeldL H [(pr2 W d).toD] pvs) (hnl:H nl=some (.lst [.int d.near,.int (d.near+d.rounds),.int (d.near+d.claims - 1),.int (d.near+d.keeps - 1)])) (hrl:H rl=some (.lst [rv])) (hrv:Held H (Ka q.1 R) rv) (hc:Canon q.1 R) (hlen:R.length≤40+2 * q.2.2.length) (heq:∀ z,jN q.1 R z=kr q z) (hil:H il=some (.lst [])) (w1:q.2.2=[]):RunAt K 4 H pg nl rl il [pr2 W d] (pr2 W d) [d.near,d.near+d.rounds,d.near+d.claims - 1,d.near+d.keeps - 1] [q] []:=by
 refine ⟨⟨pvs,hpg,hpv⟩,by simp,by show 1≤100;decide,fun Q hQ=>?_,by decide,by simp,hnl,⟨_,hrl,⟨R,yp hrv,hc,hlen,heq⟩,trivial⟩,hil,rfl,rfl,?_,by simp [pr2],by show 4≤100;decide,fun q' hq'=>?_⟩
 ·rw [List.mem_singleton.mp hQ];exact jgP W d dok.A3 dok.U3 dok.w2
 ·exact (List.nodup_append.mp (show ([W.s,W.n,W.b,W.e]++[W.i]).Nodup from ok.nd)).1
 ·rw [List.mem_singleton.mp hq',w1];exact Nat.le_refl _
theorem jf3 {K:W.Frag} {H:Hp} {Q:VK} {E:XK} {vs:List V} {ts ly:Addr} {W:W2} {d:D2} (e:vs=[.str W.f,.int d.A,.ref ts,.ref ly,.int d.rounds,.int d.claims,.int d.keeps]) (h1:H ts=some (.tup (szT d))) (h2:H ly=some (.lst (wyL d))) (dok:d.Ok)
  (C:∀ t v H',Same H H'→((¬ yW d∧∀ q,EndAt K H' (qX W d q).1 v)∨(yW d∧v=.non))→H' t=some (.tup [v,.int (qX W d (0,[],[])).2])→Q (.ref t) H'):jdO K vs H Q E:=
 ⟨ts,ly,W,d,e,h1,h2,dok,fun hn t v H' s hE ht=>C t v H' s (.inl ⟨hn,hE⟩) ht,fun hd t H' s ht=>C t .non H' s (.inr ⟨hd,rfl⟩) ht⟩
section
variable {P:Program} {w:World} {K:W.Frag} {mg:Str→Option Value} {base:Heap}
theorem jg1 {f:Addr} {fd:FuncData} (F:Fun K "law" "law" J9 f fd) (B:Free0 mg) (F_cell_at:Fn P w K mg base 1 "_law_cell_at" ["_law_script","_law_k"] (jdP K)) (F_words:Fn P w K mg base 1 "_law_words" ["_law_cell","_law_many"] jbV) (F_made:Fn P w K mg base 2 "_law_made" ["_law_seed","_law_near"] jdL)
  (F_loop:Fn P w K mg base 1 "_law_loop" ["_law_w","_law_sizes","_law_ways"] jdM) (F_end:Fn P w K mg base 1 "_law_end" ["_law_f","_law_ahead","_law_sizes","_law_ways","_law_rounds","_law_claims","_law_keeps"] (jdO K)) (F_stairs:Fn P w K mg base 2 "_law_stairs" ["_law_row"] (YG K)) (F_run:Fn P w K mg base 14 "run" ["program","f","numbers","rows","inputs","most"] (jdK K 4)):FnOk P w K mg base CX0 15 f fd ["_law_script"] (jbY K):=by
 have sc:FnScope ["_law_script","_law_w","_law_near","_law_sizes","_law_ways","_law_rounds","_law_claims","_law_keeps","_law_ahead","_law_row","_law_body","_law_program","_law_given","_law_end_here","_law_used","_law_base","_law_steps","_law_writes","_law_i","_law_most","_law_held","_law_found"] ["_law_script"] (jl J9):=fs
 refine F.okZ sc (fun vs H Q E h=>?_) (fun cdv A outer s H vs Q E hr h=>?_)
 ·obtain ⟨a,ns,rfl,_⟩:=h
  rfl
 obtain ⟨a,ns,rfl,hS,hln,q⟩:=h
 have hu:=yO hr
 have hu5:(A.deeper (PyProof.Rows.envOfC "law" (jl J9) s.heap.objs.size f cdv)).units+1+5 < cLine:=by have:=hr.units;omega
 have hu3:(A.deeper (PyProof.Rows.envOfC "law" (jl J9) s.heap.objs.size f cdv)).units+1+3 < cLine:=by have:=hr.units;omega
 refine JW 22 ⟨_,(jd (kl (Y8 (jQ (jfD 5 hu5) (zpv 21) (kH (je (zpv 13) (je (zpv 14) ji))) (jJ _)) (jbN (jQ (jfE 3 hu3) (zpv 20) (qd (je (jR F_stairs hr (je (zpv 9) ji)) ji)) (jJ _)))).pt (jr (jT jdw)) jY)
   (jd (zg (kl (jQ kX (jO jP (zpv 13) jh (fun _ _=>rfl)) kh (jJ _)) (jr (zE (Zb PySem.F.plainAttrs_list PySem.F.slot_list_append PySem.F.type_list_append kF (jO jP (jO jP (zpv 21) jh (fun _ _=>rfl)) jh (fun _ _=>rfl)) (je (zpd (jK (jc qG (jc (jK jA) jA)))) ji)))) jY))
   (jr (jT (je3 (Kz (jfF 5 hu5) (jR F_run hr (je (zpv 11) (je (jO kg (zpv 1) jh (fun _ _=>rfl)) (je (zpv 12) (je (zpv 20) (je (qd ji) (je (zpv 19) ji))))))) (kH (je (zpv 13) (je (zpv 14) ji))) (jJ _)) (je1 (Kz (jfG 3 hu3) (zpv 20) (qd (je (jR F_stairs hr (je (zpv 9) ji)) ji)) (jJ _)))))))),fun vcut3 hcut3 ecut3=>JW 19 ⟨_,(jd (jF (i:=20) sc.nd rfl ol (qd (je (jR F_stairs hr (je (zpv 9) ji)) ji)))
   (jd (jF (i:=21) sc.nd rfl ol (jR F_run hr (je (zpv 11) (je (jO kg (zpv 1) jh (fun _ _=>rfl)) (je (zpv 12) (je (zpv 20) (je (qd ji) (je (zpv 19) ji))))))))
   (jd (kl (Y8 (Y9 (y7 (zQ yA (by rfl) B.isinstance_ zD (je (zpv 21) (je (KA (v:=.ty "tuple") (by rfl) B.tuple_ qL (by rfl)) ji))))) (Y8 (jQ jed (zQ j9 (by rfl) B.len_ q5 (je (zpv 21) ji)) jh (jJ _)) (Y8 (Y9 (y7 (zQ yA (by rfl) B.isinstance_ zD (je (jO jP (zpv 21) jh (fun _ _=>rfl)) (je (KA (v:=.ty "int") (by rfl) B.int_ ZS (by rfl)) ji))))) (jbN (y7 (zQ yA (by rfl) B.isinstance_ zD (je (jO jP (zpv 21) jh (fun _ _=>rfl)) (je (KA (v:=.ty "bool") (by rfl) B.bool_ jf6 (by rfl)) ji)))))))).pt (jr (jT jdw)) jY)
   hcut3))),fun vcut2 hcut2 ecut2=>JW 14 ⟨_,(jd (qA (jR F_end hr (je (jO kg (zpv 1) jh (fun _ _=>rfl)) (je (zpv 8) (je (zpv 3) (je (zpv 4) (je (zpv 5) (je (zpv 6) (je (zpv 7) ji)))))))) (qQ rfl (jx (js (i:=13) sc.nd rfl ol) (jx (js (i:=14) sc.nd rfl ol) qg))))
   (jd (zg (kl (jQ Zn (zpv 13) kz (jJ _)) (jd (qA (zpv 9) (qQ rfl (jx (js (i:=15) sc.nd rfl ol) (jx (js (i:=16) sc.nd rfl ol) (jx (js (i:=17) sc.nd rfl ol) qg)))))
   (jd (Kh PassesOwn.never rfl (zh (by rfl) B.range_ (je (zpv 5) ji)) (js (i:=18) sc.nd rfl ol) (jr (jF (i:=17) sc.nd rfl ol (jC zM (zpv 17) (Jz kC (by rfl) B.tuple_ qL (je (ZX ["_law_k"] [2,18] rfl (qf (sc:=jl J9) (N:=["_law_script","_law_w","_law_near","_law_sizes","_law_ways","_law_rounds","_law_claims","_law_keeps","_law_ahead","_law_row","_law_body","_law_program","_law_given","_law_end_here","_law_used","_law_base","_law_steps","_law_writes","_law_i","_law_most","_law_held","_law_found"]) rfl rfl (by decide +kernel)) (zh (by rfl) B.range_ (je (jO jP (zpv 3) jh (fun _ _=>rfl)) ji)) (fun s H ex=>⟨(js (i:=0) (show List.Nodup (["_law_k","_law_near","_law_i"]:List Str) by decide +kernel) rfl ol),qz,(kH (je (jC jH (jC jH (zpv 1) (zpv 2)) (zpv 0)) (je (jC jH (jC jH (jC jH (zpv 1) (zpv 2)) (zpv 0)) jh) ji)))⟩)) ji))))))
   (jr (jF (i:=13) sc.nd rfl ol (kH (je kh (je (jC jH (jC jH (zpv 2) (zpv 5)) jh) (je (qd (je (jR F_stairs hr (je (zpd (jK (jc (kc 15) (jc (kc 16) (jc (kc 17) jA))))) ji)) ji)) ji)))))))) jY))
   (jd (jF (i:=19) sc.nd rfl ol (jC jH (zpv 14) (jO kg (qd (je jh (je jh (je (jC qY jh (zpv 14)) ji)))) (jC j6 (jR F_cell_at hr (je (zpv 0) (je jh ji))) jh) (fun _ _=>rfl))))
   (jd (zg (kl (jQ kX (jC j6 (jC kN (jR F_cell_at hr (je (zpv 0) (je jh ji))) jh) jh) jh (jJ _)) (jr (jF (i:=19) sc.nd rfl ol (jC j6 (jR F_cell_at hr (je (zpv 0) (je jh ji))) (jC jH (zpv 14) jh)))) jY))
   (jd (zg (kl (jQ jas (zpv 19) (zpv 14) (jJ _)) (jd (jF (i:=13) sc.nd rfl ol (zpd (jK (jc jX jA))))
   (jr (jF (i:=14) sc.nd rfl ol (zpv 19)))) jY))
   hcut2))))),fun vcut hcut ecut=>JW 7 ⟨_,(jd (jF (i:=7) sc.nd rfl ol (jC j6 (jR F_cell_at hr (je (zpv 0) (je jh ji))) jh))
   (jd (jF (i:=8) sc.nd rfl ol (jC jH jh (jC j6 (jR F_cell_at hr (je (zpv 0) (je jh ji))) jh)))
   (jd (jF (i:=9) sc.nd rfl ol (jR F_made hr (je (jC j6 (jR F_cell_at hr (je (zpv 0) (je jh ji))) jh) (je (zpv 2) ji))))
   (jd (jF (i:=10) sc.nd rfl ol (jC jec (qd (je (zpd (jK (jc jX (jc (qC (jO kg (zpv 1) jh (fun _ _=>rfl))) (jc (jK (jc jX (jc (qC (jO kg (zpv 1) jh (fun _ _=>rfl))) jA))) (jc qG jA)))))) ji)) (zpv 8)))
   (jd (jF (i:=10) sc.nd rfl ol (jC jef (zpv 10) (qd (je (jR F_loop hr (je (zpv 1) (je (zpv 3) (je (zpv 4) ji)))) (je (zpd (jK (jc jX (jc jX (jc (jK (jc jX (jc (qC (jO kg (zpv 1) jh (fun _ _=>rfl))) jA))) (jc qG jA)))))) ji)))))
   (jd (jF (i:=11) sc.nd rfl ol (zpd (jK (jc (jK (jc jX (jc (qC (jO kg (zpv 1) jh (fun _ _=>rfl))) (jc (qC (Jz kC (by rfl) B.tuple_ qL (je (qN jfc (zpv 1) (qB jh) (qB jh)) ji))) (jc (jK (jc (qC (jO kg (zpv 1) jh (fun _ _=>rfl))) jA)) (jc (jK jA) (jc (jK jA) (jc (qC (Jz kC (by rfl) B.tuple_ qL (je (zpv 10) ji))) jA)))))))) jA))))
   (jd (jF (i:=12) sc.nd rfl ol (qd (je (zpv 2) (je (jC jH (zpv 2) (zpv 5)) (je (jC qY (jC jH (zpv 2) (zpv 6)) jh) (je (jC qY (jC jH (zpv 2) (zpv 7)) jh) ji))))))
   hcut))))))),fun vcut1 hcut1 ecut1=>⟨_,(jd (jF (i:=1) sc.nd rfl ol (jR F_words hr (je (jR F_cell_at hr (je (zpv 0) (je jh ji))) (je jh ji))))
   (jd (jF (i:=2) sc.nd rfl ol (jC qY (jC j6 (jC qk (jR F_cell_at hr (je (zpv 0) (je jh ji))) jh) (jC qk jh (jC JK jh jh))) (jC JK jh jh)))
   (jd (qS (i:=3) sc.nd rfl ol ["_law_k"] [0] rfl (qf (sc:=jl J9) (N:=["_law_script","_law_w","_law_near","_law_sizes","_law_ways","_law_rounds","_law_claims","_law_keeps","_law_ahead","_law_row","_law_body","_law_program","_law_given","_law_end_here","_law_used","_law_base","_law_steps","_law_writes","_law_i","_law_most","_law_held","_law_found"]) rfl rfl (by decide +kernel)) (zh (by rfl) B.range_ (je jh ji)) (fun s H ex=>⟨(js (i:=0) (show List.Nodup (["_law_k","_law_script"]:List Str) by decide +kernel) rfl ol),qz,(jC j6 (jR F_cell_at hr (je (zpv 1) (je (jC jH jh (zpv 0)) ji))) jh)⟩))
   (jd (jF (i:=3) sc.nd rfl ol (zpd (jK (jc (qC (jO kg (zpv 3) jh (fun _ _=>rfl))) (jc (qC (jC jH jh (jO kg (zpv 3) jh (fun _ _=>rfl)))) (jc (qC (jC j6 (jO kg (zpv 3) jh (fun _ _=>rfl)) (jC jH jh (jO kg (zpv 3) jh (fun _ _=>rfl))))) jA))))))
   (jd (qS (i:=4) sc.nd rfl ol ["_law_k"] [0] rfl (qf (sc:=jl J9) (N:=["_law_script","_law_w","_law_near","_law_sizes","_law_ways","_law_rounds","_law_claims","_law_keeps","_law_ahead","_law_row","_law_body","_law_program","_law_given","_law_end_here","_law_used","_law_base","_law_steps","_law_writes","_law_i","_law_most","_law_held","_law_found"]) rfl rfl (by decide +kernel)) (zh (by rfl) B.range_ (je (jC j6 (jR F_cell_at hr (je (zpv 0) (je jh ji))) jh) ji)) (fun s H ex=>⟨(js (i:=0) (show List.Nodup (["_law_k","_law_script"]:List Str) by decide +kernel) rfl ol),qz,(jC j6 (jC kN (jR F_cell_at hr (je (zpv 1) (je jh ji))) (jC jH jh (zpv 0))) jh)⟩))
   (jd (jF (i:=5) sc.nd rfl ol (jC j6 (jR F_cell_at hr (je (zpv 0) (je jh ji))) jh))
   (jd (jF (i:=6) sc.nd rfl ol (jC j6 (jR F_cell_at hr (je (zpv 0) (je jh ji))) jh))
   hcut1))))))),?_⟩⟩⟩⟩⟩
 refine yg (σ':=[some (.ref a),none,none,none,none,none,none,none,none,none,none,none,none,none,none,none,none,none,none,none,none,none]) rfl ?_
 refine ⟨_,rfl,a,ns,0,rfl,hS,by decide,by decide,fun c0=>⟨c0,7,rfl,by decide,fun lw ws H1 Wk s1 hlw0 hlw=>?_⟩⟩
 refine gs ?_
 obtain ⟨fn,sn,nn,bn,en,jn,rn,rfl⟩:=jio Wk.len
 let W:W2:=⟨fn,sn,nn,bn,en,jn,rn⟩
 have ok:W.Ok:=jhv Wk
 have hlwW:H1 lw=some (.lst (w2L W)):=hlw
 have hS1:=s1.seq hS
 have md:∀ (x:Int) (m:Int),0 < m→0≤x % m∧x % m < m:=fun x m h=>⟨Int.emod_nonneg _ (by omega),Int.emod_lt_of_pos _ h⟩
 refine ⟨_,rfl,a,ns,0,rfl,hS1,by decide,by decide,fun c1=>?_⟩
 refine ⟨_,_,rfl,rfl,.inr ⟨by decide,by decide⟩,_,_,rfl,rfl,⟨by decide,by decide,by decide⟩,_,_,rfl,rfl,.inl ⟨by decide,by decide⟩,_,_,rfl,rfl,(by show (0:Int) < _;decide),_,_,rfl,rfl,⟨by decide,by decide,by decide⟩,_,_,rfl,rfl,?_⟩
 dsimp only
 generalize c1 * 998244353 % (2 * 10 ^ Int.toNat 17) - 10 ^ Int.toNat 17=near
 refine gs ?_
 refine ⟨3,rfl,by decide,by decide,fun lz hlz=>?_⟩
 refine qw (fun i σ' G'=>∃ (u:Option V) (xs:List Int),σ'=[u,some (.ref a)]∧Same H1 G'∧G' lz=some (.lst (xs.map V.int))∧xs.length=i∧∀ x∈xs,0≤x∧x < 4) ⟨none,[],rfl,jj hlz _,ja,rfl,fun x hx=>by cases hx⟩ ?_ ?_
 ·rintro i σ' G' hi ⟨u,xs,rfl,sG',hGp,hxl,hxs⟩
  have hi3:i < 3:=hi
  unfold qo yK
  refine zZ ?_
  refine ⟨_,rfl,_,rfl,_,_,rfl,rfl,a,ns,_,rfl,sG'.seq hS1,(by show (0:Int)≤1+(0+(i:Int));omega),(by show (1:Int)+(0+(i:Int))≤1000;omega),fun c=>⟨_,_,rfl,rfl,(by show (0:Int) < _;decide),?_⟩⟩
  refine ⟨_,hGp,jz (by rw [List.length_map];omega),_,xs++[c % 4],rfl,fun b o e=>?_,?_,by rw [List.length_append,hxl];rfl,fun x hx=>?_⟩
  ·rw [jg (jk e hlz)];exact sG' _ _ e
  ·rw [ja,List.map_append];rfl
  ·rcases List.mem_append.mp hx with g | g
   ·exact hxs x g
   ·rw [List.mem_singleton.mp g];exact md c 4 (by decide)
 rintro σ' H2 ⟨u,zs,rfl,s2,hlz2,hzl,hzs⟩
 obtain ⟨z0,z1,z2,rfl⟩:=jip hzl
 obtain ⟨U,hU,hU3⟩:∃ U:Nat,z0=(U:Int)∧U≤3:=⟨z0.toNat,by have:=hzs z0 (by simp);omega,by have:=hzs z0 (by simp);omega⟩
 obtain ⟨many,hmany,hm1,hm4⟩:∃ U:Nat,1+z1=(U:Int)∧1≤U∧U≤4:=⟨(1+z1).toNat,by have:=hzs z1 (by simp);omega,by have:=hzs z1 (by simp);omega,by have:=hzs z1 (by simp);omega⟩
 obtain ⟨pl,hpl,hplm⟩:∃ U:Nat,z2 % (1+z1)=(U:Int)∧U < many:=⟨(z2 % (1+z1)).toNat,by have:=md z2 (1+z1) (by omega);omega,by have:=md z2 (1+z1) (by omega);omega⟩
 refine gs ?_
 have hlz2':H2 lz=some (.lst [.int z0,.int z1,.int z2]):=hlz2
 refine ⟨.tup [.int U,.int many,.int pl],⟨_,rfl,Nat.le_of_ble_eq_true rfl,_,_,rfl,(fun G sG Q q=>⟨_,rfl,lz,_,_,_,rfl,rfl,SqL.of (sG _ _ hlz2'),rfl,q _ G (j5 G) (by rw [hU];exact jM)⟩),_,_,rfl,(fun G sG Q q=>⟨_,rfl,lz,_,_,_,rfl,rfl,SqL.of (sG _ _ hlz2'),rfl,_,_,rfl,rfl,q _ G (j5 G) (by show Held G _ (V.int (1+z1));rw [hmany];exact jM)⟩),_,_,rfl,(fun G sG Q q=>⟨_,rfl,lz,_,_,_,rfl,rfl,SqL.of (sG _ _ hlz2'),rfl,_,rfl,lz,_,_,_,rfl,rfl,SqL.of (sG _ _ hlz2'),rfl,_,_,rfl,rfl,_,_,rfl,rfl,(by show (0:Int) < 1+z1;omega),q _ G (j5 G) (by show Held G _ (V.int (z2 % (1+z1)));rw [hpl];exact jM)⟩),rfl⟩,fun vz H3 s3 hz3=>?_⟩
 refine gs ?_
 obtain ⟨ts,tzs,rfl,hts,htzs⟩:=jp hz3
 obtain ⟨y1,r1,rfl,e1,hh2⟩:=jb htzs
 obtain ⟨y2,r2,rfl,e2,hh3⟩:=jb hh2
 obtain ⟨y3,r3,rfl,e3,hh4⟩:=jb hh3
 cases jw hh4
 cases jV e1
 cases jV e2
 cases jV e3
 clear hz3 htzs hh2 hh3 hh4 e1 e2 e3 hlz2 hlz2' hzs hzl
 have s13:=s2.trans s3
 have hS3:=s13.seq hS1
 refine ⟨_,rfl,a,ns,4,rfl,hS3,by decide,by decide,fun c2=>⟨_,_,rfl,rfl,(by show (0:Int) < _;decide),?_⟩⟩
 dsimp only
 obtain ⟨wn,ewn,hwn⟩:∃ R:Nat,c2 % 3=R∧R≤2:=⟨(c2 % 3).toNat,by have:=md c2 3 (by decide);omega,by have:=md c2 3 (by decide);omega⟩
 rw [ewn]
 refine ⟨(wn:Int),rfl,by omega,by omega,fun ly hly=>?_⟩
 refine qw (fun i σ' G'=>∃ (u:Option V) (xs:List Nat),σ'=[u,some (.ref a)]∧Same H3 G'∧G' ly=some (.lst (xs.map fun w:Nat=>V.int (w:Int)))∧xs.length=i∧∀ x∈xs,x=0∨x=1) ⟨none,[],rfl,jj hly _,ja,rfl,fun x hx=>by cases hx⟩ ?_ ?_
 ·rintro i σ' G' hi ⟨u,xs,rfl,sG',hGp,hxl,hxs⟩
  have hi3:i < wn:=by simpa using hi
  unfold qo yK
  refine zZ ?_
  refine ⟨_,rfl,a,ns,4,rfl,sG'.seq hS3,by decide,by decide,fun c=>⟨_,rfl,_,_,rfl,rfl,_,_,rfl,rfl,⟨(by show (0:Int) < 2+(0+(i:Int));omega),(by show (2:Int)+(0+(i:Int)) < _;omega)⟩,_,_,rfl,rfl,(by show (0:Int) < _;decide),?_⟩⟩
  dsimp only
  obtain ⟨y,ey,hy⟩:∃ R:Nat,c / (2+(0+(i:Int))) % 2=R∧(R=0∨R=1):=⟨(c / (2+(0+(i:Int))) % 2).toNat,by have:=md (c / (2+(0+(i:Int)))) 2 (by decide);omega,by have:=md (c / (2+(0+(i:Int)))) 2 (by decide);omega⟩
  rw [ey]
  refine ⟨_,hGp,jz (by rw [List.length_map];omega),_,xs++[y],rfl,fun b o e=>?_,?_,by rw [List.length_append,hxl];rfl,fun x hx=>?_⟩
  ·rw [jg (jk e hly)];exact sG' _ _ e
  ·rw [ja,List.map_append];rfl
  ·rcases List.mem_append.mp hx with g | g
   ·exact hxs x g
   ·rw [List.mem_singleton.mp g];exact hy
 rintro σ' H4 ⟨u,wys,rfl,s4,hly4,hwl,hwys⟩
 rw [show ((wn:Nat):Int).toNat=wn from rfl] at hwl
 refine gs ?_
 have hS4:=s4.seq hS3
 refine ⟨_,rfl,a,ns,5,rfl,hS4,by decide,by decide,fun c3=>⟨_,_,rfl,rfl,(by show (0:Int) < _;decide),?_⟩⟩
 dsimp only
 obtain ⟨rounds,ern,hrn⟩:∃ R:Nat,c3 % 10=R∧R≤9:=⟨(c3 % 10).toNat,by have:=md c3 10 (by decide);omega,by have:=md c3 10 (by decide);omega⟩
 rw [ern]
 refine gs ?_
 refine ⟨_,rfl,a,ns,6,rfl,hS4,by decide,by decide,fun c4=>⟨_,_,rfl,rfl,(by show (0:Int) < _;decide),?_⟩⟩
 dsimp only
 obtain ⟨claims,ecl,hcn⟩:∃ R:Nat,c4 % 14=R∧R≤13:=⟨(c4 % 14).toNat,by have:=md c4 14 (by decide);omega,by have:=md c4 14 (by decide);omega⟩
 rw [ecl]
 refine gs ?_
 subst ecut1
 refine ⟨_,rfl,a,ns,7,rfl,hS4,by decide,by decide,fun c5=>⟨_,_,rfl,rfl,(by show (0:Int) < _;decide),?_⟩⟩
 dsimp only
 obtain ⟨keeps,ekp,hkn⟩:∃ R:Nat,c5 % 14=R∧R≤13:=⟨(c5 % 14).toNat,by have:=md c5 14 (by decide);omega,by have:=md c5 14 (by decide);omega⟩
 rw [ekp]
 refine gs ?_
 refine ⟨_,rfl,a,ns,8,rfl,hS4,by decide,by decide,fun c6=>⟨_,_,rfl,rfl,(by show (0:Int) < _;decide),_,_,rfl,rfl,?_⟩⟩
 dsimp only
 obtain ⟨ah,eah,ha1,ha3⟩:∃ R:Nat,1+c6 % 3=R∧1≤R∧R≤3:=⟨(1+c6 % 3).toNat,by have:=md c6 3 (by decide);omega,by have:=md c6 3 (by decide);omega,by have:=md c6 3 (by decide);omega⟩
 rw [eah]
 refine gs ?_
 refine ⟨_,rfl,a,ns,9,rfl,hS4,by decide,by decide,fun c7=>⟨_,_,rfl,rfl,(by show (0:Int) < _;decide),_,rfl,_,_,rfl,fun vr rb rps H5 s5 hup hl3 hvr=>?_⟩⟩
 refine gs ?_
 let d:D2:=⟨ah,U,many,pl,wys,rounds,claims,keeps,near⟩
 have dok:d.Ok:=⟨ha1,ha3,hU3,hm4,hplm,by show wys.length≤2;omega,hwys,hrn,hcn,hkn⟩
 have s35:=s4.trans s5
 have s15:=s13.trans s35
 have hlw5:=s15 _ _ hlwW
 have hts5:H5 ts=some (.tup (szT d)):=s35 _ _ hts
 have hly5:H5 ly=some (.lst (wyL d)):=s5 _ _ hly4
 refine ⟨(jdR W).toD,⟨_,rfl,Nat.le_of_ble_eq_true rfl,_,_,rfl,rfl,_,_,rfl,(fun G sG Q q=>⟨_,rfl,lw,_,_,_,rfl,rfl,SqL.of (sG _ _ hlw5),rfl,q _ G (j5 G) jD⟩),_,_,rfl,⟨_,rfl,Nat.le_of_ble_eq_true rfl,_,_,rfl,rfl,_,_,rfl,(fun G sG Q q=>⟨_,rfl,lw,_,_,_,rfl,rfl,SqL.of (sG _ _ hlw5),rfl,q _ G (j5 G) jD⟩),rfl⟩,_,_,rfl,rfl,rfl⟩,fun v1 H6 s6 h1=>⟨sm rfl,fun l1 hl1=>⟨_,rfl,l1,(ah:Int),[v1],rfl,rfl,ja,by omega,by omega,?_,fun cl hcl=>?_⟩⟩⟩
 ·show 1 * ((ah:Int)).toNat≤sizeLine
  rw [sizeLine_eq]
  omega
 rw [show ((ah:Int)).toNat=ah from rfl,jai]
 have g2:=(jG hl1 (.lst [v1])).trans (jG hcl (.lst (List.replicate ah v1)))
 have e6:upd (upd H6 l1 (.lst [v1])) cl (.lst (List.replicate ah v1)) cl=some (.lst (List.replicate ah v1)):=ja
 have hA6:=JT (h1.mono g2) ah
 have s6:=s6.trans g2
 generalize upd (upd H6 l1 (.lst [v1])) cl (.lst (List.replicate ah v1))=H7 at *
 refine gs ?_
 refine ⟨_,rfl,_,rfl,_,rfl,_,rfl,lw,ts,ly,W,d,rfl,s6 _ _ hlw5,s6 _ _ hts5,s6 _ _ hly5,dok,fun v2 H8 s8 h2=>?_⟩
 have hlw8:=s8 _ _ (s6 _ _ hlw5)
 refine ⟨(jbm W).toD,⟨_,rfl,Nat.le_of_ble_eq_true rfl,_,_,rfl,rfl,_,_,rfl,rfl,_,_,rfl,⟨_,rfl,Nat.le_of_ble_eq_true rfl,_,_,rfl,rfl,_,_,rfl,(fun G sG Q q=>⟨_,rfl,lw,_,_,_,rfl,rfl,SqL.of (sG _ _ hlw8),rfl,q _ G (j5 G) jD⟩),rfl⟩,_,_,rfl,rfl,rfl⟩,fun v3 H9 s9 h3=>⟨sm rfl,fun l2 hl2=>?_⟩⟩
 have s10:=jG hl2 (.lst [v2,v3])
 have e10:upd H9 l2 (.lst [v2,v3]) l2=some (.lst [v2,v3]):=ja
 generalize upd H9 l2 (.lst [v2,v3])=H10 at *
 have s710:=s8.trans (s9.trans s10)
 refine ⟨cl,l2,_,[v2,v3],rfl,rfl,s710 _ _ e6,e10,Nat.le_trans (by simp;omega) (zG (Nat.le_refl 1000)),fun l3 hl3'=>?_⟩
 have s11:=jG hl3' (.lst (List.replicate ah v1++[v2,v3]))
 have e11:upd H10 l3 (.lst (List.replicate ah v1++[v2,v3])) l3=some (.lst (List.replicate ah v1++[v2,v3])):=ja
 generalize upd H10 l3 (.lst (List.replicate ah v1++[v2,v3]))=H11 at *
 refine gs ?_
 have hb:HeldL H11 (jcr W d) (List.replicate ah v1++[v2,v3]):=qP ((hA6.mono s710).mono s11) (jf (((h2.mono s9).mono s10).mono s11) (jf ((h3.mono s10).mono s11) jt))
 have s511:=s6.trans (s710.trans s11)
 have hlw11:=s511 _ _ hlw5
 refine ⟨.tup [(pr2 W d).toD],⟨_,rfl,Nat.le_of_ble_eq_true rfl,_,_,rfl,⟨_,rfl,Nat.le_of_ble_eq_true rfl,_,_,rfl,rfl,_,_,rfl,(fun G sG Q q=>⟨_,rfl,lw,_,_,_,rfl,rfl,SqL.of (sG _ _ hlw11),rfl,q _ G (j5 G) jD⟩),_,_,rfl,(fun G sG Q q=>⟨_,rfl,_,rfl,_,rfl,lw,_,rfl,SqL.of (sG _ _ hlw11),fun lc hlc=>⟨lc,_,rfl,.inl ⟨SqL.of ja,fun tt htt=>q _ _ ((jG hlc _).trans (jG htt _)) (jL ja (jf jD (jf jD (jf jD (jf jD jt)))))⟩⟩⟩),_,_,rfl,⟨_,rfl,Nat.le_of_ble_eq_true rfl,_,_,rfl,(fun G sG Q q=>⟨_,rfl,lw,_,_,_,rfl,rfl,SqL.of (sG _ _ hlw11),rfl,q _ G (j5 G) jD⟩),rfl⟩,_,_,rfl,⟨_,rfl,Nat.le_of_ble_eq_true rfl,rfl⟩,_,_,rfl,⟨_,rfl,Nat.le_of_ble_eq_true rfl,rfl⟩,_,_,rfl,(fun G sG Q q=>⟨_,rfl,l3,_,rfl,.inl ⟨SqL.of (sG _ _ e11),fun tt htt=>q _ _ (jG htt _) (jL ja ((hb.mono sG).mono (jG htt _)))⟩⟩),rfl⟩,rfl⟩,fun vp H12 s12 hp=>?_⟩
 refine gs ?_
 have s512:=s511.trans s12
 refine ⟨_,rfl,_,rfl,_,rfl,_,_,rfl,rfl,_,rfl,_,rfl,_,_,rfl,rfl,_,_,rfl,rfl,_,rfl,_,rfl,_,_,rfl,rfl,_,_,rfl,rfl,sm rfl,fun lg hlg=>?_⟩
 dsimp only
 have s13':=jG hlg (.lst [.int near,.int (near+rounds),.int (near+claims - 1),.int (near+keeps - 1)])
 have elg:upd H12 lg (.lst [.int near,.int (near+rounds),.int (near+claims - 1),.int (near+keeps - 1)]) lg=some (.lst [.int near,.int (near+rounds),.int (near+claims - 1),.int (near+keeps - 1)]):=ja
 generalize upd H12 lg (.lst [.int near,.int (near+rounds),.int (near+claims - 1),.int (near+keeps - 1)])=H13 at *
 refine gs ?_
 have s513:=s512.trans s13'
 have hlw13:=s513 _ _ hlw5
 have hvr13:=hvr.mono s513
 have hp13:=hp.mono s13'
 have hS13:=(s5.trans s513).seq hS4
 have hts13:=s513 _ _ hts5
 have hly13:=s513 _ _ hly5
 clear hb e11 e10 e6 hA6 h1 h2 h3 hlw11 hlw8 hp s511 s512 s710 s12 s13' s11 s10 s9 s8 s6 g2
 subst ecut
 refine ⟨_,rfl,lw,_,_,_,rfl,rfl,SqL.of hlw13,rfl,_,rfl,_,rfl,_,rfl,_,rfl,_,rfl,_,rfl,?_⟩
 unfold jcE
 dsimp only
 refine jf3 (W:=W) (d:=d) rfl hts13 hly13 dok fun t14 v14 H14 s14 hcase ht14=>?_
 refine ⟨t14,_,rfl,SqT.of ht14,rfl,_,_,rfl,?_⟩
 refine gs ?_
 refine ⟨_,_,rfl,?_⟩
 refine gs ?_
 refine ⟨rfl,?_⟩
 let q0:j0:=(rb,rps,[])
 have hus:=jdh (W:=W) (q:=q0) dok
 have hwh:RunsTo [pr2 W d] [] (-1) ⟨[qv (pr2 W d) [d.near,d.near+d.rounds,d.near+d.claims - 1,d.near+d.keeps - 1] [q0]],0,0,0⟩ (qX W d q0):=jie ok dok.pl dok.A0 dok.ws (Nat.le_trans (Nat.mul_le_mul dok.r9 dok.U3) (by decide)) rfl
 rw [← hus.2.2]
 refine ⟨fun σ' G'=>∃ (ve:V) (u1 u2 u3 u4:Option V),σ'=[some (.ref a),some (.ref lw),some (.int near),some (.ref ts),some (.ref ly),some (.int rounds),some (.int claims),some (.int keeps),some (.int ah),some vr,some (.ref l3),some vp,some (.ref lg),some ve,some (.int (qX W d q0).2),u1,u2,u3,u4,none,none,none]∧Same H13 G'∧EndAt K G' (qX W d q0).1 ve,?_,?_⟩
 ·refine ⟨_,rfl,rfl,_,rfl,?_⟩
  rcases hcase with ⟨hnd,hE⟩ | ⟨hdn,rfl⟩
  ·refine j7 (fun c=>absurd (of_decide_eq_true c) (hE q0).not) (fun _=>?_)
   exact ⟨v14,_,_,_,_,rfl,s14,hE q0⟩
  refine j7 (fun _=>?_) (fun c=>absurd (decide_eq_true rfl) c)
  rw [jdi hdn]
  obtain ⟨ra,rc,re,rqs,rws,rfl,hra,hrc,hrqs,hre,hrws⟩:=K0 (hvr13.mono s14)
  have:rws=[]:=jw hrws
  subst this
  refine ⟨_,rfl,ra,_,rfl,SqT.of hra,rfl,_,_,rfl,?_⟩
  refine gs ?_
  refine ⟨_,_,rfl,?_⟩
  refine gs ?_
  refine ⟨_,_,rfl,?_⟩
  refine gs ?_
  refine ⟨rfl,?_⟩
  refine ⟨_,rfl,(rounds:Int),rfl,by omega,by omega,?_⟩
  refine JU (lo:=0) (n:=((rounds:Int)).toNat) (fun i σ G=>∃ (v17:V) (u4:Option V),σ=[some (.ref a),some (.ref lw),some (.int near),some (.ref ts),some (.ref ly),some (.int rounds),some (.int claims),some (.int keeps),some (.int ah),some (.ref ra),some (.ref l3),some vp,some (.ref lg),some .non,some (.int (qX W d q0).2),some (.int rb),some (.ref rc),some v17,u4,none,none,none]∧Same H14 G∧Held G (.tup ((wr2 d i).map pD)) v17) ⟨.ref re,none,rfl,j5 _,jL hre jt⟩ ?_ ?_
  ·rintro i σ G hi ⟨v17,u4,rfl,sG,hv17⟩
   have hi9:i < rounds:=by omega
   refine gs ?_
   refine ⟨_,rfl,_,rfl,ts,_,_,_,rfl,rfl,SqT.of (sG _ _ (s14 _ _ hts13)),rfl,(U:Int),rfl,by omega,by omega,fun lp hlp=>?_⟩
   refine qw (fun k σ' G'=>∃ (u:Option V) (vs:List V),σ'=[u,some (.int near),some (.int (0+(i:Int)))]∧Same G G'∧G' lp=some (.lst vs)∧HeldL G' (((List.range k).map (wrK d i)).map pD) vs) ⟨none,[],rfl,jj hlp _,ja,jt⟩ ?_ ?_
   ·rintro k σ' G' hk ⟨u,vs,rfl,sG',hGp,hvs⟩
    have hk3:k < U:=by simpa using hk
    have hvl:=hvs.length
    rw [List.length_map,List.length_map,List.length_range] at hvl
    unfold qo yK
    refine zZ ?_
    refine ⟨_,rfl,_,rfl,_,_,rfl,rfl,_,rfl,_,_,rfl,rfl,_,rfl,_,rfl,_,_,rfl,rfl,_,rfl,_,_,rfl,rfl,_,_,rfl,rfl,sm rfl,fun p1 hp1=>?_⟩
    dsimp only
    rw [show near+(0+(i:Int))+(0+(k:Int))=near+(i:Int)+(k:Int) by omega]
    have g1:=jG hp1 (.tup [V.int (near+(i:Int)+(k:Int)),V.int (near+(i:Int)+(k:Int)+5)])
    have e1:upd G' p1 (.tup [V.int (near+(i:Int)+(k:Int)),V.int (near+(i:Int)+(k:Int)+5)]) p1=some (.tup [V.int (near+(i:Int)+(k:Int)),V.int (near+(i:Int)+(k:Int)+5)]):=ja
    generalize upd G' p1 (.tup [V.int (near+(i:Int)+(k:Int)),V.int (near+(i:Int)+(k:Int)+5)])=G1 at *
    have hGp1:=g1 _ _ hGp
    have tkU:TK G1 (upd G1 lp (.lst (vs++[.ref p1]))):=TK.upd hGp1 (fun _ z=>by cases z)
    refine ⟨_,hGp1,jz (by omega),_,vs++[.ref p1],rfl,fun b o e=>?_,ja,?_⟩
    ·rw [jg (jk e hlp)];exact g1 _ _ (sG' _ _ e)
    ·rw [KH,List.map_append]
     exact tkU.heldL (qP (hvs.mono g1) (jf (jL e1 (jf jM (jf jM jt))) jt))
   rintro σ' G1 ⟨u,vs,rfl,s1',hlp1,hvs⟩
   rw [show ((U:Nat):Int).toNat=U from rfl] at hvs
   have hvl:=hvs.length
   rw [List.length_map,List.length_map,List.length_range] at hvl
   refine ⟨lp,_,rfl,.inl ⟨SqL.of hlp1,fun tt htt=>?_⟩⟩
   have g2:=jG htt (.tup vs)
   have e2:upd G1 tt (.tup vs) tt=some (.tup vs):=ja
   generalize upd G1 tt (.tup vs)=G2 at *
   obtain ⟨tw,tws,rfl,htw,htws⟩:=jp ((hv17.mono s1').mono g2)
   have hwl2:=htws.length
   rw [List.length_map] at hwl2
   have hwb:(wr2 d i).length≤100:=by
    have:∀ j,(wr2 d j).length=j * U:=fun j=>by
     unfold wr2
     rw [List.length_flatMap]
     simp only [List.length_map,List.length_range]
     induction j with
     | zero=>simp
     | succ j ih=>rw [List.range_succ,List.map_append,List.sum_append,ih];simp [Nat.succ_mul];rfl
    rw [this]
    exact Nat.le_trans (Nat.mul_le_mul (show i≤9 by omega) hU3) (by decide)
   refine ⟨tw,tt,tws,vs,rfl,rfl,htw,e2,Nat.le_trans (by omega) (zG (Nat.le_refl 1000)),fun p3 G3 s3' hp3=>?_⟩
   refine gs ?_
   refine ⟨.ref p3,_,rfl,sG.trans (s1'.trans (g2.trans s3')),jL hp3 ?_⟩
   have ew:wr2 d (i+1)=wr2 d i++(List.range d.U).map (wrK d i):=by
    unfold wr2
    rw [List.range_succ,List.flatMap_append]
    simp
   rw [ew,List.map_append]
   exact qP (htws.mono s3') ((hvs.mono g2).mono s3')
  rintro σ G ⟨v17,u4,rfl,sG,hv17⟩
  rw [show ((rounds:Int)).toNat=rounds from rfl] at hv17
  refine ⟨_,rfl,_,rfl,_,_,rfl,rfl,_,_,rfl,rfl,YN (JH d q0 rounds),⟨_,rfl,Nat.le_of_ble_eq_true rfl,_,_,rfl,⟨_,rfl,jM⟩,_,_,rfl,⟨_,rfl,(jL (sG _ _ hrc) (hrqs.mono sG))⟩,_,_,rfl,⟨_,rfl,hv17⟩,rfl⟩,fun vq G1 t1 hq1=>?_⟩
  have hwl27:(JH d q0 rounds).2.2.length≤30:=by
   show ([]++wr2 d rounds).length≤30
   have:∀ j,(wr2 d j).length=j * U:=fun j=>by
    unfold wr2
    rw [List.length_flatMap]
    simp only [List.length_map,List.length_range]
    induction j with
    | zero=>simp
    | succ j ih=>rw [List.range_succ,List.map_append,List.sum_append,ih];simp [Nat.succ_mul];rfl
   rw [List.nil_append,this]
   exact Nat.le_trans (Nat.mul_le_mul hrn hU3) (by decide)
  refine ⟨vq,JH d q0 rounds,rfl,hq1,hup,hl3,hwl27,fun uu R G2 t2 hH hcan hlen heq=>⟨sm rfl,fun l5 hl5=>?_⟩⟩
  have g3:=jG hl5 (.lst [uu])
  have e3:upd G2 l5 (.lst [uu]) l5=some (.lst [uu]):=ja
  generalize upd G2 l5 (.lst [uu])=G3 at *
  refine ⟨sm rfl,fun t5 ht5=>?_⟩
  dsimp only
  have g4:=jG ht5 (.tup [V.str "done",V.int (near+(rounds:Int)+3),V.ref l5])
  refine gs ?_
  refine ⟨.ref t5,_,_,_,_,rfl,s14.trans (sG.trans (t1.trans (t2.trans (g3.trans g4)))),t5,l5,[uu],rfl,ja,g4 _ _ e3,⟨R,yp ((hH.mono g3).mono g4),hcan,hlen,heq⟩,trivial⟩
 rintro σ' H15 ⟨ve,x1,x2,x3,x4,rfl,s15',hE15⟩
 clear hcase ht14
 have hdl:=jeI (W:=W) (d:=d) (q:=q0)
 generalize qX W d q0=due at *
 obtain ⟨e1,u1⟩:=due
 dsimp only at hE15 hus hwh hdl ⊢
 have hu1:=hus.1
 have hns:=hus.2.1
 clear hus
 have hS15:=s15'.seq hS13
 refine ⟨_,rfl,_,rfl,_,_,rfl,rfl,sm rfl,fun l hl=>⟨_,rfl,a,ns,10,rfl,(jG hl _).seq hS15,by decide,by decide,fun c8=>⟨_,_,rfl,rfl,(by show (0:Int) < _;decide),?_⟩⟩⟩
 have h8:=md c8 3 (by decide)
 obtain ⟨m0,hat,hm0⟩:=jhw h8.1 h8.2 0 7 (2000 - (u1:Int))
 refine ⟨l,_,_,_,rfl,rfl,SqL.of ja,hat,_,_,rfl,rfl,?_⟩
 dsimp only
 obtain ⟨m,em⟩:∃ m:Nat,(u1:Int)+m0=(m:Int):=⟨((u1:Int)+m0).toNat,by omega⟩
 rw [em]
 have s16:=s15'.trans (jG hl (.lst [V.int 0,V.int 7,V.int (2000 - (u1:Int))]))
 have hE16:=hE15.mono (jG hl (.lst [V.int 0,V.int 7,V.int (2000 - (u1:Int))]))
 generalize upd H15 l (.lst [V.int 0,V.int 7,V.int (2000 - (u1:Int))])=H16 at *
 refine gs ?_
 clear hat hl hm0 h8 hE15 s15' hS15
 have hS16:=s16.seq hS13
 refine ⟨fun σ' G=>∃ m:Nat,σ'=[some (.ref a),some (.ref lw),some (.int near),some (.ref ts),some (.ref ly),some (.int rounds),some (.int claims),some (.int keeps),some (.int ah),some vr,some (.ref l3),some vp,some (.ref lg),some ve,some (.int u1),x1,x2,x3,x4,some (.int m),none,none]∧G=H16,?_,?_⟩
 ·refine ⟨_,rfl,a,ns,10,rfl,hS16,by decide,by decide,fun c9=>⟨_,_,rfl,rfl,⟨by decide,by decide⟩,_,_,rfl,rfl,(by show (0:Int) < _;decide),rfl,_,rfl,j7 (fun dd=>?_) (fun dd=>?_)⟩⟩
  ·refine ⟨_,rfl,a,ns,11,rfl,hS16,by decide,by decide,fun c10=>⟨_,rfl,_,_,rfl,rfl,_,_,rfl,rfl,(by show (0:Int) < (u1:Int)+1;omega),?_⟩⟩
   dsimp only
   have hm:=md c10 ((u1:Int)+1) (by omega)
   refine gs ?_
   refine ⟨(c10 % ((u1:Int)+1)).toNat,?_,rfl⟩
   rw [show (((c10 % ((u1:Int)+1)).toNat:Nat):Int)=c10 % ((u1:Int)+1) by omega]
  ·exact ⟨m,rfl,rfl⟩
 clear em m
 rintro σ' G ⟨m,rfl,rfl⟩
 refine ⟨fun σ' G'=>∃ (e2:En) (u2:Nat) (v2':V),σ'=[some (.ref a),some (.ref lw),some (.int near),some (.ref ts),some (.ref ly),some (.int rounds),some (.int claims),some (.int keeps),some (.int ah),some vr,some (.ref l3),some vp,some (.ref lg),some v2',some (.int u2),x1,x2,x3,x4,some (.int m),none,none]∧Same H13 G'∧EndAt K G' e2 v2'∧RunsTo [pr2 W d] [] (m:Int) ⟨[qv (pr2 W d) [d.near,d.near+d.rounds,d.near+d.claims - 1,d.near+d.keeps - 1] [q0]],0,0,0⟩ (e2,u2)∧e2≠.stuck∧u2≤390∧∀ o h,e2=.done o h→h.length≤100,?_,?_⟩
 ·obtain ⟨kn,hk⟩:=hwh
  have hlim:=jbe (most:=m) hk hns (Nat.zero_le _)
  refine ⟨_,rfl,_,rfl,_,_,rfl,rfl,_,rfl,j7 (fun dd=>?_) (fun dd=>?_)⟩
  ·have d':m < u1:=by have:=of_decide_eq_true dd;omega
   refine ⟨.tup [.str "spent"],⟨_,rfl,Nat.le_of_ble_eq_true rfl,_,_,rfl,rfl,rfl⟩,fun vv G' sG' hv=>?_⟩
   refine gs ?_
   refine ⟨_,rfl,?_⟩
   refine gs ?_
   obtain ⟨t9,rfl,ht9⟩:=jfJ hv
   exact ⟨.spent,m,.ref t9,rfl,s16.trans sG',⟨t9,rfl,ht9⟩,hlim.2 d',(fun z=>by cases z),by omega,fun _ _ z=>by cases z⟩
  ·have d':u1≤m:=by
    rcases Nat.lt_or_ge m u1 with g | g
    ·exact absurd (decide_eq_true (by omega)) dd
    ·exact g
   exact ⟨e1,u1,ve,rfl,s16,hE16,hlim.1 d',hns,hu1,hdl⟩
 rintro σ' H17 ⟨e2,u2,v2',rfl,s17,hE17,hrun,hst,hu2,hdl⟩
 clear hwh hns hE16 s16 hS16 hu1
 subst ecut2
 have hvr17:Held H17 (YN q0) vr:=hvr13.mono s17
 refine ⟨_,rfl,vr,q0,rfl,hvr17,hup,hl3,Nat.zero_le _,fun uu R H18 s18 hH hcan hlen heq=>⟨sm rfl,fun hl hhl=>?_⟩⟩
 have g19:=jG hhl (.lst [uu])
 have e19:upd H18 hl (.lst [uu]) hl=some (.lst [uu]):=ja
 have hH19:=hH.mono g19
 have s19:=s18.trans g19
 generalize upd H18 hl (.lst [uu])=H19 at *
 refine gs ?_
 obtain ⟨pg,pvs,evp,hpg,hpv⟩:=jp hp13
 subst evp
 have s1319:=s17.trans s19
 refine ⟨_,rfl,_,rfl,lw,_,_,_,rfl,rfl,SqL.of (s1319 _ _ hlw13),rfl,_,rfl,_,rfl,sm rfl,fun il hil=>?_⟩
 have g20:=jG hil (.lst [])
 have eil:upd H19 il (.lst []) il=some (.lst []):=ja
 generalize upd H19 il (.lst [])=H20 at *
 have s1320:=s1319.trans g20
 have hRA:RunAt K 4 H20 pg lg hl il [pr2 W d] (pr2 W d) [d.near,d.near+d.rounds,d.near+d.claims - 1,d.near+d.keeps - 1] [q0] []:=jdY ok dok (s1320 _ _ hpg) (hpv.mono s1320) (s1320 _ _ elg) (g20 _ _ e19) (hH19.mono g20) hcan hlen heq eil rfl
 refine ⟨_,rfl,?_⟩
 unfold jcE
 dsimp only
 refine jb4 (W:=W) (d:=d) rfl hRA hrun hst hu2 fun t21 v21 H21 s21 hE21 hNL ht21=>?_
 refine gs ?_
 have hE20:=hE17.mono (s19.trans g20)
 have hE20':=hE20.mono s21
 refine ⟨_,rfl,_,_,_,_,rfl,TyOf.tup ht21,jg6 K,_,rfl,?_⟩
 refine K4 ?_
 refine ⟨_,rfl,t21,_,rfl,.inr (SqT.of ht21),rfl,_,rfl,?_⟩
 refine K4 ?_
 refine ⟨_,rfl,t21,_,_,_,rfl,rfl,SqT.of ht21,rfl,_,_,_,_,rfl,TyOf.int _,jg7 K,_,rfl,?_⟩
 refine K4 ?_
 refine ⟨_,rfl,t21,_,_,_,rfl,rfl,SqT.of ht21,rfl,_,_,_,_,rfl,TyOf.int _,jg8 K,_,rfl,?_⟩
 refine K4 ?_
 subst ecut3
 refine ⟨_,rfl,_,rfl,_,rfl,sm rfl,fun t22 ht22=>?_⟩
 have g22:=jG ht22 (.tup [v2',.int u2])
 refine ⟨t21,t22,_,_,rfl,rfl,SqT.of (g22 _ _ ht21),SqT.of ja,.cons (jaB (hE21.mono g22) (hE20'.mono g22)) (.cons (qI _ _) .nil),_,rfl,?_⟩
 refine K4 ?_
 have s2022:=s21.trans g22
 have ht21':=g22 _ _ ht21
 have hE22:=hE21.mono g22
 have hNL22:=hNL.mono hE21 g22
 have hE22':=hE20'.mono g22
 generalize upd H21 t22 (.tup [v2',.int u2])=H22 at *
 have s1922:=g20.trans s2022
 have s1722:=s19.trans s1922
 refine ⟨_,rfl,_,rfl,vr,q0,rfl,hvr17.mono s1722,hup,hl3,Nat.zero_le _,fun uu' R' H23 s23 hH' hcan' hlen' heq'=>⟨sm rfl,fun l24 hl24=>?_⟩⟩
 have hRR:R'=R:=Ju hcan' hcan fun z=>(heq' z).trans (heq z).symm
 subst hRR
 have g24:=jG hl24 (.lst [uu'])
 have e24:upd H23 l24 (.lst [uu']) l24=some (.lst [uu']):=ja
 have hH24:=hH'.mono g24
 generalize upd H23 l24 (.lst [uu'])=H24 at *
 have s2224:=s23.trans g24
 have dep:D.depthL [Ka q0.1 R']≤3:=by
  have h2:=jaT R'
  unfold D.depthL D.depthL Ka D.depth D.depthL D.depthL D.depthL D.depth
  omega
 refine ⟨hl,l24,_,_,[Ka q0.1 R'],[Ka q0.1 R'],rfl,rfl,s2224 _ _ (s1922 _ _ e19),e24,dep,jf ((hH19.mono s1922).mono s2224) jt,jf hH24 jt,?_⟩
 rw [decide_eq_true rfl]
 refine ⟨_,rfl,?_⟩
 refine K4 ?_
 have s2024:=s2022.trans s2224
 have hE24:=hE22.mono s2224
 have hNL24:=hNL22.mono hE22 s2224
 have hE24':=hE22'.mono s2224
 have ht24:=s2224 _ _ ht21'
 obtain ⟨te,ke,xse,eve,hte,hke⟩:=hE24'.hd
 subst eve
 refine ⟨fun σ' G=>σ'=[some (.ref a),some (.ref lw),some (.int near),some (.ref ts),some (.ref ly),some (.int rounds),some (.int claims),some (.int keeps),some (.int ah),some vr,some (.ref l3),some (.ref pg),some (.ref lg),some (.ref te),some (.int u2),x1,x2,x3,x4,some (.int m),some (.ref hl),some (.ref t21)]∧Same H20 G,?_,?_⟩
 ·refine ⟨_,rfl,te,_,_,V.str ke,rfl,rfl,SqT.of hte,ze (j:=0) rfl,rfl,_,rfl,j7 (fun c=>?_) (fun c=>⟨rfl,s2024⟩)⟩
  have hdn:ke = "done":=by have:=of_decide_eq_true c;injection this
  obtain ⟨o,hd',rfl⟩:=hke hdn
  obtain ⟨tf,lf,vsf,rfl,htf,hlf,hRf⟩:=hE24
  have hlen1:vsf.length≤100:=by
   rw [← hRf.len]
   exact hdl _ _ rfl
  refine ⟨_,rfl,t21,_,_,_,rfl,rfl,SqT.of ht24,rfl,tf,_,_,_,rfl,rfl,SqT.of htf,rfl,.inl ⟨rfl,_,SqL.of hlf⟩,.tup [.int 0,.tup []],⟨_,rfl,Nat.le_of_ble_eq_true rfl,_,_,rfl,rfl,_,_,rfl,⟨_,rfl,Nat.le_of_ble_eq_true rfl,rfl⟩,rfl⟩,fun vx G1 t1 hx=>?_⟩
  refine ⟨lf,vsf,vx,rfl,rfl,t1 _ _ hlf,jz (by omega),rfl,fun b o' e=>?_⟩
  have hne:H20 lf=none:=hNL24 tf _ _ lf rfl htf
  rw [jg (jk e hne)]
  exact t1 _ _ (s2024 _ _ e)
 rintro σ' G ⟨rfl,sG⟩
 have s13G:=s1320.trans sG
 refine ⟨_,rfl,_,rfl,lw,_,_,_,rfl,rfl,SqL.of (s13G _ _ hlw13),rfl,_,rfl,_,rfl,sm rfl,fun il2 hil2=>?_⟩
 have g25:=jG hil2 (.lst [])
 have eil2:upd G il2 (.lst []) il2=some (.lst []):=ja
 generalize upd G il2 (.lst [])=H25 at *
 have s2025:=sG.trans g25
 have s1325:=s13G.trans g25
 have hRA2:RunAt K 4 H25 pg lg hl il2 [pr2 W d] (pr2 W d) [d.near,d.near+d.rounds,d.near+d.claims - 1,d.near+d.keeps - 1] [q0] []:=jdY ok dok (s1325 _ _ hpg) (hpv.mono s1325) (s1325 _ _ elg) (s2025 _ _ (g20 _ _ e19)) ((hH19.mono g20).mono s2025) hcan hlen heq eil2 rfl
 refine ⟨_,rfl,?_⟩
 unfold jcE
 dsimp only
 refine jb4 (W:=W) (d:=d) rfl hRA2 hrun hst hu2 fun t26 v26 H26 s26 hE26 _ ht26=>?_
 have hEe:=(hE20.mono s2025).mono s26
 refine ⟨_,rfl,_,rfl,sm rfl,fun t27 ht27=>?_⟩
 have g27:=jG ht27 (.tup [.ref te,.int u2])
 refine ⟨t26,t27,_,_,rfl,rfl,SqT.of (g27 _ _ ht26),SqT.of ja,.cons (jaB (hE26.mono g27) (hEe.mono g27)) (.cons (qI _ _) .nil),_,rfl,zZ ?_⟩
 have s2027:=s2025.trans (s26.trans g27)
 generalize upd H26 t27 (.tup [.ref te,.int u2])=H27 at *
 refine ⟨_,rfl,_,rfl,vr,q0,rfl,(hvr17.mono (s19.trans g20)).mono s2027,hup,hl3,Nat.zero_le _,fun uu2 R2 H28 s28 hH2 hcan2 hlen2 heq2=>⟨sm rfl,fun l29 hl29=>?_⟩⟩
 have hRR2:R2=R':=Ju hcan2 hcan fun z=>(heq2 z).trans (heq z).symm
 subst hRR2
 have g29:=jG hl29 (.lst [uu2])
 refine ⟨hl,l29,_,_,[Ka q0.1 R2],[Ka q0.1 R2],rfl,rfl,g29 _ _ (s28 _ _ (s2027 _ _ (g20 _ _ e19))),ja,dep,jf (((hH19.mono g20).mono s2027).mono (s28.trans g29)) jt,jf (hH2.mono g29) jt,?_⟩
 rw [decide_eq_true rfl]
 exact q _
end
abbrev LkF (K:W.Frag) (f:Addr) (x n:Str) (st:Stmt) (oc:Value) (od:Option Addr) (kV dc pm:Value) (an:Option Addr) (cd ct:Value) (sl:Array (Option Value)):Prop:=K.lookup f=some ⟨oc,od,.func (W.fnOf x n (yI st) (zB st) (jl st) .none kV dc pm an cd ct),sl⟩
set_option autoImplicit true in
theorem all_mk {l:PySem.W.OpenLaw} {w:World} {K:W.Frag} {h:Heap} {mg:Str→Option Value} {fa:Addr} (X:K.In h) (G:h.Ns mainGlobals mg) (hfa:mg "law" = some (.ref fa))
  (a0:W.nsIn K mainGlobals "room" = some (some (.ref f0)))
  (l0:LkF K f0 "room" "room" jb0 oc0 od0 kV0 dc0 pm0 an0 cd0 ct0 sl0) (c0:W.codeIn K cd0 "room" = true) (k0:W.keepIn K (.ref f0)=true)
  (a1:W.nsIn K mainGlobals "lay_body" = some (some (.ref f1)))
  (l1:LkF K f1 "lay_body" "lay_body" zJ oc1 od1 kV1 dc1 pm1 an1 cd1 ct1 sl1) (c1:W.codeIn K cd1 "lay_body" = true) (k1:W.keepIn K (.ref f1)=true)
  (a2:W.nsIn K mainGlobals "lay_if" = some (some (.ref f2)))
  (l2:LkF K f2 "lay_if" "lay_if" zT oc2 od2 kV2 dc2 pm2 an2 cd2 ct2 sl2) (c2:W.codeIn K cd2 "lay_if" = true) (k2:W.keepIn K (.ref f2)=true)
  (a3:W.nsIn K mainGlobals "lay_while" = some (some (.ref f3)))
  (l3:LkF K f3 "lay_while" "lay_while" qu oc3 od3 kV3 dc3 pm3 an3 cd3 ct3 sl3) (c3:W.codeIn K cd3 "lay_while" = true) (k3:W.keepIn K (.ref f3)=true)
  (a4:W.nsIn K mainGlobals "steps_of" = some (some (.ref f4)))
  (l4:LkF K f4 "steps_of" "steps_of" yB oc4 od4 kV4 dc4 pm4 an4 cd4 ct4 sl4) (c4:W.codeIn K cd4 "steps_of" = true) (k4:W.keepIn K (.ref f4)=true)
  (a5:W.nsIn K mainGlobals "steps_up_to" = some (some (.ref f5)))
  (l5:LkF K f5 "steps_up_to" "steps_up_to" zb oc5 od5 kV5 dc5 pm5 an5 cd5 ct5 sl5) (c5:W.codeIn K cd5 "steps_up_to" = true) (k5:W.keepIn K (.ref f5)=true)
  (a6:W.nsIn K mainGlobals "entry" = some (some (.ref f6)))
  (l6:LkF K f6 "entry" "entry" Zl oc6 od6 kV6 dc6 pm6 an6 cd6 ct6 sl6) (c6:W.codeIn K cd6 "entry" = true) (k6:W.keepIn K (.ref f6)=true)
  (a7:W.nsIn K mainGlobals "stairs" = some (some (.ref f7)))
  (l7:LkF K f7 "stairs" "stairs" Kl oc7 od7 kV7 dc7 pm7 an7 cd7 ct7 sl7) (c7:W.codeIn K cd7 "stairs" = true) (k7:W.keepIn K (.ref f7)=true)
  (a8:W.nsIn K mainGlobals "written" = some (some (.ref f8)))
  (l8:LkF K f8 "written" "written" Jh oc8 od8 kV8 dc8 pm8 an8 cd8 ct8 sl8) (c8:W.codeIn K cd8 "written" = true) (k8:W.keepIn K (.ref f8)=true)
  (a9:W.nsIn K mainGlobals "number_at" = some (some (.ref f9)))
  (l9:LkF K f9 "number_at" "number_at" zS oc9 od9 kV9 dc9 pm9 an9 cd9 ct9 sl9) (c9:W.codeIn K cd9 "number_at" = true) (k9:W.keepIn K (.ref f9)=true)
  (a10:W.nsIn K mainGlobals "place_at" = some (some (.ref f10)))
  (l10:LkF K f10 "place_at" "place_at" yC oc10 od10 kV10 dc10 pm10 an10 cd10 ct10 sl10) (c10:W.codeIn K cd10 "place_at" = true) (k10:W.keepIn K (.ref f10)=true)
  (a11:W.nsIn K mainGlobals "row_at" = some (some (.ref f11)))
  (l11:LkF K f11 "row_at" "row_at" Km oc11 od11 kV11 dc11 pm11 an11 cd11 ct11 sl11) (c11:W.codeIn K cd11 "row_at" = true) (k11:W.keepIn K (.ref f11)=true)
  (a12:W.nsIn K mainGlobals "term_at" = some (some (.ref f12)))
  (l12:LkF K f12 "term_at" "term_at" Ji oc12 od12 kV12 dc12 pm12 an12 cd12 ct12 sl12) (c12:W.codeIn K cd12 "term_at" = true) (k12:W.keepIn K (.ref f12)=true)
  (a13:W.nsIn K mainGlobals "least_holds" = some (some (.ref f13)))
  (l13:LkF K f13 "least_holds" "least_holds" zc oc13 od13 kV13 dc13 pm13 an13 cd13 ct13 sl13) (c13:W.codeIn K cd13 "least_holds" = true) (k13:W.keepIn K (.ref f13)=true)
  (a14:W.nsIn K mainGlobals "holds" = some (some (.ref f14)))
  (l14:LkF K f14 "holds" "holds" Kn oc14 od14 kV14 dc14 pm14 an14 cd14 ct14 sl14) (c14:W.codeIn K cd14 "holds" = true) (k14:W.keepIn K (.ref f14)=true)
  (a15:W.nsIn K mainGlobals "first_untrue" = some (some (.ref f15)))
  (l15:LkF K f15 "first_untrue" "first_untrue" qR oc15 od15 kV15 dc15 pm15 an15 cd15 ct15 sl15) (c15:W.codeIn K cd15 "first_untrue" = true) (k15:W.keepIn K (.ref f15)=true)
  (a16:W.nsIn K mainGlobals "look" = some (some (.ref f16)))
  (l16:LkF K f16 "look" "look" jb2 oc16 od16 kV16 dc16 pm16 an16 cd16 ct16 sl16) (c16:W.codeIn K cd16 "look" = true) (k16:W.keepIn K (.ref f16)=true)
  (a17:W.nsIn K mainGlobals "ask" = some (some (.ref f17)))
  (l17:LkF K f17 "ask" "ask" jfj oc17 od17 kV17 dc17 pm17 an17 cd17 ct17 sl17) (c17:W.codeIn K cd17 "ask" = true) (k17:W.keepIn K (.ref f17)=true)
  (a18:W.nsIn K mainGlobals "call" = some (some (.ref f18)))
  (l18:LkF K f18 "call" "call" YI oc18 od18 kV18 dc18 pm18 an18 cd18 ct18 sl18) (c18:W.codeIn K cd18 "call" = true) (k18:W.keepIn K (.ref f18)=true)
  (a19:W.nsIn K mainGlobals "take_input" = some (some (.ref f19)))
  (l19:LkF K f19 "take_input" "take_input" zy oc19 od19 kV19 dc19 pm19 an19 cd19 ct19 sl19) (c19:W.codeIn K cd19 "take_input" = true) (k19:W.keepIn K (.ref f19)=true)
  (a20:W.nsIn K mainGlobals "hand_back" = some (some (.ref f20)))
  (l20:LkF K f20 "hand_back" "hand_back" zU oc20 od20 kV20 dc20 pm20 an20 cd20 ct20 sl20) (c20:W.codeIn K cd20 "hand_back" = true) (k20:W.keepIn K (.ref f20)=true)
  (a21:W.nsIn K mainGlobals "do" = some (some (.ref f21)))
  (l21:LkF K f21 "do" "do" sDo oc21 od21 kV21 dc21 pm21 an21 cd21 ct21 sl21) (c21:W.codeIn K cd21 "do" = true) (k21:W.keepIn K (.ref f21)=true)
  (a22:W.nsIn K mainGlobals "come_back" = some (some (.ref f22)))
  (l22:LkF K f22 "come_back" "come_back" zq oc22 od22 kV22 dc22 pm22 an22 cd22 ct22 sl22) (c22:W.codeIn K cd22 "come_back" = true) (k22:W.keepIn K (.ref f22)=true)
  (a23:W.nsIn K mainGlobals "gone_on" = some (some (.ref f23)))
  (l23:LkF K f23 "gone_on" "gone_on" Jj oc23 od23 kV23 dc23 pm23 an23 cd23 ct23 sl23) (c23:W.codeIn K cd23 "gone_on" = true) (k23:W.keepIn K (.ref f23)=true)
  (a24:W.nsIn K mainGlobals "procs_by_name" = some (some (.ref f24)))
  (l24:LkF K f24 "procs_by_name" "procs_by_name" qi oc24 od24 kV24 dc24 pm24 an24 cd24 ct24 sl24) (c24:W.codeIn K cd24 "procs_by_name" = true) (k24:W.keepIn K (.ref f24)=true)
  (a25:W.nsIn K mainGlobals "run" = some (some (.ref f25)))
  (l25:LkF K f25 "run" "run" jfg oc25 od25 kV25 dc25 pm25 an25 cd25 ct25 sl25) (c25:W.codeIn K cd25 "run" = true) (k25:W.keepIn K (.ref f25)=true)
  (a26:W.nsIn K mainGlobals "_law_cell_at" = some (some (.ref f26)))
  (l26:LkF K f26 "_law_cell_at" "_law_cell_at" Jk oc26 od26 kV26 dc26 pm26 an26 cd26 ct26 sl26) (c26:W.codeIn K cd26 "_law_cell_at" = true) (k26:W.keepIn K (.ref f26)=true)
  (a27:W.nsIn K mainGlobals "_law_words" = some (some (.ref f27)))
  (l27:LkF K f27 "_law_words" "_law_words" yn oc27 od27 kV27 dc27 pm27 an27 cd27 ct27 sl27) (c27:W.codeIn K cd27 "_law_words" = true) (k27:W.keepIn K (.ref f27)=true)
  (a28:W.nsIn K mainGlobals "_law_mix" = some (some (.ref f28)))
  (l28:LkF K f28 "_law_mix" "_law_mix" jfh oc28 od28 kV28 dc28 pm28 an28 cd28 ct28 sl28) (c28:W.codeIn K cd28 "_law_mix" = true) (k28:W.keepIn K (.ref f28)=true)
  (a29:W.nsIn K mainGlobals "_law_made" = some (some (.ref f29)))
  (l29:LkF K f29 "_law_made" "_law_made" jb1 oc29 od29 kV29 dc29 pm29 an29 cd29 ct29 sl29) (c29:W.codeIn K cd29 "_law_made" = true) (k29:W.keepIn K (.ref f29)=true)
  (a30:W.nsIn K mainGlobals "_law_holds" = some (some (.ref f30)))
  (l30:LkF K f30 "_law_holds" "_law_holds" Zk oc30 od30 kV30 dc30 pm30 an30 cd30 ct30 sl30) (c30:W.codeIn K cd30 "_law_holds" = true) (k30:W.keepIn K (.ref f30)=true)
  (a31:W.nsIn K mainGlobals "_law_stairs" = some (some (.ref f31)))
  (l31:LkF K f31 "_law_stairs" "_law_stairs" yo oc31 od31 kV31 dc31 pm31 an31 cd31 ct31 sl31) (c31:W.codeIn K cd31 "_law_stairs" = true) (k31:W.keepIn K (.ref f31)=true)
  (a32:W.nsIn K mainGlobals "_law_loop" = some (some (.ref f32)))
  (l32:LkF K f32 "_law_loop" "_law_loop" jaf oc32 od32 kV32 dc32 pm32 an32 cd32 ct32 sl32) (c32:W.codeIn K cd32 "_law_loop" = true) (k32:W.keepIn K (.ref f32)=true)
  (a33:W.nsIn K mainGlobals "_law_end" = some (some (.ref f33)))
  (l33:LkF K f33 "_law_end" "_law_end" jfi oc33 od33 kV33 dc33 pm33 an33 cd33 ct33 sl33) (c33:W.codeIn K cd33 "_law_end" = true) (k33:W.keepIn K (.ref f33)=true)
  (a34:W.nsIn K mainGlobals "law" = some (some (.ref f34)))
  (l34:LkF K f34 "law" "law" J9 oc34 od34 kV34 dc34 pm34 an34 cd34 ct34 sl34) (c34:W.codeIn K cd34 "law" = true) (k34:W.keepIn K (.ref f34)=true)
  (aC0:W.nsIn K mainGlobals "Course" = some (some (.ref C0))) (a35:W.findIn K (.ref C0) "__init__" = some (some (.ref f35))) (i35:W.isFn K (.ref f35)=true)
  (l35:LkF K f35 "__init__" "Course.__init__" zI oc35 od35 kV35 dc35 pm35 an35 cd35 ct35 sl35) (c35:W.codeIn K cd35 "Course.__init__" = true) (k35:W.keepIn K (.ref f35)=true)
  (aC1:W.nsIn K mainGlobals "Frame" = some (some (.ref C1))) (a36:W.findIn K (.ref C1) "__init__" = some (some (.ref f36))) (i36:W.isFn K (.ref f36)=true)
  (l36:LkF K f36 "__init__" "Frame.__init__" qD oc36 od36 kV36 dc36 pm36 an36 cd36 ct36 sl36) (c36:W.codeIn K cd36 "Frame.__init__" = true) (k36:W.keepIn K (.ref f36)=true)
  (pg0:W.plainGet K C0 Str.empty=true) (hd0:W.hasDictIn K C0=true) (po0:W.plainOver K C0=true) (sa0:W.findIn K (.ref C0) "__setattr__" = some (some (.builtin "object.__setattr__"))) (mk0:W.makesIn K C0=true) (kc0:W.keepIn K (.ref C0)=true)
  (n0_0:W.findIn K (.ref C0) "procs" = some none)
  (n0_1:W.findIn K (.ref C0) "steps" = some none)
  (n0_2:W.findIn K (.ref C0) "inputs" = some none)
  (n0_3:W.findIn K (.ref C0) "taken" = some none)
  (n0_4:W.findIn K (.ref C0) "most" = some none)
  (n0_5:W.findIn K (.ref C0) "used" = some none)
  (n0_6:W.findIn K (.ref C0) "frames" = some none)
  (pg1:W.plainGet K C1 Str.empty=true) (hd1:W.hasDictIn K C1=true) (po1:W.plainOver K C1=true) (sa1:W.findIn K (.ref C1) "__setattr__" = some (some (.builtin "object.__setattr__"))) (mk1:W.makesIn K C1=true) (kc1:W.keepIn K (.ref C1)=true)
  (n1_0:W.findIn K (.ref C1) "proc" = some none)
  (n1_1:W.findIn K (.ref C1) "called_by" = some none)
  (n1_2:W.findIn K (.ref C1) "numbers" = some none)
  (n1_3:W.findIn K (.ref C1) "rows" = some none)
  (n1_4:W.findIn K (.ref C1) "at" = some none)
  {ba eb:Addr} {odb ode:Option Addr} {slb sle:Array (Option Value)} {tkb tkd:Tok} {nb ne:Nat} (bag:W.nsIn K mainGlobals "BARE_ROW" = some (some (.ref ba))) (blg:K.lookup ba=some ⟨.type "tuple",odb,.seq #[.int 0 tkb,.ref eb] nb,slb⟩) (ble:K.lookup eb=some ⟨.type "tuple",ode,.seq #[] ne,sle⟩) (dag:W.nsIn K mainGlobals "MOST_DEEP" = some (some (.int 20 tkd)))
  (z0:W.nsIn K mainGlobals "len" = some none) (z1:W.nsIn K mainGlobals "max" = some none) (z2:W.nsIn K mainGlobals "min" = some none) (z3:W.nsIn K mainGlobals "all" = some none) (z4:W.nsIn K mainGlobals "isinstance" = some none) (z5:W.nsIn K mainGlobals "abs" = some none) (z6:W.nsIn K mainGlobals "sorted" = some none) (z7:W.nsIn K mainGlobals "int" = some none) (z8:W.nsIn K mainGlobals "str" = some none) (z9:W.nsIn K mainGlobals "bool" = some none) (z10:W.nsIn K mainGlobals "tuple" = some none) (z11:W.nsIn K mainGlobals "list" = some none) (z12:W.nsIn K mainGlobals "dict" = some none) (z13:W.nsIn K mainGlobals "range" = some none) (z14:W.nsIn K mainGlobals "set" = some none) (z15:W.nsIn K mainGlobals "zip" = some none) (z16:W.nsIn K mainGlobals "enumerate" = some none) (z17:W.nsIn K mainGlobals "reversed" = some none) :
  ∃ fd:FuncData,(∀ (s:Shared) (v:Value),BindsTo s fd ⟨[v],[]⟩ [("_law_script",v)])∧∀ base:Heap,K.In base→base.Ns mainGlobals mg→FnOk l.prog w K mg base CX0 15 fa fd ["_law_script"] (jbY K):=by
 have e:=hfa.symm.trans (W.mg_of X G a34)
 cases e
 have B:Free0 mg:=⟨W.mg_none_of X G z0,W.mg_none_of X G z1,W.mg_none_of X G z2,W.mg_none_of X G z3,W.mg_none_of X G z4,W.mg_none_of X G z5,W.mg_none_of X G z6,W.mg_none_of X G z7,W.mg_none_of X G z8,W.mg_none_of X G z9,W.mg_none_of X G z10,W.mg_none_of X G z11,W.mg_none_of X G z12,W.mg_none_of X G z13,W.mg_none_of X G z14⟩
 have Z_zip:mg "zip" = none:=W.mg_none_of X G z15
 have Z_enumerate:mg "enumerate" = none:=W.mg_none_of X G z16
 have Z_reversed:mg "reversed" = none:=W.mg_none_of X G z17
 have R:Bare K mg:=⟨ba,eb,W.mg_of X G bag,fun H=>.inr ⟨_,_,_,blg,rfl,rfl,sm rfl,.cons ⟨tkb,rfl⟩ (.cons rfl .nil)⟩,fun H=>.inr ⟨_,_,_,ble,rfl,rfl,sm rfl,.nil⟩⟩
 have G_deep:mg "MOST_DEEP" = some (.int 20 tkd):=W.mg_of X G dag
 have U0:=j3 (st:=jb0) l0 c0 k0
 have b0:=U0.binds (ps:=["steps"]) fun _ _ _ _ _ _ us hl=>match us,hl with | [_],_=>rfl
 have U1:=j3 (st:=zJ) l1 c1 k1
 have b1:=U1.binds (ps:=["steps","body","around"]) fun _ _ _ _ _ _ us hl=>match us,hl with | [_,_,_],_=>rfl
 have U2:=j3 (st:=zT) l2 c2 k2
 have b2:=U2.binds (ps:=["steps","statement","path"]) fun _ _ _ _ _ _ us hl=>match us,hl with | [_,_,_],_=>rfl
 have U3:=j3 (st:=qu) l3 c3 k3
 have b3:=U3.binds (ps:=["steps","statement","path"]) fun _ _ _ _ _ _ us hl=>match us,hl with | [_,_,_],_=>rfl
 have U4:=j3 (st:=yB) l4 c4 k4
 have b4:=U4.binds (ps:=["proc"]) fun _ _ _ _ _ _ us hl=>match us,hl with | [_],_=>rfl
 have U5:=j3 (st:=zb) l5 c5 k5
 have b5:=U5.binds (ps:=["steps","p"]) fun _ _ _ _ _ _ us hl=>match us,hl with | [_,_],_=>rfl
 have U6:=j3 (st:=Zl) l6 c6 k6
 have b6:=U6.binds (ps:=["row","p"]) fun _ _ _ _ _ _ us hl=>match us,hl with | [_,_],_=>rfl
 have U7:=j3 (st:=Kl) l7 c7 k7
 have b7:=U7.binds (ps:=["base","pairs"]) fun _ _ _ _ _ _ us hl=>match us,hl with | [_,_],_=>rfl
 have U8:=j3 (st:=Jh) l8 c8 k8
 have b8:=U8.binds (ps:=["row","p","v"]) fun _ _ _ _ _ _ us hl=>match us,hl with | [_,_,_],_=>rfl
 have U9:=j3 (st:=zS) l9 c9 k9
 have b9:=U9.binds (ps:=["x","numbers"]) fun _ _ _ _ _ _ us hl=>match us,hl with | [_,_],_=>rfl
 have U10:=j3 (st:=yC) l10 c10 k10
 have b10:=U10.binds (ps:=["place","numbers"]) fun _ _ _ _ _ _ us hl=>match us,hl with | [_,_],_=>rfl
 have U11:=j3 (st:=Km) l11 c11 k11
 have b11:=U11.binds (ps:=["r","rows"]) fun _ _ _ _ _ _ us hl=>match us,hl with | [_,_],_=>rfl
 have U12:=j3 (st:=Ji) l12 c12 k12
 have b12:=U12.binds (ps:=["term","numbers","rows"]) fun _ _ _ _ _ _ us hl=>match us,hl with | [_,_,_],_=>rfl
 have U13:=j3 (st:=zc) l13 c13 k13
 have b13:=U13.binds (ps:=["claim","numbers","rows"]) fun _ _ _ _ _ _ us hl=>match us,hl with | [_,_,_],_=>rfl
 have U14:=j3 (st:=Kn) l14 c14 k14
 have b14:=U14.binds (ps:=["claim","numbers","rows"]) fun _ _ _ _ _ _ us hl=>match us,hl with | [_,_,_],_=>rfl
 have U15:=j3 (st:=qR) l15 c15 k15
 have b15:=U15.binds (ps:=["claims","frame"]) fun _ _ _ _ _ _ us hl=>match us,hl with | [_,_],_=>rfl
 have U16:=j3 (st:=jb2) l16 c16 k16
 have b16:=U16.binds (ps:=["f","kind","path","claims","frame"]) fun _ _ _ _ _ _ us hl=>match us,hl with | [_,_,_,_,_],_=>rfl
 have U17:=j3 (st:=jfj) l17 c17 k17
 have b17:=U17.binds (ps:=["frame","step"]) fun _ _ _ _ _ _ us hl=>match us,hl with | [_,_],_=>rfl
 have U18:=j3 (st:=YI) l18 c18 k18
 have b18:=U18.binds (ps:=["course","frame","statement","path"]) fun _ _ _ _ _ _ us hl=>match us,hl with | [_,_,_,_],_=>rfl
 have U19:=j3 (st:=zy) l19 c19 k19
 have b19:=U19.binds (ps:=["course","frame","x"]) fun _ _ _ _ _ _ us hl=>match us,hl with | [_,_,_],_=>rfl
 have U20:=j3 (st:=zU) l20 c20 k20
 have b20:=U20.binds (ps:=["caller","statement","out","held"]) fun _ _ _ _ _ _ us hl=>match us,hl with | [_,_,_,_],_=>rfl
 have U21:=j3 (st:=sDo) l21 c21 k21
 have b21:=U21.binds (ps:=["course","frame","statement","path"]) fun _ _ _ _ _ _ us hl=>match us,hl with | [_,_,_,_],_=>rfl
 have U22:=j3 (st:=zq) l22 c22 k22
 have b22:=U22.binds (ps:=["course"]) fun _ _ _ _ _ _ us hl=>match us,hl with | [_],_=>rfl
 have U23:=j3 (st:=Jj) l23 c23 k23
 have b23:=U23.binds (ps:=["course"]) fun _ _ _ _ _ _ us hl=>match us,hl with | [_],_=>rfl
 have U24:=j3 (st:=qi) l24 c24 k24
 have b24:=U24.binds (ps:=["program"]) fun _ _ _ _ _ _ us hl=>match us,hl with | [_],_=>rfl
 have U25:=j3 (st:=jfg) l25 c25 k25
 have b25:=U25.binds (ps:=["program","f","numbers","rows","inputs","most"]) fun _ _ _ _ _ _ us hl=>match us,hl with | [_,_,_,_,_,_],_=>rfl
 have U26:=j3 (st:=Jk) l26 c26 k26
 have b26:=U26.binds (ps:=["_law_script","_law_k"]) fun _ _ _ _ _ _ us hl=>match us,hl with | [_,_],_=>rfl
 have U27:=j3 (st:=yn) l27 c27 k27
 have b27:=U27.binds (ps:=["_law_cell","_law_many"]) fun _ _ _ _ _ _ us hl=>match us,hl with | [_,_],_=>rfl
 have U28:=j3 (st:=jfh) l28 c28 k28
 have b28:=U28.binds (ps:=["_law_seed","_law_k"]) fun _ _ _ _ _ _ us hl=>match us,hl with | [_,_],_=>rfl
 have U29:=j3 (st:=jb1) l29 c29 k29
 have b29:=U29.binds (ps:=["_law_seed","_law_near"]) fun _ _ _ _ _ _ us hl=>match us,hl with | [_,_],_=>rfl
 have U30:=j3 (st:=Zk) l30 c30 k30
 have b30:=U30.binds (ps:=["_law_row","_law_place"]) fun _ _ _ _ _ _ us hl=>match us,hl with | [_,_],_=>rfl
 have U31:=j3 (st:=yo) l31 c31 k31
 have b31:=U31.binds (ps:=["_law_row"]) fun _ _ _ _ _ _ us hl=>match us,hl with | [_],_=>rfl
 have U32:=j3 (st:=jaf) l32 c32 k32
 have b32:=U32.binds (ps:=["_law_w","_law_sizes","_law_ways"]) fun _ _ _ _ _ _ us hl=>match us,hl with | [_,_,_],_=>rfl
 have U33:=j3 (st:=jfi) l33 c33 k33
 have b33:=U33.binds (ps:=["_law_f","_law_ahead","_law_sizes","_law_ways","_law_rounds","_law_claims","_law_keeps"]) fun _ _ _ _ _ _ us hl=>match us,hl with | [_,_,_,_,_,_,_],_=>rfl
 have U34:=j3 (st:=J9) l34 c34 k34
 have U35:=j3 (st:=zI) l35 c35 k35
 have b35:=U35.binds (ps:=["self","program","inputs","most"]) fun _ _ _ _ _ _ us hl=>match us,hl with | [_,_,_,_],_=>rfl
 have U36:=j3 (st:=qD) l36 c36 k36
 have b36:=U36.binds (ps:=["self","proc","numbers","rows","called_by"]) fun _ _ _ _ _ _ us hl=>match us,hl with | [_,_,_,_,_],_=>rfl
 have T_Course:ClsC K C0:=⟨⟨pg0,hd0,po0,sa0⟩,n0_0,n0_1,n0_2,n0_3,n0_4,n0_5,n0_6⟩
 have T_Frame:ClsF K C1:=⟨⟨pg1,hd1,po1,sa1⟩,n1_0,n1_1,n1_2,n1_3,n1_4⟩
 refine ⟨W.fnOf "law" "law" (yI J9) (zB J9) (jl J9) .none kV34 dc34 pm34 an34 cd34 ct34,fun s v=>.of_eq rfl,fun base _ _=>?_⟩
 have F_room:=Fn.mk' U0 b0 (W.mg_of X G a0) (jfK (P:=l.prog) (w:=w) (base:=base) U0 B)
 have F_lay_body:=JN (P:=l.prog) (w:=w) (base:=base) B Z_enumerate U1 b1 (W.mg_of X G a1) U2 b2 (W.mg_of X G a2) U3 b3 (W.mg_of X G a3) F_room 4
 have F_steps_of:=Fn.mk' U4 b4 (W.mg_of X G a4) (jat (P:=l.prog) (w:=w) (base:=base) U4 F_lay_body)
 have F_steps_up_to:=Fn.mk' U5 b5 (W.mg_of X G a5) (jeh (P:=l.prog) (w:=w) (base:=base) U5 B)
 have F_entry:=Fn.mk' U6 b6 (W.mg_of X G a6) (jel (P:=l.prog) (w:=w) (base:=base) U6 F_steps_up_to)
 have F_stairs:=Fn.mk' U7 b7 (W.mg_of X G a7) (jcS (P:=l.prog) (w:=w) (base:=base) U7 B)
 have F_written:=Fn.mk' U8 b8 (W.mg_of X G a8) (jbo (P:=l.prog) (w:=w) (base:=base) U8 B F_steps_up_to F_entry F_stairs)
 have F_number_at:=Fn.mk' U9 b9 (W.mg_of X G a9) (Zo (P:=l.prog) (w:=w) (base:=base) U9)
 have F_place_at:=Fn.mk' U10 b10 (W.mg_of X G a10) (jau (P:=l.prog) (w:=w) (base:=base) U10 F_number_at)
 have F_row_at:=Fn.mk' U11 b11 (W.mg_of X G a11) (jcT (P:=l.prog) (w:=w) (base:=base) U11 R)
 have F_term_at:=Fn.mk' U12 b12 (W.mg_of X G a12) (jbp (P:=l.prog) (w:=w) (base:=base) U12 F_number_at F_place_at F_row_at F_entry)
 have F_least_holds:=Fn.mk' U13 b13 (W.mg_of X G a13) (jej (P:=l.prog) (w:=w) (base:=base) U13 F_term_at)
 have F_holds:=Fn.mk' U14 b14 (W.mg_of X G a14) (jcV (P:=l.prog) (w:=w) (base:=base) U14 F_least_holds)
 have F_first_untrue:=Fn.mk' U15 b15 (W.mg_of X G a15) (Kb (P:=l.prog) (w:=w) (base:=base) T_Frame Z_enumerate U15 F_holds)
 have F_look:=Fn.mk' U16 b16 (W.mg_of X G a16) (jfN (P:=l.prog) (w:=w) (base:=base) U16 F_first_untrue)
 have F_ask:=Fn.mk' U17 b17 (W.mg_of X G a17) (jg3 (P:=l.prog) (w:=w) (base:=base) T_Frame U17 F_look F_holds)
 have M_Frame:MkFn l.prog w K mg base _ "Frame" C1 _ _:=⟨f36,_,⟨mk1,a36,i36,kc1⟩,jek (P:=l.prog) (w:=w) (base:=base) T_Frame U36 B Z_zip,b36,W.mg_of X G aC1⟩
 have F_call:=Fn.mk' U18 b18 (W.mg_of X G a18) (jfP (P:=l.prog) (w:=w) (base:=base) T_Course T_Frame U18 B G_deep F_number_at M_Frame F_look)
 have F_take_input:=Fn.mk' U19 b19 (W.mg_of X G a19) (Yu (P:=l.prog) (w:=w) (base:=base) T_Course T_Frame U19 B)
 have F_hand_back:=Fn.mk' U20 b20 (W.mg_of X G a20) (Zq (P:=l.prog) (w:=w) (base:=base) T_Frame U20 B Z_zip)
 have F_do:=Fn.mk' U21 b21 (W.mg_of X G a21) (jhX (P:=l.prog) (w:=w) (base:=base) T_Course T_Frame U21 F_call F_look F_take_input F_term_at F_written F_place_at)
 have F_come_back:=Fn.mk' U22 b22 (W.mg_of X G a22) (Zr (P:=l.prog) (w:=w) (base:=base) T_Course T_Frame U22 F_look F_number_at F_hand_back)
 have F_gone_on:=Fn.mk' U23 b23 (W.mg_of X G a23) (jbs (P:=l.prog) (w:=w) (base:=base) B T_Course T_Frame U23 F_come_back F_ask F_do)
 have F_procs_by_name:=Fn.mk' U24 b24 (W.mg_of X G a24) (jei (P:=l.prog) (w:=w) (base:=base) U24)
 have M_Course:MkFn l.prog w K mg base _ "Course" C0 _ _:=⟨f35,_,⟨mk0,a35,i35,kc0⟩,jcX (P:=l.prog) (w:=w) (base:=base) T_Course U35 (by decide:1≤11) F_procs_by_name F_steps_of,b35,W.mg_of X G aC0⟩
 have F_run:=Fn.mk' U25 b25 (W.mg_of X G a25) (jgZ (P:=l.prog) (w:=w) (base:=base) T_Course T_Frame U25 (by decide:10≤13) M_Course M_Frame F_first_untrue F_gone_on)
 have F_cell_at:=Fn.mk' U26 b26 (W.mg_of X G a26) (jfO (P:=l.prog) (w:=w) (base:=base) U26 B)
 have F_words:=Fn.mk' U27 b27 (W.mg_of X G a27) (jeg (P:=l.prog) (w:=w) (base:=base) U27 B)
 have F_mix:=Fn.mk' U28 b28 (W.mg_of X G a28) (jg0 (P:=l.prog) (w:=w) (base:=base) U28)
 have F_made:=Fn.mk' U29 b29 (W.mg_of X G a29) (jfL (P:=l.prog) (w:=w) (base:=base) U29 B F_mix)
 have F_lholds:=Fn.mk' U30 b30 (W.mg_of X G a30) (jcW (P:=l.prog) (w:=w) (base:=base) U30)
 have F_lstairs:=Fn.mk' U31 b31 (W.mg_of X G a31) (jbq (P:=l.prog) (w:=w) (base:=base) U31 B F_lholds)
 have F_loop:=Fn.mk' U32 b32 (W.mg_of X G a32) (jfM (P:=l.prog) (w:=w) (base:=base) U32 B Z_reversed)
 have F_end:=Fn.mk' U33 b33 (W.mg_of X G a33) (jg2 (P:=l.prog) (w:=w) (base:=base) U33 B)
 exact jg1 U34 B F_cell_at F_words F_made F_loop F_end F_lstairs F_run
theorem walk {l:PySem.W.OpenLaw} {q:Program} {loose:List Str} {XP:(Str→Option Value)→Heap→Prop} {YP:World→Heap→Prop} {d:DefRec} {K:Params→W.Frag} (hn:l.most=some 63) (hdf:d.params.defaults=[])
  (hY:∀ (w:World) (h:Heap),YP w h→(K w.params).In h)
  (F:∀ (w:World) (mg:Str→Option Value) (fa:Addr) (h:Heap),(K w.params).In h→h.Ns mainGlobals mg→mg d.name=some (.ref fa)→
   ∃ fd:FuncData,(∀ (s:Shared) (u:Value),BindsTo s fd ⟨[u],[]⟩ [("_law_script",u)])∧∀ base:Heap,(K w.params).In base→base.Ns mainGlobals mg→FnOk l.prog w (K w.params) mg base CX0 15 fa fd ["_law_script"] (jbY (K w.params))) :
  PySem.W.WalkO q loose XP YP l.row.toRowW d [] (fun f vs=>PySem.call f vs):=
 L2.walk_of (n:=63) (k:=15) (x:="_law_script") (CX:=fun _=>CX0) (sp:=fun w=>jbY (K w.params)) hn (by decide) hdf ⟨rfl,by decide,by decide⟩ hY F (fun _ _ a ns hl _ hS=>⟨a,ns,rfl,hS,hl,fun _=>rfl⟩) fun _ _ _ _ _ z=>z
end LW
namespace PySem.W.Fast
def tw10005536035312825943:=()
def tw10076013853036334504:=()
def tw10143885125599899609:=()
def tw10169505189026748112:=()
def tw10257018859429925725:=()
def tw10393309886499859707:=()
def tw104557991743734485:=()
def tw10655549502207360017:=()
def tw10724037484985169334:=()
def tw10791837731150809153:=()
def tw10877712913524645871:=()
def tw10940791149295696971:=()
def tw10965979265159999821:=()
def tw11161140674975287744:=()
def tw11385548654303786686:=()
def tw11455708806014179373:=()
def tw11559815377650804299:=()
def tw11594807361062245365:=()
def tw11645205175020951264:=()
def tw11651228299106117413:=()
def tw11676548622304606561:=()
def tw11705150167999525649:=()
def tw11746887659391486744:=()
def tw11755957754833408674:=()
def tw11800446439457522061:=()
def tw1188455144742418807:=()
def tw11922199740530599142:=()
def tw12014991076154674461:=()
def tw12221039663153367361:=()
def tw12225780636310068696:=()
def tw12311894311208369913:=()
def tw12429980174842988231:=()
def tw12469595507214538261:=()
def tw12503339767176575696:=()
def tw1287118693145401147:=()
def tw12993008266863154104:=()
def tw13014291774585791811:=()
def tw1305986689134456394:=()
def tw13079179189975201786:=()
def tw13095876238451302111:=()
def tw13284181455397642253:=()
def tw1329398040288355962:=()
def tw1330600586104921345:=()
def tw13382594768738219347:=()
def tw13395606390194910742:=()
def tw13438533628862850749:=()
def tw13550062015630733397:=()
def tw13623171675313349008:=()
def tw13659531490114182419:=()
def tw13752359159034991886:=()
def tw13812701519146692021:=()
def tw13866302880970936163:=()
def tw13940857357898962679:=()
def tw14224462440214419690:=()
def tw14246827981220873720:=()
def tw1484594080384651979:=()
def tw1492744495584106366:=()
def tw14935183136380890561:=()
def tw15051898997877224741:=()
def tw1522928276276334292:=()
def tw15402180174408373371:=()
def tw15623265301713074282:=()
def tw15624734780735421911:=()
def tw15672511059308585452:=()
def tw1569043030163543118:=()
def tw15989718839998950008:=()
def tw16018800682733618528:=()
def tw16063349296585777870:=()
def tw16176424229212893561:=()
def tw16200782064758631879:=()
def tw16211636349297796106:=()
def tw16219849099200931468:=()
def tw16290056613720571724:=()
def tw16646978471237082946:=()
def tw16670231212881275909:=()
def tw16730006904797167779:=()
def tw16873309981495420696:=()
def tw16935789025690756361:=()
def tw16948877980417597535:=()
def tw17165918616699415543:=()
def tw17253667583440789714:=()
def tw17351308413645538373:=()
def tw17366783662753613152:=()
def tw17542585083051905875:=()
def tw17597464625455377555:=()
def tw17736214741106292525:=()
def tw17802511181633110602:=()
def tw17946783261291533105:=()
def tw18020602430799769516:=()
def tw18038019596491454968:=()
def tw18210681737423261506:=()
def tw18328687501369271865:=()
def tw18394509052121452410:=()
def tw18411490662406663517:=()
def tw1990529875084391858:=()
def tw2008158321119272015:=()
def tw2216095765325889239:=()
def tw2254306924447989500:=()
def tw2390246435771712351:=()
def tw2506918852581424913:=()
def tw2522940315275614817:=()
def tw2588525493838426041:=()
def tw2595495621890527395:=()
def tw2636363163400414972:=()
def tw2759247270274956221:=()
def tw2804631794007513866:=()
def tw2812134193308006953:=()
def tw2865674957744423273:=()
def tw2872345808787036621:=()
def tw2939188309270600097:=()
def tw3009764886775612625:=()
def tw3109784263853465306:=()
def tw345918354745151129:=()
def tw3511781964548604783:=()
def tw3584662735291535315:=()
def tw3692255937915922182:=()
def tw3781476761258844811:=()
def tw3873297938313424688:=()
def tw3878884107428464214:=()
def tw3899953790601990688:=()
def tw3938698288582154589:=()
def tw4272477873781687197:=()
def tw4347793069421021451:=()
def tw439082845409498114:=()
def tw44500832081560969:=()
def tw4569943733991975261:=()
def tw4641708110640944124:=()
def tw4692874886183869849:=()
def tw4699376633117394123:=()
def tw4774026777335284737:=()
def tw4948898848840205310:=()
def tw495088020154596987:=()
def tw5236045202054122904:=()
def tw5330229306247922322:=()
def tw5339270715063894890:=()
def tw5409512116616471846:=()
def tw5431803683543369297:=()
def tw5518487947238930311:=()
def tw5545188955878307866:=()
def tw5641170055325046974:=()
def tw5742890467193874696:=()
def tw5771478707644891143:=()
def tw5841281958306234139:=()
def tw5919024043567363757:=()
def tw5990377222278694488:=()
def tw6045143469569289236:=()
def tw614807328885537187:=()
def tw6192527895834292710:=()
def tw6329278174885414891:=()
def tw6425237039434207041:=()
def tw6564678486566253196:=()
def tw6780823792712411243:=()
def tw680046752926254066:=()
def tw681022976427729424:=()
def tw6876225243304866561:=()
def tw6924065028351920635:=()
def tw6926994453223886123:=()
def tw6978913983224312280:=()
def tw7001717982357636940:=()
def tw7072032493238106278:=()
def tw7197070809718537644:=()
def tw7224694957028403739:=()
def tw7470345463062422303:=()
def tw7482164424454007858:=()
def tw7537991111187611442:=()
def tw7800916427653101545:=()
def tw7803493062010135737:=()
def tw7915440557265461057:=()
def tw7986065775559626824:=()
def tw8090827946248132688:=()
def tw8229549647197854854:=()
def tw8301213033304773166:=()
def tw8467991526013416462:=()
def tw8478480208361998373:=()
def tw8489809814242185874:=()
def tw8504727964200082697:=()
def tw8568295346070661601:=()
def tw8636631739233706838:=()
def tw8737942329429904753:=()
def tw8760254773646933258:=()
def tw8832978219860049209:=()
def tw8967094078039827751:=()
def tw9010253625540815087:=()
def tw9068778039866845645:=()
def tw9069455475682431505:=()
def tw908674693121133434:=()
def tw9387235386890601176:=()
def tw940419753104033484:=()
def tw9529058311756243096:=()
def tw9539915897439617081:=()
def tw9619726039855821325:=()
def tw9669468527880782072:=()
def tw9691209043357895649:=()
def tw9744585099692149208:=()
def tw9802648598857497353:=()
def tw9890796992099736896:=()
end PySem.W.Fast
open PySem PySem.W PyProof.Rows
set_option maxRecDepth 100000 in
set_option maxHeartbeats 0 in
theorem PySem.Challenge.cw_outlineward_k72_loops_that_look_holds : PySem.Challenge.rw_outlineward_k72_loops_that_look.Holds := by
 w_on;o_law;k_head;(case hw=>w_witness2)
 k_fill
 refine LW.walk (l:=PySem.Challenge.rw_outlineward_k72_loops_that_look) rfl rfl (fun w h Y=>W.kIn_of Y) ?F
 case F=>
  intro w mg fa h KX G hmg
  refine' LW.all_mk KX G hmg ?_ ?_ ?_ ?_ ?_ ?_ ?_ ?_ ?_ ?_ ?_ ?_ ?_ ?_ ?_ ?_ ?_ ?_ ?_ ?_ ?_ ?_ ?_ ?_ ?_ ?_ ?_ ?_ ?_ ?_ ?_ ?_ ?_ ?_ ?_ ?_ ?_ ?_ ?_ ?_ ?_ ?_ ?_ ?_ ?_ ?_ ?_ ?_ ?_ ?_ ?_ ?_ ?_ ?_ ?_ ?_ ?_ ?_ ?_ ?_ ?_ ?_ ?_ ?_ ?_ ?_ ?_ ?_ ?_ ?_ ?_ ?_ ?_ ?_ ?_ ?_ ?_ ?_ ?_ ?_ ?_ ?_ ?_ ?_ ?_ ?_ ?_ ?_ ?_ ?_ ?_ ?_ ?_ ?_ ?_ ?_ ?_ ?_ ?_ ?_ ?_ ?_ ?_ ?_ ?_ ?_ ?_ ?_ ?_ ?_ ?_ ?_ ?_ ?_ ?_ ?_ ?_ ?_ ?_ ?_ ?_ ?_ ?_ ?_ ?_ ?_ ?_ ?_ ?_ ?_ ?_ ?_ ?_ ?_ ?_ ?_ ?_ ?_ ?_ ?_ ?_ ?_ ?_ ?_ ?_ ?_ ?_ ?_ ?_ ?_ ?_ ?_ ?_ ?_ ?_ ?_ ?_ ?_ ?_ ?_ ?_ ?_ ?_ ?_ ?_ ?_ ?_ ?_ ?_ ?_ ?_ ?_ ?_ ?_ ?_ ?_ ?_ ?_ ?_ ?_ ?_ ?_ ?_ ?_ ?_ ?_ ?_ ?_ ?_ ?_ ?_ ?_ ?_ ?_ ?_ ?_ ?_ ?_
  all_goals try ((try unfold LW.LkF);k_is)
